import PyProof.Rows.All
import Wide.All
import OpenK.AllK
import Wide.FinOn
import Lean
import PyProof.EqAt
import PyProof.EqKinds
import PyProof.TupleCall
import PySem.Challenge.RW_runpaint_k08_narrowed
set_option Elab.async false
set_option linter.all false
set_option maxRecDepth 100000
set_option maxHeartbeats 4000000
namespace L2
open PySem PySem.Spec PyProof.Rows
abbrev Key := Sum Int Str
def keyIs : Key → Value → Bool
  | .inl k, v => Value.isInt k v
  | .inr x, v => Value.isStrOf x v
def keyH (w : World) : Key → Int
  | .inl k => hashInt k
  | .inr x => hashStr w x
theorem keyIs_shape : ∀ {k : Key} {v : Value}, keyIs k v = true → (∃ i t, k = Sum.inl i ∧ v = Value.int i t) ∨ (∃ x t, k = Sum.inr x ∧ v = Value.str x t)
  | .inl i, v, h => by
    obtain ⟨t, e⟩ := Value.isInt_shape (k := i) (v := v) h
    exact .inl ⟨i, t, rfl, e⟩
  | .inr x, v, h => by
    obtain ⟨t, e⟩ := Value.isStrOf_shape (x := x) (v := v) h
    exact .inr ⟨x, t, rfl, e⟩
theorem key_ll (a b : Int) : decide ((Sum.inl a : Key) = Sum.inl b) = (a == b) := by
  by_cases e : a = b
  · subst e; simp
  · have h : ¬ (Sum.inl a : Key) = Sum.inl b := fun q => e (Sum.inl.inj q)
    rw [decide_eq_false h]
    exact (beq_eq_false_iff_ne.mpr e).symm
theorem key_rr (a b : Str) : decide ((Sum.inr a : Key) = Sum.inr b) = decide (a = b) := by
  by_cases e : a = b
  · subst e; simp
  · have h : ¬ (Sum.inr a : Key) = Sum.inr b := fun q => e (Sum.inr.inj q)
    rw [decide_eq_false h, decide_eq_false e]
theorem key_lr (a : Int) (b : Str) : decide ((Sum.inl a : Key) = Sum.inr b) = false := decide_eq_false (fun q => nomatch q)
theorem key_rl (a : Str) (b : Int) : decide ((Sum.inr a : Key) = Sum.inl b) = false := decide_eq_false (fun q => nomatch q)
def mixKind (prog : Program) (w : World) : PySem.KeyKind prog w Key where
  is := keyIs
  hash := keyH w
  inj := fun v a b ha hb => by
    rcases keyIs_shape ha with ⟨i, t, rfl, rfl⟩ | ⟨x, t, rfl, rfl⟩
    · rcases keyIs_shape hb with ⟨j, u, rfl, e⟩ | ⟨y, u, rfl, e⟩
      · injection e with e1 _; rw [e1]
      · exact nomatch e
    · rcases keyIs_shape hb with ⟨j, u, rfl, e⟩ | ⟨y, u, rfl, e⟩
      · exact nomatch e
      · injection e with e1 _; rw [e1]
  byValue := fun k v h => by
    rcases keyIs_shape h with ⟨i, t, rfl, rfl⟩ | ⟨x, t, rfl, rfl⟩ <;> rfl
  pyHash := fun hv h => by
    rcases keyIs_shape hv with ⟨i, t, rfl, rfl⟩ | ⟨x, t, rfl, rfl⟩
    · exact wpAny_pyHash_int h
    · exact wpAny_pyHash_str h
  eqBool := fun hu hv h => by
    rcases keyIs_shape hu with ⟨i, t, rfl, rfl⟩ | ⟨x, t, rfl, rfl⟩
    · rcases keyIs_shape hv with ⟨j, u, rfl, rfl⟩ | ⟨y, u, rfl, rfl⟩
      · rw [key_ll] at h; exact wpAny_eqBool_int h
      · rw [key_lr] at h; exact SeqAt.EqAt.int_str i t y u _ _ _ _ h
    · rcases keyIs_shape hv with ⟨j, u, rfl, rfl⟩ | ⟨y, u, rfl, rfl⟩
      · rw [key_rl] at h; exact SeqAt.EqAt.str_int x t j u _ _ _ _ h
      · rw [key_rr] at h; exact wpAny_eqBool_str h
  «strs» := fun k x t v h => by
    rcases keyIs_shape h with ⟨i, u, rfl, e⟩ | ⟨y, u, rfl, e⟩
    · exact nomatch e
    · injection e with e1 _
      subst e1
      cases v <;> rfl
end L2
namespace L2
open PySem PySem.Spec PyProof.Rows
inductive V where
  | non | bl (b : Bool) | int (i : Int) | str (x : Str) | byt (b : Array UInt8) | flt (b : UInt64) | ref (a : Addr) | ty (n : String)
  deriving DecidableEq
def RelV : V → Value → Prop
  | .non, u => u = Value.none
  | .bl b, u => u = Value.bool b
  | .int i, u => ∃ t, u = Value.int i t
  | .str x, u => ∃ t, u = Value.str x t
  | .byt b, u => ∃ t, u = Value.bytes b t
  | .flt b, u => ∃ t, u = Value.float b t
  | .ref a, u => u = Value.ref a
  | .ty n, u => u = Value.type n
abbrev Vals : List V → List Value → Prop := Paired RelV
theorem Vals.length {xs : List V} {us : List Value} (r : Vals xs us) : xs.length = us.length := Paired.length r
theorem Vals.get : ∀ {xs : List V} {us : List Value} {i : Nat} {x : V}, Vals xs us → xs[i]? = some x → ∃ u, us[i]? = some u ∧ RelV x u
  | _, _, _, _, .nil, e => by simp at e
  | _, _, 0, _, .cons r _, e => by simp at e; subst e; exact ⟨_, rfl, r⟩
  | _, _, i + 1, x, .cons _ t, e => by
    obtain ⟨u, h1, h2⟩ := Vals.get (i := i) (x := x) t (by simpa using e)
    exact ⟨u, by simpa using h1, h2⟩
theorem Vals.set {x : V} {u : Value} (r : RelV x u) : ∀ {xs : List V} {us : List Value} (i : Nat), Vals xs us → Vals (xs.set i x) (us.set i u)
  | _, _, _, .nil => .nil
  | _, _, 0, .cons _ t => .cons r t
  | _, _, i + 1, .cons q t => .cons q (Vals.set r i t)
theorem Vals.append : ∀ {xs ys : List V} {us ws : List Value}, Vals xs us → Vals ys ws → Vals (xs ++ ys) (us ++ ws)
  | _, _, _, _, .nil, s => s
  | _, _, _, _, .cons r t, s => .cons r (Vals.append t s)
theorem Vals.take : ∀ {xs : List V} {us : List Value} (n : Nat), Vals xs us → Vals (xs.take n) (us.take n)
  | _, _, 0, _ => .nil
  | _, _, _ + 1, .nil => .nil
  | _, _, n + 1, .cons r t => .cons r (Vals.take n t)
theorem Vals.drop : ∀ {xs : List V} {us : List Value} (n : Nat), Vals xs us → Vals (xs.drop n) (us.drop n)
  | _, _, 0, r => r
  | _, _, _ + 1, .nil => .nil
  | _, _, n + 1, .cons _ t => Vals.drop n t
def RelO : Option V → Option Value → Prop
  | some v, some u => RelV v u
  | none, none => True
  | _, _ => False
def KV {κ : Type} : List (κ × V) → List (κ × Value) → Prop := Paired fun (p : κ × V) (q : κ × Value) => p.1 = q.1 ∧ RelV p.2 q.2
def kV : Key → V
  | .inl i => .int i
  | .inr x => .str x
inductive HO where
  | lst (xs : List V)
  | tup (xs : List V)
  | dK (kvs : List (Key × V)) | dT (kvs : List (List Key × V))
  | set (S : Int → Bool) (n : Nat)
  | ins (C dx : Addr) (fs : List (Str × V))
  | own (x : Addr)
  | xd (fs : List (Str × V))
  | met (f x : Addr)
  | rng (lo hi : Int)
  | frz (o : Obj) (u : HO)
  | tbl (ps : Array Value)
  | ext (φ : Heap → Prop)
abbrev Hp := Addr → Option HO
def upd (H : Hp) (a : Addr) (o : HO) : Hp := fun b => if b = a then some o else H b
theorem upd_same {H : Hp} {a : Addr} {o : HO} : upd H a o a = some o := by unfold upd; rw [if_pos rfl]
theorem upd_ne {H : Hp} {a b : Addr} {o : HO} (h : b ≠ a) : upd H a o b = H b := by unfold upd; rw [if_neg h]
theorem upd_upd {H : Hp} {a : Addr} {o u : HO} : upd (upd H a o) a u = upd H a u := by
  funext b; unfold upd; split <;> rfl
theorem ne_of {H : Hp} {a b : Addr} {o u : HO} (h : H a = some o) (h' : H b = some u) (d : o ≠ u) : a ≠ b := by
  intro e; subst e; rw [h] at h'; exact d (Option.some.inj h')
theorem ne_of_none {H : Hp} {a b : Addr} {o : HO} (h : H a = some o) (h' : H b = none) : a ≠ b := by
  intro e; subst e; rw [h] at h'; cases h'
section
variable (P : Program) (w : World)
def ObjOk (H : Hp) (h : Heap) (a : Addr) : HO → Prop
  | .lst xs => xs.length ≤ sizeLine ∧ ∃ (its : List Value) (n : Nat), Vals xs its ∧ h.get? a = some { cls := .type "list", data := .seq its.toArray n }
  | .tup xs => xs.length ≤ sizeLine ∧ ∃ its : List Value, Vals xs its ∧ IsTup h a its.toArray
  | .dK kvs => kvs.length ≤ sizeLine ∧ (a == sysModules) = false ∧ ∃ vs, KV kvs vs ∧ h.DictOf (mixKind P w) a vs
  | .dT kvs => kvs.length ≤ sizeLine ∧ (a == sysModules) = false ∧ ∃ xs : List (List Key × Addr × Value),
      Paired (fun (p : List Key × V) (q : List Key × Addr × Value) => p.1 = q.1 ∧ H q.2.1 = some (.tup (p.1.map kV)) ∧ RelV p.2 q.2.2) kvs xs ∧
      ∃ o es ep, h.get? a = some o ∧ o.ExactDict ∧ o.data = .dict es ep ∧ es.toList = xs.map (entryOfKey (tupleKind (mixKind P w))) ∧ (xs.map (·.1)).Nodup
  | .set S n => h.SetOf (intKind P w) a S n
  | .ins C dx fs => H dx = some (.own a) ∧ fs.length ≤ 1000 ∧ dx ≠ a ∧ h.get? a = some (PySem.W.instObj C dx) ∧
      ∃ mA, h.Ns1 dx mA ∧ (∀ f, RelO (fs.lookup f) (mA f)) ∧ PySem.Within mA (fs.map (·.1))
  | .own _ => ∃ o, h.get? a = some o
  | .xd fs => ∃ mA, h.Ns1 a mA ∧ ∀ f, RelO (fs.lookup f) (mA f)
  | .rng lo hi => ∃ t u v, h.get? a = some { cls := .type "range", data := .fields #[.int lo t, .int hi u, .int 1 v] }
  | .frz o u => h.get? a = some o ∧ ObjOk H h a u
  | .tbl ps => h.get? a = some { cls := .none, data := .fields ps }
  | .met f x => h.get? a = some (PySem.W.methodObj (.ref f) (.ref x))
  | .ext φ => φ h ∧ (∃ o, h.get? a = some o) ∧ ∀ h1 h2 : Heap, φ h1 → (∀ o, h1.get? a = some o → h2.get? a = some o) → φ h2
def HOk (H : Hp) (h : Heap) : Prop := ∀ a o, H a = some o → ObjOk P w H h a o
end
section
variable {P : Program} {w : World} {H H' : Hp} {h h' : Heap} {a : Addr} {o : HO}
theorem ObjOk.lt (x : ObjOk P w H h a o) : a < h.objs.size := by
  cases o with
  | lst xs => obtain ⟨_, _, _, _, e⟩ := x; exact Heap.lt_size e
  | tup xs => obtain ⟨_, _, _, p⟩ := x; exact p.lt
  | dK kvs => obtain ⟨_, _, _, _, o, _, _, e, _⟩ := x; exact Heap.lt_size e
  | dT kvs => obtain ⟨_, _, _, _, o, _, _, e, _⟩ := x; exact Heap.lt_size e
  | set S n => obtain ⟨o, _, _, _, e, _⟩ := x; exact Heap.lt_size e
  | ins C dx fs => obtain ⟨_, _, _, e, _⟩ := x; exact Heap.lt_size e
  | own y => obtain ⟨_, e⟩ := x; exact Heap.lt_size e
  | xd fs => obtain ⟨_, ⟨_, _, _, e, _⟩, _⟩ := x; exact Heap.lt_size e
  | rng lo hi => obtain ⟨_, _, _, e⟩ := x; exact Heap.lt_size e
  | frz ob u => obtain ⟨e, _⟩ := x; exact Heap.lt_size e
  | tbl ps => exact Heap.lt_size (show h.get? a = some _ from x)
  | met f y => exact Heap.lt_size (show h.get? a = some _ from x)
  | ext φ => obtain ⟨_, ⟨_, e⟩, _⟩ := x; exact Heap.lt_size e
theorem Paired.mapP {α β : Type} {F G : α → β → Prop} : ∀ {l₁ : List α} {l₂ : List β}, Paired F l₁ l₂ → (∀ a b, F a b → G a b) → Paired G l₁ l₂
  | _, _, .nil, _ => .nil
  | _, _, .cons r t, f => .cons (f _ _ r) (Paired.mapP t f)
theorem ObjOk.stay (x : ObjOk P w H h a o) (k : ∀ b u, (b = a ∨ H b = some (.own a)) → h.get? b = some u → h'.get? b = some u)
    (ho : ∀ b, H b = some (.own a) → H' b = some (.own a)) (ht : ∀ b xs, H b = some (.tup xs) → H' b = some (.tup xs)) : ObjOk P w H' h' a o := by
  induction o with
  | lst xs => obtain ⟨z, its, n, r, e⟩ := x; exact ⟨z, its, n, r, k _ _ (.inl rfl) e⟩
  | tup xs => obtain ⟨z, its, r, ob, e, c⟩ := x; exact ⟨z, its, r, ob, k _ _ (.inl rfl) e, c⟩
  | dK kvs => obtain ⟨z, y, vs, r, ob, es, ep, e, c⟩ := x; exact ⟨z, y, vs, r, ob, es, ep, k _ _ (.inl rfl) e, c⟩
  | dT kvs =>
    obtain ⟨z, y, xs, r, ob, es, ep, e, c⟩ := x
    exact ⟨z, y, xs, Paired.mapP r fun p q z => ⟨z.1, ht _ _ z.2.1, z.2.2⟩, ob, es, ep, k _ _ (.inl rfl) e, c⟩
  | set S n => obtain ⟨ob, es, ep, t, e, c⟩ := x; exact ⟨ob, es, ep, t, k _ _ (.inl rfl) e, c⟩
  | ins C dx fs =>
    obtain ⟨d, z, ne, e, mA, ⟨od, es, ep, e2, c⟩, r⟩ := x
    exact ⟨ho _ d, z, ne, k _ _ (.inl rfl) e, mA, ⟨od, es, ep, k _ _ (.inr d) e2, c⟩, r⟩
  | own y => obtain ⟨ob, e⟩ := x; exact ⟨ob, k _ _ (.inl rfl) e⟩
  | xd fs => obtain ⟨mA, ⟨od, es, ep, e, c⟩, r⟩ := x; exact ⟨mA, ⟨od, es, ep, k _ _ (.inl rfl) e, c⟩, r⟩
  | rng lo hi => obtain ⟨t, u, v, e⟩ := x; exact ⟨t, u, v, k _ _ (.inl rfl) e⟩
  | frz ob u ih => obtain ⟨e, q⟩ := x; exact ⟨k _ _ (.inl rfl) e, ih q⟩
  | tbl ps =>
    have e : h.get? a = some { cls := .none, data := .fields ps } := x
    show h'.get? a = some { cls := .none, data := .fields ps }
    exact k a _ (.inl rfl) e
  | met f y =>
    have e : h.get? a = some (PySem.W.methodObj (.ref f) (.ref y)) := x
    show h'.get? a = some (PySem.W.methodObj (.ref f) (.ref y))
    exact k a _ (.inl rfl) e
  | ext φ => obtain ⟨p, ⟨o, e⟩, st⟩ := x; exact ⟨st _ _ p fun o q => k _ _ (.inl rfl) q, ⟨o, k _ _ (.inl rfl) e⟩, st⟩
theorem HOk.lt (x : HOk P w H h) (e : H a = some o) : a < h.objs.size := (x a o e).lt
theorem HOk.fresh (x : HOk P w H h) (e : h.objs.size ≤ a) : H a = none := by
  cases q : H a with
  | none => rfl
  | some u => exact absurd (Nat.lt_of_lt_of_le (x.lt q) e) (Nat.lt_irrefl _)
theorem HOk.kept (x : HOk P w H h) (k : ∀ b u, h.get? b = some u → h'.get? b = some u) : HOk P w H h' := fun a o e =>
  (x a o e).stay (fun b u _ q => k b u q) (fun _ q => q) fun _ _ q => q
theorem HOk.laid (x : HOk P w H h) (k : ∀ b u, h.get? b = some u → h'.get? b = some u) (hp : h.objs.size ≤ a) (new : ObjOk P w (upd H a o) h' a o) : HOk P w (upd H a o) h' := fun b u e => by
  have hn := x.fresh hp
  by_cases hb : b = a
  · subst hb; rw [upd_same] at e; cases e; exact new
  · rw [upd_ne hb] at e
    exact (x b u e).stay (fun c v _ q => k c v q) (fun c q => by rw [upd_ne (ne_of_none q hn)]; exact q) fun c xs q => by rw [upd_ne (ne_of_none q hn)]; exact q
end
def Rd (H : Hp) (a : Addr) (u : HO) : Prop := H a = some u ∨ ∃ o, H a = some (.frz o u)
theorem Rd.ok {P : Program} {w : World} {H : Hp} {h : Heap} {a : Addr} {u : HO} (r : Rd H a u) (x : HOk P w H h) : ObjOk P w H h a u := by
  rcases r with r | ⟨o, r⟩
  · exact x a u r
  · obtain ⟨_, q⟩ := x a _ r
    exact q
def Mut : Option HO → Prop
  | some (.lst _) => True
  | some (.dK _) => True
  | some (.dT _) => True
  | some (.set _ _) => True
  | some (.ins _ _ _) => True
  | some (.ext _) => True
  | _ => False
section
variable {P : Program} {w : World} {H : Hp} {h h' : Heap} {x e : Addr} {o' : HO}
theorem HOk.write (ok : HOk P w H h) (mu : Mut (H x)) (he : e = x ∨ H e = some (.own x)) (k : ∀ b u, b ≠ e → h.get? b = some u → h'.get? b = some u) (heo : ∃ u, h'.get? e = some u)
    (new : ObjOk P w (upd H x o') h' x o') : HOk P w (upd H x o') h' := fun b u q => by
  have nown : ∀ c y, H c = some (.own y) → c ≠ x := fun c y r z => by subst z; rw [r] at mu; exact mu
  have ntup : ∀ c xs, H c = some (.tup xs) → c ≠ x := fun c xs r z => by subst z; rw [r] at mu; exact mu
  by_cases hb : b = x
  · subst hb; rw [upd_same] at q; cases q; exact new
  · rw [upd_ne hb] at q
    by_cases hbe : b = e
    · have q' : H b = some (.own x) := by
        rcases he with z | z
        · exact absurd (hbe.trans z) hb
        · rw [hbe]; exact z
      rw [q] at q'; cases q'
      obtain ⟨v, hv⟩ := heo
      exact ⟨v, by rw [hbe]; exact hv⟩
    · refine (ok b u q).stay (fun c v hc r => k c v ?_ r) (fun c r => by rw [upd_ne (nown c b r)]; exact r) fun c xs r => by rw [upd_ne (ntup c xs r)]; exact r
      rcases hc with rfl | hc
      · exact hbe
      · rintro rfl
        rcases he with z | z
        · exact nown c b hc z
        · rw [hc] at z; cases z; exact hb rfl
end
structure Un (fs ex : List Addr) (H H' : Hp) (h h' : Heap) : Prop where
  keep : ∀ b o, h.get? b = some o → H b = none → b ∉ fs → b ∉ ex → h'.get? b = some o
  slot : ∀ b o, h.get? b = some o → H b = none → b ∈ fs → b ∉ ex → ∃ sl, h'.get? b = some { o with slots := sl }
  free : ∀ b o, h.get? b = some o → H b = none → b ∉ ex → H' b = none
  there : ∀ b o, h.get? b = some o → b ∉ ex → ∃ o', h'.get? b = some o'
  tups : ∀ b xs, H b = some (.tup xs) → H' b = some (.tup xs)
  frzs : ∀ b o u, H b = some (.frz o u) → H' b = some (.frz o u)
  tbls : ∀ b ps, H b = some (.tbl ps) → ∃ more, H' b = some (.tbl (ps ++ more))
section
variable {fs fs' ex ex' : List Addr} {H H1 H2 : Hp} {h h1 h2 h' : Heap} {a x e : Addr} {o : HO}
theorem Un.any (u : Un fs ex H H1 h h1) {b : Addr} {ob : Obj} (q : h.get? b = some ob) (n : H b = none) (hx : b ∉ ex) : ∃ sl, h1.get? b = some { ob with slots := sl } := by
  by_cases hb : b ∈ fs
  · exact u.slot b ob q n hb hx
  · exact ⟨ob.slots, u.keep b ob q n hb hx⟩
theorem Un.kept (k : ∀ b u, h.get? b = some u → h'.get? b = some u) : Un fs ex H H h h' :=
  ⟨fun b ob q _ _ _ => k b ob q, fun b ob q _ _ _ => ⟨ob.slots, k b ob q⟩, fun _ _ _ n _ => n, fun b ob q _ => ⟨ob, k b ob q⟩, fun _ _ q => q, fun _ _ _ q => q, fun _ ps q => ⟨#[], by rw [q]; simp⟩⟩
theorem Un.refl : Un fs ex H H h h := Un.kept fun _ _ q => q
theorem Un.laid (k : ∀ b u, h.get? b = some u → h'.get? b = some u) (hp : h.objs.size ≤ a) (hn : H a = none) : Un fs ex H (upd H a o) h h' where
  keep := fun b u q _ _ _ => k b u q
  slot := fun b u q _ _ _ => ⟨u.slots, k b u q⟩
  free := fun b u q n _ => by rw [upd_ne (Nat.ne_of_lt (Nat.lt_of_lt_of_le (Heap.lt_size q) hp))]; exact n
  there := fun b u q _ => ⟨u, k b u q⟩
  tups := fun b xs q => by rw [upd_ne (ne_of_none q hn)]; exact q
  frzs := fun b u xs q => by rw [upd_ne (ne_of_none q hn)]; exact q
  tbls := fun b ps q => ⟨#[], by rw [upd_ne (ne_of_none q hn), q]; simp⟩
theorem Un.write (mu : Mut (H x)) (he : e = x ∨ H e = some (.own x)) (k : ∀ b u, b ≠ e → h.get? b = some u → h'.get? b = some u) (heo : ∃ u, h'.get? e = some u) : Un fs ex H (upd H x o) h h' := by
  have hx : ∀ b, H b = none → b ≠ x := fun b n z => by subst z; rw [n] at mu; exact mu
  have hb : ∀ b, H b = none → b ≠ e := fun b n z => by
    subst z
    rcases he with r | r
    · exact hx b n r
    · rw [n] at r; cases r
  have hm : ∀ b u, H b = some u → ¬ Mut (some u) → b ≠ x := fun b u q nm z => by subst z; rw [q] at mu; exact nm mu
  refine ⟨fun b u q n _ _ => k b u (hb b n) q, fun b u q n _ _ => ⟨u.slots, k b u (hb b n) q⟩, fun b u q n _ => by rw [upd_ne (hx b n)]; exact n, fun b u q _ => ?_,
    fun b xs q => by rw [upd_ne (hm b _ q fun z => z)]; exact q, fun b u xs q => by rw [upd_ne (hm b _ q fun z => z)]; exact q, fun b ps q => ⟨#[], by rw [upd_ne (hm b _ q fun z => z), q]; simp⟩⟩
  by_cases hbe : b = e
  · subst hbe; exact heo
  · exact ⟨u, k b u hbe q⟩
end
def trk (h : Heap) (H : Hp) : List Addr := (List.range h.objs.size).filter fun a => (H a).isSome
def hidT (h : Heap) (H : Hp) : Heap := PySem.W.hideAll h (trk h H)
theorem hidT_size (h : Heap) (H : Hp) : (hidT h H).objs.size = h.objs.size := PySem.W.hideAll_size _ _
theorem hidT_get {h : Heap} {H : Hp} {b : Addr} {o : Obj} (e : h.get? b = some o) (n : H b = none) : (hidT h H).get? b = some o :=
  PySem.W.hideAll_get _ e fun hm => by
    have q : (H b).isSome = true := (List.mem_filter.mp hm).2
    rw [n] at q; simp at q
theorem of_hidT {h : Heap} {H : Hp} {b : Addr} {o : Obj} (e : (hidT h H).get? b = some o) : h.get? b = some o ∧ H b = none := by
  have e' : h.get? b = some o := PySem.W.of_hideAll (trk h H) e
  refine ⟨e', ?_⟩
  cases q : H b with
  | none => rfl
  | some x =>
    have hm : b ∈ trk h H := List.mem_filter.mpr ⟨List.mem_range.mpr (Heap.lt_size e'), by simp [q]⟩
    have z : (hidT h H).get? b = none := PySem.W.hideAll_none (trk h H) hm
    rw [z] at e; cases e
def allNews (g h : Heap) (L : Addr) : List (Addr × Obj) := (List.range h.objs.size).filterMap fun a => if a = L ∨ (g.get? a).isSome = true then none else (h.get? a).map fun o => (a, o)
def rest (g h : Heap) (L d : Addr) : List (Addr × Obj) := (allNews g h L).filter fun p => decide (p.1 ≠ d)
end L2
namespace L2
open PySem PySem.Spec PyProof.Rows
structure Mod (K : PySem.W.Frag) (mg : Str → Option Value) (base : Heap) : Prop where
  kin : K.In base
  glob : base.Ns mainGlobals mg
  blt : ∃ mb, base.Ns builtinsNs mb ∧ ∀ x : Str, x ≠ "__name__" → mb x = bootBuiltins x
  nolimit : base.NoLimit
structure Cx where
  prog : Program
  w : World
  K : PySem.W.Frag
  mg : Str → Option Value
  base : Heap
  A : Around
  N : List Str
  s₀ : Shared
  H₀ : Hp
  env : Env
  outer : List Env
  stack : List Env
  ex : List Addr
  fn : Str → Bool
  calm : Bool
  pn : List (Addr × Obj)
  xe : Value → Shared → Prop
def frs (l : List Env) : List Addr := l.filterMap (·.frame)
abbrev Cx.fs (X : Cx) : List Addr := frs X.outer
def Vis (sc : Scope) (x : Str) : Prop := sc.names.lookup x = some .local ∨ sc.names.lookup x = some .cell ∨ sc.names.lookup x = some .free
def Loc (sc : Scope) (x : Str) : Prop := sc.names.lookup x = some .local ∨ sc.names.lookup x = some .cell
def Look (env : Env) (h : Heap) (m : Str → Option Value) (x : Str) (u : Value) : Prop :=
  (env.kindOf x = some .local ∧ m x = some u) ∨ ((env.kindOf x = some .cell ∨ env.kindOf x = some .free) ∧ ∃ c, env.cells.lookup x = some c ∧ h.IsCell c (some u))
structure Cx.Ok (X : Cx) : Prop where
  mod : Mod X.K X.mg X.base
  kind : X.env.scope.kind = .function
  glob : X.env.globals = mainGlobals
  blt : X.env.builtins = builtinsNs
  above : X.s₀.heap.objs.size ≤ X.env.locals
  inj : ∀ x y c, X.env.cells.lookup x = some c → X.env.cells.lookup y = some c → x = y
  has : ∀ x, (X.env.kindOf x = some .cell ∨ X.env.kindOf x = some .free) → ∃ c, X.env.cells.lookup x = some c
  cab : ∀ x c, X.fn x = true → X.env.cells.lookup x = some c → X.s₀.heap.objs.size ≤ c
  hd : X.calm = true → X.A.handled = none
  frames : X.A.frames = some X.stack
  stk : X.stack = X.outer ∨ (X.stack = X.env :: X.outer ∧ X.env.frame = some X.env.locals)
  exf : ∀ b ∈ X.ex, b ≠ X.env.locals ∧ ∀ x c, X.env.cells.lookup x = some c → c ≠ b
  bs : ∀ b o, X.base.get? b = some o → X.s₀.heap.get? b = some o ∧ X.H₀ b = none
  bsz : X.base.objs.size ≤ X.s₀.heap.objs.size
  noex : ∀ b o, X.base.get? b = some o → b ∉ X.ex
  exfs : ∀ b ∈ X.ex, b ∉ X.fs
  funs : X.s₀.heap.FunFrames X.base X.outer
  frf : ∀ b ∈ X.fs, X.H₀ b = none
structure Inv (X : Cx) (pins : List (Addr × Obj)) (σ : List (Option V)) (H : Hp) (s : Shared) : Prop where
  ok : X.Ok
  os : s.os = X.s₀.os
  bare : AllBare s.gens
  base : Un X.fs X.ex X.H₀ H X.s₀.heap s.heap
  loc : ∃ m, s.heap.Ns X.env.locals m ∧ ∀ (i : Nat) (x : Str) (v : V), X.N[i]? = some x → σ[i]? = some (some v) → Vis X.env.scope x → ∃ u, RelV v u ∧ Look X.env s.heap m x u
  cell : ∀ x c, X.env.cells.lookup x = some c → ∃ v, s.heap.IsCell c v
  free : H X.env.locals = none
  freeC : ∀ x c, X.env.cells.lookup x = some c → H c = none
  pin : ∀ p ∈ X.pn ++ pins, s.heap.get? p.1 = some p.2 ∧ H p.1 = none ∧ p.1 ≠ X.env.locals ∧ p.1 ∉ X.fs ∧ ∀ v, p.2.data ≠ .cell v
  hok : HOk X.prog X.w H s.heap
  len : σ.length = X.N.length
section
variable {X : Cx} {pins : List (Addr × Obj)} {σ : List (Option V)} {H H' : Hp} {s : Shared} {h' : Heap}
theorem Cx.Ok.nofr (ok : X.Ok) {b : Addr} {o : Obj} (e : X.base.get? b = some o) : b ∉ X.fs := fun hb => by
  have := (ok.funs.mem hb).1
  rw [e] at this; cases this
theorem Inv.bs (I : Inv X pins σ H s) : ∀ b o, X.base.get? b = some o → s.heap.get? b = some o ∧ H b = none := fun b o e =>
  ⟨I.base.keep b o (I.ok.bs b o e).1 (I.ok.bs b o e).2 (I.ok.nofr e) (I.ok.noex b o e), I.base.free b o (I.ok.bs b o e).1 (I.ok.bs b o e).2 (I.ok.noex b o e)⟩
theorem Inv.bk (I : Inv X pins σ H s) : ∀ b o, X.base.get? b = some o → s.heap.get? b = some o := fun b o e => (I.bs b o e).1
theorem Inv.mod (I : Inv X pins σ H s) : Mod X.K X.mg X.base := I.ok.mod
theorem Inv.kIn (I : Inv X pins σ H s) : X.K.In s.heap := I.ok.mod.kin.keeps I.bk
theorem Inv.fr (I : Inv X pins σ H s) : ∃ m, Fr X.base X.env.locals s.heap m :=
  let ⟨m, hn, _⟩ := I.loc
  ⟨m, hn, I.bk, Nat.le_trans I.ok.bsz I.ok.above⟩
theorem Inv.lt (I : Inv X pins σ H s) : X.env.locals < s.heap.objs.size := let ⟨_, hn, _⟩ := I.loc; hn.lt
theorem Inv.sz (I : Inv X pins σ H s) : X.s₀.heap.objs.size ≤ s.heap.objs.size := Nat.le_trans I.ok.above (Nat.le_of_lt I.lt)
theorem Inv.nofs (I : Inv X pins σ H s) {a : Addr} (h : s.heap.objs.size ≤ a) : a ∉ X.fs := fun hb => by
  obtain ⟨_, o, ho, _⟩ := I.ok.funs.mem hb
  exact absurd (Nat.lt_of_lt_of_le (Heap.lt_size ho) (Nat.le_trans I.sz h)) (Nat.lt_irrefl _)
theorem Inv.cne (I : Inv X pins σ H s) : ∀ x c, X.env.cells.lookup x = some c → c ≠ X.env.locals := fun x c e z => by
  obtain ⟨v, o, ho, hd⟩ := I.cell x c e
  obtain ⟨m, ⟨o', es, ep, ho', hd', _⟩, _⟩ := I.loc
  rw [z, ho'] at ho; cases ho; rw [hd'] at hd; cases hd
theorem Inv.funs (I : Inv X pins σ H s) : s.heap.FunFrames X.base X.outer := by
  have all : ∀ (l : List Env), (∀ b ∈ frs l, b ∈ X.fs) → X.s₀.heap.FunFrames X.base l → s.heap.FunFrames X.base l := by
    intro l
    induction l with
    | nil => intro _ _; trivial
    | cons env r ih =>
      intro hs hl
      obtain ⟨hk, ⟨L, o, hf, hn, ho, hd⟩, hr⟩ := hl
      have hL : L ∈ X.fs := hs L (by unfold frs; rw [List.filterMap_cons, hf]; exact List.mem_cons_self)
      obtain ⟨sl, e⟩ := I.base.slot L o ho (I.ok.frf L hL) hL fun z => I.ok.exfs L z hL
      exact ⟨hk, ⟨L, _, hf, hn, e, hd⟩, ih (fun b hb => hs b (by unfold frs; rw [List.filterMap_cons, hf]; exact List.mem_cons_of_mem _ hb)) hr⟩
  exact all X.outer (fun _ hb => hb) I.ok.funs
theorem Inv.stack (I : Inv X pins σ H s) : s.heap.FunFrames X.base X.stack := by
  rcases I.ok.stk with e | ⟨e, hf⟩
  · rw [e]; exact I.funs
  · rw [e]
    obtain ⟨m, hn, _⟩ := I.loc
    refine .cons (by rw [I.ok.kind]; decide) hf hn ?_ I.funs
    exact Heap.get?_none_of_le (Nat.le_trans I.ok.bsz I.ok.above)
theorem Inv.stkSub (I : Inv X pins σ H s) : ∀ b ∈ frs X.stack, b ∈ X.env.locals :: X.fs := fun b hb => by
  rcases I.ok.stk with e | ⟨e, hf⟩
  · rw [e] at hb; exact List.mem_cons_of_mem _ hb
  · rw [e] at hb
    unfold frs at hb
    rw [List.filterMap_cons, hf] at hb
    exact hb
theorem Inv.stkFree (I : Inv X pins σ H s) : ∀ b ∈ frs X.stack, H b = none := fun b hb => by
  rcases List.mem_cons.mp (I.stkSub b hb) with e | hb
  · rw [e]; exact I.free
  · obtain ⟨_, o, ho, _⟩ := I.ok.funs.mem hb
    exact I.base.free b o ho (I.ok.frf b hb) fun z => I.ok.exfs b z hb
theorem Inv.step {g' : Array GenState} {t' : Nat} {d' : Drawn} {ch : List Addr} (I : Inv X pins σ H s)
    (hch : ∀ b ∈ ch, (b ∈ X.ex ∨ X.s₀.heap.objs.size ≤ b) ∧ b ≠ X.env.locals ∧ (∀ x c, X.env.cells.lookup x = some c → c ≠ b) ∧ ∀ p ∈ X.pn ++ pins, p.1 ≠ b)
    (keep : ∀ b o, b ≠ X.env.locals → b ∉ X.fs → b ∉ ch → s.heap.get? b = some o → H b = none → h'.get? b = some o)
    (slot : ∀ b o, b ≠ X.env.locals → b ∈ X.fs → b ∉ ch → s.heap.get? b = some o → H b = none → ∃ sl, h'.get? b = some { o with slots := sl }) (free : ∀ b o, b ∉ ch → s.heap.get? b = some o → H b = none → H' b = none)
    (there : ∀ b o, b ∉ ch → s.heap.get? b = some o → ∃ o', h'.get? b = some o')
    (tups : ∀ b xs, H b = some (.tup xs) → H' b = some (.tup xs)) (frzs : ∀ b o u, H b = some (.frz o u) → H' b = some (.frz o u)) (tbls : ∀ b ps, H b = some (.tbl ps) → ∃ more, H' b = some (.tbl (ps ++ more)))
    (ns : ∀ m, s.heap.Ns X.env.locals m → h'.Ns X.env.locals m) (hok : HOk X.prog X.w H' h') (hg : AllBare g') :
    Inv X pins σ H' { s with heap := h', gens := g', drawn := d', toks := t' } := by
  have neL : ∀ b o, X.s₀.heap.get? b = some o → b ≠ X.env.locals := fun b o e => Nat.ne_of_lt (Nat.lt_of_lt_of_le (Heap.lt_size e) I.ok.above)
  have neC : ∀ b o, X.s₀.heap.get? b = some o → b ∉ X.ex → b ∉ ch := fun b o e hx hb => by
    rcases (hch b hb).1 with z | z
    · exact hx z
    · exact absurd (Nat.lt_of_lt_of_le (Heap.lt_size e) z) (Nat.lt_irrefl _)
  have cellK : ∀ x c, X.env.cells.lookup x = some c → ∀ v, s.heap.IsCell c v → h'.IsCell c v := fun x c e v ⟨o, ho, hd⟩ => by
    have nch : c ∉ ch := fun z => (hch c z).2.2.1 x c e rfl
    by_cases hc : c ∈ X.fs
    · obtain ⟨sl, q⟩ := slot c o (I.cne x c e) hc nch ho (I.freeC x c e)
      exact ⟨_, q, hd⟩
    · exact ⟨o, keep c o (I.cne x c e) hc nch ho (I.freeC x c e), hd⟩
  refine ⟨I.ok, I.os, hg, ⟨fun b o e n hb hx => ?_, fun b o e n hb hx => ?_, fun b o e n hx => ?_, fun b o e hx => ?_, fun b xs e => tups b xs (I.base.tups b xs e), fun b o xs e => frzs b o xs (I.base.frzs b o xs e), fun b ps e => ?_⟩, ?_, fun x c e => ?_, ?_, fun x c e => ?_, fun p hp => ?_, hok, I.len⟩
  · exact keep b o (neL b o e) hb (neC b o e hx) (I.base.keep b o e n hb hx) (I.base.free b o e n hx)
  · obtain ⟨sl, e1⟩ := I.base.slot b o e n hb hx
    obtain ⟨sl', e2⟩ := slot b _ (neL b o e) hb (neC b o e hx) e1 (I.base.free b o e n hx)
    exact ⟨sl', e2⟩
  · obtain ⟨o', e1⟩ := I.base.there b o e hx
    exact free b o' (neC b o e hx) e1 (I.base.free b o e n hx)
  · obtain ⟨o', e1⟩ := I.base.there b o e hx
    exact there b o' (neC b o e hx) e1
  · obtain ⟨m1, e1⟩ := I.base.tbls b ps e
    obtain ⟨m2, e2⟩ := tbls b _ e1
    exact ⟨m1 ++ m2, by rw [e2, Array.append_assoc]⟩
  · obtain ⟨m, hn, hl⟩ := I.loc
    refine ⟨m, ns m hn, fun i x v e1 e2 e3 => ?_⟩
    obtain ⟨u, r, l⟩ := hl i x v e1 e2 e3
    refine ⟨u, r, ?_⟩
    rcases l with l | ⟨k, c, e, z⟩
    · exact .inl l
    · exact .inr ⟨k, c, e, cellK x c e _ z⟩
  · obtain ⟨v, z⟩ := I.cell x c e
    exact ⟨v, cellK x c e v z⟩
  · obtain ⟨m, ⟨o, _, _, ho, _⟩, _⟩ := I.loc
    exact free _ o (fun z => (hch _ z).2.1 rfl) ho I.free
  · obtain ⟨v, o, ho, hd⟩ := I.cell x c e
    exact free c o (fun z => (hch c z).2.2.1 x c e rfl) ho (I.freeC x c e)
  · obtain ⟨e, n, ne, nf, d⟩ := I.pin p hp
    have nch : p.1 ∉ ch := fun z => (hch p.1 z).2.2.2 p hp rfl
    exact ⟨keep p.1 p.2 ne nf nch e n, free p.1 p.2 nch e n, ne, nf, d⟩
theorem Inv.un {t' : Nat} (I : Inv X pins σ H s) (u : Un X.fs [] H H' s.heap h') (hok : HOk X.prog X.w H' h') : Inv X pins σ H' { s with heap := h', toks := t' } := by
  obtain ⟨m, ⟨o, es, ep, ho, r⟩, _⟩ := id I.loc
  obtain ⟨sl, hL⟩ := u.any ho I.free (by simp)
  exact I.step (g' := s.gens) (d' := s.drawn) (ch := []) (fun _ z => nomatch z) (fun b o _ hb _ e n => u.keep b o e n hb (by simp)) (fun b o _ hb _ e n => u.slot b o e n hb (by simp)) (fun b o _ e n => u.free b o e n (by simp)) (fun b o _ e => u.there b o e (by simp)) u.tups u.frzs u.tbls (fun m' hm => by
    obtain ⟨o', es', ep', ho', r'⟩ := hm
    rw [ho] at ho'; cases ho'
    exact ⟨_, es', ep', hL, r'⟩) hok I.bare
theorem Inv.call {g' : Array GenState} {t' : Nat} {d' : Drawn} {ch : List Addr} (I : Inv X pins σ H s) (u : Un (frs X.stack) ch H H' s.heap h') (hok : HOk X.prog X.w H' h') (hg : AllBare g')
    (hch : ∀ b ∈ ch, (b ∈ X.ex ∨ X.s₀.heap.objs.size ≤ b) ∧ b ≠ X.env.locals ∧ (∀ x c, X.env.cells.lookup x = some c → c ≠ b) ∧ ∀ p ∈ X.pn ++ pins, p.1 ≠ b) :
    Inv X pins σ H' { s with heap := h', gens := g', drawn := d', toks := t' } := by
  obtain ⟨m, ⟨o, es, ep, ho, r⟩, _⟩ := id I.loc
  obtain ⟨sl, hL⟩ := u.any ho I.free fun z => (hch _ z).2.1 rfl
  exact I.step (ch := ch) hch (fun b o hL hb hc e n => u.keep b o e n (fun z => (List.mem_cons.mp (I.stkSub b z)).elim hL hb) hc) (fun b o _ _ hc e n => u.any e n hc) (fun b o hc e n => u.free b o e n hc) (fun b o hc e => u.there b o e hc) u.tups u.frzs u.tbls (fun m' hm => by
    obtain ⟨o', es', ep', ho', r'⟩ := hm
    rw [ho] at ho'; cases ho'
    exact ⟨_, es', ep', hL, r'⟩) hok hg
theorem Inv.turned {t' : Nat} {it : Addr} (I : Inv X pins σ H s) (k : ∀ b o, b ≠ it → s.heap.get? b = some o → h'.get? b = some o) (hn : H it = none) (hL : it ≠ X.env.locals)
    (h1 : it ∈ X.ex ∨ X.s₀.heap.objs.size ≤ it) (h2 : ∀ x c, X.env.cells.lookup x = some c → c ≠ it) (h3 : ∀ p ∈ X.pn ++ pins, p.1 ≠ it) : Inv X pins σ H { s with heap := h', toks := t' } := by
  have nit : ∀ b u, H b = some u → b ≠ it := fun b u e z => by rw [z, hn] at e; cases e
  refine I.step (g' := s.gens) (d' := s.drawn) (ch := [it]) (fun b hb => ?_) (fun b o _ _ hc e _ => k b o (fun z => hc (by simp [z])) e) (fun b o _ _ hc e _ => ⟨o.slots, k b o (fun z => hc (by simp [z])) e⟩) (fun _ _ _ _ n => n)
    (fun b o hc e => ⟨o, k b o (fun z => hc (by simp [z])) e⟩) (fun _ _ e => e) (fun _ _ _ e => e) (fun b ps e => ⟨#[], by rw [e]; simp⟩) (fun m hm => ?_) (fun b u e => ?_) I.bare
  · have e : b = it := by simpa using hb
    subst e
    exact ⟨h1, hL, h2, h3⟩
  · obtain ⟨o, es, ep, ho, r⟩ := hm
    exact ⟨o, es, ep, k _ o (Ne.symm hL) ho, r⟩
  · refine (I.hok b u e).stay (fun c v hc q => k c v ?_ q) (fun _ q => q) fun _ _ q => q
    rcases hc with z | z
    · rw [z]; exact nit b u e
    · exact nit c _ z
theorem Inv.tok (I : Inv X pins σ H s) (t : Nat) : Inv X pins σ H { s with toks := t } := I.un (h' := s.heap) (t' := t) Un.refl I.hok
theorem Inv.kept {t' : Nat} (I : Inv X pins σ H s) (k : ∀ b u, s.heap.get? b = some u → h'.get? b = some u) : Inv X pins σ H { s with heap := h', toks := t' } := I.un (Un.kept k) (I.hok.kept k)
theorem Inv.laid {a : Addr} {o : HO} {t' : Nat} (I : Inv X pins σ H s) (k : ∀ b u, s.heap.get? b = some u → h'.get? b = some u) (hp : s.heap.objs.size ≤ a) (new : ObjOk X.prog X.w (upd H a o) h' a o) :
    Inv X pins σ (upd H a o) { s with heap := h', toks := t' } := I.un (Un.laid k hp (I.hok.fresh hp)) (I.hok.laid k hp new)
theorem Inv.write {x e : Addr} {o : HO} {t' : Nat} (I : Inv X pins σ H s) (mu : Mut (H x)) (he : e = x ∨ H e = some (.own x)) (k : ∀ b u, b ≠ e → s.heap.get? b = some u → h'.get? b = some u) (heo : ∃ u, h'.get? e = some u)
    (new : ObjOk X.prog X.w (upd H x o) h' x o) : Inv X pins σ (upd H x o) { s with heap := h', toks := t' } := I.un (Un.write mu he k heo) (I.hok.write mu he k heo new)
theorem Inv.weak {σ' : List (Option V)} (I : Inv X pins σ H s) (hl : σ'.length = σ.length) (w : ∀ (i : Nat) v, σ'[i]? = some (some v) → σ[i]? = some (some v)) : Inv X pins σ' H s :=
  ⟨I.ok, I.os, I.bare, I.base, let ⟨m, hn, hl'⟩ := I.loc; ⟨m, hn, fun i x v e1 e2 e3 => hl' i x v e1 (w i v e2) e3⟩, I.cell, I.free, I.freeC, I.pin, I.hok, hl.trans I.len⟩
theorem Inv.pins_of {pins' : List (Addr × Obj)} (I : Inv X pins σ H s) (h : ∀ p ∈ pins', s.heap.get? p.1 = some p.2 ∧ H p.1 = none ∧ p.1 ≠ X.env.locals ∧ p.1 ∉ X.fs ∧ ∀ v, p.2.data ≠ .cell v) : Inv X pins' σ H s :=
  ⟨I.ok, I.os, I.bare, I.base, I.loc, I.cell, I.free, I.freeC, fun p hp => (List.mem_append.mp hp).elim (fun z => I.pin p (List.mem_append_left _ z)) (h p), I.hok, I.len⟩
theorem nodup_ix {N : List Str} (hN : N.Nodup) {i j : Nat} {x : Str} (a : N[i]? = some x) (b : N[j]? = some x) : i = j := by
  obtain ⟨h1, e1⟩ := List.getElem?_eq_some_iff.mp a
  obtain ⟨h2, e2⟩ := List.getElem?_eq_some_iff.mp b
  exact (List.getElem_inj hN).mp (e1.trans e2.symm)
theorem store_ok2 {M : Model} {A : Around} {E : Value → Shared → Prop} {i : Nat} {x : Str} {v : V} {u : Value} {Q : Unit → Shared → Prop} (I : Inv X pins σ H s) (hN : X.N.Nodup) (hi : X.N[i]? = some x) (hx : Loc X.env.scope x) (r : RelV v u)
    (h : ∀ s', Inv X pins (σ.set i (some v)) H s' → (∃ a, Heap.SameBut a s.heap s'.heap ∧ (a = X.env.locals ∨ X.env.cells.lookup x = some a)) → Q () s') (hf : X.fn x = true ∨ X.env.scope.names.lookup x = some .local := by first | exact .inl rfl | exact .inr rfl | assumption) : wpAny M A (storeName X.env x u) Q E s := by
  obtain ⟨m, hn, hl⟩ := id I.loc
  have hcls : (X.env.scope.kind == .class || (X.env.scope.kind == .module && X.env.locals != X.env.globals)) = false := by rw [I.ok.kind]; rfl
  have hiσ : i < σ.length := by rw [I.len]; exact (List.getElem?_eq_some_iff.mp hi).1
  have cne := I.cne
  have tracked : ∀ {a : Addr} {h' : Heap}, (∃ o, s.heap.get? a = some o ∧ H a = none) → Heap.SameBut a s.heap h' → HOk X.prog X.w H h' := fun {a h'} ha hs b ob e => by
    obtain ⟨_, _, hfree⟩ := ha
    refine (I.hok b ob e).stay (fun c w' hc q => (hs.2 c ?_).trans q) (fun _ q => q) fun _ _ q => q
    rintro rfl
    rcases hc with rfl | hc
    · rw [hfree] at e; cases e
    · rw [hfree] at hc; cases hc
  rcases hx with hk | hk
  · refine wpAny_storeName_local hk hn (fun h' hn' hs => ?_) hcls
    obtain ⟨oL, _, _, hoL, _⟩ := id hn
    refine h _ ⟨I.ok, I.os, I.bare, ⟨fun b o e n hb hx => ?_, fun b o e n hb hx => ?_, I.base.free, fun b o e hx => ?_, I.base.tups, I.base.frzs, I.base.tbls⟩, ⟨_, hn', fun j y v' e1 e2 e3 => ?_⟩, fun y c e => ?_, I.free, I.freeC, fun p hp => ?_, tracked ⟨oL, hoL, I.free⟩ hs, by simpa using I.len⟩ ⟨_, hs, .inl rfl⟩
    · exact (hs.2 b (Nat.ne_of_lt (Nat.lt_of_lt_of_le (Heap.lt_size e) I.ok.above))).trans (I.base.keep b o e n hb hx)
    · obtain ⟨sl, e1⟩ := I.base.slot b o e n hb hx
      exact ⟨sl, (hs.2 b (Nat.ne_of_lt (Nat.lt_of_lt_of_le (Heap.lt_size e) I.ok.above))).trans e1⟩
    · obtain ⟨o', e1⟩ := I.base.there b o e hx
      exact ⟨o', (hs.2 b (Nat.ne_of_lt (Nat.lt_of_lt_of_le (Heap.lt_size e) I.ok.above))).trans e1⟩
    · by_cases hj : j = i
      · subst hj
        rw [hi] at e1; cases e1
        rw [List.getElem?_set_self hiσ] at e2
        cases e2
        exact ⟨u, r, .inl ⟨hk, by simp⟩⟩
      · rw [List.getElem?_set_ne (Ne.symm hj)] at e2
        obtain ⟨u', r', q⟩ := hl j y v' e1 e2 e3
        refine ⟨u', r', ?_⟩
        rcases q with ⟨k, e⟩ | ⟨k, c, e, z⟩
        · refine .inl ⟨k, ?_⟩
          have : y ≠ x := fun e => hj (nodup_ix hN e1 (e ▸ hi))
          simp [this, e]
        · exact .inr ⟨k, c, e, z.sameBut hs (cne y c e)⟩
    · obtain ⟨w', z⟩ := I.cell y c e
      exact ⟨w', z.sameBut hs (cne y c e)⟩
    · obtain ⟨e, n, ne, nf, d⟩ := I.pin p hp
      exact ⟨(hs.2 p.1 ne).trans e, n, ne, nf, d⟩
  · have hfn : X.fn x = true := by
      rcases hf with z | z
      · exact z
      · rw [z] at hk; cases hk
    obtain ⟨c, hc⟩ := I.ok.has x (.inl hk)
    obtain ⟨w', z⟩ := I.cell x c hc
    refine wpAny_storeName_cell I.ok.kind hk hc z (fun h' hc' hs => ?_)
    obtain ⟨oc, hoc, hocd⟩ := id z
    refine h { s with heap := h' } ⟨I.ok, I.os, I.bare, ⟨fun b o e n hb hx => ?_, fun b o e n hb hx => ?_, I.base.free, fun b o e hx => ?_, I.base.tups, I.base.frzs, I.base.tbls⟩, ⟨m, hn.sameBut hs (Ne.symm (cne x c hc)), fun j y v' e1 e2 e3 => ?_⟩, fun y c' e => ?_, I.free, I.freeC, fun p hp => ?_, tracked ⟨oc, hoc, I.freeC x c hc⟩ hs, by simpa using I.len⟩ ⟨c, hs, .inr hc⟩
    · exact (hs.2 b (Nat.ne_of_lt (Nat.lt_of_lt_of_le (Heap.lt_size e) (I.ok.cab x c hfn hc)))).trans (I.base.keep b o e n hb hx)
    · obtain ⟨sl, e1⟩ := I.base.slot b o e n hb hx
      exact ⟨sl, (hs.2 b (Nat.ne_of_lt (Nat.lt_of_lt_of_le (Heap.lt_size e) (I.ok.cab x c hfn hc)))).trans e1⟩
    · obtain ⟨o', e1⟩ := I.base.there b o e hx
      exact ⟨o', (hs.2 b (Nat.ne_of_lt (Nat.lt_of_lt_of_le (Heap.lt_size e) (I.ok.cab x c hfn hc)))).trans e1⟩
    · by_cases hj : j = i
      · subst hj
        rw [hi] at e1; cases e1
        rw [List.getElem?_set_self hiσ] at e2
        cases e2
        exact ⟨u, r, .inr ⟨.inl hk, c, hc, hc'⟩⟩
      · rw [List.getElem?_set_ne (Ne.symm hj)] at e2
        obtain ⟨u', r', q⟩ := hl j y v' e1 e2 e3
        refine ⟨u', r', ?_⟩
        rcases q with q | ⟨k, c', e, z'⟩
        · exact .inl q
        · refine .inr ⟨k, c', e, z'.sameBut hs ?_⟩
          rintro rfl
          exact hj (nodup_ix hN e1 (I.ok.inj _ _ _ e hc ▸ hi))
    · by_cases hcc : c' = c
      · subst hcc; exact ⟨_, hc'⟩
      · obtain ⟨w2, z2⟩ := I.cell y c' e
        exact ⟨w2, z2.sameBut hs hcc⟩
    · obtain ⟨e, n, ne, nf, d⟩ := I.pin p hp
      refine ⟨(hs.2 p.1 ?_).trans e, n, ne, nf, d⟩
      intro q
      rw [q, hoc] at e
      have q' : oc = p.2 := Option.some.inj e
      exact d w' (by rw [← q']; exact hocd)
theorem store_ok {M : Model} {A : Around} {E : Value → Shared → Prop} {i : Nat} {x : Str} {v : V} {u : Value} {Q : Unit → Shared → Prop} (I : Inv X pins σ H s) (hN : X.N.Nodup) (hi : X.N[i]? = some x) (hx : Loc X.env.scope x) (r : RelV v u)
    (h : ∀ s', Inv X pins (σ.set i (some v)) H s' → Q () s') (hf : X.fn x = true ∨ X.env.scope.names.lookup x = some .local := by first | exact .inl rfl | exact .inr rfl | assumption) : wpAny M A (storeName X.env x u) Q E s :=
  store_ok2 I hN hi hx r (fun s' I' _ => h s' I') hf
theorem Inv.call' {s' : Shared} {ch : List Addr} (I : Inv X pins σ H s) (ho : s'.os = s.os) (u : Un (frs X.stack) ch H H' s.heap s'.heap) (hok : HOk X.prog X.w H' s'.heap) (hg : AllBare s'.gens)
    (hch : ∀ b ∈ ch, (b ∈ X.ex ∨ X.s₀.heap.objs.size ≤ b) ∧ b ≠ X.env.locals ∧ (∀ x c, X.env.cells.lookup x = some c → c ≠ b) ∧ ∀ p ∈ X.pn ++ pins, p.1 ≠ b) : Inv X pins σ H' s' := by
  obtain ⟨h', g', d', t', o'⟩ := s'
  have e : o' = s.os := ho
  subst e
  exact I.call (g' := g') (t' := t') (d' := d') u hok hg hch
end
abbrev XK := Value → Option Addr → Hp → Prop
abbrev St := List (Option V)
abbrev VK := V → Hp → Prop
abbrev TE := St → Hp → VK → Prop
abbrev TT := St → Hp → (Bool → Hp → Prop) → Prop
abbrev TA := St → Hp → (List V → Hp → Prop) → Prop
structure Ends where
  nx : St → Hp → Prop
  rt : VK
  bk : St → Hp → Prop := fun _ _ => False
  ct : St → Hp → Prop := fun _ _ => False
abbrev TS := Ends → St → Hp → Prop
def EP (X : Cx) (pins : List (Addr × Obj)) (σ : St) (Q : VK) (u : Value) (s' : Shared) : Prop := ∃ v H', Inv X pins σ H' s' ∧ RelV v u ∧ Q v H'
def TP (X : Cx) (pins : List (Addr × Obj)) (σ : St) (Q : Bool → Hp → Prop) (b : Bool) (s' : Shared) : Prop := ∃ H', Inv X pins σ H' s' ∧ Q b H'
def AP (X : Cx) (pins : List (Addr × Obj)) (σ : St) (Q : List V → Hp → Prop) (us : List Value) (s' : Shared) : Prop := ∃ vs H', Inv X pins σ H' s' ∧ Vals vs us ∧ Q vs H'
def SP (X : Cx) (pins : List (Addr × Obj)) (D : Ends) (f : Flow) (s' : Shared) : Prop :=
  match f with
  | .next => ∃ σ' H', Inv X pins σ' H' s' ∧ D.nx σ' H'
  | .brk => ∃ σ' H', Inv X pins σ' H' s' ∧ D.bk σ' H'
  | .cont => ∃ σ' H', Inv X pins σ' H' s' ∧ D.ct σ' H'
  | .ret u => ∃ v σ' H', Inv X pins σ' H' s' ∧ RelV v u ∧ D.rt v H'
def PE (X : Cx) (e : Expr) (t : TE) : Prop :=
  ∀ (pins : List (Addr × Obj)) (s : Shared) (σ : St) (H : Hp) (Q : VK), Inv X pins σ H s → t σ H Q → wpAny (model X.prog X.w) X.A (eval e X.env) (EP X pins σ Q) X.xe s
def PT (X : Cx) (e : Expr) (t : TT) : Prop :=
  ∀ (pins : List (Addr × Obj)) (s : Shared) (σ : St) (H : Hp) (Q : Bool → Hp → Prop), Inv X pins σ H s → t σ H Q → wpAny (model X.prog X.w) X.A (isTrue e X.env (eval e X.env)) (TP X pins σ Q) X.xe s
def PW (X : Cx) (e : Expr) (t : TT) : Prop :=
  ∀ (whole : Sem Value) (pins : List (Addr × Obj)) (s : Shared) (σ : St) (H : Hp) (Q : Bool → Hp → Prop), Inv X pins σ H s → t σ H Q → wpAny (model X.prog X.w) X.A (isTrue e X.env whole) (TP X pins σ Q) X.xe s
theorem PW.pt {X : Cx} {e : Expr} {t : TT} (h : PW X e t) : PT X e t := h _
def PA (X : Cx) (es : List Expr) (t : TA) : Prop :=
  ∀ (pos : Pos) (pins : List (Addr × Obj)) (s : Shared) (σ : St) (H : Hp) (Q : List V → Hp → Prop), Inv X pins σ H s → t σ H Q → wpAny (model X.prog X.w) X.A (spliced (backTo pos (starEach es X.env))) (AP X pins σ Q) X.xe s
def PS (X : Cx) (st : Stmt) (t : TS) : Prop :=
  ∀ (pins : List (Addr × Obj)) (s : Shared) (σ : St) (H : Hp) (D : Ends), Inv X pins σ H s → t D σ H → wpAny (model X.prog X.w) X.A (exec st X.env) (SP X pins D) X.xe s
def PSs (X : Cx) (st : List Stmt) (t : TS) : Prop :=
  ∀ (pins : List (Addr × Obj)) (s : Shared) (σ : St) (H : Hp) (D : Ends), Inv X pins σ H s → t D σ H → wpAny (model X.prog X.w) X.A (execs st X.env) (SP X pins D) X.xe s
theorem thn {α : Type} {t : Sem α} {Q Q' : α → Shared → Prop} {M : Model} {A : Around} {E : Value → Shared → Prop} {s : Shared} (h : wpAny M A t Q E s) (hQ : ∀ a s, Q a s → Q' a s) : wpAny M A t Q' E s := wpAny_mono h hQ fun _ _ x => x
end L2
namespace L2
open PySem PySem.Spec PyProof.Rows
section
variable {X : Cx}
inductive tVar (i : Nat) (σ : St) (H : Hp) (Q : VK) : Prop
  | mk (v : V) (e : σ[i]? = some (some v)) (q : Q v H) : tVar i σ H Q
def tC (v : V) : TE := fun _ H Q => Q v H
theorem pe_var {i : Nat} {x : Str} {pos : Pos} (hN : X.N[i]? = some x) (hv : Vis X.env.scope x) (hd : (x == ("__debug__" : Str)) = false := by decide) (hcd : (x == ("__classdict__" : Str)) = false := by decide) : PE X (.Name x pos) (tVar i) := by
  intro pins s σ H Q I h
  obtain ⟨v, e, h⟩ := h
  obtain ⟨m, hn, hl⟩ := I.loc
  obtain ⟨u, r, l⟩ := hl i x v hN e hv
  have fin : EP X pins σ Q u s := ⟨v, H, I, r, h⟩
  rcases l with ⟨hk, hm⟩ | ⟨hk, c, hc, hcell⟩
  · exact wpAny_Name (wpAny_loadName_local I.ok.kind hk hn hm fin) hd
  · rcases hk with hk | hk
    · exact wpAny_Name (wpAny_loadName_cell I.ok.kind hk hc hcell fin) hd
    · exact wpAny_Name (wpAny_loadName_free I.ok.kind hk hc hcell fin hcd) hd
theorem pe_int {i j pos} : PE X (.Constant (.int i) j pos) (tC (.int i)) := fun _ _ _ H _ I h => wpAny_Constant_int ⟨.int i, H, I.tok _, ⟨_, rfl⟩, h⟩
theorem pe_bl {b j pos} : PE X (.Constant (.bool b) j pos) (tC (.bl b)) := fun _ _ _ H _ I h => Constant_bool ⟨.bl b, H, I, rfl, h⟩
theorem pe_non {j pos} : PE X (.Constant .none j pos) (tC .non) := fun _ _ _ H _ I h => Constant_none ⟨.non, H, I, rfl, h⟩
theorem pe_str {x j pos} : PE X (.Constant (.str x) j pos) (tC (.str x)) := fun _ _ _ H _ I h => Calls.Constant_str ⟨.str x, H, I.tok _, ⟨_, rfl⟩, h⟩
def Gl (X : Cx) (x : Str) : Prop := X.env.kindOf x = some .globalImplicit
theorem ld_glob {E : Value → Shared → Prop} {pins : List (Addr × Obj)} {s : Shared} {σ : St} {H : Hp} {x : Str} {u : Value} {pos : Pos} {Q : Value → Shared → Prop} (I : Inv X pins σ H s) (hg : Gl X x) (hm : X.mg x = some u) (h : Q u s)
    (hd : (x == ("__debug__" : Str)) = false := by decide) : wpAny (model X.prog X.w) X.A (eval (.Name x pos) X.env) Q E s :=
  Calls.Name_function_global I.ok.kind hg (Calls.loadGlobal_global (by rw [I.ok.glob]; exact I.mod.glob.keeps I.bk) hm h) hd
theorem ld_blt {E : Value → Shared → Prop} {pins : List (Addr × Obj)} {s : Shared} {σ : St} {H : Hp} {x : Str} {u : Value} {pos : Pos} {Q : Value → Shared → Prop} (I : Inv X pins σ H s) (hg : Gl X x) (hm : X.mg x = none) (hv : bootBuiltins x = some u) (h : Q u s)
    (hn : x ≠ "__name__" := by decide) (hd : (x == ("__debug__" : Str)) = false := by decide) : wpAny (model X.prog X.w) X.A (eval (.Name x pos) X.env) Q E s := by
  obtain ⟨mb, h1, h2⟩ := I.mod.blt
  exact Calls.Name_function_global I.ok.kind hg (Calls.loadGlobal_builtin (by rw [I.ok.glob]; exact I.mod.glob.keeps I.bk) hm (by rw [I.ok.blt]; exact h1.keeps I.bk) ((h2 x hn).trans hv) h) hd
theorem pe_glob {x : Str} {v : V} {u : Value} {pos : Pos} (hg : Gl X x) (hm : X.mg x = some u) (r : RelV v u) (hd : (x == ("__debug__" : Str)) = false := by decide) : PE X (.Name x pos) (tC v) :=
  fun _ _ _ H _ I h => ld_glob I hg hm ⟨v, H, I, r, h⟩ hd
theorem pe_bltn {x : Str} {v : V} {u : Value} {pos : Pos} (hg : Gl X x) (hm : X.mg x = none) (hv : bootBuiltins x = some u) (r : RelV v u) (hn : x ≠ "__name__" := by decide) (hd : (x == ("__debug__" : Str)) = false := by decide) : PE X (.Name x pos) (tC v) :=
  fun _ _ _ H _ I h => ld_blt I hg hm hv ⟨v, H, I, r, h⟩ hn hd
variable {a b : Expr} {ta tb : TE} {pos : Pos}
inductive IsBl (x : V) (H : Hp) (Q : Bool → Hp → Prop) : Prop
  | mk (c : Bool) (e : x = .bl c) (q : Q c H) : IsBl x H Q
def tB (t : TE) : TT := fun σ H Q => t σ H fun x H1 => IsBl x H1 Q
theorem pt_val {e : Expr} {t : TE} (h : PE X e t) (he : ∀ whole, isTrue e X.env whole = (do let v ← whole; standAt e.pos; holding [v] (truthy v)) := by intro _; rfl) : PT X e (tB t) := by
  intro pins s σ H Q I hw
  refine isTrue_plain (thn (h pins s σ H _ I hw) fun v s1 ⟨x, H1, I1, r1, q1⟩ => ?_) (he _)
  obtain ⟨d, rfl, q⟩ := q1
  cases r1
  exact wpAny_truthy_bool ⟨H1, I1, q⟩
variable {tA tB' : TT} {rest : List Expr}
def tAnd (t u : TT) : TT := fun σ H Q => t σ H fun c H1 => if c = true then u σ H1 Q else Q false H1
def tOr (t u : TT) : TT := fun σ H Q => t σ H fun c H1 => if c = true then Q true H1 else u σ H1 Q
def tNot (t : TT) : TT := fun σ H Q => t σ H fun c H1 => Q (!c) H1
theorem pw_and1 (ha : PT X a tA) : PW X (.BoolOp .And [a] pos) tA := by
  intro wh pins s σ H Q I h
  refine isTrue_and (thn (ha pins s σ H Q I h) fun c s1 e => ?_)
  cases c with
  | true => exact isTrue_and_nil e
  | false => exact e
theorem pw_or1 (ha : PT X a tA) : PW X (.BoolOp .Or [a] pos) tA := by
  intro wh pins s σ H Q I h
  refine isTrue_or (thn (ha pins s σ H Q I h) fun c s1 e => ?_)
  cases c with
  | false => exact isTrue_or_nil e
  | true => exact e
theorem pw_and (ha : PT X a tA) (hb : PW X (.BoolOp .And (b :: rest) pos) tB') : PW X (.BoolOp .And (a :: b :: rest) pos) (tAnd tA tB') := by
  intro wh pins s σ H Q I h
  refine isTrue_and (thn (ha pins s σ H _ I h) fun c s1 ⟨H1, I1, q1⟩ => ?_)
  cases c with
  | true => exact hb wh pins s1 σ H1 Q I1 q1
  | false => exact ⟨H1, I1, q1⟩
theorem pw_or (ha : PT X a tA) (hb : PW X (.BoolOp .Or (b :: rest) pos) tB') : PW X (.BoolOp .Or (a :: b :: rest) pos) (tOr tA tB') := by
  intro wh pins s σ H Q I h
  refine isTrue_or (thn (ha pins s σ H _ I h) fun c s1 ⟨H1, I1, q1⟩ => ?_)
  cases c with
  | true => exact ⟨H1, I1, q1⟩
  | false => exact hb wh pins s1 σ H1 Q I1 q1
theorem pt_not (ha : PT X a tA) : PT X (.UnaryOp .Not a pos) (tNot tA) := by
  intro pins s σ H Q I h
  exact isTrue_not (ha pins s σ H (fun c H1 => Q (!c) H1) I h)
def tAndV (ta tb : TE) : TE := fun σ H Q => ta σ H fun x H1 => ∃ c, x = .bl c ∧ if c = true then tb σ H1 Q else Q (.bl false) H1
def tOrV (ta tb : TE) : TE := fun σ H Q => ta σ H fun x H1 => ∃ c, x = .bl c ∧ if c = true then Q (.bl true) H1 else tb σ H1 Q
def tNotV (ta : TE) : TE := fun σ H Q => ta σ H fun x H1 => ∃ c, x = .bl c ∧ Q (.bl (!c)) H1
theorem pe_one {op} {t : TE} (h : PE X a t) : PE X (.BoolOp op [a] pos) t := fun pins s σ H Q I hw => BoolOp_one (h pins s σ H Q I hw)
theorem pe_and (ha : PE X a ta) (hb : PE X (.BoolOp .And (b :: rest) pos) tb) : PE X (.BoolOp .And (a :: b :: rest) pos) (tAndV ta tb) := by
  intro pins s σ H Q I h
  refine BoolOp_and (thn (ha pins s σ H _ I h) fun v s1 ⟨x, H1, I1, r1, q1⟩ => ?_)
  obtain ⟨c, rfl, q1⟩ := q1
  cases r1
  refine wpAny_truthy_bool ?_
  cases c with
  | true => exact hb pins s1 σ H1 Q I1 q1
  | false => exact ⟨.bl false, H1, I1, rfl, q1⟩
theorem pe_or (ha : PE X a ta) (hb : PE X (.BoolOp .Or (b :: rest) pos) tb) : PE X (.BoolOp .Or (a :: b :: rest) pos) (tOrV ta tb) := by
  intro pins s σ H Q I h
  refine BoolOp_or (thn (ha pins s σ H _ I h) fun v s1 ⟨x, H1, I1, r1, q1⟩ => ?_)
  obtain ⟨c, rfl, q1⟩ := q1
  cases r1
  refine wpAny_truthy_bool ?_
  cases c with
  | false => exact hb pins s1 σ H1 Q I1 q1
  | true => exact ⟨.bl true, H1, I1, rfl, q1⟩
theorem pe_not (ha : PE X a ta) : PE X (.UnaryOp .Not a pos) (tNotV ta) := by
  intro pins s σ H Q I h
  refine UnaryOp_ (thn (ha pins s σ H _ I h) fun v s1 ⟨x, H1, I1, r1, q1⟩ => ?_)
  obtain ⟨c, rfl, q1⟩ := q1
  cases r1
  exact not_of (wpAny_truthy_bool ⟨.bl (!c), H1, I1, rfl, q1⟩)
def tIf (t : TT) (ta tb : TE) : TE := fun σ H Q => t σ H fun c H1 => if c = true then ta σ H1 Q else tb σ H1 Q
theorem pe_ifExp {c : Expr} (hc : PT X c tA) (ha : PE X a ta) (hb : PE X b tb) : PE X (.IfExp c a b pos) (tIf tA ta tb) := by
  intro pins s σ H Q I h
  refine wpAny_IfExp (thn (hc pins s σ H _ I h) fun d s1 ⟨H1, I1, q1⟩ => ?_)
  cases d with
  | true => exact ha pins s1 σ H1 Q I1 q1
  | false => exact hb pins s1 σ H1 Q I1 q1
end
end L2
namespace L2
open PySem PySem.Spec PyProof.Rows
def SqL (K : PySem.W.Frag) (H : Hp) (a : Addr) (xs : List V) : Prop :=
  Rd H a (.lst xs) ∨
    ∃ (o : Obj) (its : Array Value) (n : Nat), K.lookup a = some o ∧ o.cls = .type "list" ∧ o.dict = none ∧ o.data = .seq its n ∧ its.size ≤ sizeLine ∧ Vals xs its.toList
def SqT (K : PySem.W.Frag) (H : Hp) (a : Addr) (xs : List V) : Prop :=
  Rd H a (.tup xs) ∨
    ∃ (o : Obj) (its : Array Value) (n : Nat), K.lookup a = some o ∧ o.cls = .type "tuple" ∧ o.data = .seq its n ∧ its.size ≤ sizeLine ∧ Vals xs its.toList
def absV : Value → Option V
  | .none => some .non
  | .bool b => some (.bl b)
  | .int i _ => some (.int i)
  | .str x _ => some (.str x)
  | .bytes b _ => some (.byt b)
  | .float b _ => some (.flt b)
  | .ref a => some (.ref a)
  | .type n => some (.ty n)
  | _ => none
theorem RelV.abs {x : V} {u : Value} (r : RelV x u) : absV u = some x := by
  cases x with
  | non => cases r; rfl
  | bl _ => cases r; rfl
  | int _ => obtain ⟨t, rfl⟩ := r; rfl
  | str _ => obtain ⟨t, rfl⟩ := r; rfl
  | byt _ => obtain ⟨t, rfl⟩ := r; rfl
  | flt _ => obtain ⟨t, rfl⟩ := r; rfl
  | ref _ => cases r; rfl
  | ty _ => cases r; rfl
theorem RelV.inj {x y : V} {u : Value} (r : RelV x u) (q : RelV y u) : x = y := Option.some.inj (r.abs.symm.trans q.abs)
theorem Vals.inj : ∀ {xs ys : List V} {us : List Value}, Vals xs us → Vals ys us → xs = ys
  | _, _, _, .nil, .nil => rfl
  | _, _, _, .cons r t, .cons r' t' => by rw [r.inj r', Vals.inj t t']
section
variable {X : Cx} {pins : List (Addr × Obj)} {σ : St} {H : Hp} {s : Shared} {a : Addr} {xs ys : List V}
theorem SqL.of {K : PySem.W.Frag} (h : H a = some (.lst xs)) : SqL K H a xs := .inl (.inl h)
theorem SqT.of {K : PySem.W.Frag} (h : H a = some (.tup xs)) : SqT K H a xs := .inl (.inl h)
theorem Inv.list (I : Inv X pins σ H s) (h : SqL X.K H a xs) : ∃ its : List Value, Vals xs its ∧ PlainL s.heap a its.toArray ∧ xs.length ≤ sizeLine := by
  rcases h with h | ⟨o, its, n, hk, hc, hd, hs, hz, r⟩
  · obtain ⟨z, its, n, r, e⟩ := h.ok I.hok
    exact ⟨its, r, ⟨_, n, e, rfl, rfl, rfl⟩, z⟩
  · refine ⟨its.toList, r, ⟨o, n, I.kIn a o hk, hc, hd, by simpa using hs⟩, ?_⟩
    have e := r.length
    simp only [Array.length_toList] at e
    omega
theorem Inv.tuple (I : Inv X pins σ H s) (h : SqT X.K H a xs) : ∃ its : List Value, Vals xs its ∧ IsTup s.heap a its.toArray ∧ xs.length ≤ sizeLine := by
  rcases h with h | ⟨o, its, n, hk, hc, hs, hz, r⟩
  · obtain ⟨z, its, r, p⟩ := h.ok I.hok
    exact ⟨its, r, p, z⟩
  · refine ⟨its.toList, r, ⟨o, I.kIn a o hk, hc, n, by simpa using hs⟩, ?_⟩
    have e := r.length
    simp only [Array.length_toList] at e
    omega
theorem Inv.list_inj (I : Inv X pins σ H s) (h : SqL X.K H a xs) (h' : SqL X.K H a ys) : xs = ys := by
  obtain ⟨its, r, ⟨o, n, e, _, _, d⟩, _⟩ := I.list h
  obtain ⟨its', r', ⟨o', n', e', _, _, d'⟩, _⟩ := I.list h'
  rw [e] at e'; cases e'
  rw [d] at d'
  injection d' with d1 _
  have : its = its' := by simpa using congrArg Array.toList d1
  subst this
  exact r.inj r'
theorem Inv.tuple_inj (I : Inv X pins σ H s) (h : SqT X.K H a xs) (h' : SqT X.K H a ys) : xs = ys := by
  obtain ⟨its, r, ⟨o, e, _, n, d⟩, _⟩ := I.tuple h
  obtain ⟨its', r', ⟨o', e', _, n', d'⟩, _⟩ := I.tuple h'
  rw [e] at e'; cases e'
  rw [d] at d'
  injection d' with d1 _
  have : its = its' := by simpa using congrArg Array.toList d1
  subst this
  exact r.inj r'
end
abbrev Cx.wish (X : Cx) (E : Value → Shared → Prop) : Cx := { X with xe := E }
abbrev Cx.nox (X : Cx) : Cx := X.wish fun _ _ => False
theorem Cx.Ok.wish {X : Cx} (ok : X.Ok) (E : Value → Shared → Prop) : (X.wish E).Ok :=
  ⟨ok.mod, ok.kind, ok.glob, ok.blt, ok.above, ok.inj, ok.has, ok.cab, ok.hd, ok.frames, ok.stk, ok.exf, ok.bs, ok.bsz, ok.noex, ok.exfs, ok.funs, ok.frf⟩
theorem Cx.Ok.unwish {X : Cx} {E : Value → Shared → Prop} (ok : (X.wish E).Ok) : X.Ok :=
  ⟨ok.mod, ok.kind, ok.glob, ok.blt, ok.above, ok.inj, ok.has, ok.cab, ok.hd, ok.frames, ok.stk, ok.exf, ok.bs, ok.bsz, ok.noex, ok.exfs, ok.funs, ok.frf⟩
section
variable {X : Cx} {pins : List (Addr × Obj)} {σ : St} {H : Hp} {s : Shared} {E : Value → Shared → Prop}
theorem Inv.wish (I : Inv X pins σ H s) (E : Value → Shared → Prop) : Inv (X.wish E) pins σ H s := ⟨I.ok.wish E, I.os, I.bare, I.base, I.loc, I.cell, I.free, I.freeC, I.pin, I.hok, I.len⟩
theorem Inv.unwish (I : Inv (X.wish E) pins σ H s) : Inv X pins σ H s := ⟨I.ok.unwish, I.os, I.bare, I.base, I.loc, I.cell, I.free, I.freeC, I.pin, I.hok, I.len⟩
theorem SP.unwish {D : Ends} {f : Flow} {s' : Shared} (h : SP (X.wish E) pins D f s') : SP X pins D f s' := by
  cases f with
  | next => obtain ⟨σ', H', I, q⟩ := h; exact ⟨σ', H', I.unwish, q⟩
  | brk => obtain ⟨σ', H', I, q⟩ := h; exact ⟨σ', H', I.unwish, q⟩
  | cont => obtain ⟨σ', H', I, q⟩ := h; exact ⟨σ', H', I.unwish, q⟩
  | ret u => obtain ⟨v, σ', H', I, r, q⟩ := h; exact ⟨v, σ', H', I.unwish, r, q⟩
theorem PSs.nox {st : List Stmt} {t : TS} (h : PSs X.nox st t) : PSs X st t := fun pins s σ H D I hw =>
  wpAny_mono (h pins s σ H D (I.wish _) hw) (fun _ _ q => q.unwish) fun _ _ z => False.elim z
end
section
variable {X : Cx} {st : Stmt} {rest : List Stmt} {t u : TS} {e : Expr} {te : TE} {pos : Pos}
def tNext : TS := fun D σ H => D.nx σ H
def tSeq (t u : TS) : TS := fun D σ H => t { D with nx := u D } σ H
theorem pss_nil : PSs X [] tNext := fun _ _ σ H _ I h => wpAny_execs_nil ⟨σ, H, I, h⟩
theorem pss_cons (h1 : PS X st t) (h2 : PSs X rest u) : PSs X (st :: rest) (tSeq t u) := by
  intro pins s σ H D I h
  refine wpAny_execs_cons (thn (h1 pins s σ H { D with nx := u D } I h) fun f s1 q => ?_)
  cases f with
  | next =>
    obtain ⟨σ', H', I', q⟩ := q
    exact h2 pins s1 σ' H' D I' q
  | ret v => exact q
  | brk => exact q
  | cont => exact q
theorem pss_one (h1 : PS X st t) : PSs X [st] t := by
  intro pins s σ H D I h
  refine wpAny_execs_cons (thn (h1 pins s σ H D I h) fun f s1 q => ?_)
  cases f with
  | next => exact wpAny_execs_nil q
  | ret v => exact q
  | brk => exact q
  | cont => exact q
theorem Inv.quiet {pins : List (Addr × Obj)} {σ : St} {H : Hp} {s : Shared} (I : Inv X pins σ H s) : interactive X.env = false := by simp [interactive, I.ok.kind]
def tDrop (te : TE) : TS := fun D σ H => te σ H fun _ H1 => D.nx σ H1
theorem ps_expr (he : PE X e te) (hs : swapsWith e none pos.line X.env = pure false := by rfl) : PS X (.Expr e pos) (tDrop te) := by
  intro pins s σ H D I h
  exact wpAny_Expr_any (thn (he pins s σ H _ I h) fun v s1 ⟨x, H1, I1, r1, q1⟩ => ⟨σ, H1, I1, q1⟩) I.quiet hs
def tRet (te : TE) : TS := fun D σ H => te σ H D.rt
theorem ps_ret (he : PE X e te) : PS X (.Return (some e) pos) (tRet te) := by
  intro pins s σ H D I h
  exact wpAny_Return_some (thn (he pins s σ H _ I h) fun v s1 ⟨x, H1, I1, r1, q1⟩ => ⟨x, σ, H1, I1, r1, q1⟩)
def tIfS (c : TT) (t u : TS) : TS := fun D σ H => c σ H fun b H1 => if b = true then t D σ H1 else u D σ H1
theorem ps_if {c : Expr} {a b : List Stmt} {tc : TT} (hc : PT X c tc) (ha : PSs X a t) (hb : PSs X b u) : PS X (.If c a b pos) (tIfS tc t u) := by
  intro pins s σ H D I h
  refine wpAny_If (thn (hc pins s σ H _ I h) fun d s1 ⟨H1, I1, q1⟩ => ?_)
  cases d with
  | true => exact ha pins s1 σ H1 D I1 q1
  | false => exact hb pins s1 σ H1 D I1 q1
end
abbrev TG := V → St → Hp → (St → Hp → Prop) → Prop
abbrev TGs := List V → St → Hp → (St → Hp → Prop) → Prop
def PG (X : Cx) (target : Expr) (t : TG) : Prop :=
  ∀ (pins : List (Addr × Obj)) (s : Shared) (σ : St) (H : Hp) (v : V) (u : Value) (Q : St → Hp → Prop), Inv X pins σ H s → RelV v u → t v σ H Q →
    wpAny (model X.prog X.w) X.A (assign target X.env u) (fun _ s' => ∃ σ' H', Inv X pins σ' H' s' ∧ Q σ' H') X.xe s
def PGs (X : Cx) (ts : List Expr) (t : TGs) : Prop :=
  ∀ (pins : List (Addr × Obj)) (s : Shared) (σ : St) (H : Hp) (vs : List V) (us : List Value) (Q : St → Hp → Prop), Inv X pins σ H s → Vals vs us → t vs σ H Q →
    wpAny (model X.prog X.w) X.A (assignInOrder ((assignEach ts X.env).map (·.2)) us) (fun _ s' => ∃ σ' H', Inv X pins σ' H' s' ∧ Q σ' H') X.xe s
abbrev TSet := V → V → V → Hp → (Hp → Prop) → Prop
def PSet (X : Cx) (t : TSet) : Prop :=
  ∀ (pins : List (Addr × Obj)) (s : Shared) (σ : St) (H : Hp) (o i v : V) (ov iv u : Value) (Q : Hp → Prop), Inv X pins σ H s → RelV o ov → RelV i iv → RelV v u → t o i v H Q →
    wpAny (model X.prog X.w) X.A (setItem ov iv u) (fun _ s' => ∃ H', Inv X pins σ H' s' ∧ Q H') X.xe s
section
variable {X : Cx} {pos : Pos}
def gName (i : Nat) : TG := fun v σ H Q => Q (σ.set i (some v)) H
theorem pg_name {i : Nat} {x : Str} (hN : X.N.Nodup) (hi : X.N[i]? = some x) (hx : Loc X.env.scope x) (hf : X.fn x = true ∨ X.env.scope.names.lookup x = some .local := by first | exact .inl rfl | exact .inr rfl | assumption) : PG X (.Name x pos) (gName i) := by
  intro pins s σ H v u Q I r h
  exact wpAny_assign_Name (store_ok I hN hi hx r (fun s' I' => ⟨_, H, I', h⟩) hf)
def gNil : TGs := fun vs σ H Q => vs = [] ∧ Q σ H
def gCons (t : TG) (u : TGs) : TGs := fun vs σ H Q => ∃ v r, vs = v :: r ∧ t v σ H fun σ' H' => u r σ' H' Q
theorem pgs_nil : PGs X [] gNil := by
  intro pins s σ H vs us Q I r h
  obtain ⟨e, h⟩ := h
  subst e
  cases r
  exact assignInOrder_nil ⟨σ, H, I, h⟩
theorem pgs_cons {e : Expr} {es : List Expr} {t : TG} {u : TGs} (h1 : PG X e t) (h2 : PGs X es u)
    (hs : (assignEach (e :: es) X.env).map (·.2) = assign e X.env :: (assignEach es X.env).map (·.2) := by rfl) : PGs X (e :: es) (gCons t u) := by
  intro pins s σ H vs us Q I r h
  obtain ⟨v, vr, e1, h⟩ := h
  subst e1
  cases r with
  | cons r rr =>
    rw [hs]
    refine assignInOrder_cons (thn (h1 pins s σ H _ _ _ I r h) fun _ s1 ⟨σ1, H1, I1, q1⟩ => ?_)
    exact h2 pins s1 σ1 H1 _ _ Q I1 rr q1
def gTup (K : PySem.W.Frag) (n : Nat) (t : TGs) : TG := fun v σ H Q => ∃ a xs, v = .ref a ∧ SqT K H a xs ∧ xs.length = n ∧ t xs σ H Q
theorem pg_tup {es : List Expr} {k : Nat} {t : TGs} {n : Nat} (hc : X.calm = true) (h : PGs X es t)
    (hn : (assignEach es X.env).length = n := by rfl) (hst : (assignEach es X.env).findIdx? (·.1) = none := by rfl) : PG X (.Tuple es k pos) (gTup X.K n t) := by
  intro pins s σ H v u Q I r hw
  obtain ⟨a, xs, e1, hq, hl, hw⟩ := hw
  subst e1
  cases r
  obtain ⟨its, rv, ht, hz⟩ := I.tuple hq
  refine assign_Tuple_tuple (I.ok.hd hc) ht (by simp [hn, ← hl, rv.length]) hst fun h' hx => ?_
  have I1 : Inv X pins σ H { s with heap := h' } := I.kept (t' := s.toks) fun b o e => hx b o (Nat.ne_of_lt (Heap.lt_size e)) e
  exact h pins _ σ H xs _ Q I1 (by simpa using rv) hw
def gSub (to ti : TE) (t : TSet) : TG := fun v σ H Q => to σ H fun o H1 => ti σ H1 fun i H2 => t o i v H2 fun H3 => Q σ H3
theorem pg_sub {o i : Expr} {to ti : TE} {t : TSet} (ho : PE X o to) (hi : PE X i ti) (hs : PSet X t)
    (ha : ∀ v, assign (.Subscript o i pos) X.env v = (do
      let ov ← holding [v] (eval o X.env)
      let iv ← holding [v, ov] (eval i X.env)
      standAt pos
      holding [v, ov, iv] (setItem ov iv v)
      release [v, ov, iv] []) := by intro _; rfl) : PG X (.Subscript o i pos) (gSub to ti t) := by
  intro pins s σ H v u Q I r h
  rw [ha]
  refine wpAny_bind (wpAny_holding (thn (ho pins s σ H _ I h) fun ov s1 ⟨x, H1, I1, r1, q1⟩ => ?_))
  refine wpAny_bind (wpAny_holding (thn (hi pins s1 σ H1 _ I1 q1) fun iv s2 ⟨y, H2, I2, r2, q2⟩ => ?_))
  refine wpAny_bind (wpAny_standAt (wpAny_bind (wpAny_holding (thn (hs pins s2 σ H2 x y v ov iv u _ I2 r1 r2 r q2) fun _ s3 ⟨H3, I3, q3⟩ => ?_))))
  exact wpAny_release ⟨σ, H3, I3, q3⟩
def tAsg (te : TE) (g : TG) : TS := fun D σ H => te σ H fun x H1 => g x σ H1 D.nx
theorem ps_asg {tg e : Expr} {te : TE} {g : TG} (he : PE X e te) (hg : PG X tg g) (hs : swapsWithSole [tg] e pos.line X.env = pure false := by rfl) (hw : swappedStores [tg] e X.env = pure none := by rfl)
    (h1 : (assignEach [tg] X.env).map (·.2) = [assign tg X.env] := by rfl) : PS X (.Assign [tg] e pos) (tAsg te g) := by
  intro pins s σ H D I h
  refine wpAny_Assign_stores (thn (he pins s σ H _ I h) fun v s1 ⟨x, H1, I1, r1, q1⟩ => ?_) hs hw
  rw [h1]
  exact thn (hg pins s1 σ H1 x v _ I1 r1 q1) fun _ s2 q => q
theorem ps_set {i : Nat} {x : Str} {e : Expr} {te : TE} {pos' : Pos} (hN : X.N.Nodup) (hi : X.N[i]? = some x) (hx : Loc X.env.scope x) (he : PE X e te) (hs : swapsWith e (some (.Name x pos')) pos.line X.env = pure false := by rfl) (hf : X.fn x = true ∨ X.env.scope.names.lookup x = some .local := by first | exact .inl rfl | exact .inr rfl | assumption) :
    PS X (.Assign [.Name x pos'] e pos) (tAsg te (gName i)) := by
  intro pins s σ H D I h
  refine wpAny_Assign_Name (thn (he pins s σ H _ I h) fun v s1 ⟨y, H1, I1, r1, q1⟩ => ?_) hs
  exact store_ok I1 hN hi hx r1 (fun s2 I2 => ⟨_, H1, I2, q1⟩) hf
inductive ipI (f : Int → Int → Int) (x y : V) (H : Hp) (Q : VK) : Prop
  | mk (i j : Int) (e1 : x = .int i) (e2 : y = .int j) (q : Q (.int (f i j)) H) : ipI f x y H Q
end
section
variable {X : Cx} {pos : Pos}
def tWhile (c : TT) (tb : TS) : TS := fun D σ H => ∃ W : Nat → St → Hp → Prop, (∃ m, W m σ H) ∧ ∀ m σ H, W m σ H →
  c σ H fun b H1 => if b = true then ∃ N : St → Hp → Prop, (∀ σ' H', N σ' H' → ∃ m', m' < m ∧ W m' σ' H') ∧ tb { D with nx := N, ct := N, bk := D.nx } σ H1 else D.nx σ H1
theorem ps_while {c : Expr} {body : List Stmt} {tc : TT} {tb : TS} (hp : PassesOwn (model X.prog X.w) X.A X.env X.xe) (hc : PT X c tc) (hb : PSs X body tb) : PS X (.While c body [] pos) (tWhile tc tb) := by
  intro pins s σ H D I h
  obtain ⟨W, ⟨m0, w0⟩, turn⟩ := h
  refine wpAny_While (codeAny_whileLoop (fun n s' => ∃ σ' H', Inv X pins σ' H' s' ∧ W n σ' H') ?_ m0 ⟨σ, H, I, w0⟩)
  rintro n s1 ⟨σ1, H1, I1, w1⟩
  refine wpAny_passesOwn hp (thn (hc pins s1 σ1 H1 _ I1 (turn n σ1 H1 w1)) fun b s2 ⟨H2, I2, q2⟩ => ?_)
  cases b with
  | true =>
    obtain ⟨N, hN, q2⟩ := q2
    rw [if_pos rfl]
    refine wpAny_passesOwn hp (thn (hb pins s2 σ1 H2 _ I2 q2) fun f s3 q3 => ?_)
    cases f with
    | next =>
      obtain ⟨σ3, H3, I3, n3⟩ := q3
      obtain ⟨m', hm, w3⟩ := hN σ3 H3 n3
      exact ⟨m', hm, σ3, H3, I3, w3⟩
    | cont =>
      obtain ⟨σ3, H3, I3, n3⟩ := q3
      obtain ⟨m', hm, w3⟩ := hN σ3 H3 n3
      exact ⟨m', hm, σ3, H3, I3, w3⟩
    | brk => exact q3
    | ret v => exact q3
  | false =>
    rw [if_neg Bool.false_ne_true]
    exact wpAny_execs_nil ⟨σ1, H2, I2, q2⟩
end
structure It where
  go : Nat → Hp → Prop
  yld : Nat → Hp → V → Hp → Prop
  stop : Nat → Hp → Prop
def FpOk (X : Cx) (pins : List (Addr × Obj)) (H : Hp) (b : Addr) : Prop :=
  H b = none ∧ b ≠ X.env.locals ∧ b ∉ X.fs ∧ (b ∈ X.ex ∨ X.s₀.heap.objs.size ≤ b) ∧ (∀ x c, X.env.cells.lookup x = some c → c ≠ b) ∧ ∀ p ∈ X.pn ++ pins, p.1 ≠ b
theorem Inv.fpOk {X : Cx} {pins : List (Addr × Obj)} {σ : St} {H H' : Hp} {s : Shared} {b : Addr} (I : Inv X pins σ H s) (hb : s.heap.objs.size ≤ b) (hn : H' b = none) : FpOk X pins H' b := by
  refine ⟨hn, Nat.ne_of_gt (Nat.lt_of_lt_of_le I.lt hb), I.nofs hb, .inr (Nat.le_trans I.sz hb), fun x c e z => ?_, fun p hp z => ?_⟩
  · obtain ⟨v, q⟩ := I.cell x c e
    exact absurd (Nat.lt_of_lt_of_le q.lt (by rw [z]; exact hb)) (Nat.lt_irrefl _)
  · exact absurd (Nat.lt_of_lt_of_le (Heap.lt_size (I.pin p hp).1) (by rw [z]; exact hb)) (Nat.lt_irrefl _)
structure Turn (P : Program) (w : World) (K : PySem.W.Frag) (tg : Expr) (J : It) (fp : List Addr) (it : Addr) (tn : Nat → Heap → Prop) : Prop where
  mem : it ∈ fp
  obj : ∀ i h, tn i h → ∀ b ∈ fp, ∃ o, h.get? b = some o ∧ ∀ v, o.data ≠ .cell v
  keep : ∀ i h h', tn i h → (∀ b ∈ fp, ∀ o, h.get? b = some o → h'.get? b = some o) → tn i h'
  item : ∀ (X : Cx), X.prog = P → X.w = w → X.K = K → X.calm = true → ∀ (i : Nat) (pins : List (Addr × Obj)) (s : Shared) (σ : St) (H : Hp) (E : Value → Shared → Prop), Inv X pins σ H s → (∀ b ∈ fp, FpOk X pins H b) → tn i s.heap → J.go i H →
    wpAny (model P w) X.A (pyNext (.ref it)) (fun r s1 => ∃ u, r = some u ∧
      wpAny (model P w) X.A (letOwnedTupleGo tg (.ref it) u) (fun _ s2 => ∃ x H', Inv X pins σ H' s2 ∧ RelV x u ∧ J.yld i H x H' ∧ tn (i + 1) s2.heap ∧ ∀ b ∈ fp, H' b = none) E s1) E s
  done : ∀ (X : Cx), X.prog = P → X.w = w → X.K = K → X.calm = true → ∀ (i : Nat) (pins : List (Addr × Obj)) (s : Shared) (σ : St) (H : Hp) (E : Value → Shared → Prop), Inv X pins σ H s → (∀ b ∈ fp, FpOk X pins H b) → tn i s.heap → J.stop i H →
    wpAny (model P w) X.A (pyNext (.ref it)) (fun r s1 => r = none ∧ Inv X pins σ H s1) E s
  self : ∀ (A : Around) (i : Nat) (s : Shared) (Q : Value → Shared → Prop) (E : Value → Shared → Prop), tn i s.heap → Q (.ref it) s → wpAny (model P w) A (pyIter (.ref it)) Q E s
abbrev TI := St → Hp → (It → Hp → Prop) → Prop
def PIE (X : Cx) (pins : List (Addr × Obj)) (σ : St) (tg : Expr) (R : It → Hp → Prop) (itv : Value) (s2 : Shared) : Prop :=
  ∃ (it : Addr) (fp : List Addr) (tn : Nat → Heap → Prop) (J : It) (H' : Hp), itv = .ref it ∧ Inv X pins σ H' s2 ∧ Turn X.prog X.w X.K tg J fp it tn ∧ tn 0 s2.heap ∧ (∀ b ∈ fp, FpOk X pins H' b) ∧ R J H'
def PI (X : Cx) (tg iter : Expr) (wi : TI) : Prop :=
  ∀ (pins : List (Addr × Obj)) (s : Shared) (σ : St) (H : Hp) (R : It → Hp → Prop), Inv X pins σ H s → wi σ H R →
    wpAny (model X.prog X.w) X.A (eval iter X.env) (fun v s1 => wpAny (model X.prog X.w) X.A (pyIter v) (PIE X pins σ tg R) X.xe s1) X.xe s
theorem go_of {M : Model} {A : Around} {E : Value → Shared → Prop} {s : Shared} {tg : Expr} {it : Addr} {u : Value} {o : Obj} {n : String} {vs : Array Value} {Q : Unit → Shared → Prop} (ho : s.heap.get? it = some o) (hc : o.cls = .type n) (hd : o.data = .fields vs)
    (hn : ["enumerate", "zip", "dict_itemiterator", "dict_reverseitemiterator", "odict_iterator", "itertools.zip_longest", "itertools.pairwise"].contains n = false) (hQ : Q () s) : wpAny M A (letOwnedTupleGo tg (.ref it) u) Q E s := by
  unfold letOwnedTupleGo
  cases tg <;> first
    | exact wpAny_pure hQ
    | (cases u <;> first
        | exact wpAny_pure hQ
        | (refine wpAny_bind (wpAny_load ho ?_)
           rw [hc, hd]
           show wpAny M A (if (["enumerate", "zip", "dict_itemiterator", "dict_reverseitemiterator", "odict_iterator", "itertools.zip_longest", "itertools.pairwise"].contains n && vs[0]? == some (rawInt _)) = true then _ else _) Q E s
           rw [if_neg (by intro h; rw [hn, Bool.false_and] at h; cases h)]
           exact wpAny_pure hQ))
def Itl (K : PySem.W.Frag) (a : Addr) : It :=
  ⟨fun i H => ∃ xs x, SqL K H a xs ∧ xs[i]? = some x, fun i H x H' => H' = H ∧ ∀ xs, SqL K H a xs → xs[i]? = some x, fun i H => ∃ xs, SqL K H a xs ∧ xs.length ≤ i⟩
def Itt (K : PySem.W.Frag) (a : Addr) : It :=
  ⟨fun i H => ∃ xs x, SqT K H a xs ∧ xs[i]? = some x, fun i H x H' => H' = H ∧ ∀ xs, SqT K H a xs → xs[i]? = some x, fun i H => ∃ xs, SqT K H a xs ∧ xs.length ≤ i⟩
def Itr (lo : Int) (n : Nat) : It := ⟨fun i _ => i < n, fun i H x H' => H' = H ∧ x = .int (lo + i), fun i _ => n ≤ i⟩
theorem turn_list {P : Program} {w : World} {K : PySem.W.Frag} {tg : Expr} (a it : Addr) : Turn P w K tg (Itl K a) [it] it (fun i h => h.IsListIter it a i) where
  mem := by simp
  obj := fun i h st b hb => by
    have e : b = it := by simpa using hb
    subst e
    obtain ⟨o, e, c, d⟩ := st
    exact ⟨o, e, fun v z => by rw [d] at z; cases z⟩
  keep := fun i h h' st k => st.at fun o e => k it (by simp) o e
  item := by
    intro X hP hw hK hc i pins s σ H E I hf st hg
    subst hP hw hK
    obtain ⟨xs, x, hq, hx⟩ := hg
    obtain ⟨its, rv, p, hz⟩ := I.list hq
    obtain ⟨u, hu, ru⟩ := rv.get hx
    obtain ⟨f0, f1, f2, f3, f4, f5⟩ := hf it (by simp)
    refine wpAny_pyNext_list_item st p.isList (x := u) (by simpa using hu) fun h' st' sb => ?_
    have I1 : Inv X pins σ H { s with heap := h' } := I.turned (t' := s.toks) (fun b o hb e => (sb.2 b hb).trans e) f0 f1 f3 f4 f5
    obtain ⟨o, e, c, d⟩ := id st'
    exact ⟨u, rfl, go_of (s := { s with heap := h' }) e c d (by decide) ⟨x, H, I1, ru, ⟨rfl, fun ys hy => by rw [I.list_inj hy hq]; exact hx⟩, st', fun b hb => (hf b hb).1⟩⟩
  done := by
    intro X hP hw hK hc i pins s σ H E I hf st hg
    subst hP hw hK
    obtain ⟨xs, hq, hx⟩ := hg
    obtain ⟨its, rv, p, hz⟩ := I.list hq
    obtain ⟨f0, f1, f2, f3, f4, f5⟩ := hf it (by simp)
    have hl := rv.length
    exact wpAny_pyNext_list_end (I.ok.hd hc) st p.isList (by simp; omega) fun h' eb => ⟨rfl, I.turned (t' := s.toks) (fun b o hb e => eb b o hb e) f0 f1 f3 f4 f5⟩
  self := fun _ _ _ _ _ st h => wpAny_pyIter_listiter st h
theorem turn_tuple {P : Program} {w : World} {K : PySem.W.Frag} {tg : Expr} (a it : Addr) : Turn P w K tg (Itt K a) [it] it (fun i h => h.IsTupleIter it a i) where
  mem := by simp
  obj := fun i h st b hb => by
    have e : b = it := by simpa using hb
    subst e
    obtain ⟨o, e, c, d⟩ := st
    exact ⟨o, e, fun v z => by rw [d] at z; cases z⟩
  keep := fun i h h' st k => st.at fun o e => k it (by simp) o e
  item := by
    intro X hP hw hK hc i pins s σ H E I hf st hg
    subst hP hw hK
    obtain ⟨xs, x, hq, hx⟩ := hg
    obtain ⟨its, rv, p, hz⟩ := I.tuple hq
    obtain ⟨u, hu, ru⟩ := rv.get hx
    obtain ⟨f0, f1, f2, f3, f4, f5⟩ := hf it (by simp)
    refine wpAny_pyNext_tuple_item st (show s.heap.IsTuple a its.toArray from p) (x := u) (by simpa using hu) fun h' st' sb => ?_
    have I1 : Inv X pins σ H { s with heap := h' } := I.turned (t' := s.toks) (fun b o hb e => (sb.2 b hb).trans e) f0 f1 f3 f4 f5
    obtain ⟨o, e, c, d⟩ := id st'
    exact ⟨u, rfl, go_of (s := { s with heap := h' }) e c d (by decide) ⟨x, H, I1, ru, ⟨rfl, fun ys hy => by rw [I.tuple_inj hy hq]; exact hx⟩, st', fun b hb => (hf b hb).1⟩⟩
  done := by
    intro X hP hw hK hc i pins s σ H E I hf st hg
    subst hP hw hK
    obtain ⟨xs, hq, hx⟩ := hg
    obtain ⟨its, rv, p, hz⟩ := I.tuple hq
    obtain ⟨f0, f1, f2, f3, f4, f5⟩ := hf it (by simp)
    have hl := rv.length
    exact wpAny_pyNext_tuple_end (I.ok.hd hc) st (show s.heap.IsTuple a its.toArray from p) (by simp; omega) fun h' eb => ⟨rfl, I.turned (t' := s.toks) (fun b o hb e => eb b o hb e) f0 f1 f3 f4 f5⟩
  self := fun _ _ _ _ _ st h => wpAny_pyIter_tupleiter st h
theorem turn_range {P : Program} {w : World} {K : PySem.W.Frag} {tg : Expr} (it : Addr) (lo : Int) (n : Nat) : Turn P w K tg (Itr lo n) [it] it (fun i h => IsRangeIter h it (lo + (i : Nat) * 1) ((n : Int) - (i : Nat)) 1) where
  mem := by simp
  obj := fun i h st b hb => by
    have e : b = it := by simpa using hb
    subst e
    exact ⟨_, st, fun v z => by
      have z' : Data.fields _ = Data.cell v := z
      cases z'⟩
  keep := fun i h h' st k => k it (by simp) _ st
  item := by
    intro X hP hw hK hc i pins s σ H E I hf st hg
    subst hP hw hK
    obtain ⟨f0, f1, f2, f3, f4, f5⟩ := hf it (by simp)
    have W := Walks.range (prog := X.prog) (w := X.w) (I.ok.hd hc) it lo 1 n
    refine W.item i s _ _ hg st fun v h' tk hv st' kk => ?_
    obtain ⟨t, rfl⟩ := hv
    have I1 : Inv X pins σ H { s with heap := h', toks := tk } := I.turned (fun b o hb e => kk b o (by simpa using hb) e) f0 f1 f3 f4 f5
    refine ⟨_, rfl, go_of (s := { s with heap := h', toks := tk }) (n := "range_iterator") st' rfl rfl (by decide) ⟨.int (lo + i), H, I1, ⟨t, ?_⟩, ⟨rfl, rfl⟩, st', fun b hb => (hf b hb).1⟩⟩
    rw [Int.mul_one]
  done := by
    intro X hP hw hK hc i pins s σ H E I hf st hg
    subst hP hw hK
    obtain ⟨f0, f1, f2, f3, f4, f5⟩ := hf it (by simp)
    exact wpAny_pyNext_range_end (I.ok.hd hc) st (by have : n ≤ i := hg; omega) fun h' eb => ⟨rfl, I.turned (t' := s.toks) (fun b o hb e => eb b o hb e) f0 f1 f3 f4 f5⟩
  self := fun _ _ _ _ _ st h => wpAny_pyIter_rangeiter st h
end L2
namespace L2
open PySem PySem.Spec PyProof.Rows
section
variable {X : Cx} {tg : Expr}
inductive iLstR (K : PySem.W.Frag) (x : V) (H1 : Hp) (R : It → Hp → Prop) : Prop
  | mk (a : Addr) (e1 : x = .ref a) (e2 : ∃ xs, SqL K H1 a xs) (q : R (Itl K a) H1) : iLstR K x H1 R
def iList (K : PySem.W.Frag) (tl : TE) : TI := fun σ H R => tl σ H fun x H1 => iLstR K x H1 R
def iTup (K : PySem.W.Frag) (tl : TE) : TI := fun σ H R => tl σ H fun x H1 => ∃ a, x = .ref a ∧ (∃ xs, SqT K H1 a xs) ∧ R (Itt K a) H1
theorem pi_list {l : Expr} {tl : TE} (hl : PE X l tl) : PI X tg l (iList X.K tl) := by
  intro pins s σ H R I h
  refine thn (hl pins s σ H _ I h) fun v s1 ⟨x, H1, I1, r1, q1⟩ => ?_
  obtain ⟨a, e, ⟨xs, hq⟩, q⟩ := q1
  subst e
  cases r1
  obtain ⟨its, rv, p, hz⟩ := I1.list hq
  refine wpAny_pyIter_list p.isList ?_
  refine ⟨s1.heap.objs.size, [s1.heap.objs.size], _, _, H1, rfl, I1.kept (t' := s1.toks) fun b o e => Heap.get?_push_of_some _ e, turn_list a _, ⟨_, Heap.get?_push_size _ rfl, rfl, rfl⟩, fun b hb => ?_, q⟩
  have e : b = s1.heap.objs.size := by simpa using hb
  subst e
  exact I1.fpOk (Nat.le_refl _) (I1.hok.fresh (Nat.le_refl _))
theorem pi_tup {l : Expr} {tl : TE} (hl : PE X l tl) : PI X tg l (iTup X.K tl) := by
  intro pins s σ H R I h
  refine thn (hl pins s σ H _ I h) fun v s1 ⟨x, H1, I1, r1, q1⟩ => ?_
  obtain ⟨a, e, ⟨xs, hq⟩, q⟩ := q1
  subst e
  cases r1
  obtain ⟨its, rv, p, hz⟩ := I1.tuple hq
  refine wpAny_pyIter_tuple (show s1.heap.IsTuple a its.toArray from p) ?_
  refine ⟨s1.heap.objs.size, [s1.heap.objs.size], _, _, H1, rfl, I1.kept (t' := s1.toks) fun b o e => Heap.get?_push_of_some _ e, turn_tuple a _, ⟨_, Heap.get?_push_size _ rfl, rfl, rfl⟩, fun b hb => ?_, q⟩
  have e : b = s1.heap.objs.size := by simpa using hb
  subst e
  exact I1.fpOk (Nat.le_refl _) (I1.hok.fresh (Nat.le_refl _))
theorem range_it {pins : List (Addr × Obj)} {σ : St} {H : Hp} {s : Shared} {R : It → Hp → Prop} {E : Value → Shared → Prop} {lo hi : Int} {t u v : Tok} {tk : Nat} (I : Inv X pins σ H s) (h1 : -(2 ^ 62) ≤ lo) (h2 : lo < 2 ^ 62) (h3 : -(2 ^ 62) ≤ hi) (h4 : hi < 2 ^ 62)
    (q : R (Itr lo (hi - lo).toNat) H) : wpAny (model X.prog X.w) X.A (pyIter (.ref s.heap.objs.size)) (PIE X pins σ tg R) E { s with heap := s.heap.push { cls := .type "range", data := .fields #[.int lo t, .int hi u, .int 1 v] }, toks := tk } := by
  refine wpAny_pyIter_range (IsRange.new ..) (small_one h1 h2 h3 h4) ?_
  have I1 : Inv X pins σ H { s with heap := s.heap.push { cls := .type "range", data := .fields #[.int lo t, .int hi u, .int 1 v] }, toks := tk } := I.kept fun b o e => Heap.get?_push_of_some _ e
  refine ⟨(s.heap.push { cls := .type "range", data := .fields #[.int lo t, .int hi u, .int 1 v] }).objs.size, [(s.heap.push { cls := .type "range", data := .fields #[.int lo t, .int hi u, .int 1 v] }).objs.size], _, _, H, rfl,
    I1.kept (t' := tk) fun b o e => Heap.get?_push_of_some _ e, turn_range _ lo (hi - lo).toNat, ?_, fun b hb => ?_, q⟩
  · have e1 : lo + ((0 : Nat) : Int) * 1 = lo := by simp
    have e2 : (((hi - lo).toNat : Nat) : Int) - ((0 : Nat) : Int) = Builtin.Range.rangeSize lo hi 1 := by rw [rangeSize_one]; split <;> omega
    show IsRangeIter _ _ (lo + ((0 : Nat) : Int) * 1) ((((hi - lo).toNat : Nat) : Int) - ((0 : Nat) : Int)) 1
    rw [e1, e2]
    exact Heap.get?_push_size _ rfl
  · have e : b = (s.heap.push { cls := .type "range", data := .fields #[.int lo t, .int hi u, .int 1 v] }).objs.size := by simpa using hb
    subst e
    exact I1.fpOk (Nat.le_refl _) (I1.hok.fresh (Nat.le_refl _))
inductive iRngR (vs : List V) (H1 : Hp) (R : It → Hp → Prop) : Prop
  | mk (j : Int) (e1 : vs = [.int j]) (e2 : -(2 ^ 62) ≤ j) (e3 : j < 2 ^ 62) (q : R (Itr 0 j.toNat) H1) : iRngR vs H1 R
def iRng1 (ta : TA) : TI := fun σ H R => ta σ H fun vs H1 => iRngR vs H1 R
theorem pi_range1 {a : Expr} {ta : TA} {p pos : Pos} (hg : Gl X "range") (hm : X.mg "range" = none) (ha : PA X [a] ta) (hs : starEach [a] X.env = [(false, eval a X.env)] := by rfl) : PI X tg (.Call (.Name "range" p) [a] [] pos) (iRng1 ta) := by
  intro pins s σ H R I h
  refine Call_ (ld_blt I hg hm boot_range (PyProof.Rows.callWith_type1 (thn (ha pos pins s σ H _ I h) fun us s1 ⟨vs, H1, I1, r1, q1⟩ => ?_) hs rfl))
  obtain ⟨j, e, q1, q2, q⟩ := q1
  subst e
  cases r1 with
  | cons r rr =>
    cases rr
    obtain ⟨t, rfl⟩ := r
    exact call_range_1 (range_it I1 (by omega) (by omega) q1 q2 (by simpa using q))
def tFor (wi : TI) (g : TG) (tb : TS) : TS := fun D σ H => wi σ H fun J H1 => ∃ W : Nat → Nat → St → Hp → Prop, (∃ m, W 0 m σ H1) ∧ ∀ i m σ H, W i m σ H →
  (J.stop i H ∧ D.nx σ H) ∨ (J.go i H ∧ ∃ N : St → Hp → Prop, (∀ σ' H', N σ' H' → ∃ m', m' < m ∧ W (i + 1) m' σ' H') ∧ ∀ x H', J.yld i H x H' → g x σ H' fun σ2 H2 => tb { D with nx := N, ct := N, bk := D.nx } σ2 H2)
def pinsAt (fp : List Addr) (h : Heap) : List (Addr × Obj) := fp.filterMap fun b => (h.get? b).map fun o => (b, o)
theorem mem_pinsAt {fp : List Addr} {h : Heap} {b : Addr} {o : Obj} (hb : b ∈ fp) (e : h.get? b = some o) : (b, o) ∈ pinsAt fp h := List.mem_filterMap.mpr ⟨b, hb, by rw [e]; rfl⟩
theorem of_pinsAt {fp : List Addr} {h : Heap} {p : Addr × Obj} (hp : p ∈ pinsAt fp h) : p.1 ∈ fp ∧ h.get? p.1 = some p.2 := by
  obtain ⟨b, hb, e⟩ := List.mem_filterMap.mp hp
  cases q : h.get? b with
  | none => rw [q] at e; cases e
  | some o =>
    rw [q] at e
    have e' : (b, o) = p := Option.some.inj e
    subst e'
    exact ⟨hb, q⟩
theorem Inv.pinned {pins : List (Addr × Obj)} {σ : St} {H : Hp} {s : Shared} {fp : List Addr} (I : Inv X pins σ H s) (hf : ∀ b ∈ fp, FpOk X pins H b) (ho : ∀ b ∈ fp, ∃ o, s.heap.get? b = some o ∧ ∀ v, o.data ≠ .cell v) : Inv X (pins ++ pinsAt fp s.heap) σ H s :=
  I.pins_of fun p hp => (List.mem_append.mp hp).elim (fun z => I.pin p (List.mem_append_right _ z)) fun z => by
    obtain ⟨hb, e⟩ := of_pinsAt z
    obtain ⟨f0, f1, f2, _⟩ := hf p.1 hb
    obtain ⟨o, e', d⟩ := ho p.1 hb
    rw [e] at e'; cases e'
    exact ⟨e, f0, f1, f2, d⟩
theorem Inv.unpinned {pins pl : List (Addr × Obj)} {σ : St} {H : Hp} {s : Shared} (I : Inv X (pins ++ pl) σ H s) : Inv X pins σ H s := I.pins_of fun p hp => I.pin p (List.mem_append_right _ (List.mem_append_left _ hp))
theorem ps_for {iter : Expr} {body : List Stmt} {wi : TI} {g : TG} {tb : TS} {pos : Pos} (hp : PassesOwn (model X.prog X.w) X.A X.env X.xe) (hc : X.calm = true) (hi : PI X tg iter wi) (hg : PG X tg g) (hb : PSs X body tb)
    (hs : ∀ x, foldedSetIterable iter X.env x = pure x := by intro _; rfl) : PS X (.For tg iter body [] pos) (tFor wi g tb) := by
  intro pins s σ H D I h
  refine wpAny_For (thn (hi pins s σ H _ I h) fun v s1 h1 => thn h1 fun itv s2 h2 => ?_) hs
  obtain ⟨it, fp, tn, J, H2, e, I2, T, st2, f2, W, ⟨m0, w0⟩, turn⟩ := h2
  subst e
  have stat : ∀ {H' : Hp}, (∀ b ∈ fp, H' b = none) → ∀ b ∈ fp, FpOk X pins H' b := fun hn b hb => ⟨hn b hb, (f2 b hb).2⟩
  refine codeAny_forLoop_any (fun n s' => ∃ i σ' H', Inv X pins σ' H' s' ∧ tn i s'.heap ∧ (∀ b ∈ fp, H' b = none) ∧ W i n σ' H') ?_ m0 ⟨0, σ, H2, I2, st2, fun b hb => (f2 b hb).1, w0⟩
  rintro n s3 ⟨i, σ3, H3, I3, st3, fr3, w3⟩
  rcases turn i n σ3 H3 w3 with ⟨stop, qn⟩ | ⟨go, N, hN, step⟩
  · refine wpAny_passesOwn hp (thn (T.done X rfl rfl rfl hc i pins s3 σ3 H3 X.xe I3 (stat fr3) st3 stop) fun r s4 ⟨hr, I4⟩ => ?_)
    subst hr
    exact wpAny_execs_nil ⟨σ3, H3, I4, qn⟩
  · refine wpAny_passesOwn hp (thn (T.item X rfl rfl rfl hc i pins s3 σ3 H3 X.xe I3 (stat fr3) st3 go) fun r s4 ⟨u, hr, h4⟩ => ?_)
    subst hr
    refine wpAny_passesOwn hp (thn h4 fun _ s5 ⟨x, H5, I5, r5, y5, st5, fr5⟩ => ?_)
    have I5' := I5.pinned (stat fr5) (T.obj _ _ st5)
    refine wpAny_passesOwn hp (thn (hg _ s5 σ3 H5 x u _ I5' r5 (step x H5 y5)) fun _ s6 ⟨σ6, H6, I6, q6⟩ => ?_)
    refine wpAny_passesOwn hp (thn (hb _ s6 σ6 H6 _ I6 q6) fun f s7 q7 => ?_)
    have again : ∀ {σ7 : St} {H7 : Hp}, Inv X (pins ++ pinsAt fp s5.heap) σ7 H7 s7 → N σ7 H7 → ∃ m, m < n ∧ ∃ i σ' H', Inv X pins σ' H' s7 ∧ tn i s7.heap ∧ (∀ b ∈ fp, H' b = none) ∧ W i m σ' H' := fun {σ7 H7} I7 n7 => by
      obtain ⟨m', hm, w7⟩ := hN σ7 H7 n7
      refine ⟨m', hm, i + 1, σ7, H7, I7.unpinned, T.keep _ _ _ st5 fun b hb o e => (I7.pin (b, o) (List.mem_append_right _ (List.mem_append_right _ (mem_pinsAt hb e)))).1, fun b hb => ?_, w7⟩
      obtain ⟨o, e, d⟩ := T.obj _ _ st5 b hb
      exact (I7.pin (b, o) (List.mem_append_right _ (List.mem_append_right _ (mem_pinsAt hb e)))).2.1
    cases f with
    | next => obtain ⟨σ7, H7, I7, n7⟩ := q7; exact again I7 n7
    | cont => obtain ⟨σ7, H7, I7, n7⟩ := q7; exact again I7 n7
    | brk => obtain ⟨σ7, H7, I7, q7⟩ := q7; exact ⟨σ7, H7, I7.unpinned, q7⟩
    | ret v => obtain ⟨x7, σ7, H7, I7, r7, q7⟩ := q7; exact ⟨x7, σ7, H7, I7.unpinned, r7, q7⟩
end
theorem for_list {K : PySem.W.Frag} {a : Addr} {xs : List V} {g : TG} {tb : TS} {D : Ends} {σ : St} {H : Hp} (Pv : Nat → St → Hp → Prop) (h0 : Pv 0 σ H) (hl : ∀ i σ H, i ≤ xs.length → Pv i σ H → SqL K H a xs)
    (hs : ∀ i x σ H, xs[i]? = some x → Pv i σ H → g x σ H fun σ2 H2 => tb { D with nx := Pv (i + 1), ct := Pv (i + 1), bk := D.nx } σ2 H2) (hd : ∀ σ H, Pv xs.length σ H → D.nx σ H) :
    ∃ W : Nat → Nat → St → Hp → Prop, (∃ m, W 0 m σ H) ∧ ∀ i m σ H, W i m σ H →
      ((Itl K a).stop i H ∧ D.nx σ H) ∨ ((Itl K a).go i H ∧ ∃ N : St → Hp → Prop, (∀ σ' H', N σ' H' → ∃ m', m' < m ∧ W (i + 1) m' σ' H') ∧ ∀ x H', (Itl K a).yld i H x H' → g x σ H' fun σ2 H2 => tb { D with nx := N, ct := N, bk := D.nx } σ2 H2) := by
  refine ⟨fun i m σ H => m = xs.length - i ∧ i ≤ xs.length ∧ Pv i σ H, ⟨xs.length, by simp, Nat.zero_le _, h0⟩, ?_⟩
  rintro i m σ H ⟨rfl, hi, p⟩
  have q := hl i σ H hi p
  by_cases hlt : i < xs.length
  · refine .inr ⟨⟨xs, xs[i], q, by simp [hlt]⟩, Pv (i + 1), fun σ' H' p' => ⟨xs.length - (i + 1), by omega, rfl, hlt, p'⟩, fun x H' y => ?_⟩
    obtain ⟨e, y⟩ := y
    subst e
    exact hs i x σ _ (y xs q) p
  · have e : i = xs.length := by omega
    subst e
    exact .inl ⟨⟨xs, q, Nat.le_refl _⟩, hd σ H p⟩
theorem for_range {lo : Int} {n : Nat} {g : TG} {tb : TS} {D : Ends} {σ : St} {H : Hp} (Pv : Nat → St → Hp → Prop) (h0 : Pv 0 σ H)
    (hs : ∀ i σ H, i < n → Pv i σ H → g (.int (lo + i)) σ H fun σ2 H2 => tb { D with nx := Pv (i + 1), ct := Pv (i + 1), bk := D.nx } σ2 H2) (hd : ∀ σ H, Pv n σ H → D.nx σ H) :
    ∃ W : Nat → Nat → St → Hp → Prop, (∃ m, W 0 m σ H) ∧ ∀ i m σ H, W i m σ H →
      ((Itr lo n).stop i H ∧ D.nx σ H) ∨ ((Itr lo n).go i H ∧ ∃ N : St → Hp → Prop, (∀ σ' H', N σ' H' → ∃ m', m' < m ∧ W (i + 1) m' σ' H') ∧ ∀ x H', (Itr lo n).yld i H x H' → g x σ H' fun σ2 H2 => tb { D with nx := N, ct := N, bk := D.nx } σ2 H2) := by
  refine ⟨fun i m σ H => m = n - i ∧ i ≤ n ∧ Pv i σ H, ⟨n, by simp, Nat.zero_le _, h0⟩, ?_⟩
  rintro i m σ H ⟨rfl, hi, p⟩
  by_cases hlt : i < n
  · refine .inr ⟨hlt, Pv (i + 1), fun σ' H' p' => ⟨n - (i + 1), by omega, rfl, hlt, p'⟩, fun x H' y => ?_⟩
    obtain ⟨e, y⟩ := y
    subst e y
    exact hs i σ _ hlt p
  · have e : i = n := by omega
    subst e
    exact .inl ⟨Nat.le_refl _, hd σ H p⟩
end L2
namespace L2
open PySem PySem.Spec PyProof.Rows
abbrev R2 := V → V → Hp → VK → Prop
def OpR (X : Cx) (f : Value → Value → Sem Value) (r : R2) : Prop :=
  ∀ (pins : List (Addr × Obj)) (s : Shared) (σ : St) (H : Hp) (x y : V) (v u : Value) (Q : VK), Inv X pins σ H s → RelV x v → RelV y u → r x y H Q →
    wpAny (model X.prog X.w) X.A (f v u) (EP X pins σ Q) X.xe s
def UnR (X : Cx) (f : Value → Sem Value) (r : V → Hp → VK → Prop) : Prop :=
  ∀ (pins : List (Addr × Obj)) (s : Shared) (σ : St) (H : Hp) (x : V) (v : Value) (Q : VK), Inv X pins σ H s → RelV x v → r x H Q →
    wpAny (model X.prog X.w) X.A (f v) (EP X pins σ Q) X.xe s
def CallR (X : Cx) (f : Value) (r : List V → Hp → VK → Prop) : Prop :=
  ∀ (pins : List (Addr × Obj)) (s : Shared) (σ : St) (H : Hp) (xs : List V) (us : List Value) (Q : VK), Inv X pins σ H s → Vals xs us → r xs H Q →
    wpAny (model X.prog X.w) X.A (call f us) (EP X pins σ Q) X.xe s
def tOp (r : R2) (ta tb : TE) : TE := fun σ H Q => ta σ H fun x H1 => tb σ H1 fun y H2 => r x y H2 Q
def tUn (r : V → Hp → VK → Prop) (ta : TE) : TE := fun σ H Q => ta σ H fun x H1 => r x H1 Q
inductive rI (C : Int → Int → Prop) (g : Int → Int → V) (x y : V) (H : Hp) (Q : VK) : Prop
  | mk (i j : Int) (e1 : x = .int i) (e2 : y = .int j) (c : C i j) (q : Q (g i j) H) : rI C g x y H Q
inductive rI0 (g : Int → Int → V) (x y : V) (H : Hp) (Q : VK) : Prop
  | mk (i j : Int) (e1 : x = .int i) (e2 : y = .int j) (q : Q (g i j) H) : rI0 g x y H Q
def rU (g : Int → V) : V → Hp → VK → Prop := fun x H Q => ∃ i, x = .int i ∧ Q (g i) H
section
variable {X : Cx} {a b c : Expr} {ta tb tc : TE} {pos : Pos}
theorem binT (ha : PE X a ta) (hb : PE X b tb) {pins : List (Addr × Obj)} {s : Shared} {σ : St} {H : Hp} {R : V → V → Hp → Prop} (I : Inv X pins σ H s)
    (h : ta σ H fun x H1 => tb σ H1 fun y H2 => R x y H2) {Q : Value → Shared → Prop} {f : Value → Value → Sem Value}
    (hf : ∀ v u s2 x y H2, Inv X pins σ H2 s2 → RelV x v → RelV y u → R x y H2 → wpAny (model X.prog X.w) X.A (f v u) Q X.xe s2) :
    wpAny (model X.prog X.w) X.A (eval a X.env) (fun v s₁ => wpAny (model X.prog X.w) X.A (eval b X.env) (fun u s₂ => wpAny (model X.prog X.w) X.A (f v u) Q X.xe s₂) X.xe s₁) X.xe s := by
  refine thn (ha pins s σ H _ I h) fun v s1 ⟨x, H1, I1, r1, q1⟩ => ?_
  refine thn (hb pins s1 σ H1 _ I1 q1) fun u s2 ⟨y, H2, I2, r2, q2⟩ => ?_
  exact hf v u s2 x y H2 I2 r1 r2 q2
theorem pe_op {op : Operator} {r : R2} (ho : OpR X (binaryOp op) r) (ha : PE X a ta) (hb : PE X b tb) : PE X (.BinOp a op b pos) (tOp r ta tb) := by
  intro pins s σ H Q I h
  exact wpAny_BinOp (binT ha hb I h fun v u s2 x y H2 I2 rx ry q => ho pins s2 σ H2 x y v u Q I2 rx ry q)
theorem pe_un {op : UnaryOp} {r : V → Hp → VK → Prop} (ho : UnR X (unaryOp op) r) (ha : PE X a ta) : PE X (.UnaryOp op a pos) (tUn r ta) := by
  intro pins s σ H Q I h
  exact UnaryOp_ (thn (ha pins s σ H _ I h) fun v s1 ⟨x, H1, I1, r1, q1⟩ => ho pins s1 σ H1 x v Q I1 r1 q1)
theorem opI {f : Value → Value → Sem Value} {C : Int → Int → Prop} {g : Int → Int → Int}
    (rule : ∀ (i j : Int) (t u : Tok) (s : Shared) (Q : Value → Shared → Prop) (E : Value → Shared → Prop), C i j → Q (.int (g i j) s.toks) { s with toks := s.toks + 1 } → wpAny (model X.prog X.w) X.A (f (.int i t) (.int j u)) Q E s) :
    OpR X f (rI C fun i j => .int (g i j)) := by
  intro pins s σ H x y v u Q I rx ry h
  obtain ⟨i, j, rfl, rfl, hc, q⟩ := h
  obtain ⟨t, rfl⟩ := rx
  obtain ⟨t', rfl⟩ := ry
  exact rule i j t t' s _ _ hc ⟨.int (g i j), H, I.tok _, ⟨_, rfl⟩, q⟩
theorem opI0 {f : Value → Value → Sem Value} {g : Int → Int → Int}
    (rule : ∀ (i j : Int) (t u : Tok) (s : Shared) (Q : Value → Shared → Prop) (E : Value → Shared → Prop), Q (.int (g i j) s.toks) { s with toks := s.toks + 1 } → wpAny (model X.prog X.w) X.A (f (.int i t) (.int j u)) Q E s) :
    OpR X f (rI0 fun i j => .int (g i j)) := by
  intro pins s σ H x y v u Q I rx ry h
  obtain ⟨i, j, rfl, rfl, q⟩ := h
  obtain ⟨t, rfl⟩ := rx
  obtain ⟨t', rfl⟩ := ry
  exact rule i j t t' s _ _ ⟨.int (g i j), H, I.tok _, ⟨_, rfl⟩, q⟩
theorem opB0 {f : Value → Value → Sem Value} {g : Int → Int → Bool}
    (rule : ∀ (i j : Int) (t u : Tok) (s : Shared) (Q : Value → Shared → Prop) (E : Value → Shared → Prop), Q (.bool (g i j)) s → wpAny (model X.prog X.w) X.A (f (.int i t) (.int j u)) Q E s) :
    OpR X f (rI0 fun i j => .bl (g i j)) := by
  intro pins s σ H x y v u Q I rx ry h
  obtain ⟨i, j, rfl, rfl, q⟩ := h
  obtain ⟨t, rfl⟩ := rx
  obtain ⟨t', rfl⟩ := ry
  exact rule i j t t' s _ _ ⟨.bl (g i j), H, I, rfl, q⟩
def CDiv (i j : Int) : Prop := 0 < j ∧ j < 1073741824
def CMul (i j : Int) : Prop := (-(2 ^ 64) < i ∧ i < 2 ^ 64) ∨ (-(2 ^ 64) < j ∧ j < 2 ^ 64)
theorem CMul.ok {i j : Int} (h : CMul i j) : IntMulOk i j := by
  rcases h with ⟨h1, h2⟩ | ⟨h1, h2⟩
  · exact .of_left (intBits_le_64 h1 h2)
  · exact .of_right (intBits_le_64 h1 h2)
theorem op_add : OpR X (binaryOp .Add) (rI0 fun i j => .int (i + j)) := opI0 fun _ _ _ _ _ _ _ q => add_int q
theorem op_sub : OpR X (binaryOp .Sub) (rI0 fun i j => .int (i - j)) := opI0 fun _ _ _ _ _ _ _ q => sub_int q
theorem op_mul : OpR X (binaryOp .Mult) (rI CMul fun i j => .int (i * j)) := opI fun _ _ _ _ _ _ _ hc q => mul_int q hc.ok
theorem op_fdiv : OpR X (binaryOp .FloorDiv) (rI CDiv fun i j => .int (i / j)) := opI fun i j _ _ _ _ _ hc q => by
  have h1 : (0 : Int) < j := hc.1
  have h2 : j < 1073741824 := hc.2
  exact floordiv_int (by omega) (by rw [Int.fdiv_eq_ediv_of_nonneg i (by omega)]; exact q) (.inl (PyProof.noPylong_small (by omega)))
theorem op_mod : OpR X (binaryOp .Mod) (rI (fun _ j => 0 < j) fun i j => .int (i % j)) := opI fun i j _ _ _ _ _ hc q => by
  have h1 : (0 : Int) < j := hc
  exact mod_int' (by omega) (by rw [Int.fmod_eq_emod_of_nonneg i (by omega)]; exact q)
theorem unI {f : Value → Sem Value} {g : Int → Int}
    (rule : ∀ (i : Int) (t : Tok) (s : Shared) (Q : Value → Shared → Prop) (E : Value → Shared → Prop), Q (.int (g i) s.toks) { s with toks := s.toks + 1 } → wpAny (model X.prog X.w) X.A (f (.int i t)) Q E s) :
    UnR X f (rU fun i => .int (g i)) := by
  intro pins s σ H x v Q I rx h
  obtain ⟨i, rfl, q⟩ := h
  obtain ⟨t, rfl⟩ := rx
  exact rule i t s _ _ ⟨.int (g i), H, I.tok _, ⟨_, rfl⟩, q⟩
theorem un_neg : UnR X (unaryOp .USub) (rU fun i => .int (-i)) := unI fun _ _ _ _ _ q => neg_int q
end
def scal : V → V → Bool
  | .non, .non => true | .non, .int _ => true | .int _, .non => true | .non, .bl _ => true | .bl _, .non => true | .non, .str _ => true | .str _, .non => true
  | .int _, .int _ => true | .bl _, .bl _ => true | .str _, .str _ => true | .byt _, .byt _ => true
  | .int _, .str _ => true | .str _, .int _ => true | .bl _, .str _ => true | .str _, .bl _ => true
  | _, _ => false
inductive rEq (x y : V) (H : Hp) (Q : VK) : Prop
  | mk (e : scal x y = true) (q : Q (.bl (decide (x = y))) H) : rEq x y H Q
inductive rNe (x y : V) (H : Hp) (Q : VK) : Prop
  | mk (e : scal x y = true) (q : Q (.bl (!decide (x = y))) H) : rNe x y H Q
theorem dec_int {i j : Int} : decide (V.int i = V.int j) = (i == j) := by
  rw [Bool.eq_iff_iff]
  simp
theorem dec_bl {i j : Bool} : decide (V.bl i = V.bl j) = (i == j) := by
  rw [Bool.eq_iff_iff]
  simp
theorem dec_str {i j : Str} : decide (V.str i = V.str j) = (i == j) := by
  rw [Bool.eq_iff_iff]
  simp
theorem dec_byt {i j : Array UInt8} : decide (V.byt i = V.byt j) = (i.toList == j.toList) := by
  rw [Bool.eq_iff_iff]
  cases i
  cases j
  simp
section
variable {X : Cx} {a b c : Expr} {ta tb tc : TE} {pos : Pos}
theorem fin_bl {pins : List (Addr × Obj)} {σ : St} {H : Hp} {s : Shared} {Q : VK} {k k' : Bool} (I : Inv X pins σ H s) (q : Q (.bl k) H) (e : k = k') : EP X pins σ Q (.bool k') s := by
  subst e
  exact ⟨.bl k, H, I, rfl, q⟩
theorem op_eq : OpR X (compareOp .Eq) rEq := by
  intro pins s σ H x y v u Q I rx ry h
  obtain ⟨hs, q⟩ := h
  cases x with
  | non =>
    cases rx
    cases y with
    | non => cases ry; exact PySem.EqNone.eq_none_none (fin_bl I q (by simp))
    | bl j => cases ry; exact PySem.EqNone.eq_none_bool (fin_bl I q (by simp))
    | int j => obtain ⟨t', rfl⟩ := ry; exact PySem.EqNone.eq_none_int (fin_bl I q (by simp))
    | str j => obtain ⟨t', rfl⟩ := ry; exact PySem.EqNone.eq_none_str (fin_bl I q (by simp))
    | _ => exact absurd (show false = true from hs) Bool.false_ne_true
  | bl i =>
    cases rx
    cases y with
    | non => cases ry; exact PySem.EqNone.eq_bool_none (fin_bl I q (by simp))
    | bl j => cases ry; exact eq_bool (fin_bl I q dec_bl)
    | str j => obtain ⟨t', rfl⟩ := ry; exact PySem.EqMixed.eq_bool_str (fin_bl I q (by simp))
    | _ => exact absurd (show false = true from hs) Bool.false_ne_true
  | int i =>
    obtain ⟨t, rfl⟩ := rx
    cases y with
    | non => cases ry; exact PySem.EqNone.eq_int_none (fin_bl I q (by simp))
    | int j => obtain ⟨t', rfl⟩ := ry; exact eq_int (fin_bl I q dec_int)
    | str j => obtain ⟨t', rfl⟩ := ry; exact PySem.EqMixed.eq_int_str (fin_bl I q (by simp))
    | _ => exact absurd (show false = true from hs) Bool.false_ne_true
  | str i =>
    obtain ⟨t, rfl⟩ := rx
    cases y with
    | non => cases ry; exact PySem.EqNone.eq_str_none (fin_bl I q (by simp))
    | bl j => cases ry; exact PySem.EqMixed.eq_str_bool (fin_bl I q (by simp))
    | int j => obtain ⟨t', rfl⟩ := ry; exact PySem.EqMixed.eq_str_int (fin_bl I q (by simp))
    | str j => obtain ⟨t', rfl⟩ := ry; exact eq_str (fin_bl I q dec_str)
    | _ => exact absurd (show false = true from hs) Bool.false_ne_true
  | byt i =>
    obtain ⟨t, rfl⟩ := rx
    cases y with
    | byt j => obtain ⟨t', rfl⟩ := ry; exact PySem.W.eq_bytes (fin_bl I q dec_byt)
    | _ => exact absurd (show false = true from hs) Bool.false_ne_true
  | _ => cases y <;> exact absurd (show false = true from hs) Bool.false_ne_true
theorem op_ne : OpR X (compareOp .NotEq) rNe := by
  intro pins s σ H x y v u Q I rx ry h
  obtain ⟨hs, q⟩ := h
  cases x with
  | non =>
    cases rx
    cases y with
    | non => cases ry; exact PySem.EqNone.ne_none_none (fin_bl I q (by simp))
    | bl j => cases ry; exact PySem.EqNone.ne_none_bool (fin_bl I q (by simp))
    | int j => obtain ⟨t', rfl⟩ := ry; exact PySem.EqNone.ne_none_int (fin_bl I q (by simp))
    | str j => obtain ⟨t', rfl⟩ := ry; exact PySem.EqNone.ne_none_str (fin_bl I q (by simp))
    | _ => exact absurd (show false = true from hs) Bool.false_ne_true
  | bl i =>
    cases rx
    cases y with
    | non => cases ry; exact PySem.EqNone.ne_bool_none (fin_bl I q (by simp))
    | bl j => cases ry; exact ne_bool (fin_bl I q (congrArg not dec_bl))
    | str j => obtain ⟨t', rfl⟩ := ry; exact PySem.EqMixed.ne_bool_str (fin_bl I q (by simp))
    | _ => exact absurd (show false = true from hs) Bool.false_ne_true
  | int i =>
    obtain ⟨t, rfl⟩ := rx
    cases y with
    | non => cases ry; exact PySem.EqNone.ne_int_none (fin_bl I q (by simp))
    | int j => obtain ⟨t', rfl⟩ := ry; exact ne_int (fin_bl I q (congrArg not dec_int))
    | str j => obtain ⟨t', rfl⟩ := ry; exact PySem.EqMixed.ne_int_str (fin_bl I q (by simp))
    | _ => exact absurd (show false = true from hs) Bool.false_ne_true
  | str i =>
    obtain ⟨t, rfl⟩ := rx
    cases y with
    | non => cases ry; exact PySem.EqNone.ne_str_none (fin_bl I q (by simp))
    | bl j => cases ry; exact PySem.EqMixed.ne_str_bool (fin_bl I q (by simp))
    | int j => obtain ⟨t', rfl⟩ := ry; exact PySem.EqMixed.ne_str_int (fin_bl I q (by simp))
    | str j => obtain ⟨t', rfl⟩ := ry; exact ne_str (fin_bl I q (congrArg not dec_str))
    | _ => exact absurd (show false = true from hs) Bool.false_ne_true
  | byt i =>
    obtain ⟨t, rfl⟩ := rx
    cases y with
    | byt j => obtain ⟨t', rfl⟩ := ry; exact PySem.W.ne_bytes (fin_bl I q (congrArg not dec_byt))
    | _ => exact absurd (show false = true from hs) Bool.false_ne_true
  | _ => cases y <;> exact absurd (show false = true from hs) Bool.false_ne_true
theorem op_lt : OpR X (compareOp .Lt) (rI0 fun i j => .bl (decide (i < j))) := opB0 fun _ _ _ _ _ _ _ q => lt_int q
theorem op_gt : OpR X (compareOp .Gt) (rI0 fun i j => .bl (decide (j < i))) := opB0 fun _ _ _ _ _ _ _ q => gt_int q
theorem op_isN : OpR X (compareOp .Is) (fun x y H Q => y = .non ∧ Q (.bl (decide (x = .non))) H) := by
  intro pins s σ H x y v u Q I rx ry h
  obtain ⟨rfl, q⟩ := h
  cases ry
  refine is_none_gen (fin_bl I q ?_)
  cases x <;> first
    | (cases rx; rfl)
    | (obtain ⟨t, rfl⟩ := rx; rfl)
theorem op_notN : OpR X (compareOp .IsNot) (fun x y H Q => y = .non ∧ Q (.bl (!decide (x = .non))) H) := by
  intro pins s σ H x y v u Q I rx ry h
  obtain ⟨rfl, q⟩ := h
  cases ry
  refine isnot_none_gen (fin_bl I q ?_)
  cases x <;> first
    | (cases rx; rfl)
    | (obtain ⟨t, rfl⟩ := rx; rfl)
theorem nomark (b : Expr) {op : CmpOp} (h : op ≠ .In := by decide) (h2 : op ≠ .NotIn := by decide) : behindInMarks op b = false := by
  have e1 : (op == CmpOp.In) = false := by cases op <;> first | rfl | exact absurd rfl h
  have e2 : (op == CmpOp.NotIn) = false := by cases op <;> first | rfl | exact absurd rfl h2
  cases b <;> simp [behindInMarks, e1, e2]
theorem pe_cmpR {op : CmpOp} {r : R2} (ho : OpR X (compareOp op) r) (ha : PE X a ta) (hb : PE X b tb) (hm : behindInMarks op b = false) : PE X (.Compare a [op] [b] pos) (tOp r ta tb) := by
  intro pins s σ H Q I h
  exact wpAny_Compare1 (binT ha hb I h fun v u s2 x y H2 I2 rx ry q => ho pins s2 σ H2 x y v u Q I2 rx ry q) hm
def tTest (t : TE) : TT := fun σ H Q => t σ H fun x H' => IsBl x H' Q
theorem pt_cmpR {op : CmpOp} {r : R2} (ho : OpR X (compareOp op) r) (ha : PE X a ta) (hb : PE X b tb) (hm : behindInMarks op b = false) : PT X (.Compare a [op] [b] pos) (tTest (tOp r ta tb)) := by
  intro pins s σ H Q I h
  refine wpAny_isTrue_Compare1 (thn (ha pins s σ H _ I h) fun v s1 ⟨x, H1, I1, r1, q1⟩ => thn (hb pins s1 σ H1 _ I1 q1) fun u s2 ⟨y, H2, I2, r2, q2⟩ =>
    thn (ho pins s2 σ H2 x y v u _ I2 r1 r2 q2) fun c s3 ⟨z, H3, I3, r3, k, e, q3⟩ => ?_) hm
  subst e
  cases r3
  exact wpAny_truthy_bool ⟨H3, I3, q3⟩
theorem line63 : (sizeLine : Nat) < 2 ^ 63 := by rw [sizeLine_eq]; decide
theorem vals1 {x : V} {us : List Value} (r : Vals [x] us) : ∃ u, us = [u] ∧ RelV x u := by
  cases r with
  | cons r1 r2 => cases r2; exact ⟨_, rfl, r1⟩
theorem vals2 {x y : V} {us : List Value} (r : Vals [x, y] us) : ∃ u w', us = [u, w'] ∧ RelV x u ∧ RelV y w' := by
  cases r with
  | cons r1 r2 =>
    cases r2 with
    | cons r3 r4 => cases r4; exact ⟨_, _, rfl, r1, r3⟩
theorem call_min2 (hc : X.calm = true) : CallR X (.builtin "min") (fun xs H Q => ∃ i j, xs = [.int i, .int j] ∧ Q (.int (if j < i then j else i)) H) := by
  intro pins s σ H xs us Q I r h
  obtain ⟨i, j, rfl, q⟩ := h
  obtain ⟨u, w', rfl, ⟨t, rfl⟩, ⟨t', rfl⟩⟩ := vals2 r
  refine min_two_ints (I.ok.hd hc) fun h' tk k => ⟨_, H, I.kept k, ?_, q⟩
  by_cases hj : j < i
  · rw [if_pos hj, if_pos hj]; exact ⟨_, rfl⟩
  · rw [if_neg hj, if_neg hj]; exact ⟨_, rfl⟩
theorem call_int1 : CallR X (.type "int") (fun xs H Q => (∃ i, xs = [.int i] ∧ Q (.int i) H) ∨ ∃ k, xs = [.bl k] ∧ Q (.int (if k then 1 else 0)) H) := by
  intro pins s σ H xs us Q I r h
  rcases h with ⟨i, rfl, q⟩ | ⟨k, rfl, q⟩
  · obtain ⟨u, rfl, t, rfl⟩ := vals1 r
    exact call_int_int ⟨.int i, H, I, ⟨_, rfl⟩, q⟩
  · obtain ⟨u, rfl, r1⟩ := vals1 r
    cases r1
    exact call_int_bool ⟨.int (if k then 1 else 0), H, I.tok _, ⟨_, rfl⟩, q⟩
end
end L2
namespace L2
open PySem PySem.Spec PyProof.Rows
structure ObjM (h : Heap) (x dx C : Addr) (mA : Str → Option Value) : Prop where
  obj : h.get? x = some (PySem.W.instObj C dx)
  ns : h.Ns1 dx mA
  ne : dx ≠ x
theorem lookIn_ns {h : Heap} {dx : Addr} {mA : Str → Option Value} (n : h.Ns1 dx mA) : ∃ od, h.get? dx = some od ∧ ∀ name, PySem.W.lookIn name od = some (mA name) := by
  obtain ⟨o, es, ep, ho, hd, hk, _, hm⟩ := n
  refine ⟨o, ho, fun name => ?_⟩
  have e := hm name
  unfold nsFind findBy at e
  rw [← Array.find?_toList] at e
  unfold PySem.W.lookIn
  rw [hd]
  dsimp only
  split
  · rename_i y q
    rw [q] at e
    exact congrArg some e
  · rename_i q
    rw [q] at e
    have a : es.toList.any (·.refKey) = false := by
      rw [List.any_eq_false]
      intro y hy
      obtain ⟨z, t, hkey⟩ := hk y (Array.mem_toList_iff.mp hy)
      simp [DictEntry.refKey, hkey]
    have a' : ¬ es.toList.any (·.refKey) = true := by rw [a]; exact Bool.false_ne_true
    rw [if_neg a']
    exact congrArg some e
theorem ObjM.look {h : Heap} {x dx C : Addr} {mA : Str → Option Value} (I : ObjM h x dx C mA) : ∃ od, PySem.W.InstAt h x (PySem.W.instObj C dx) C (some od) ∧ ∀ name, PySem.W.lookIn name od = some (mA name) :=
  let ⟨od, ho, hl⟩ := lookIn_ns I.ns
  ⟨od, ⟨I.obj, rfl, rfl, ho⟩, hl⟩
section
variable {prog : Program} {w : World} {A : Around} {E : Value → Shared → Prop} {s : Shared} {K : PySem.W.Frag} {x dx C f : Addr} {mA : Str → Option Value} {name : Str} {v : Value}
theorem get_map {expr : Bool} {Q : Value → Shared → Prop} (X : K.In s.heap) (I : ObjM s.heap x dx C mA) (hg : PySem.W.plainGet K C name = true) (hh : PySem.W.hasDictIn K C = true)
    (ha : PySem.W.findIn K (.ref C) name = some none) (hv : mA name = some v) (hv' : PySem.W.handedIn v = true) (h : Q v { s with toks := s.toks + 1 }) :
    wpAny (model prog w) A (getAttr (.ref x) name expr) Q E s := by
  obtain ⟨od, J, hl⟩ := I.look
  exact PySem.W.get_value X J (PySem.W.plainGet_of hg).1 (PySem.W.findObj_own hh ha rfl (by rw [hl, hv])) hv' h
theorem get_meth {pl : Sem Bool} {Q : Value × List Value → Shared → Prop} (X : K.In s.heap) (I : ObjM s.heap x dx C mA) (hg : PySem.W.plainGet K C name = true)
    (hf : PySem.W.findIn K (.ref C) name = some (some (.ref f))) (ht : PySem.W.isFn K (.ref f) = true) (hv : mA name = none) (h : Q (.ref f, [.ref x]) s) :
    wpAny (model prog w) A (getMethod (.ref x) name pl) Q E s := by
  obtain ⟨od, J, hl⟩ := I.look
  exact PySem.W.method_fn X J (PySem.W.plainGet_of hg).1 (PySem.W.plainGet_of hg).2 hf (beq_iff_eq.mp ht) (by show (PySem.W.lookIn name od).map (·.isSome) = some false; rw [hl, hv]; rfl) h
theorem set_map {ns : List Str} {Q : Unit → Shared → Prop} (X : K.In s.heap) (I : ObjM s.heap x dx C mA)
    (hs : PySem.W.findIn K (.ref C) "__setattr__" = some (some (.builtin "object.__setattr__"))) (hp : PySem.W.plainOver K C = true) (ht : PySem.W.takerIn K C name = some none) (hh : PySem.W.hasDictIn K C = true)
    (hw : PySem.Within mA ns) (hsz : ns.length ≤ sizeLine)
    (h : ∀ h', ObjM h' x dx C (fun y => if y = name then some v else mA y) → Heap.SameBut dx s.heap h' → Q () { s with heap := h', toks := s.toks + 2 }) :
    wpAny (model prog w) A (setAttr (.ref x) name v) Q E s := by
  obtain ⟨od, J, hl⟩ := I.look
  refine PySem.W.set_plain X J hs (PySem.W.osa_open (s := { s with toks := s.toks + 1 }) (r := none) X J hp ht fun b => ?_)
  obtain ⟨cd, hc, hd'⟩ := PySem.W.any_some hh
  have hx : s.heap.get? x = some ⟨.ref C, some dx, .plain, #[]⟩ := I.obj
  refine wpAny_bind (wpAny_pure (wpAny_bind (wpAny_bind (wpAny_loadPart hx (wpAny_bind (PySem.W.Looks.here (s := { s with toks := s.toks + 1 }) (PySem.W.looks_clsIn X hc) ?_))))))
  rw [hd']
  refine wpAny_pure (a := some dx) (wpAny_bind (wpAny_pure (wpAny_bind ?_)))
  refine wpAny_nsSet1 (s := { s with toks := s.toks + 1 }) I.ns fun h' hn2 hs2 => ?_
  obtain ⟨oD, esD, epD, hoD, hdD, hcD⟩ := hn2.count (PySem.Within.cons name v hw)
  refine wpAny_bind (wpAny_lookBehind hoD (by rw [hdD]; exact pastItsLine_dict (Nat.le_trans hcD (by rw [List.length_cons]; omega))) ?_)
  exact wpAny_pure (h _ ⟨(hs2.2 _ (Ne.symm I.ne)).trans I.obj, hn2, I.ne⟩ hs2)
theorem make_map {R : Result → Shared → Prop} {vs : List Value} {kw : List (Str × Value)} (X : K.In s.heap) (hm : PySem.W.makesIn K C = true)
    (hi : PySem.W.findIn K (.ref C) "__init__" = some (some (.ref f))) (hf : PySem.W.typeIn K (.ref f) = some (.type "function"))
    (h : codeAny (model prog w) (A.under (.builtin "type.__call__" ⟨.ref C :: vs, kw⟩)) (.call (.ref f) ⟨.ref (s.heap.objs.size + 1) :: vs, kw⟩) (PySem.W.InitBack (s.heap.objs.size + 1) R)
      { s with heap := (s.heap.push PySem.W.emptyDict).push (PySem.W.instObj C s.heap.objs.size) }) :
    codeAny (model prog w) A (.call (.ref C) ⟨vs, kw⟩) R s := by
  obtain ⟨hh, g, d, t, os⟩ := s
  exact PySem.W.make_core (PySem.W.makes_of X hm) (PySem.W.looks_findIn X hi) (fun self => PySem.W.bind_fn X self hf) (.inl rfl) h
end
def putF (f : Str) (v : V) : List (Str × V) → List (Str × V)
  | [] => [(f, v)]
  | (g, x) :: r => if g = f then (g, v) :: r else (g, x) :: putF f v r
theorem lookup_putF (f g : Str) (v : V) : ∀ fs : List (Str × V), (putF f v fs).lookup g = if g = f then some v else fs.lookup g
  | [] => by
    show List.lookup g [(f, v)] = _
    by_cases h : g = f
    · have hb : (g == f) = true := beq_iff_eq.mpr h
      simp only [List.lookup, hb, if_pos h]
    · have hb : (g == f) = false := beq_eq_false_iff_ne.mpr h
      simp only [List.lookup, hb, if_neg h]
  | (k, x) :: r => by
    have ih := lookup_putF f g v r
    rw [show putF f v ((k, x) :: r) = (if k = f then (k, v) :: r else (k, x) :: putF f v r) from rfl]
    by_cases hk : k = f
    · rw [if_pos hk]
      by_cases h : g = k
      · have hb : (g == k) = true := beq_iff_eq.mpr h
        simp only [List.lookup, hb, if_pos (h.trans hk)]
      · have hb : (g == k) = false := beq_eq_false_iff_ne.mpr h
        simp only [List.lookup, hb, if_neg (fun e : g = f => h (e.trans hk.symm))]
    · rw [if_neg hk]
      by_cases h : g = k
      · have hb : (g == k) = true := beq_iff_eq.mpr h
        simp only [List.lookup, hb, if_neg (fun e : g = f => hk (h.symm.trans e))]
      · have hb : (g == k) = false := beq_eq_false_iff_ne.mpr h
        simp only [List.lookup, hb]
        exact ih
theorem keys_putF (f : Str) (v : V) : ∀ fs : List (Str × V), f ∈ (putF f v fs).map (·.1) ∧ ∀ g, g ∈ fs.map (·.1) → g ∈ (putF f v fs).map (·.1)
  | [] => ⟨by simp [putF], fun g h => by simp at h⟩
  | (k, x) :: r => by
    obtain ⟨i1, i2⟩ := keys_putF f v r
    rw [show putF f v ((k, x) :: r) = (if k = f then (k, v) :: r else (k, x) :: putF f v r) from rfl]
    by_cases hk : k = f
    · rw [if_pos hk]
      subst hk
      exact ⟨by simp, fun g h => by simpa using h⟩
    · rw [if_neg hk]
      refine ⟨?_, fun g h => ?_⟩
      · rw [List.map_cons]
        exact List.mem_cons_of_mem _ i1
      · rw [List.map_cons] at h ⊢
        rcases List.mem_cons.mp h with e | e
        · exact List.mem_cons.mpr (.inl e)
        · exact List.mem_cons_of_mem _ (i2 g e)
theorem length_putF (f : Str) (v : V) : ∀ fs : List (Str × V), (putF f v fs).length ≤ fs.length + 1
  | [] => by simp [putF]
  | (k, x) :: r => by
    have ih := length_putF f v r
    rw [show putF f v ((k, x) :: r) = (if k = f then (k, v) :: r else (k, x) :: putF f v r) from rfl]
    by_cases hk : k = f
    · rw [if_pos hk, List.length_cons, List.length_cons]; omega
    · rw [if_neg hk, List.length_cons, List.length_cons]; omega
theorem RelO.some_of {v : V} {o : Option Value} (r : RelO (some v) o) : ∃ u, o = some u ∧ RelV v u := by
  cases o with
  | none => exact (show False from r).elim
  | some u => exact ⟨u, rfl, r⟩
theorem RelO.none_of {o : Option Value} (r : RelO none o) : o = none := by
  cases o with
  | none => rfl
  | some u => exact (show False from r).elim
theorem handed_of {v : V} {u : Value} (r : RelV v u) : PySem.W.handedIn u = true := by
  cases v with
  | non => cases (show u = Value.none from r); rfl
  | bl b => cases (show u = Value.bool b from r); rfl
  | int i => obtain ⟨t, e⟩ := (show ∃ t, u = Value.int i t from r); cases e; rfl
  | str x => obtain ⟨t, e⟩ := (show ∃ t, u = Value.str x t from r); cases e; rfl
  | byt b => obtain ⟨t, e⟩ := (show ∃ t, u = Value.bytes b t from r); cases e; rfl
  | flt b => obtain ⟨t, e⟩ := (show ∃ t, u = Value.float b t from r); cases e; rfl
  | ref a => cases (show u = Value.ref a from r); rfl
  | ty n => cases (show u = Value.type n from r); rfl
section
variable {P : Program} {w : World} {H H' : Hp} {h h' : Heap} {a C dx : Addr} {fs fs' : List (Str × V)}
theorem ins_get (hok : HOk P w H h) (e : H a = some (.ins C dx fs)) : ∃ mA, ObjM h a dx C mA ∧ (∀ f, RelO (fs.lookup f) (mA f)) ∧ PySem.Within mA (fs.map (·.1)) ∧ fs.length ≤ 1000 ∧ H dx = some (.own a) := by
  obtain ⟨d, z, ne, ob, mA, n, r, q⟩ := (show ObjOk P w H h a (.ins C dx fs) from hok a _ e)
  exact ⟨mA, ⟨ob, n, ne⟩, r, q, z, d⟩
end
structure Cls (K : PySem.W.Frag) (C : Addr) : Prop where
  pg : PySem.W.plainGet K C Str.empty = true
  hd : PySem.W.hasDictIn K C = true
  po : PySem.W.plainOver K C = true
  sa : PySem.W.findIn K (.ref C) "__setattr__" = some (some (.builtin "object.__setattr__"))
theorem Cls.get {K : PySem.W.Frag} {C : Addr} (c : Cls K C) (f : Str) : PySem.W.plainGet K C f = true := c.pg
def NoAttr (K : PySem.W.Frag) (C : Addr) (f : Str) : Prop := PySem.W.findIn K (.ref C) f = some none
theorem NoAttr.taker {K : PySem.W.Frag} {C : Addr} {f : Str} (n : NoAttr K C f) : PySem.W.takerIn K C f = some none := by
  unfold PySem.W.takerIn
  rw [show PySem.W.findIn K (.ref C) f = some none from n]
  rfl
structure Con (K : PySem.W.Frag) (C : Addr) (f : Str) (v : V) (u : Value) : Prop where
  at_ : PySem.W.findIn K (.ref C) f = some (some u)
  rel : RelV v u
  get : PySem.W.specialIn K u "__get__" = some none
  cp : PySem.W.copiedNames.contains f = false
structure Meth (K : PySem.W.Frag) (C : Addr) (m : Str) (f : Addr) : Prop where
  at_ : PySem.W.findIn K (.ref C) m = some (some (.ref f))
  fn : PySem.W.isFn K (.ref f) = true
  kp : PySem.W.keepIn K (.ref f) = true
section
variable {X : Cx} {pins : List (Addr × Obj)} {σ : St} {H : Hp} {s : Shared} {a C dx : Addr} {fs : List (Str × V)} {f : Str} {v : V} {A : Around} {E : Value → Shared → Prop}
theorem getattr_ok {b : Bool} {Q : Value → Shared → Prop} (I : Inv X pins σ H s) (e : H a = some (.ins C dx fs)) (c : Cls X.K C) (n : NoAttr X.K C f) (l : fs.lookup f = some v)
    (h : ∀ u s', Inv X pins σ H s' → RelV v u → Q u s') : wpAny (model X.prog X.w) A (getAttr (.ref a) f b) Q E s := by
  obtain ⟨mA, O, r, _, _, _⟩ := ins_get I.hok e
  obtain ⟨u, hu, ru⟩ := RelO.some_of (v := v) (o := mA f) (by rw [← l]; exact r f)
  exact get_map I.kIn O (c.get f) c.hd n hu (handed_of ru) (h u _ (I.tok _) ru)
theorem getmeth_ok {m : Str} {g : Addr} {pl : Sem Bool} {Q : Value × List Value → Shared → Prop} (I : Inv X pins σ H s) (e : H a = some (.ins C dx fs)) (c : Cls X.K C) (k : Meth X.K C m g) (l : fs.lookup m = none)
    (h : Q (.ref g, [.ref a]) s) : wpAny (model X.prog X.w) A (getMethod (.ref a) m pl) Q E s := by
  obtain ⟨mA, O, r, _, _, _⟩ := ins_get I.hok e
  have hn : mA m = none := RelO.none_of (by rw [← l]; exact r m)
  exact get_meth I.kIn O (c.get m) k.at_ k.fn hn h
theorem setattr_ok {y : V} {u : Value} {Q : Unit → Shared → Prop} (I : Inv X pins σ H s) (e : H a = some (.ins C dx fs)) (c : Cls X.K C) (n : NoAttr X.K C f) (hl : fs.length < 1000) (ry : RelV y u)
    (h : ∀ s', Inv X pins σ (upd H a (.ins C dx (putF f y fs))) s' → Q () s') : wpAny (model X.prog X.w) A (setAttr (.ref a) f u) Q E s := by
  obtain ⟨mA, O, r, wi, _, ho⟩ := ins_get I.hok e
  have hz : (fs.map (·.1)).length ≤ sizeLine := by rw [List.length_map, sizeLine_eq]; omega
  refine set_map I.kIn O c.sa c.po n.taker c.hd wi hz fun h' O' sb => h _ ?_
  have hd : ∃ o, h'.get? dx = some o := let ⟨o, _, _, e', _⟩ := O'.ns; ⟨o, e'⟩
  refine I.write (x := a) (e := dx) (by rw [e]; exact True.intro) (.inr ho) (fun b q hb z => (sb.2 b hb).trans z) hd ?_
  refine ⟨by rw [upd_ne O.ne]; exact ho, ?_, O.ne, O'.obj, _, O'.ns, fun g => ?_, fun g hg => ?_⟩
  · have := length_putF f y fs; omega
  · show RelO ((putF f y fs).lookup g) (if g = f then some u else mA g)
    rw [lookup_putF]
    by_cases q : g = f
    · rw [if_pos q, if_pos q]; exact ry
    · rw [if_neg q, if_neg q]; exact r g
  · by_cases q : g = f
    · rw [q]; exact (keys_putF f y fs).1
    · refine (keys_putF f y fs).2 g (wi g fun z => hg ?_)
      show (if g = f then some u else mA g) = none
      rw [if_neg q]; exact z
theorem Inv.made (I : Inv X pins σ H s) : Inv X pins σ (upd (upd H s.heap.objs.size (.own (s.heap.objs.size + 1))) (s.heap.objs.size + 1) (.ins C s.heap.objs.size []))
    { s with heap := (s.heap.push PySem.W.emptyDict).push (PySem.W.instObj C s.heap.objs.size) } := by
  have e1 : (s.heap.push PySem.W.emptyDict).get? s.heap.objs.size = some PySem.W.emptyDict := Heap.get?_push_size s.heap rfl
  have e2 : ((s.heap.push PySem.W.emptyDict).push (PySem.W.instObj C s.heap.objs.size)).get? (s.heap.objs.size + 1) = some (PySem.W.instObj C s.heap.objs.size) := by
    have := Heap.get?_push_size (s.heap.push PySem.W.emptyDict) (o := PySem.W.instObj C s.heap.objs.size) rfl
    rwa [Heap.size_push] at this
  have e3 : (s.heap.push PySem.W.emptyDict).Ns s.heap.objs.size (fun _ => none) := ⟨PySem.W.emptyDict, #[], _, e1, rfl, (fun e he => absurd he (by simp)), fun _ => rfl⟩
  have I1 := I.laid (a := s.heap.objs.size) (o := .own (s.heap.objs.size + 1)) (h' := s.heap.push PySem.W.emptyDict) (t' := s.toks) (fun b u q => Heap.get?_push_of_some _ q) (Nat.le_refl _) ⟨_, e1⟩
  refine I1.laid (a := s.heap.objs.size + 1) (o := .ins C s.heap.objs.size []) (t' := s.toks) (fun b u q => Heap.get?_push_of_some _ q) (Nat.le_of_eq (Heap.size_push _ _)) ?_
  have ne : s.heap.objs.size ≠ s.heap.objs.size + 1 := Nat.ne_of_lt (Nat.lt_succ_self _)
  refine ⟨by rw [upd_ne ne, upd_same], Nat.zero_le _, ne, e2, fun _ => none, (Heap.Ns1.of_empty e3).at fun o q => Heap.get?_push_of_some _ q, fun _ => True.intro, fun y hy => absurd rfl hy⟩
theorem attr_of {prog : Program} {w : World} {env : Env} {e : Expr} {f : Str} {pos : Pos} {s : Shared} {Q : Value → Shared → Prop} (hb : attributeBase e f env (eval e env) = eval e env)
    (h : wpAny (model prog w) A (eval e env) (fun o s₁ => wpAny (model prog w) A (getAttr o f true) Q E s₁) E s) : wpAny (model prog w) A (eval (.Attribute e f pos) env) Q E s :=
  Attribute_any_ h (by rw [arm_eval_Attribute, hb])
end
inductive FldR (K : PySem.W.Frag) (f : Str) (x : V) (H1 : Hp) (Q : VK) : Prop
  | mk (a C dx : Addr) (fs : List (Str × V)) (v : V) (e1 : x = .ref a) (e2 : H1 a = some (.ins C dx fs)) (e3 : Cls K C) (e4 : NoAttr K C f) (e5 : fs.lookup f = some v) (q : Q v H1) : FldR K f x H1 Q
def tFld (K : PySem.W.Frag) (ta : TE) (f : Str) : TE := fun σ H Q => ta σ H fun x H1 => FldR K f x H1 Q
inductive FldS (K : PySem.W.Frag) (f : Str) (y x : V) (H2 : Hp) (N : Hp → Prop) : Prop
  | mk (a C dx : Addr) (fs : List (Str × V)) (e1 : x = .ref a) (e2 : H2 a = some (.ins C dx fs)) (e3 : Cls K C) (e4 : NoAttr K C f) (e5 : fs.length < 1000) (q : N (upd H2 a (.ins C dx (putF f y fs)))) : FldS K f y x H2 N
def sFld (K : PySem.W.Frag) (ta tv : TE) (f : Str) : TS := fun D σ H => tv σ H fun y H1 => ta σ H1 fun x H2 => FldS K f y x H2 (D.nx σ)
section
variable {X : Cx} {o e value : Expr} {f : Str} {pos pos' tpos : Pos} {ta tv : TE}
theorem pe_fld (he : PE X e ta) (hb : attributeBase e f X.env (eval e X.env) = eval e X.env) : PE X (.Attribute e f pos) (tFld X.K ta f) := by
  intro pins s σ H Q I h
  refine attr_of hb (thn (he pins s σ H _ I h) fun u s1 ⟨x, H1, I1, rx, a, C, dx, fs, v, ex, ea, c, n, l, q⟩ => ?_)
  subst ex
  obtain rfl : u = Value.ref a := rx
  exact getattr_ok I1 ea c n l fun u' s2 I2 ru => ⟨v, H1, I2, ru, q⟩
theorem ps_fld (ha : PE X o ta) (hv : PE X value tv) (hs : swapsWith value (some (.Attribute o f pos')) pos.line X.env = pure false) : PS X (.Assign [.Attribute o f pos'] value pos) (sFld X.K ta tv f) := by
  intro pins s σ H D I h
  refine plainObj_wpAny_Assign_Attribute (thn (hv pins s σ H _ I h) fun u s1 ⟨y, H1, I1, ry, q⟩ => thn (ha pins s1 σ H1 _ I1 q) fun ov s2 ⟨x, H2, I2, rx, a, C, dx, fs, ex, ea, c, n, l, q2⟩ => ?_) hs
  subst ex
  obtain rfl : ov = Value.ref a := rx
  exact setattr_ok I2 ea c n l ry fun s3 I3 => ⟨σ, _, I3, q2⟩
end
section
variable {X : Cx} {pins : List (Addr × Obj)} {σ : St} {H : Hp} {s : Shared} {A : Around} {E : Value → Shared → Prop} {Q : Value → Shared → Prop} {c : Value} {b : Bool}
inductive TyOf (K : PySem.W.Frag) (H : Hp) : V → Value → Prop where
  | non : TyOf K H .non (.type "NoneType")
  | bl (x : Bool) : TyOf K H (.bl x) (.type "bool")
  | int (i : Int) : TyOf K H (.int i) (.type "int")
  | str (x : Str) : TyOf K H (.str x) (.type "str")
  | flt (x : UInt64) : TyOf K H (.flt x) (.type "float")
  | lst {a : Addr} {xs : List V} (e : H a = some (.lst xs)) : TyOf K H (.ref a) (.type "list")
  | frz {a : Addr} {o : Obj} {xs : List V} (e : H a = some (.frz o (.lst xs))) : TyOf K H (.ref a) (.type "list")
  | tup {a : Addr} {xs : List V} (e : H a = some (.tup xs)) : TyOf K H (.ref a) (.type "tuple")
  | dK {a : Addr} {kvs : List (Key × V)} (e : H a = some (.dK kvs)) : TyOf K H (.ref a) (.type "dict")
  | dT {a : Addr} {kvs : List (List Key × V)} (e : H a = some (.dT kvs)) : TyOf K H (.ref a) (.type "dict")
  | ins {a C dx : Addr} {fs : List (Str × V)} (e : H a = some (.ins C dx fs)) (cl : Cls K C) (ha : PySem.W.findIn K (.ref C) "__class__" = some (some (.builtin "object.__class__")))
      (hn : PySem.W.specialIn K (.builtin "object.__class__") "__get__" = some (some (.builtin "getset_descriptor.__get__"))) (htk : PySem.W.takesIn K (.builtin "object.__class__") = some true)
      (hm : PySem.W.mroIn K C (.type "object") = some true) : TyOf K H (.ref a) (.ref C)
theorem isinst_ok {x : V} {u t : Value} (I : Inv X pins σ H s) (rx : RelV x u) (ty : TyOf X.K H x t) (e : PySem.W.kitOne X.K t c = some b) (h : ∀ tk, Q (.bool b) { s with toks := tk }) :
    wpAny (model X.prog X.w) A (call (.builtin "isinstance") [u, c]) Q E s := by
  cases ty with
  | non => cases (show u = Value.none from rx); exact PySem.W.kia_one PySem.W.kitx_none I.kIn True.intro e (fun z => nomatch z) h
  | bl y => cases (show u = Value.bool y from rx); exact PySem.W.kia_one PySem.W.kitx_bool I.kIn True.intro e (fun z => nomatch z) h
  | int i => obtain ⟨t, q⟩ := (show ∃ t, u = Value.int i t from rx); cases q; exact PySem.W.kia_one PySem.W.kitx_int I.kIn True.intro e (fun z => nomatch z) h
  | str y => obtain ⟨t, q⟩ := (show ∃ t, u = Value.str y t from rx); cases q; exact PySem.W.kia_one PySem.W.kitx_str I.kIn True.intro e (fun z => nomatch z) h
  | flt y => obtain ⟨t, q⟩ := (show ∃ t, u = Value.float y t from rx); cases q; exact PySem.W.kia_one PySem.W.kitx_float I.kIn True.intro e (fun z => nomatch z) h
  | @lst a xs ea =>
    cases (show u = Value.ref a from rx)
    obtain ⟨_, _, n, _, h1⟩ := (show ObjOk X.prog X.w H s.heap a (.lst xs) from I.hok a _ ea)
    exact PySem.W.kia_one PySem.W.kitx_list I.kIn ⟨_, h1, rfl⟩ e (fun z => nomatch z) h
  | @frz a ob xs ea =>
    cases (show u = Value.ref a from rx)
    obtain ⟨_, _, _, n, _, h1⟩ := (show ObjOk X.prog X.w H s.heap a (.frz ob (.lst xs)) from I.hok a _ ea)
    exact PySem.W.kia_one PySem.W.kitx_list I.kIn ⟨_, h1, rfl⟩ e (fun z => nomatch z) h
  | @tup a xs ea =>
    cases (show u = Value.ref a from rx)
    obtain ⟨_, _, _, p⟩ := (show ObjOk X.prog X.w H s.heap a (.tup xs) from I.hok a _ ea)
    obtain ⟨o, h1, h2, _⟩ := p
    exact PySem.W.kia_one PySem.W.kitx_tuple I.kIn ⟨o, h1, h2⟩ e (fun z => nomatch z) h
  | @dK a kvs ea =>
    cases (show u = Value.ref a from rx)
    obtain ⟨_, _, vs, _, p⟩ := (show ObjOk X.prog X.w H s.heap a (.dK kvs) from I.hok a _ ea)
    obtain ⟨o, es, ep, h1, h2, _⟩ := p
    exact PySem.W.kia_one PySem.W.kitx_dict I.kIn ⟨o, h1, h2.1⟩ e (fun z => nomatch z) h
  | @dT a kvs ea =>
    cases (show u = Value.ref a from rx)
    obtain ⟨_, _, xs, _, o, es, ep, h1, h2, _⟩ := (show ObjOk X.prog X.w H s.heap a (.dT kvs) from I.hok a _ ea)
    exact PySem.W.kia_one PySem.W.kitx_dict I.kIn ⟨o, h1, h2.1⟩ e (fun z => nomatch z) h
  | @ins a C dx fs ea cl ha hn htk hm =>
    cases (show u = Value.ref a from rx)
    obtain ⟨mA, O, _⟩ := ins_get I.hok ea
    obtain ⟨od, J, _⟩ := O.look
    exact PySem.W.kia_one (PySem.W.kitx_own (cl.get _) cl.hd ha hn htk hm) I.kIn J e (fun z => nomatch z) h
end
end L2
namespace L2
open PySem PySem.Spec PyProof.Rows
structure Room (k : Nat) (A : Around) : Prop where
  hd : A.handled = none
  dp : A.depth + 3 * k + 5 < recursionLimit
  un : A.units + 16 * k + 200 < cLine
theorem Room.mono {j k : Nat} {A : Around} (r : Room k A) (h : j ≤ k) : Room j A := ⟨r.hd, by have := r.dp; omega, by have := r.un; omega⟩
theorem Room.deeper {k : Nat} {A : Around} (r : Room (k + 1) A) (env : Env) : Room k (A.deeper env) :=
  ⟨r.hd, by have := r.dp; show A.depth + 1 + 3 * k + 5 < _; omega, by have := r.un; show A.units + 3 + 16 * k + 200 < _; omega⟩
theorem make_depth {A : Around} {C : Addr} {us : List Value} {kw : List (Str × Value)} : (A.under (.builtin "type.__call__" ⟨.ref C :: us, kw⟩)).depth = A.depth + 1 := by
  first | rfl | simp [Around.under, Code.weight, Code.isCreation, Code.isGuard, Code.isCaller, Code.frames, Code.isFrame, guardIds]
theorem make_units {A : Around} {C : Addr} {us : List Value} {kw : List (Str × Value)} : (A.under (.builtin "type.__call__" ⟨.ref C :: us, kw⟩)).units = A.units + 1 := by
  first | rfl | simp [Around.under, Code.cUnits, Code.frames, Code.isFrame]
theorem Room.make {k : Nat} {A : Around} (r : Room (k + 1) A) (C : Addr) (us : List Value) (kw : List (Str × Value)) : Room k (A.under (.builtin "type.__call__" ⟨.ref C :: us, kw⟩)) :=
  ⟨r.hd, by have := r.dp; rw [make_depth]; omega, by have := r.un; rw [make_units]; omega⟩
theorem Room.depth {k : Nat} {A : Around} (r : Room k A) : A.depth < recursionLimit := by have := r.dp; omega
theorem Room.units {k : Nat} {A : Around} (r : Room k A) : A.units + 64 < cLine := by have := r.un; omega
def tNil : TA := fun _ H Q => Q [] H
def tCons (ta : TE) (tr : TA) : TA := fun σ H Q => ta σ H fun x H1 => tr σ H1 fun xs H2 => Q (x :: xs) H2
section
variable {X : Cx} {e : Expr} {es : List Expr} {te : TE} {t : TA} {pos : Pos}
theorem pa_nil : PA X [] tNil := fun _ _ _ _ H Q I h => Calls.spliced_nil ⟨[], H, I, .nil, h⟩
theorem pa_cons (ha : PE X e te) (hr : PA X es t) (hs : starEach (e :: es) X.env = (false, eval e X.env) :: starEach es X.env := by rfl) : PA X (e :: es) (tCons te t) := by
  intro pos pins s σ H Q I h
  rw [hs]
  show wpAny _ _ (spliced ((false, eval e X.env) :: backTo pos (starEach es X.env))) _ _ s
  refine Calls.spliced_cons (thn (ha pins s σ H _ I h) fun u s1 ⟨x, H1, I1, r1, q1⟩ => ?_)
  exact thn (hr pos pins s1 σ H1 _ I1 q1) fun us s2 ⟨xs, H2, I2, r2, q2⟩ => ⟨x :: xs, H2, I2, .cons r1 r2, q2⟩
def tTup (t : TA) : TE := fun σ H Q => t σ H fun xs H1 => xs.length ≤ sizeLine ∧ ∀ p, H1 p = none → Q (.ref p) (upd H1 p (.tup xs))
def tLst (t : TA) : TE := fun σ H Q => t σ H fun xs H1 => xs.length ≤ sizeLine ∧ ∀ p, H1 p = none → Q (.ref p) (upd H1 p (.lst xs))
theorem pe_tup {x1} (h : PA X es t) : PE X (.Tuple es x1 pos) (tTup t) := by
  intro pins s σ H Q I hq
  refine wpAny_Tuple_spliced (thn (h pos pins s σ H _ I hq) fun us s1 ⟨xs, H1, I1, r, z, q⟩ => ⟨by rw [← r.length]; exact z, ?_⟩)
  have hf : H1 s1.heap.objs.size = none := I1.hok.fresh (Nat.le_refl _)
  refine ⟨.ref s1.heap.objs.size, upd H1 s1.heap.objs.size (.tup xs), I1.laid (t' := s1.toks) (fun b u e => Heap.get?_push_of_some _ e) (Nat.le_refl _) ?_, rfl, q _ hf⟩
  exact ⟨z, us, r, ⟨_, Heap.get?_push_size _ rfl, rfl, _, rfl⟩⟩
theorem pe_lst (h : PA X es t) : PE X (.List es pos) (tLst t) := by
  intro pins s σ H Q I hq
  refine wpAny_List_spliced (thn (h pos pins s σ H _ I hq) fun us s1 ⟨xs, H1, I1, r, z, q⟩ => ⟨by rw [← r.length]; exact z, ?_⟩)
  have hf : H1 s1.heap.objs.size = none := I1.hok.fresh (Nat.le_refl _)
  refine ⟨.ref s1.heap.objs.size, upd H1 s1.heap.objs.size (.lst xs), I1.laid (t' := s1.toks) (fun b u e => Heap.get?_push_of_some _ e) (Nat.le_refl _) ?_, rfl, q _ hf⟩
  exact ⟨z, us, 0, r, Heap.get?_push_size _ rfl⟩
end
abbrev Sp := List V → Hp → VK → XK → Prop
abbrev CXT := List Env → Hp → Shared → XK → Value → Shared → Prop
structure Env0 (P : Program) (w : World) (K : PySem.W.Frag) (mg : Str → Option Value) (base : Heap) (A : Around) (outer : List Env) (s : Shared) (H : Hp) : Prop where
  frames : A.frames = some outer
  mod : Mod K mg base
  bs : ∀ b o, base.get? b = some o → s.heap.get? b = some o ∧ H b = none
  bsz : base.objs.size ≤ s.heap.objs.size
  funs : s.heap.FunFrames base outer
  frf : ∀ b ∈ frs outer, H b = none
  hok : HOk P w H s.heap
  bare : AllBare s.gens
def CE (outer : List Env) (P : Program) (w : World) (H : Hp) (s : Shared) (Q : VK) (u : Value) (s' : Shared) : Prop :=
  ∃ v H', s'.os = s.os ∧ AllBare s'.gens ∧ Un (frs outer) [] H H' s.heap s'.heap ∧ HOk P w H' s'.heap ∧ RelV v u ∧ Q v H'
def CR (CX : CXT) (outer : List Env) (P : Program) (w : World) (H : Hp) (s : Shared) (Q : VK) (E : XK) (r : Result) (s' : Shared) : Prop :=
  match r with
  | .ok (.ret u) => CE outer P w H s Q u s'
  | .ok _ => False
  | .error e => CX outer H s E e s'
structure FnOk (P : Program) (w : World) (K : PySem.W.Frag) (mg : Str → Option Value) (base : Heap) (CX : CXT) (k : Nat) (f : Addr) (fd : FuncData) (ps : List Str) (sp : Sp) : Prop where
  len : ∀ vs H Q E, sp vs H Q E → vs.length = ps.length
  run : ∀ (A : Around) (outer : List Env) (s : Shared) (H : Hp) (args : Args) (us : List Value) (vs : List V) (Q : VK) (E : XK), Room k A → Env0 P w K mg base A outer s H → BindsTo s fd args (ps.zip us) → Vals vs us → sp vs H Q E →
    codeAny (model P w) A (.call (.ref f) args) (CR CX outer P w H s Q E) s
theorem Env0.make {P : Program} {w : World} {K : PySem.W.Frag} {mg : Str → Option Value} {base : Heap} {A : Around} {outer : List Env} {s : Shared} {H : Hp} (e : Env0 P w K mg base A outer s H) (C : Addr) (us : List Value) (kw : List (Str × Value)) :
    Env0 P w K mg base (A.under (.builtin "type.__call__" ⟨.ref C :: us, kw⟩)) outer s H := ⟨by first | exact e.frames | (simpa [Around.under, Code.envs, Code.isFrame, pushEnvs] using e.frames), e.mod, e.bs, e.bsz, e.funs, e.frf, e.hok, e.bare⟩
section
variable {X : Cx} {pins : List (Addr × Obj)} {σ : St} {H : Hp} {s s' : Shared}
theorem Inv.env0 (I : Inv X pins σ H s) : Env0 X.prog X.w X.K X.mg X.base X.A X.stack s H :=
  ⟨I.ok.frames, I.ok.mod, I.bs, Nat.le_trans I.ok.bsz I.sz, I.stack, I.stkFree, I.hok, I.bare⟩
theorem Inv.after {Q : VK} {u : Value} (I : Inv X pins σ H s) (h : CE X.stack X.prog X.w H s Q u s') : EP X pins σ Q u s' := by
  obtain ⟨v, H', os, bare, un, hok, r, q⟩ := h
  obtain ⟨hh, g, d, t, os'⟩ := s'
  obtain rfl : os' = s.os := os
  exact ⟨v, H', I.call (h' := hh) (g' := g) (d' := d) (t' := t) (ch := []) un hok bare (fun b z => absurd z (by simp)), r, q⟩
end
def tCall (sp : Sp) (dvs : List V) (E : XK) (t : TA) : TE := fun σ H Q => t σ H fun vs H1 => sp (vs ++ dvs) H1 Q E
inductive MethR (C : Addr) (m : Str) (x : V) (H1 : Hp) (N : Hp → Prop) : Prop
  | mk (a dx : Addr) (fs : List (Str × V)) (e1 : x = .ref a) (e2 : H1 a = some (.ins C dx fs)) (e3 : fs.lookup m = none) (q : N H1) : MethR C m x H1 N
def tMeth (C : Addr) (m : Str) (sp : Sp) (dvs : List V) (E : XK) (ta : TE) (t : TA) : TE := fun σ H Q => ta σ H fun x H1 => MethR C m x H1 fun H1 =>
  t σ H1 fun vs H2 => sp (x :: (vs ++ dvs)) H2 Q E
def tMake (C : Addr) (sp : Sp) (dvs : List V) (E : XK) (t : TA) : TE := fun σ H Q => t σ H fun vs H1 => ∀ x dx, H1 x = none → H1 dx = none → dx ≠ x →
  sp (.ref x :: (vs ++ dvs)) (upd (upd H1 dx (.own x)) x (.ins C dx [])) (fun v H2 => v = .non ∧ Q (.ref x) H2) E
def Binds (K : PySem.W.Frag) (fd : FuncData) (ps : List Str) (ds : List Value) : Prop :=
  ∀ (s : Shared) (us : List Value), K.In s.heap → (us ++ ds).length = ps.length → BindsTo s fd ⟨us, []⟩ (ps.zip (us ++ ds))
theorem Binds.all {K : PySem.W.Frag} {fd : FuncData} {ps : List Str} (h : ∀ us : List Value, us.length = ps.length → bindArgs fd ⟨us, []⟩ = pure (ps.zip us)) : Binds K fd ps [] := fun s us _ hl => by
  rw [List.append_nil] at hl ⊢
  exact .of_eq (h us hl)
def Passes (CX : CXT) (X : Cx) (E : XK) : Prop := ∀ (pins : List (Addr × Obj)) (σ : St) (H : Hp) (s : Shared) (e : Value) (s' : Shared), Inv X pins σ H s → CX X.stack H s E e s' → X.xe e s'
section
variable {X : Cx} {CX : CXT} {k : Nat} {f C : Addr} {fd : FuncData} {ps : List Str} {sp : Sp} {dvs : List V} {ds : List Value} {E : XK} {x m : Str} {p pos apos : Pos} {e o : Expr} {es : List Expr} {ta : TE} {t : TA}
theorem run_fn {pins : List (Addr × Obj)} {σ : St} {H : Hp} {s : Shared} {Q : VK} {us : List Value} {vs : List V} (F : FnOk X.prog X.w X.K X.mg X.base CX k f fd ps sp) (hr : Room k X.A) (hb : Binds X.K fd ps ds) (hd : Vals dvs ds) (hx : Passes CX X E)
    (I : Inv X pins σ H s) (r : Vals vs us) (h : sp (vs ++ dvs) H Q E) : wpAny (model X.prog X.w) X.A (call (.ref f) us) (EP X pins σ Q) X.xe s := by
  have r2 : Vals (vs ++ dvs) (us ++ ds) := r.append hd
  have hl : (us ++ ds).length = ps.length := by rw [← r2.length]; exact F.len _ _ _ _ h
  refine wpAny_call (codeAny_mono (F.run X.A X.stack s H ⟨us, []⟩ (us ++ ds) (vs ++ dvs) Q E hr I.env0 (hb s us I.kIn hl) r2 h) fun r s' hq => ?_)
  cases r with
  | error e => exact hx pins σ H s e s' I hq
  | ok fl =>
    cases fl with
    | ret u => exact I.after hq
    | next => exact False.elim hq
    | brk => exact False.elim hq
    | cont => exact False.elim hq
theorem pe_call (F : FnOk X.prog X.w X.K X.mg X.base CX k f fd ps sp) (hr : Room k X.A) (hg : Gl X x) (hm : X.mg x = some (.ref f)) (hk : PySem.W.keepIn X.K (.ref f) = true) (hb : Binds X.K fd ps ds) (hd : Vals dvs ds) (hx : Passes CX X E)
    (ha : PA X (e :: es) t) (hdb : (x == ("__debug__" : Str)) = false := by decide) (he : starEach (e :: es) X.env = (false, eval e X.env) :: starEach es X.env := by rfl) (hpl : (backTo pos (starEach es X.env)).any (·.1) = false := by rfl) :
    PE X (.Call (.Name x p) (e :: es) [] pos) (tCall sp dvs E t) := by
  intro pins s σ H Q I h
  refine wpAny_Call_Name_kw (ld_glob I hg hm ?_ hdb)
  refine PySem.W.callWith_K (h₀ := X.base) I.ok.mod.kin hk (thn (ha pos pins s σ H _ I h) fun us s1 ⟨vs, H1, I1, r, q⟩ => ⟨I1.kIn, ?_⟩) he hpl
  exact run_fn F hr hb hd hx I1 r q
theorem pe_meth {pl : Sem Bool} (he : PE X o ta) (c : Cls X.K C) (hm : Meth X.K C m f) (F : FnOk X.prog X.w X.K X.mg X.base CX k f fd ps sp) (hr : Room k X.A) (hb : Binds X.K fd ps ds) (hd : Vals dvs ds) (hx : Passes CX X E) (ha : PA X (e :: es) t)
    (hst : starEach (e :: es) X.env = (false, eval e X.env) :: starEach es X.env := by rfl) (hpl : (backTo pos (starEach es X.env)).any (·.1) = false := by rfl)
    (ht : eval (.Call (.Attribute o m apos) (e :: es) [] pos) X.env = (do
      let ov ← eval o X.env
      standAt apos.atName
      let (f, first) ← holding [ov] (getMethod ov m pl)
      callWith pos f first (backTo pos (starEach (e :: es) X.env)) (backToKw pos (keywordEach [] X.env))) := by rfl) :
    PE X (.Call (.Attribute o m apos) (e :: es) [] pos) (tMeth C m sp dvs E ta t) := by
  intro pins s σ H Q I h
  refine PySem.W.methodCall_KW (pl := pl) (thn (he pins s σ H _ I h) fun u s1 ⟨x, H1, I1, rx, a, dx, fs, ex, ea, l, q⟩ => ?_) ht
  subst ex
  obtain rfl : u = Value.ref a := rx
  refine getmeth_ok I1 ea c hm l ?_
  refine PySem.W.callWith_K (first := [.ref a]) (h₀ := X.base) I.ok.mod.kin hm.kp (thn (ha pos pins s1 σ H1 _ I1 q) fun us s2 ⟨vs, H2, I2, r, q2⟩ => ⟨I2.kIn, ?_⟩) hst hpl
  exact run_fn (us := .ref a :: us) (vs := .ref a :: vs) F hr hb hd hx I2 (.cons rfl r) q2
theorem pe_meth0 {pl : Sem Bool} (he : PE X o ta) (c : Cls X.K C) (hm : Meth X.K C m f) (F : FnOk X.prog X.w X.K X.mg X.base CX k f fd ps sp) (hr : Room k X.A) (hb : Binds X.K fd ps ds) (hd : Vals dvs ds) (hx : Passes CX X E)
    (ht : eval (.Call (.Attribute o m apos) [] [] pos) X.env = (do
      let ov ← eval o X.env
      standAt apos.atName
      let (f, first) ← holding [ov] (getMethod ov m pl)
      callWith pos f first (backTo pos (starEach [] X.env)) (backToKw pos (keywordEach [] X.env))) := by rfl) :
    PE X (.Call (.Attribute o m apos) [] [] pos) (tMeth C m sp dvs E ta tNil) := by
  intro pins s σ H Q I h
  refine PySem.W.methodCall_KW (pl := pl) (thn (he pins s σ H _ I h) fun u s1 ⟨x, H1, I1, rx, a, dx, fs, ex, ea, l, q⟩ => ?_) ht
  subst ex
  obtain rfl : u = Value.ref a := rx
  refine getmeth_ok I1 ea c hm l ?_
  exact PySem.W.callWith_K0 (first := [.ref a]) I1.kIn hm.kp (run_fn (us := [.ref a]) (vs := [.ref a]) F hr hb hd hx I1 (.cons rfl .nil) q)
structure Mk (K : PySem.W.Frag) (C f : Addr) : Prop where
  makes : PySem.W.makesIn K C = true
  init : PySem.W.findIn K (.ref C) "__init__" = some (some (.ref f))
  fn : PySem.W.isFn K (.ref f) = true
  kp : PySem.W.keepIn K (.ref C) = true
theorem run_make {pins : List (Addr × Obj)} {σ : St} {H : Hp} {s : Shared} {Q : VK} {us : List Value} {vs : List V} (M : Mk X.K C f) (F : FnOk X.prog X.w X.K X.mg X.base CX k f fd ps sp) (hr : Room (k + 1) X.A) (hb : Binds X.K fd ps ds) (hd : Vals dvs ds)
    (hx : Passes CX X E) (I : Inv X pins σ H s) (r : Vals vs us)
    (h : ∀ x dx, H x = none → H dx = none → dx ≠ x → sp (.ref x :: (vs ++ dvs)) (upd (upd H dx (.own x)) x (.ins C dx [])) (fun v H2 => v = .non ∧ Q (.ref x) H2) E) :
    wpAny (model X.prog X.w) X.A (call (.ref C) us) (EP X pins σ Q) X.xe s := by
  have hq := h (s.heap.objs.size + 1) s.heap.objs.size (I.hok.fresh (Nat.le_succ _)) (I.hok.fresh (Nat.le_refl _)) (Nat.ne_of_lt (Nat.lt_succ_self _))
  have I2 := Inv.made (C := C) I
  have r2 : Vals (V.ref (s.heap.objs.size + 1) :: (vs ++ dvs)) (Value.ref (s.heap.objs.size + 1) :: (us ++ ds)) := .cons rfl (r.append hd)
  have hl : (Value.ref (s.heap.objs.size + 1) :: us ++ ds).length = ps.length := by
    have e := r2.length
    rw [F.len _ _ _ _ hq] at e
    exact e.symm
  refine wpAny_call (make_map (f := f) I.kIn M.makes M.init (beq_iff_eq.mp M.fn) (codeAny_mono (F.run _ X.stack _ _ ⟨Value.ref (s.heap.objs.size + 1) :: us, []⟩ (Value.ref (s.heap.objs.size + 1) :: (us ++ ds)) _ _ E (hr.make C us [])
    (I2.env0.make C us []) (hb _ (Value.ref (s.heap.objs.size + 1) :: us) I2.kIn hl) r2 hq) fun r s' hq' => ?_))
  cases r with
  | error e => exact hx pins σ _ _ e s' I2 hq'
  | ok fl =>
    cases fl with
    | ret u =>
      obtain ⟨v, H', I3, rv, ev, q3⟩ := I2.after hq'
      subst ev
      exact ⟨rv, ⟨V.ref (s.heap.objs.size + 1), H', I3, rfl, q3⟩⟩
    | next => exact False.elim hq'
    | brk => exact False.elim hq'
    | cont => exact False.elim hq'
theorem pe_make (M : Mk X.K C f) (F : FnOk X.prog X.w X.K X.mg X.base CX k f fd ps sp) (hr : Room (k + 1) X.A) (hg : Gl X x) (hm : X.mg x = some (.ref C)) (hb : Binds X.K fd ps ds) (hd : Vals dvs ds) (hx : Passes CX X E)
    (ha : PA X (e :: es) t) (hdb : (x == ("__debug__" : Str)) = false := by decide) (he : starEach (e :: es) X.env = (false, eval e X.env) :: starEach es X.env := by rfl) (hpl : (backTo pos (starEach es X.env)).any (·.1) = false := by rfl) :
    PE X (.Call (.Name x p) (e :: es) [] pos) (tMake C sp dvs E t) := by
  intro pins s σ H Q I h
  refine wpAny_Call_Name_kw (ld_glob I hg hm ?_ hdb)
  refine PySem.W.callWith_K (h₀ := X.base) I.ok.mod.kin M.kp (thn (ha pos pins s σ H _ I h) fun us s1 ⟨vs, H1, I1, r, q⟩ => ⟨I1.kIn, ?_⟩) he hpl
  exact run_make M F hr hb hd hx I1 r q
end
section
variable {X : Cx} {CX : CXT} {k : Nat} {f C : Addr} {fd : FuncData} {ps ks : List Str} {sp : Sp} {E : XK} {x m : Str} {p pos apos kpos : Pos} {e o : Expr} {es : List Expr} {kws : List Keyword} {te ta : TE} {t tk : TA} {nm : Option Str}
structure KBinds (K : PySem.W.Frag) (fd : FuncData) (ps ks : List Str) (g : List Value → List Value → List Value) (gV : List V → List V → List V) : Prop where
  to : ∀ (s : Shared) (us ws : List Value), K.In s.heap → (g us ws).length = ps.length → BindsTo s fd ⟨us, ks.zip ws⟩ (ps.zip (g us ws))
  rel : ∀ {vs : List V} {us : List Value} {zs : List V} {ws : List Value}, Vals vs us → Vals zs ws → Vals (gV vs zs) (g us ws)
variable {g : List Value → List Value → List Value} {gV : List V → List V → List V}
end
structure FnScope (N P : List Str) (sc : Scope) : Prop where
  kind : sc.kind = .function
  co : sc.isCoroutine = false
  gen : sc.isGenerator = false
  nd : N.Nodup
  pre : N.take P.length = P
  par : ∀ x ∈ P, sc.names.lookup x = some .local ∨ sc.names.lookup x = some .cell
  nofree : ∀ y ∈ sc.names, y.2 ≠ .free
theorem bindL_out {kindOf : Str → Option NameKind} {x : Str} : ∀ {binds : List (Str × Value)} {m : Str → Option Value}, (∀ v, (x, v) ∉ binds) → bindL kindOf binds m x = m x
  | [], _, _ => rfl
  | (n, v) :: r, m, h => by
    unfold bindL
    rw [bindL_out fun w hw => h w (List.mem_cons_of_mem _ hw)]
    split
    · have : x ≠ n := by rintro rfl; exact h v List.mem_cons_self
      simp [this]
    · rfl
theorem bindC_out {kindOf : Str → Option NameKind} {x : Str} : ∀ {binds : List (Str × Value)} {m : Str → Option Value}, (∀ v, (x, v) ∉ binds) → bindC kindOf binds m x = m x
  | [], _, _ => rfl
  | (n, v) :: r, m, h => by
    unfold bindC
    rw [bindC_out fun w hw => h w (List.mem_cons_of_mem _ hw)]
    split
    · rfl
    · have : x ≠ n := by rintro rfl; exact h v List.mem_cons_self
      simp [this]
theorem bindL_get {kindOf : Str → Option NameKind} {x : Str} {v : Value} : ∀ {P : List Str} {vs : List Value} {i : Nat} {m : Str → Option Value}, P.Nodup → P[i]? = some x → vs[i]? = some v → kindOf x = some .local →
    bindL kindOf (P.zip vs) m x = some v
  | [], _, _, _, _, h, _, _ => by simp at h
  | _ :: _, [], _, _, _, _, h, _ => by simp at h
  | p :: P, w :: vs, 0, m, nd, h1, h2, hk => by
    simp at h1 h2; subst h1; subst h2
    show bindL kindOf ((p, w) :: P.zip vs) m p = _
    unfold bindL
    rw [bindL_out fun v hv => (List.nodup_cons.mp nd).1 (List.of_mem_zip hv).1, if_pos hk]
    simp
  | p :: P, w :: vs, i + 1, m, nd, h1, h2, hk => by
    show bindL kindOf ((p, w) :: P.zip vs) m x = _
    unfold bindL
    exact bindL_get (i := i) (List.nodup_cons.mp nd).2 (by simpa using h1) (by simpa using h2) hk
theorem bindC_get {kindOf : Str → Option NameKind} {x : Str} {v : Value} : ∀ {P : List Str} {vs : List Value} {i : Nat} {m : Str → Option Value}, P.Nodup → P[i]? = some x → vs[i]? = some v → kindOf x ≠ some .local →
    bindC kindOf (P.zip vs) m x = some v
  | [], _, _, _, _, h, _, _ => by simp at h
  | _ :: _, [], _, _, _, _, h, _ => by simp at h
  | p :: P, w :: vs, 0, m, nd, h1, h2, hk => by
    simp at h1 h2; subst h1; subst h2
    show bindC kindOf ((p, w) :: P.zip vs) m p = _
    unfold bindC
    rw [bindC_out fun v hv => (List.nodup_cons.mp nd).1 (List.of_mem_zip hv).1, if_neg hk]
    simp
  | p :: P, w :: vs, i + 1, m, nd, h1, h2, hk => by
    show bindC kindOf ((p, w) :: P.zip vs) m x = _
    unfold bindC
    exact bindC_get (i := i) (List.nodup_cons.mp nd).2 (by simpa using h1) (by simpa using h2) hk
def start (N : List Str) (vs : List V) : St := vs.map some ++ List.replicate (N.length - vs.length) none
def cxOf (CX : CXT) (P : Program) (w : World) (K : PySem.W.Frag) (mg : Str → Option Value) (base : Heap) (N : List Str) (qual : Str) (scope : Scope) (f : Addr) (cd : Value) (A : Around) (outer : List Env) (s : Shared) (H : Hp) (E : XK) : Cx where
  prog := P
  w := w
  K := K
  mg := mg
  base := base
  A := A.deeper (envOfC qual scope s.heap.objs.size f cd)
  N := N
  s₀ := s
  H₀ := H
  env := envOfC qual scope s.heap.objs.size f cd
  outer := outer
  stack := envOfC qual scope s.heap.objs.size f cd :: outer
  ex := []
  calm := true
  fn := fun _ => true
  pn := []
  xe := fun e s' => wpAny (model P w) (A.deeper (envOfC qual scope s.heap.objs.size f cd)) (leaving (envOfC qual scope s.heap.objs.size f cd) e) (fun _ s'' => CX outer H s E e s'') (fun e' s'' => CX outer H s E e' s'') s'
theorem cell_has {sc : Scope} {n : Nat} {x : Str} (h : sc.names.lookup x = some .cell) : ∃ c, (cellsFrom n sc.names []).lookup x = some c := by
  have q := PySem.W.cellsFrom_some sc.names n [] (.inl h)
  exact Option.isSome_iff_exists.mp q
theorem inv_start {CX : CXT} {P : Program} {w : World} {K : PySem.W.Frag} {mg : Str → Option Value} {base : Heap} {N ps : List Str} {qual : Str} {scope : Scope} {f : Addr} {cd : Value} {A : Around} {outer : List Env} {s s1 : Shared} {H : Hp} {E : XK} {us : List Value} {vs : List V}
    (S : FnScope N ps scope) (hd : A.handled = none) (e0 : Env0 P w K mg base A outer s H) (hl : vs.length = ps.length) (r : Vals vs us)
    (x : InCallC s s.heap.objs.size (bindL (envOfC qual scope s.heap.objs.size f cd).kindOf (ps.zip us) fun _ => none) (cellsFrom (s.heap.objs.size + 1) scope.names []) (bindC (envOfC qual scope s.heap.objs.size f cd).kindOf (ps.zip us) fun _ => none) s1) :
    Inv (cxOf CX P w K mg base N qual scope f cd A outer s H E) [] (start N vs) H s1 := by
  have hpl : ps.length ≤ N.length := by have := congrArg List.length S.pre; rw [List.length_take] at this; omega
  obtain ⟨h1, tk, rfl, hk⟩ := x.done
  have noA : ∀ b : Addr, b ∉ (cxOf CX P w K mg base N qual scope f cd A outer s H E).ex := fun b z => absurd (show b ∈ ([] : List Addr) from z) (by simp)
  refine ⟨⟨e0.mod, S.kind, rfl, rfl, Nat.le_refl _, fun y z c h1 h2 => ?_, fun y hy => ?_, fun y c _ h => ?_, fun _ => hd, Around.frames_deeper e0.frames, .inr ⟨rfl, rfl⟩, fun b z => absurd z (noA b), e0.bs, e0.bsz, fun b _ _ => noA b, fun b z => absurd z (noA b), e0.funs, e0.frf⟩,
    rfl, e0.bare, Un.kept hk, ⟨_, x.toInCall.ns, fun i y v h1 h2 h3 => ?_⟩, fun y c h => ⟨_, x.cell y c h⟩, e0.hok.fresh (Nat.le_refl _), fun y c h => ?_, fun p hp => absurd (show p ∈ ([] : List (Addr × Obj)) from hp) (by simp), e0.hok.kept hk, ?_⟩
  · exact name_of_addr x.apart (PySem.mem_of_lookup h1) (PySem.mem_of_lookup h2)
  · have hy : scope.names.lookup y = some .cell ∨ scope.names.lookup y = some .free := hy
    rcases hy with hy | hy
    · exact cell_has hy
    · exact absurd rfl (S.nofree _ (PySem.mem_of_lookup hy))
  · exact Nat.le_of_lt (x.above y c (PySem.mem_of_lookup h))
  · have hi : i < vs.length := by
      unfold start at h2
      by_cases hi : i < vs.length
      · exact hi
      · rw [List.getElem?_append_right (by simpa using hi)] at h2
        rw [List.getElem?_replicate] at h2
        split at h2 <;> cases h2
    have ha : vs[i]? = some v := by
      unfold start at h2
      rw [List.getElem?_append_left (by simpa using hi), List.getElem?_map] at h2
      cases e : vs[i]? with
      | none => rw [e] at h2; cases h2
      | some a => rw [e] at h2; cases h2; rfl
    obtain ⟨u, hu, rv⟩ := r.get ha
    have hp : ps[i]? = some y := by
      rw [← S.pre, List.getElem?_take_of_lt (by omega)]; exact h1
    have ndP : ps.Nodup := by rw [← S.pre]; exact S.nd.sublist (List.take_sublist _ _)
    refine ⟨u, rv, ?_⟩
    rcases S.par y (List.mem_of_getElem? hp) with k | k
    · exact .inl ⟨k, bindL_get ndP hp hu k⟩
    · obtain ⟨c, e⟩ := cell_has (n := s.heap.objs.size + 1) k
      refine .inr ⟨.inl k, c, e, ?_⟩
      have q := x.cell y c e
      rw [bindC_get ndP hp hu (by show scope.names.lookup y ≠ _; rw [k]; decide)] at q
      exact q
  · exact e0.hok.fresh (Nat.le_of_lt (x.above y c (PySem.mem_of_lookup h)))
  · unfold start
    show _ = N.length
    rw [List.length_append, List.length_map, List.length_replicate]
    omega
theorem fn_of {CX : CXT} {P : Program} {w : World} {K : PySem.W.Frag} {mg : Str → Option Value} {base : Heap} {k : Nat} {f : Addr} {name qual : Str} {params : Arguments} {body : List Stmt} {scope : Scope} {dV kV doc pm cdv ct oc : Value} {an od : Option Addr}
    {osl : Array (Option Value)} {N ps : List Str} {sp : Sp} (lk : K.lookup f = some ⟨oc, od, .func (PySem.W.fnOf name qual params body scope dV kV doc pm an cdv ct), osl⟩) (hcd : PySem.W.codeIn K cdv qual = true) (S : FnScope N ps scope)
    (len : ∀ vs H Q E, sp vs H Q E → vs.length = ps.length)
    (hbody : ∀ (A : Around) (outer : List Env) (s : Shared) (H : Hp) (vs : List V) (Q : VK) (E : XK), Room k (A.deeper (envOfC qual scope s.heap.objs.size f cdv)) → sp vs H Q E →
      ∃ t, PSs (cxOf CX P w K mg base N qual scope f cdv A outer s H E) body t ∧ t { nx := fun _ H' => Q .non H', rt := Q } (start N vs) H) :
    FnOk P w K mg base CX (k + 1) f (PySem.W.fnOf name qual params body scope dV kV doc pm an cdv ct) ps sp := by
  refine ⟨len, fun A outer s H args us vs Q E hr e0 hb r hsp => ?_⟩
  have hl := len _ _ _ _ hsp
  have KX : K.In s.heap := e0.mod.kin.keeps fun b o e => (e0.bs b o e).1
  have lim : s.heap.NoLimit := e0.mod.nolimit.keeps fun b o e => (e0.bs b o e).1
  have hkind : ∀ y ∈ ps.zip us, scope.names.lookup y.1 = some .local ∨ (scope.names.lookup y.1 = some .cell ∧ ((cellsFrom (s.heap.objs.size + 1) scope.names []).lookup y.1).isSome = true) := fun ⟨n, v⟩ hy => by
    rcases S.par n (List.of_mem_zip hy).1 with q | q
    · exact .inl q
    · exact .inr ⟨q, PySem.W.cellsFrom_some _ _ _ (.inl q)⟩
  refine codeAny_call_function hr.depth (KX _ _ lk) rfl S.co S.gen rfl (PySem.W.codeRec_of KX hcd) (hb _ _ _ _ ?_)
  refine wpAny_newFunctionEnv_cells S.kind hkind fun env he s1 x => ?_
  subst he
  refine ⟨lim.keeps x.toInCall.keep, codeAny_func ?_⟩
  obtain ⟨t, ht, hq⟩ := hbody A outer s H vs Q E (hr.deeper _) hsp
  have I : Inv (cxOf CX P w K mg base N qual scope f cdv A outer s H E) [] (start N vs) H s1 := inv_start S hr.hd e0 hl r x
  refine wpAny_mono (ht [] s1 (start N vs) H _ I hq) (fun fl s' hs => ?_) fun e s' hs => hs
  have fin : ∀ {σ' : St} {H' : Hp} {v : V} {u : Value}, Inv (cxOf CX P w K mg base N qual scope f cdv A outer s H E) [] σ' H' s' → RelV v u → Q v H' → CE outer P w H s Q u s' :=
    fun {σ' H' v u} J rv q => ⟨v, H', J.os, J.bare, J.base, J.hok, rv, q⟩
  cases fl with
  | ret u =>
    obtain ⟨v, σ', H', J, rv, q⟩ := hs
    exact fin J rv q
  | next =>
    obtain ⟨σ', H', J, q⟩ := hs
    exact fin (v := V.non) (u := Value.none) J rfl q
  | brk =>
    obtain ⟨_, _, _, q⟩ := hs
    exact False.elim q
  | cont =>
    obtain ⟨_, _, _, q⟩ := hs
    exact False.elim q
end L2
namespace L2
open PySem PySem.Spec PyProof.Rows
section
variable {X : Cx} {x : Str} {p pos : Pos} {e : Expr} {es : List Expr} {t : TA} {id T : String} {r : List V → Hp → VK → Prop}
def tCB (r : List V → Hp → VK → Prop) (t : TA) : TE := fun σ H Q => t σ H fun vs H1 => r vs H1 Q
theorem pe_callB (hc : CallR X (.builtin id) r) (hg : Gl X x) (hm : X.mg x = none) (hv : bootBuiltins x = some (.builtin id)) (ha : PA X (e :: es) t) (hn : x ≠ "__name__" := by decide) (hdb : (x == ("__debug__" : Str)) = false := by decide)
    (he : starEach (e :: es) X.env = (false, eval e X.env) :: starEach es X.env := by rfl) (hpl : (backTo pos (starEach es X.env)).any (·.1) = false := by rfl) : PE X (.Call (.Name x p) (e :: es) [] pos) (tCB r t) := by
  intro pins s σ H Q I h
  refine wpAny_Call_Name_kw (ld_blt I hg hm hv ?_ hn hdb)
  exact PyProof.Rows.callWith_builtin1 (thn (ha pos pins s σ H _ I h) fun us s1 ⟨vs, H1, I1, r1, q1⟩ => hc pins s1 σ H1 vs us Q I1 r1 q1) he hpl
theorem pe_callTy (hc : CallR X (.type T) r) (hg : Gl X x) (hm : X.mg x = none) (hv : bootBuiltins x = some (.type T)) (ha : PA X (e :: es) t) (hn : x ≠ "__name__" := by decide) (hdb : (x == ("__debug__" : Str)) = false := by decide)
    (he : starEach (e :: es) X.env = (false, eval e X.env) :: starEach es X.env := by rfl) (hpl : (backTo pos (starEach es X.env)).any (·.1) = false := by rfl) : PE X (.Call (.Name x p) (e :: es) [] pos) (tCB r t) := by
  intro pins s σ H Q I h
  refine wpAny_Call_Name_kw (ld_blt I hg hm hv ?_ hn hdb)
  exact PyProof.Rows.callWith_type1 (thn (ha pos pins s σ H _ I h) fun us s1 ⟨vs, H1, I1, r1, q1⟩ => hc pins s1 σ H1 vs us Q I1 r1 q1) he hpl
end
end L2
namespace HT
open PySem PyProof.Rows
def lexLt : List Int → List Int → Bool
  | [], [] => false
  | [], _ :: _ => true
  | _ :: _, [] => false
  | x :: xs, y :: ys => if x = y then lexLt xs ys else decide (x < y)
theorem lexLt_cons (x y : Int) (xs ys : List Int) : lexLt (x :: xs) (y :: ys) = if x = y then lexLt xs ys else decide (x < y) := rfl
theorem lexLt_nil_nil : lexLt [] [] = false := rfl
theorem lexLt_cons_nil (x : Int) (xs : List Int) : lexLt (x :: xs) [] = false := rfl
section
open PySem.SeqAt
open PySem.AutoSeq1 (wpAny_loadPart')
open PySem.MeetsSeq PySem.MeetsSeq2 PySem.MeetsSeq3
end
section
variable {prog : Program} {w : World} {A : Around} {E : Value → Shared → Prop} {s : Shared}
def sIx (n d : Nat) : Option Int → Nat
  | none => d
  | some v => if v < 0 then (v + (n : Int)).toNat else min v.toNat n
theorem sIx_nat (n d k : Nat) : sIx n d (some (k : Int)) = min k n := by
  show (if (k : Int) < 0 then ((k : Int) + (n : Int)).toNat else min (k : Int).toNat n) = min k n
  rw [if_neg (by omega), Int.toNat_natCast]
end
end HT
namespace L2
open PySem PySem.Spec PyProof.Rows
abbrev TO := St → Hp → (Option Int → Hp → Prop) → Prop
def PO (X : Cx) (e : Option Expr) (t : TO) : Prop :=
  ∀ (pins : List (Addr × Obj)) (s : Shared) (σ : St) (H : Hp) (Q : Option Int → Hp → Prop), Inv X pins σ H s → t σ H Q →
    wpAny (model X.prog X.w) X.A (evalPart e X.env) (fun u s' => ∃ o H', Inv X pins σ H' s' ∧ IsPart u o ∧ Q o H') X.xe s
def tNoPart : TO := fun _ H Q => Q none H
def tPart (t : TE) : TO := fun σ H Q => t σ H fun x H1 => ∃ i, x = .int i ∧ Q (some i) H1
theorem intsAre_of {ns : List Int} : ∀ {us : List Value}, Vals (ns.map V.int) us → IntsAre us ns := by
  induction ns with
  | nil => intro us r; rw [List.map_nil] at r; cases r; exact .nil
  | cons n ns ih =>
    intro us r
    rw [List.map_cons] at r
    cases r with
    | cons r1 r2 =>
      obtain ⟨t, e⟩ := r1
      subst e
      exact .cons n t (ih r2)
section
variable {X : Cx} {e : Expr} {te : TE} {lo hi : Option Expr} {tl th : TO} {pos p2 : Pos}
theorem po_none : PO X none tNoPart := by
  intro pins s σ H Q I h
  rw [evalPart_none]
  exact wpAny_pure ⟨none, H, I, .none, h⟩
theorem po_some (h : PE X e te) : PO X (some e) (tPart te) := by
  intro pins s σ H Q I hw
  rw [evalPart_some]
  refine thn (h pins s σ H _ I hw) fun u s1 ⟨x, H1, I1, r1, q1⟩ => ?_
  obtain ⟨i, rfl, q⟩ := q1
  obtain ⟨t, rfl⟩ := r1
  exact ⟨some i, H1, I1, .int i t, q⟩
def SlR (X : Cx) (r : V → Option Int → Option Int → Hp → VK → Prop) : Prop :=
  ∀ (pins : List (Addr × Obj)) (s : Shared) (σ : St) (H : Hp) (x : V) (v vl vu : Value) (lo hi : Option Int) (sl : Addr) (Q : VK), Inv X pins σ H s → RelV x v → s.heap.IsSliceOf sl vl vu .none → IsPart vl lo → IsPart vu hi → r x lo hi H Q →
    ∃ T id, typeLookup (.type T) "__getitem__" = pure (some (.builtin id)) ∧ s.TypeIs v T ∧ wpAny (model X.prog X.w) X.A (getItem v (.ref sl)) (EP X pins σ Q) X.xe s
def tSl (r : V → Option Int → Option Int → Hp → VK → Prop) (te : TE) (tl th : TO) : TE := fun σ H Q => te σ H fun x H1 => tl σ H1 fun l H2 => th σ H2 fun u H3 => r x l u H3 Q
theorem pe_slice {r : V → Option Int → Option Int → Hp → VK → Prop} (hr : SlR X r) (he : PE X e te) (hl : PO X lo tl) (hu : PO X hi th) : PE X (.Subscript e (.Slice lo hi none p2) pos) (tSl r te tl th) := by
  intro pins s σ H Q I h
  refine Subscript_ (thn (he pins s σ H _ I h) fun v s1 ⟨x, H1, I1, r1, q1⟩ => ?_)
  refine wpAny_Slice (thn (hl pins s1 σ H1 _ I1 q1) fun vl s2 ⟨l, H2, I2, pl, q2⟩ => thn (hu pins s2 σ H2 _ I2 q2) fun vu s3 ⟨u, H3, I3, pu, q3⟩ => ?_)
  rw [evalPart_none]
  refine wpAny_pure ?_
  have I4 : Inv X pins σ H3 { s3 with heap := s3.heap.push { cls := .type "slice", data := .fields #[vl, vu, .none] } } := I3.kept (t' := s3.toks) fun b ob q => Heap.get?_push_of_some _ q
  obtain ⟨T, id, hT, ht, hg⟩ := hr pins { s3 with heap := s3.heap.push { cls := .type "slice", data := .fields #[vl, vu, .none] } } σ H3 x v vl vu l u s3.heap.objs.size Q I4 r1 (Heap.IsSliceOf.new ..) pl pu q3
  show wpAny (model X.prog X.w) X.A (subscriptTail e (.Slice lo hi none p2) v (.ref s3.heap.objs.size)) (EP X pins σ Q) X.xe { s3 with heap := s3.heap.push { cls := .type "slice", data := .fields #[vl, vu, .none] } }
  exact tail_any (ops := [.ref s3.heap.objs.size, v]) ht hT hg (by with_unfolding_all rfl)
def cutV (xs : List V) (lo hi : Option Int) : List V := (xs.drop (HT.sIx xs.length 0 lo)).take (HT.sIx xs.length xs.length hi - HT.sIx xs.length 0 lo)
theorem cutV_length (xs : List V) (lo hi : Option Int) : (cutV xs lo hi).length ≤ xs.length := by
  unfold cutV
  rw [List.length_take, List.length_drop]
  omega
end
end L2
namespace L2
open PySem PySem.Spec PyProof.Rows
def ixN (n : Nat) (i : Int) : Option Nat := if 0 ≤ i then (if i < n then some i.toNat else none) else if -(n : Int) ≤ i then some (i + n).toNat else none
def atI {α : Type} (xs : List α) (i : Int) : Option α := (ixN xs.length i).bind fun j => xs[j]?
theorem ixN_seq {n : Nat} {i : Int} {j : Nat} (h : ixN n i = some j) : seqIndex? i n = some j ∧ j < n ∧ -(n : Int) ≤ i ∧ i < n := by
  unfold ixN at h
  by_cases h0 : 0 ≤ i
  · rw [if_pos h0] at h
    by_cases h1 : i < n
    · rw [if_pos h1] at h
      have e : i.toNat = j := Option.some.inj h
      exact ⟨by rw [seqIndex_of h0 h1, e], by omega, by omega, h1⟩
    · rw [if_neg h1] at h; cases h
  · rw [if_neg h0] at h
    by_cases h1 : -(n : Int) ≤ i
    · rw [if_pos h1] at h
      have e : (i + n).toNat = j := Option.some.inj h
      exact ⟨by rw [seqIndex_neg (by omega) h1, e], by omega, h1, by omega⟩
    · rw [if_neg h1] at h; cases h
theorem atI_get {α : Type} {xs : List α} {i : Int} {v : α} (h : atI xs i = some v) : ∃ j, seqIndex? i xs.length = some j ∧ xs[j]? = some v ∧ j < xs.length ∧ -(xs.length : Int) ≤ i ∧ i < xs.length := by
  unfold atI at h
  cases e : ixN xs.length i with
  | none => rw [e] at h; cases h
  | some j =>
    rw [e] at h
    obtain ⟨h1, h2, h3, h4⟩ := ixN_seq e
    exact ⟨j, h1, h, h2, h3, h4⟩
theorem atI_nat {α : Type} {xs : List α} {j : Nat} {v : α} (h : xs[j]? = some v) : atI xs (j : Int) = some v := by
  have hj : j < xs.length := (List.getElem?_eq_some_iff.mp h).1
  have e : ixN xs.length (j : Int) = some j := by
    unfold ixN
    rw [if_pos (by omega), if_pos (by omega)]; simp
  unfold atI; rw [e]; exact h
def PlainIx (b : Expr) : Prop := ∀ o i, subscripted b false o i = operate [o, i] (getItem o i)
def IxR (X : Cx) (r : R2) : Prop :=
  ∀ (value slice : Expr) (pins : List (Addr × Obj)) (s : Shared) (σ : St) (H : Hp) (x y : V) (v u : Value) (Q : VK), Inv X pins σ H s → RelV x v → RelV y u → r x y H Q →
    subscripted slice false v u = operate [v, u] (getItem v u) → wpAny (model X.prog X.w) X.A (subscriptTail value slice v u) (EP X pins σ Q) X.xe s
def MtR (X : Cx) (id : String) (r : V → List V → Hp → VK → Prop) : Prop :=
  ∀ (pins : List (Addr × Obj)) (s : Shared) (σ : St) (H : Hp) (x : V) (xs : List V) (v : Value) (us : List Value) (Q : VK), Inv X pins σ H s → RelV x v → Vals xs us → r x xs H Q →
    wpAny (model X.prog X.w) X.A (call (.builtin id) (v :: us)) (EP X pins σ Q) X.xe s
section
variable {X : Cx} {a b : Expr} {ta tb : TE} {pos : Pos}
theorem pe_ix {r : R2} (hr : IxR X r) (ha : PE X a ta) (hb : PE X b tb) (hs : PlainIx b) : PE X (.Subscript a b pos) (tOp r ta tb) := by
  intro pins s σ H Q I h
  exact Subscript_ (binT ha hb I h fun v u s2 x y H2 I2 rx ry q => hr a b pins s2 σ H2 x y v u Q I2 rx ry q (hs _ _))
inductive rIxL (K : PySem.W.Frag) (x y : V) (H : Hp) (Q : VK) : Prop
  | mk (p : Addr) (xs : List V) (i : Int) (v : V) (e1 : x = .ref p) (e2 : y = .int i) (e3 : SqL K H p xs) (e4 : atI xs i = some v) (q : Q v H) : rIxL K x y H Q
inductive rIxT (K : PySem.W.Frag) (x y : V) (H : Hp) (Q : VK) : Prop
  | mk (p : Addr) (xs : List V) (i : Int) (v : V) (e1 : x = .ref p) (e2 : y = .int i) (e3 : SqT K H p xs) (e4 : atI xs i = some v) (q : Q v H) : rIxT K x y H Q
theorem ix_list : IxR X (rIxL X.K) := by
  intro value slice pins s σ H x y v u Q I rx ry h hs
  obtain ⟨p, xs, i, z, rfl, rfl, hq, he, q⟩ := h
  cases rx
  obtain ⟨t, rfl⟩ := ry
  obtain ⟨its, r, pl, hz⟩ := I.list hq
  obtain ⟨j, h1, h2, h3, h4, h5⟩ := atI_get he
  obtain ⟨w, ew, rw'⟩ := r.get h2
  have hl := r.length
  have hn := line63
  have fin : EP X pins σ Q w s := ⟨z, H, I, rw', q⟩
  by_cases h0 : 0 ≤ i
  · have hj : i.toNat = j := by
      rw [seqIndex_of h0 h5] at h1
      exact Option.some.inj h1
    exact item_listR pl.isList h0 (by omega) (by rw [hj]; simpa using ew) fin hs
  · have hj : (i + (its.toArray.size : Int)).toNat = j := by
      rw [seqIndex_neg (by omega) h4] at h1
      rw [List.size_toArray, ← hl]
      exact Option.some.inj h1
    exact subscriptTail_builtinR (x := w) pl.isList.typeIs slot_list_getitem.lookup
      (wpAny_getItem_list_neg (Q := fun r s' => r = w ∧ EP X pins σ Q r s') pl.isList (by omega) (by rw [List.size_toArray] <;> omega) (by omega) (by rw [hj]; simpa using ew) ⟨rfl, fin⟩) hs
theorem ix_tup : IxR X (rIxT X.K) := by
  intro value slice pins s σ H x y v u Q I rx ry h hs
  obtain ⟨p, xs, i, z, rfl, rfl, hq, he, q⟩ := h
  cases rx
  obtain ⟨t, rfl⟩ := ry
  obtain ⟨its, r, pl, hz⟩ := I.tuple hq
  obtain ⟨j, h1, h2, h3, h4, h5⟩ := atI_get he
  obtain ⟨w, ew, rw'⟩ := r.get h2
  have hl := r.length
  have hn := line63
  have fin : EP X pins σ Q w s := ⟨z, H, I, rw', q⟩
  exact subscriptTail_builtinR (x := w) pl.typeIs slot_tuple_getitem.lookup
    (getItem_tuple (j := j) (Q := fun r s' => r = w ∧ EP X pins σ Q r s') pl (by omega) (by omega) (by rw [List.size_toArray, ← hl]; exact h1) (by simpa using ew) ⟨rfl, fin⟩) hs
theorem mapSeq_set (its : List Value) (n j : Nat) (u : Value) : Obj.mapSeq (·.setIfInBounds j u) { cls := .type "list", data := .seq its.toArray n } = { cls := .type "list", data := .seq (its.set j u).toArray n } := by
  simp [Obj.mapSeq]
theorem Inv.lst {pins : List (Addr × Obj)} {σ : St} {H : Hp} {s : Shared} {p : Addr} {xs : List V} (I : Inv X pins σ H s) (h : H p = some (.lst xs)) :
    ∃ (its : List Value) (n : Nat), Vals xs its ∧ s.heap.get? p = some { cls := .type "list", data := .seq its.toArray n } ∧ xs.length ≤ sizeLine := by
  obtain ⟨z, its, n, r, e⟩ := I.hok p _ h
  exact ⟨its, n, r, e, z⟩
theorem Inv.lstUpd {pins : List (Addr × Obj)} {σ : St} {H : Hp} {s : Shared} {p : Addr} {xs ys : List V} {its its' : List Value} {n n' : Nat} {f : Obj → Obj} (I : Inv X pins σ H s) (h : H p = some (.lst xs))
    (ho : s.heap.get? p = some { cls := .type "list", data := .seq its.toArray n }) (hf : f { cls := .type "list", data := .seq its.toArray n } = { cls := .type "list", data := .seq its'.toArray n' }) (r : Vals ys its') (hz : ys.length ≤ sizeLine) (t : Nat) :
    Inv X pins σ (upd H p (.lst ys)) { s with heap := s.heap.update p f, toks := t } := by
  have e : (s.heap.update p f).get? p = some { cls := .type "list", data := .seq its'.toArray n' } := by
    rw [Heap.get?_update_self f ho (by rw [hf] <;> rfl), hf]
  refine I.write (x := p) (e := p) (by rw [h]; trivial) (.inl rfl) (fun b u hb q => (Heap.get?_update_other _ _ (Ne.symm hb)).trans q) ⟨_, e⟩ ?_
  exact ⟨hz, its', n', r, e⟩
inductive rSetL (o i v : V) (H : Hp) (Q : Hp → Prop) : Prop
  | mk (p : Addr) (xs : List V) (k : Int) (j : Nat) (e1 : o = .ref p) (e2 : i = .int k) (e3 : H p = some (.lst xs)) (e4 : ixN xs.length k = some j) (q : Q (upd H p (.lst (xs.set j v)))) : rSetL o i v H Q
theorem set_list : PSet X rSetL := by
  intro pins s σ H o i v ov iv u Q I ro ri rv h
  obtain ⟨p, xs, k, j, rfl, rfl, hp, hj, q⟩ := h
  cases ro
  obtain ⟨t, rfl⟩ := ri
  obtain ⟨its, n, r, ho, hz⟩ := I.lst hp
  obtain ⟨h1, h2, h3, h4⟩ := ixN_seq hj
  have hl := r.length
  have hn := line63
  have I' : Inv X pins σ (upd H p (.lst (xs.set j v))) { s with heap := s.heap.update p (Obj.mapSeq (·.setIfInBounds j u)) } :=
    I.lstUpd hp ho (mapSeq_set its n j u) (r.set rv j) (by rw [List.length_set]; exact hz) s.toks
  by_cases h0 : 0 ≤ k
  · have hk : k.toNat = j := by
      rw [seqIndex_of h0 h4] at h1
      exact Option.some.inj h1
    exact PySem.W.ki_setAt ho h0 (by omega) (by rw [List.size_toArray, ← hl]; exact h4) (by rw [hk]; exact ⟨_, I', q⟩)
  · have hk : (k + (its.toArray.size : Int)).toNat = j := by
      rw [seqIndex_neg (by omega) h3] at h1
      rw [List.size_toArray, ← hl]
      exact Option.some.inj h1
    exact PySem.W.ki_setBack ho (by omega) (by rw [List.size_toArray, ← hl]; exact h3) (by omega) (by rw [hk]; exact ⟨_, I', q⟩)
theorem slice_bounds (lo hi : Option Int) (n : Nat) : (sliceBounds lo hi none n).1 = ((HT.sIx n 0 lo : Nat) : Int) ∧ (sliceBounds lo hi none n).2.1 = ((HT.sIx n n hi : Nat) : Int) ∧ (sliceBounds lo hi none n).2.2 = 1 := by
  refine ⟨?_, ?_, rfl⟩
  · cases lo with
    | none => simp [sliceBounds, HT.sIx]
    | some i =>
      simp only [sliceBounds, HT.sIx, Option.getD_none, show (1 : Int) > 0 by decide, if_true]
      by_cases h : i < 0
      · simp only [h, if_true] <;> omega
      · simp only [h, if_false] <;> omega
  · cases hi with
    | none => simp [sliceBounds, HT.sIx]
    | some i =>
      simp only [sliceBounds, HT.sIx, Option.getD_none, show (1 : Int) > 0 by decide, if_true]
      by_cases h : i < 0
      · simp only [h, if_true] <;> omega
      · simp only [h, if_false] <;> omega
theorem slicePick_cut (its : List Value) (lo hi : Option Int) : slicePick its.toArray lo hi none = ((its.drop (HT.sIx its.length 0 lo)).take (HT.sIx its.length its.length hi - HT.sIx its.length 0 lo)).toArray := by
  obtain ⟨h1, h2, h3⟩ := slice_bounds lo hi its.toArray.size
  unfold slicePick
  rw [h1, h2, h3]
  simp only [sliceRange_one, pick_run, List.size_toArray] <;> rfl
def rSlL (K : PySem.W.Frag) : V → Option Int → Option Int → Hp → VK → Prop := fun x lo hi H Q => ∃ a xs, x = .ref a ∧ SqL K H a xs ∧ ∀ p, H p = none → Q (.ref p) (upd H p (.lst (cutV xs lo hi)))
theorem sl_list : SlR X (rSlL X.K) := by
  intro pins s σ H x v vl vu lo hi sl Q I rx hs pl pu h
  obtain ⟨a, xs, rfl, hx, q⟩ := h
  cases rx
  obtain ⟨its, r, ht, hz⟩ := I.list hx
  have hlen := r.length
  refine ⟨"list", _, slot_list_getitem.lookup, ht.isList.typeIs, ?_⟩
  refine wpAny_getItem_list_slice ht.isList hs pl pu .none (by simp) ?_ (by rw [List.size_toArray] <;> omega)
  rw [slicePick_cut, ← hlen]
  refine ⟨.ref s.heap.objs.size, _, I.laid (t' := s.toks) (o := .lst (cutV xs lo hi)) (fun b ob q => Heap.get?_push_of_some _ q) (Nat.le_refl _) ?_, rfl, q _ (I.hok.fresh (Nat.le_refl _))⟩
  exact ⟨Nat.le_trans (cutV_length xs lo hi) hz, _, 0, (r.drop (HT.sIx xs.length 0 lo)).take (HT.sIx xs.length xs.length hi - HT.sIx xs.length 0 lo), Heap.get?_push_size _ rfl⟩
def flatV : V → Bool
  | .non => true
  | .bl _ => true
  | .int _ => true
  | .str _ => true
  | _ => false
def eqV : V → V → Bool
  | .non, .non => true
  | .bl a, .bl b => a == b
  | .bl a, .int b => (if a then 1 else 0) == b
  | .int a, .bl b => a == (if b then 1 else 0)
  | .int a, .int b => a == b
  | .str a, .str b => a == b
  | _, _ => false
theorem eqAt_V {A : Around} {s : Shared} {y x : V} {u v : Value} (ry : RelV y u) (rx : RelV x v) (fy : flatV y = true) (fx : flatV x = true) : SeqAt.EqAt A s u v (eqV y x) := by
  cases y with
  | non =>
    cases ry
    cases x with
    | non => cases rx; exact SeqAt.EqAt.same _
    | bl b => cases rx; exact SeqAt.EqAt.none_bool b
    | int b => obtain ⟨t, rfl⟩ := rx; exact SeqAt.EqAt.none_int b t
    | str b => obtain ⟨t, rfl⟩ := rx; exact SeqAt.EqAt.none_str b t
    | _ => exact absurd (show false = true from fx) Bool.false_ne_true
  | bl a =>
    cases ry
    cases x with
    | non => cases rx; exact SeqAt.EqAt.bool_none a
    | bl b => cases rx; exact SeqAt.EqAt.bool_bool a b
    | int b => obtain ⟨t, rfl⟩ := rx; exact SeqAt.EqAt.bool_int a b t
    | str b => obtain ⟨t, rfl⟩ := rx; exact SeqAt.EqAt.bool_str a b t
    | _ => exact absurd (show false = true from fx) Bool.false_ne_true
  | int a =>
    obtain ⟨t', rfl⟩ := ry
    cases x with
    | non => cases rx; exact SeqAt.EqAt.int_none a t'
    | bl b => cases rx; exact SeqAt.EqAt.int_bool a t' b
    | int b => obtain ⟨t, rfl⟩ := rx; exact SeqAt.EqAt.int_int a t' b t
    | str b => obtain ⟨t, rfl⟩ := rx; exact SeqAt.EqAt.int_str a t' b t
    | _ => exact absurd (show false = true from fx) Bool.false_ne_true
  | str a =>
    obtain ⟨t', rfl⟩ := ry
    cases x with
    | non => cases rx; exact SeqAt.EqAt.str_none a t'
    | bl b => cases rx; exact SeqAt.EqAt.str_bool a t' b
    | int b => obtain ⟨t, rfl⟩ := rx; exact SeqAt.EqAt.str_int a t' b t
    | str b => obtain ⟨t, rfl⟩ := rx; exact SeqAt.EqAt.str_str a t' b t
    | _ => exact absurd (show false = true from fx) Bool.false_ne_true
  | _ => exact absurd (show false = true from fy) Bool.false_ne_true
def eqU (x : V) (u : Value) : Bool := match u with
  | .none => eqV .non x
  | .bool b => eqV (.bl b) x
  | .int i _ => eqV (.int i) x
  | .str z _ => eqV (.str z) x
  | _ => false
theorem eqU_of {x y : V} {u : Value} (r : RelV y u) (f : flatV y = true) : eqU x u = eqV y x := by
  cases y with
  | non => cases r; rfl
  | bl b => cases r; rfl
  | int i => obtain ⟨t, rfl⟩ := r; rfl
  | str z => obtain ⟨t, rfl⟩ := r; rfl
  | _ => exact absurd (show false = true from f) Bool.false_ne_true
theorem any_eqU {x : V} : ∀ {xs : List V} {us : List Value}, Vals xs us → xs.all flatV = true → us.any (eqU x) = xs.any fun y => eqV y x
  | _, _, .nil, _ => rfl
  | y :: xs, u :: us, .cons r t, f => by
    rw [List.all_cons, Bool.and_eq_true] at f
    rw [List.any_cons, List.any_cons, eqU_of r f.1, any_eqU t f.2]
theorem mem_eqAt {A : Around} {s : Shared} {x : V} {v : Value} (rx : RelV x v) (fx : flatV x = true) : ∀ {xs : List V} {us : List Value}, Vals xs us → xs.all flatV = true → ∀ u ∈ us, SeqAt.EqAt A s u v (eqU x u)
  | _, _, .nil, _ => fun u hu => by cases hu
  | y :: xs, u :: us, .cons r t, f => fun u' hu => by
    rw [List.all_cons, Bool.and_eq_true] at f
    rcases List.mem_cons.mp hu with rfl | hu
    · rw [eqU_of r f.1]; exact eqAt_V r rx f.1 fx
    · exact mem_eqAt rx fx t f.2 u' hu
def inV (x : V) (xs : List V) : Bool := xs.any fun y => eqV y x
def rIn (K : PySem.W.Frag) (neg : Bool) : R2 := fun x y H Q => ∃ p xs, y = .ref p ∧ (SqL K H p xs ∨ SqT K H p xs) ∧ flatV x = true ∧ xs.all flatV = true ∧ Q (.bl (if neg then !inV x xs else inV x xs)) H
theorem op_in_seq : OpR X (compareOp .In) (rIn X.K false) := by
  intro pins s σ H x y v u Q I rx ry h
  obtain ⟨p, xs, rfl, hq, fx, fs, q⟩ := h
  cases ry
  rcases hq with hq | hq
  · obtain ⟨its, r, pl, hz⟩ := I.list hq
    refine SeqAt.in_listAt (eqU x) pl.isList (fun w hw => mem_eqAt rx fx r fs w (by simpa using hw)) ⟨.bl _, H, I, rfl, ?_⟩
    rw [show its.toArray.any (eqU x) = its.any (eqU x) by simp, any_eqU r fs]
    exact q
  · obtain ⟨its, r, pl, hz⟩ := I.tuple hq
    refine SeqAt.in_tupleAt (eqU x) pl (fun w hw => mem_eqAt rx fx r fs w (by simpa using hw)) ⟨.bl _, H, I, rfl, ?_⟩
    rw [show its.toArray.any (eqU x) = its.any (eqU x) by simp, any_eqU r fs]
    exact q
inductive rLen (K : PySem.W.Frag) (xs : List V) (H : Hp) (Q : VK) : Prop
  | mk (p : Addr) (ys : List V) (e1 : xs = [.ref p]) (e2 : SqL K H p ys ∨ SqT K H p ys) (q : Q (.int ys.length) H) : rLen K xs H Q
theorem call_len_seq : CallR X (.builtin "len") (rLen X.K) := by
  intro pins s σ H xs us Q I r h
  obtain ⟨p, ys, rfl, hq, q⟩ := h
  obtain ⟨u, rfl, rx⟩ := vals1 r
  cases rx
  have hn := line63
  rcases hq with hq | hq
  · obtain ⟨its, r', pl, hz⟩ := I.list hq
    have hlen := r'.length
    exact Calls.call_len_list pl.isList (by simp only [List.size_toArray] <;> omega) ⟨.int ys.length, H, I.tok _, ⟨s.toks + 1, by rw [List.size_toArray, hlen]⟩, q⟩
  · obtain ⟨its, r', pl, hz⟩ := I.tuple hq
    have hlen := r'.length
    exact len_tuple pl (by simp only [List.size_toArray] <;> omega) ⟨.int ys.length, H, I.tok _, ⟨s.toks + 1, by rw [List.size_toArray, hlen]⟩, q⟩
theorem call_list_of : CallR X (.type "list") (fun xs H Q => ∃ p ys, xs = [.ref p] ∧ (SqL X.K H p ys ∨ SqT X.K H p ys) ∧ ∀ l, H l = none → Q (.ref l) (upd H l (.lst ys))) := by
  intro pins s σ H xs us Q I r h
  obtain ⟨p, ys, rfl, hq, q⟩ := h
  obtain ⟨u, rfl, rx⟩ := vals1 r
  cases rx
  have fin : ∀ (its : List Value), Vals ys its → ys.length ≤ sizeLine → ∀ (h' : Heap) (c' : Nat), (∀ b o', s.heap.get? b = some o' → h'.get? b = some o') →
      h'.get? s.heap.objs.size = some { cls := .type "list", dict := none, data := .seq its.toArray c', slots := #[] } → EP X pins σ Q (.ref s.heap.objs.size) { s with heap := h' } := fun its r' hz h' c' kp e =>
    ⟨.ref s.heap.objs.size, _, I.laid (t' := s.toks) kp (Nat.le_refl _) (show ObjOk X.prog X.w _ h' _ (.lst ys) from ⟨hz, its, c', r', e⟩), rfl, q _ (I.hok.fresh (Nat.le_refl _))⟩
  rcases hq with hq | hq
  · obtain ⟨its, r', pl, hz⟩ := I.list hq
    have hlen := r'.length
    obtain ⟨o, ho, hc, n, hd⟩ := pl.isList
    exact call_list_seq p (.inl rfl) ho hc hd (fun h' c' kp e => fin its r' hz h' c' kp e) (by simp only [List.size_toArray] <;> omega)
  · obtain ⟨its, r', pl, hz⟩ := I.tuple hq
    have hlen := r'.length
    obtain ⟨o, ho, hc, n, hd⟩ := pl
    exact call_list_seq p (.inr rfl) ho hc hd (fun h' c' kp e => fin its r' hz h' c' kp e) (by simp only [List.size_toArray] <;> omega)
theorem call_tuple_of : CallR X (.type "tuple") (fun xs H Q => ∃ p ys, xs = [.ref p] ∧ ((SqL X.K H p ys ∧ ∀ l, H l = none → Q (.ref l) (upd H l (.tup ys))) ∨ (SqT X.K H p ys ∧ Q (.ref p) H))) := by
  intro pins s σ H xs us Q I r h
  obtain ⟨p, ys, rfl, h⟩ := h
  obtain ⟨u, rfl, rx⟩ := vals1 r
  cases rx
  rcases h with ⟨hq, q⟩ | ⟨hq, q⟩
  · obtain ⟨its, r', pl, hz⟩ := I.list hq
    have hlen := r'.length
    refine call_tuple_list pl.isList (fun h' kp => ?_) (by simp only [List.size_toArray] <;> omega)
    have I1 : Inv X pins σ H { s with heap := h' } := I.kept (t' := s.toks) kp
    have I2 : Inv X pins σ (upd H h'.objs.size (.tup ys)) { s with heap := h'.push { cls := .type "tuple", data := .seq its.toArray } } :=
      I1.laid (t' := s.toks) (fun b o e => Heap.get?_push_of_some _ e) (Nat.le_refl _) (show ObjOk X.prog X.w _ _ _ (.tup ys) from ⟨hz, its, r', IsTup.new _ _⟩)
    exact ⟨.ref h'.objs.size, _, I2, rfl, q _ (I1.hok.fresh (Nat.le_refl _))⟩
  · obtain ⟨its, r', pl, hz⟩ := I.tuple hq
    exact call_tuple_same pl ⟨.ref p, H, I, rfl, q⟩
def tyV (K : PySem.W.Frag) (T : String) (x : V) (H : Hp) : Prop := match x with
  | .str _ => T = "str"
  | .int _ => T = "int"
  | .ref p => (T = "list" ∧ ∃ xs, SqL K H p xs) ∨ (T = "tuple" ∧ ∃ o, K.lookup p = some o ∧ o.cls = .type "tuple" ∧ o.dict = none) ∨
      (T = "dict" ∧ ((∃ kvs, H p = some (.dK kvs)) ∨ ∃ kvs, H p = some (.dT kvs))) ∨ (T = "set" ∧ ∃ S n, H p = some (.set S n))
  | _ => False
theorem tyV_is {pins : List (Addr × Obj)} {σ : St} {H : Hp} {s : Shared} {T : String} {x : V} {v : Value} (I : Inv X pins σ H s) (r : RelV x v) (ty : tyV X.K T x H) :
    s.TypeIs v T ∧ ∀ a, v = .ref a → ∃ ob, s.heap.get? a = some ob ∧ ob.dict = none := by
  cases x with
  | str z =>
    obtain ⟨t, rfl⟩ := r
    cases (show T = "str" from ty)
    exact ⟨typeIs_str s z t, fun _ e => nomatch e⟩
  | int i =>
    obtain ⟨t, rfl⟩ := r
    cases (show T = "int" from ty)
    exact ⟨typeIs_int s i t, fun _ e => nomatch e⟩
  | ref p =>
    cases r
    rcases ty with ⟨rfl, xs, hq⟩ | ⟨rfl, o, hk, hc, hd⟩ | ⟨rfl, hk⟩ | ⟨rfl, S, n, hk⟩
    · obtain ⟨its, _, pl, _⟩ := I.list hq
      refine ⟨pl.isList.typeIs, fun a e => ?_⟩
      cases e
      obtain ⟨o, n, e, c, hd, _⟩ := pl
      exact ⟨o, e, hd⟩
    · refine ⟨⟨o, I.kIn p o hk, hc⟩, fun a e => ?_⟩
      cases e
      exact ⟨o, I.kIn _ o hk, hd⟩
    · have z : ∃ o, s.heap.get? p = some o ∧ o.ExactDict := by
        rcases hk with ⟨kvs, hk⟩ | ⟨kvs, hk⟩
        · obtain ⟨_, _, _, _, o, _, _, e, ex, _⟩ := I.hok p _ hk
          exact ⟨o, e, ex⟩
        · obtain ⟨_, _, _, _, o, _, _, e, ex, _⟩ := I.hok p _ hk
          exact ⟨o, e, ex⟩
      obtain ⟨o, e, ex⟩ := z
      refine ⟨⟨o, e, ex.1⟩, fun a e2 => ?_⟩
      cases e2
      exact ⟨o, e, ex.2.1⟩
    · obtain ⟨o, _, _, _, e, ex, _⟩ := I.hok p _ hk
      refine ⟨⟨o, e, ex.1⟩, fun a e2 => ?_⟩
      cases e2
      exact ⟨o, e, ex.2.1⟩
  | _ => exact False.elim ty
def tBM (K : PySem.W.Frag) (T : String) (r : V → List V → Hp → VK → Prop) (to : TE) (t : TA) : TE := fun σ H Q => to σ H fun x H1 => tyV K T x H1 ∧ t σ H1 fun xs H2 => r x xs H2 Q
variable {o e : Expr} {es : List Expr} {to : TE} {t : TA} {name : Str} {apos cpos : Pos} {T id : String} {r : V → List V → Hp → VK → Prop}
theorem pe_bm (pa : PlainAttrs T) (slot : Slot T name id) (hty : typeOf (.builtin id) = pure (.type "method_descriptor")) (hm : MtR X id r) (ho : PE X o to) (ha : PA X (e :: es) t)
    (hbase : attributeBase o name X.env (eval o X.env) = eval o X.env := by rfl)
    (hfew : ((backTo cpos (starEach (e :: es) X.env)).all (fun x => !x.1) && (backToKw cpos (keywordEach [] X.env)).all (fun x => x.1.isSome)
      && decide ((e :: es).length + ([] : List Keyword).length + (if ([] : List Keyword).isEmpty then 0 else 1) < 30)) = true := by rfl)
    (hline : (apos.endLine == cpos.line) = true := by rfl) (hs : starEach (e :: es) X.env = (false, eval e X.env) :: starEach es X.env := by rfl) (hplain : (backTo cpos (starEach es X.env)).any (·.1) = false := by rfl) :
    PE X (.Call (.Attribute o name apos) (e :: es) [] cpos) (tBM X.K T r to t) := by
  intro pins s σ H Q I h
  refine wpAny_Call_method_late hbase hfew hline rfl (thn (ho pins s σ H _ I h) fun v s1 ⟨x, H1, I1, r1, ty, q1⟩ => ?_)
  obtain ⟨h1, h2⟩ := tyV_is I1 r1 ty
  refine ⟨T, id, pa, slot, hty, h1, h2, ?_⟩
  have hA := ha cpos pins s1 σ H1 _ I1 q1
  rw [hs] at hA ⊢
  refine Calls.callWith_builtin (by show (false || (backTo cpos (starEach es X.env)).any (·.1)) = false; rw [hplain] <;> rfl) (Calls.evalArgs_plain ?_)
  exact thn hA fun us s2 ⟨vs, H2, I2, r2, q2⟩ => hm pins s2 σ H2 x vs v us Q I2 r1 r2 q2
end
end L2
namespace L2
open PySem PySem.Spec PyProof.Rows
def MtM (X : Cx) (id : String) (r : V → List V → Hp → VK → Prop) : Prop :=
  ∀ (pins : List (Addr × Obj)) (s : Shared) (σ : St) (H : Hp) (x : V) (xs : List V) (v : Value) (us : List Value) (Q : VK), Inv X pins σ H s → RelV x v → Vals xs us → r x xs H Q →
    wpAny (model X.prog X.w) X.A (call (.builtin id) (v :: us)) (EP X pins σ Q) X.xe s
theorem Vals.one : ∀ {x : V} {us : List Value}, Vals [x] us → ∃ u, us = [u] ∧ RelV x u
  | _, _, .cons r .nil => ⟨_, rfl, r⟩
theorem Vals.two {x y : V} {us : List Value} (h : Vals [x, y] us) : ∃ u v, us = [u, v] ∧ RelV x u ∧ RelV y v := by
  cases h with
  | cons r t =>
    obtain ⟨v, rfl, q⟩ := Vals.one t
    exact ⟨_, _, rfl, r, q⟩
theorem Vals.rep {xs : List V} {us : List Value} (h : Vals xs us) : ∀ k : Nat, Vals (List.replicate k xs).flatten (List.replicate k us).flatten
  | 0 => .nil
  | k + 1 => by
    rw [List.replicate_succ, List.replicate_succ, List.flatten_cons, List.flatten_cons]
    exact Vals.append h (Vals.rep h k)
theorem foldl_rep (its : List Value) : ∀ (k : Nat) (acc : List Value),
    List.foldl (fun x1 x2 => x1 ++ x2) acc.toArray (List.replicate k its.toArray) = (acc ++ (List.replicate k its).flatten).toArray
  | 0, acc => by simp
  | k + 1, acc => by
    have e : acc.toArray ++ its.toArray = (acc ++ its).toArray := by simp
    have e2 : (acc ++ its) ++ (List.replicate k its).flatten = acc ++ (List.replicate (k + 1) its).flatten := by
      rw [List.replicate_succ, List.flatten_cons, List.append_assoc]
    rw [← e2, ← foldl_rep its k (acc ++ its), ← e, List.replicate_succ, List.foldl_cons]
section
variable {X : Cx} {pins : List (Addr × Obj)} {σ : St} {H : Hp} {s : Shared} {l b : Addr} {xs ys zs : List V}
theorem Inv.lset {its its' : List Value} {n : Nat} {f : Array Value → Array Value} {t' : Nat} (I : Inv X pins σ H s) (hH : H l = some (.lst xs))
    (e : s.heap.get? l = some { cls := .type "list", data := .seq its.toArray n }) (hf : f its.toArray = its'.toArray) (hv : Vals ys its') (hz : ys.length ≤ sizeLine) :
    Inv X pins σ (upd H l (.lst ys)) { s with heap := s.heap.update l (Obj.mapSeq f), toks := t' } := by
  have q := PySem.IsL.update e f
  rw [hf] at q
  refine I.write (x := l) (e := l) (by rw [hH]; exact trivial) (.inl rfl) (fun b' u hb hu => (Heap.get?_update_other s.heap (Obj.mapSeq f) (Ne.symm hb)).trans hu) ⟨_, q⟩ ?_
  exact ⟨hz, its', _, hv, q⟩
theorem Inv.lnew {its : List Value} {t' : Nat} (I : Inv X pins σ H s) (hv : Vals ys its) (hz : ys.length ≤ sizeLine) :
    Inv X pins σ (upd H s.heap.objs.size (.lst ys)) { s with heap := s.heap.push { cls := .type "list", data := .seq its.toArray }, toks := t' } :=
  I.laid (fun _ _ q => Heap.get?_push_of_some _ q) (Nat.le_refl _) ⟨hz, its, 0, hv, Heap.get?_push_size _ rfl⟩
theorem Inv.fresh (I : Inv X pins σ H s) : H s.heap.objs.size = none := I.hok.fresh (Nat.le_refl _)
theorem Inv.lstM (I : Inv X pins σ H s) (hH : H l = some (.lst xs)) : xs.length ≤ sizeLine ∧ ∃ (its : List Value) (n : Nat), Vals xs its ∧ xs.length = its.length ∧ s.heap.get? l = some { cls := .type "list", data := .seq its.toArray n } := by
  obtain ⟨z, its, n, r, e⟩ := I.hok l _ hH
  exact ⟨z, its, n, r, r.length, e⟩
theorem notLongL {n : Nat} (h : n ≤ sizeLine) : Builtin.List.listTooLong n = false := by
  unfold Builtin.List.listTooLong
  exact decide_eq_false (by omega)
end
section
variable {X : Cx}
inductive rAppend (x : V) (vs : List V) (H : Hp) (Q : VK) : Prop
  | mk (l : Addr) (xs : List V) (y : V) (e1 : x = .ref l) (e2 : vs = [y]) (e3 : H l = some (.lst xs)) (e4 : xs.length < sizeLine) (q : Q .non (upd H l (.lst (xs ++ [y])))) : rAppend x vs H Q
theorem mt_append : MtM X "list.append" rAppend := by
  intro pins s σ H x vs v us Q I rx rv h
  obtain ⟨l, xs, y, rfl, rfl, hH, hz, q⟩ := h
  cases rx
  obtain ⟨u, rfl, ru⟩ := rv.one
  obtain ⟨z, its, n, r, hl, e⟩ := I.lstM hH
  refine call_meets F.slot_list_append ⟨_, e, rfl⟩ F.entry_list_append (F.args_list_append_2 _ _) (PySem.list_append l its.toArray n u (by rw [List.size_toArray]; omega)) ⟨e, ?_⟩
  refine ⟨.non, _, I.lset (its' := its ++ [u]) hH e (by simp) (r.append (.cons ru .nil)) ?_, rfl, q⟩
  rw [List.length_append, List.length_singleton]
  omega
def rExtend : V → List V → Hp → VK → Prop := fun x vs H Q => ∃ l b xs zs, x = .ref l ∧ vs = [.ref b] ∧ H l = some (.lst xs) ∧ H b = some (.lst zs) ∧ xs.length + zs.length ≤ sizeLine ∧ Q .non (upd H l (.lst (xs ++ zs)))
theorem mt_extend : MtM X "list.extend" rExtend := by
  intro pins s σ H x vs v us Q I rx rv h
  obtain ⟨l, b, xs, zs, rfl, rfl, hH, hB, hz, q⟩ := h
  cases rx
  obtain ⟨u, rfl, ru⟩ := rv.one
  cases ru
  obtain ⟨z, its, n, r, hl, e⟩ := I.lstM hH
  obtain ⟨z2, its2, n2, r2, hl2, e2⟩ := I.lstM hB
  have hsz : its.toArray.size + its2.toArray.size ≤ sizeLine := by rw [List.size_toArray, List.size_toArray]; omega
  have hlong : ¬ (!its.toArray.isEmpty && Builtin.List.listTooLong (its.toArray.size + its2.toArray.size)) = true := by
    rw [notLongL hsz, Bool.and_false]
    exact Bool.false_ne_true
  refine call_meets F.slot_list_extend ⟨_, e, rfl⟩ F.entry_list_extend (F.args_list_extend_2 _ _)
    (AutoSeq1.list_extend_list_list_0 l its.toArray n b its2.toArray n2 hlong (by rw [List.size_toArray]; omega) (by omega)) ⟨e, e2, ?_⟩
  refine ⟨.non, _, I.lset (its' := its ++ its2) hH e (by simp) (r.append r2) ?_, rfl, q⟩
  rw [List.length_append]
  omega
def rCat : R2 := fun x y H Q => ∃ l b xs zs, x = .ref l ∧ y = .ref b ∧ H l = some (.lst xs) ∧ H b = some (.lst zs) ∧ xs.length + zs.length ≤ sizeLine ∧ ∀ p, H p = none → Q (.ref p) (upd H p (.lst (xs ++ zs)))
theorem op_cat : OpR X (binaryOp .Add) rCat := by
  intro pins s σ H x y v u Q I rx ry h
  obtain ⟨l, b, xs, zs, rfl, rfl, hH, hB, hz, q⟩ := h
  cases rx
  cases ry
  obtain ⟨z, its, n, r, hl, e⟩ := I.lstM hH
  obtain ⟨z2, its2, n2, r2, hl2, e2⟩ := I.lstM hB
  refine PySem.P.add_list e e2 ?_ (by rw [List.size_toArray, List.size_toArray]; omega)
  have ea : its.toArray ++ its2.toArray = (its ++ its2).toArray := by simp
  rw [ea]
  exact ⟨.ref _, _, I.lnew (t' := s.toks) (r.append r2) (by rw [List.length_append]; omega), rfl, q _ I.fresh⟩
def rRep : R2 := fun x y H Q => ∃ l k xs, x = .ref l ∧ y = .int k ∧ H l = some (.lst xs) ∧ -(2 ^ 63) ≤ k ∧ k < 2 ^ 63 ∧ xs.length * k.toNat ≤ sizeLine ∧
  ∀ p, H p = none → Q (.ref p) (upd H p (.lst (List.replicate k.toNat xs).flatten))
theorem len_rep {α : Type} (xs : List α) (k : Nat) : (List.replicate k xs).flatten.length = k * xs.length := by
  induction k with
  | zero => simp
  | succ k ih => rw [List.replicate_succ, List.flatten_cons, List.length_append, ih, Nat.succ_mul, Nat.add_comm]
theorem op_rep : OpR X (binaryOp .Mult) rRep := by
  intro pins s σ H x y v u Q I rx ry h
  obtain ⟨l, k, xs, rfl, rfl, hH, h1, h2, hz, q⟩ := h
  cases rx
  obtain ⟨t, rfl⟩ := ry
  obtain ⟨z, its, n, r, hl, e⟩ := I.lstM hH
  have hlen : its.toArray.size * k.toNat ≤ sizeLine := by rw [List.size_toArray, ← hl]; exact hz
  have hcap : ¬ its.toArray.size * k.toNat > (2 ^ 63 - 1) / 8 := by
    have : (sizeLine : Nat) ≤ (2 ^ 63 - 1) / 8 := by decide
    omega
  have hfit : ¬ (!Builtin.List.listFitsIndex k) = true := by
    rw [fitsIndex_both h1 h2]
    exact Bool.false_ne_true
  have hlong : ¬ Builtin.List.listTooLong (its.toArray.size * k.toNat) = true := by
    rw [notLongL hlen]
    exact Bool.false_ne_true
  have hnew : List.foldl (fun x1 x2 => x1 ++ x2) #[] (List.replicate (if its.toArray.isEmpty = true then 0 else k.toNat) its.toArray) = (List.replicate k.toNat its).flatten.toArray := by
    have f0 : ∀ m : Nat, List.foldl (fun x1 x2 => x1 ++ x2) #[] (List.replicate m its.toArray) = (List.replicate m its).flatten.toArray := fun m => by
      have := foldl_rep its m []
      rw [List.nil_append] at this
      exact this
    rw [f0]
    cases its with
    | nil => simp
    | cons a r' => rw [if_neg (by simp)]
  refine wpAny_binaryOp_repeat_ref (T := "list") (U := "int") (by decide) ⟨_, e, rfl⟩ (fun s' => typeIs_int s' k t) noFill_list_mul F.fills_int_mul F.slot_int_rmul repeat_list F.slot_int_index.lookup
    (call_meets F.slot_int_rmul (typeIs_int s k t) F.entry_int_rmul (F.args_int_rmul_2 _ _) (int___rmul___int_list k t l its.toArray n)
      ⟨e, rfl, ⟨_, e, rfl⟩, call_meets F.slot_list_mul ⟨_, e, rfl⟩ F.entry_list_mul (F.args_list_mul_2 _ _) (AutoListH.list___mul___list_int_3 l its.toArray n k t hfit hcap hlong) ⟨e, ?_⟩⟩)
  rw [hnew]
  exact ⟨.ref _, _, I.lnew (t' := s.toks) (r.rep k.toNat) (by rw [len_rep, Nat.mul_comm]; exact hz), rfl, q _ I.fresh⟩
end
section
variable {prog : Program} {w : World} {A : Around} {E : Value → Shared → Prop} {s : Shared}
end
section
variable {X : Cx}
end
end L2
namespace Att
open PySem PySem.W PySem.Calls PyProof.Rows
theorem ints_of_wellAll {P : Params} {h : Heap} : ∀ (ns : List Int) (vs : List Value), WellAll P h vs (ns.map WData.int) → IntsAre vs ns := by
  intro ns
  induction ns with
  | nil =>
    intro vs w
    rw [List.map_nil] at w
    cases w
    exact .nil
  | cons n ns ih =>
    intro vs w
    rw [List.map_cons] at w
    cases w with
    | cons a b =>
      cases a
      exact .cons _ _ (ih _ b)
theorem script_of {l : OpenLaw} {n : Nat} (hn : l.most = some n) {P : Params} {h : Heap} {args : List WData} {vals : List Value}
    (hpre : l.row.toRowW.claim.pre args = true) (hwl : WellAll P h vals args) :
    ∃ a vs ns, vals = [Value.ref a] ∧ args = [WData.list (ns.map WData.int)] ∧ h.get? a = some { cls := .type "list", data := .seq vs.toArray } ∧ IntsAre vs ns ∧ ns.length ≤ n := by
  have hsh : WShape.hasAll [] args [.list .int] = true := (pre_splitW hpre).1
  have hc : l.pre.holds [] { args := args } = true := (pre_splitW hpre).2
  obtain ⟨d, r, rfl, h1, h2⟩ := hasAllW_cons hsh
  obtain rfl := hasAllW_nil h2
  obtain ⟨xs, rfl, h3⟩ := hasW_list h1
  obtain ⟨ns, rfl⟩ := items_int h3
  have hlen : ns.length ≤ n := by
    unfold OpenLaw.pre at hc
    have h4 : (WTm.not (.lt (.lit (.int (n : Int))) (.len (.arg 0)))).holds [] { args := [.list (ns.map .int)] } = true := by
      have h4 := (holds_andW hc).1
      rw [hn] at h4
      exact h4
    have h5 := condW_of h4 (w_not (w_lt w_lit (w_len_list (w_arg rfl))))
    rw [List.length_map] at h5
    refine Nat.le_of_not_lt fun q => ?_
    have q' : (n : Int) < ((ns.length : Nat) : Int) := by omega
    first
      | (rw [decide_eq_true q'] at h5; exact absurd h5 (by decide))
      | (simp at h5; omega)
  cases hwl with
  | cons w1 w2 =>
    cases w2
    cases w1 with
    | list ho hall => exact ⟨_, _, ns, rfl, rfl, ho, ints_of_wellAll ns _ hall, hlen⟩
theorem post_true (l : OpenLaw) (args : List WData) : l.row.toRowW.claim.post args (.bool true) args = true :=
  postW_of (r := l.row.toRowW) (X := (true == true))
    (show WShape.has [] (.bool true) .bool = true by first | rfl | decide | simp [WShape.has, WShape.arms, WShape.armsAll])
    (show (WTm.eq .res (.lit (.bool true))).value [] { args := args, res := some (.bool true), after := args } = some (.bool (true == true)) from w_eq_bool (w_res rfl) w_lit) rfl
theorem attach_call {l : OpenLaw} {n : Nat} {q : Program} {loose : List Str} {XP : (Str → Option Value) → Heap → Prop} {YP : World → Heap → Prop} {d : DefRec}
    (hn : l.most = some n) (hdf : d.params.defaults = [])
    (call : ∀ (w : World) (s₀ s₁ : Shared) (mg mb : Str → Option Value) (fa : Addr) (o : Obj) (pm cd doc : Value) (a : Addr) (vs : List Value) (ns : List Int),
      Ground q loose [] XP w s₀ mg mb s₁.heap → YP w s₁.heap →
      s₁.heap.get? fa = some o → o.data = .func (docDef d.name d.params d.body d.scope pm cd doc) → s₁.heap.CodeRec cd d.name → mg d.name = some (.ref fa) →
      s₁.heap.get? a = some { cls := .type "list", data := .seq vs.toArray } → IntsAre vs ns → ns.length ≤ n → s₁.gens = #[] →
      codeAny (model l.prog w) callerA (.call (.ref fa) ⟨[.ref a], []⟩) (fun r s' => r = .ok (.ret (.bool true)) ∧ OldK s₁.heap s'.heap ∧ s'.os = s₁.os ∧ AllBare s'.gens) s₁) :
    WalkO q loose XP YP l.row.toRowW d [] (fun f vs => PySem.call f vs) := by
  intro w s₀ s₁ mg mb G Y fa o pm cd doc dV kV ho hd hcd hD hmg hg args vals as hpre hlay hrd hwl hlo
  obtain rfl : dV = .none := Dflts.none hD hdf
  obtain rfl : kV = .none := Dflts.noKw hD
  obtain ⟨a, vs, ns, rfl, rfl, hobj, hints, hlen⟩ := script_of hn hpre hwl
  refine enter_call (codeAny_mono (call w s₀ s₁ mg mb fa o pm cd doc a vs ns G Y ho (fd_plain hd) hcd hmg hobj hints hlen hg) fun r s' hq => ?_)
  obtain ⟨rfl, h2, h3, h4⟩ := hq
  exact ⟨.inl ⟨.bool true, .bool true, [], rfl, fun _ => rfl, .bool true, post_true l _, fun _ => ⟨List.Pairwise.nil, fun _ hm => (nomatch hm)⟩⟩, h2, h3, h4⟩
section
variable {prog : Program} {w : World} {A : Around} {E : Value → Shared → Prop} {s : Shared} {K : Frag}
end
end Att
namespace L2
open PySem PySem.Spec PyProof.Rows
theorem vals_ints : ∀ {vs : List Value} {ns : List Int}, IntsAre vs ns → Vals (ns.map V.int) vs
  | _, _, .nil => .nil
  | _, _, .cons n t h => .cons ⟨t, rfl⟩ (vals_ints h)
def Only (H : Hp) : Prop := ∀ b, H b = none ∨ ∃ o xs, H b = some (.frz o (.lst xs))
theorem law_call {P : Program} {w : World} {K : PySem.W.Frag} {mg mb : Str → Option Value} {CX : CXT} {k : Nat} {fa a : Addr} {fd : FuncData} {x : Str} {sp : Sp} {s₁ : Shared} {vs : List Value} {ns : List Int}
    (KX : K.In s₁.heap) (hns : s₁.heap.Ns mainGlobals mg) (hb : s₁.heap.Ns builtinsNs mb) (hbb : ∀ x : Str, x ≠ "__name__" → mb x = bootBuiltins x) (hlim : s₁.heap.NoLimit) (hg : s₁.gens = #[])
    (ha : s₁.heap.get? a = some { cls := .type "list", data := .seq vs.toArray }) (hi : IntsAre vs ns) (hl : ns.length ≤ sizeLine) (hr : Room k callerA)
    (F : ∀ base : Heap, K.In base → base.Ns mainGlobals mg → FnOk P w K mg base CX k fa fd [x] sp) (hbind : ∀ (s : Shared) (u : Value), BindsTo s fd ⟨[u], []⟩ [(x, u)])
    (hsp : ∀ H : Hp, Only H → SqL K H a (ns.map V.int) → sp [.ref a] H (fun v _ => v = .bl true) fun _ _ _ => False)
    (hCX : ∀ H e s', CX [] H s₁ (fun _ _ _ => False) e s' → False) :
    codeAny (model P w) callerA (.call (.ref fa) ⟨[.ref a], []⟩) (fun r s' => r = .ok (.ret (.bool true)) ∧ OldK s₁.heap s'.heap ∧ s'.os = s₁.os ∧ AllBare s'.gens) s₁ := by
  have rv := vals_ints hi
  have lenV := hi.length
  have core : ∀ H : Hp, Only H → SqL K H a (ns.map V.int) → HOk P w H s₁.heap → (∀ b, H b ≠ none → b = a) → (H a ≠ none → K.lookup a = none) →
      codeAny (model P w) callerA (.call (.ref fa) ⟨[.ref a], []⟩) (fun r s' => r = .ok (.ret (.bool true)) ∧ OldK s₁.heap s'.heap ∧ s'.os = s₁.os ∧ AllBare s'.gens) s₁ := by
    intro H hO hS hok hA hK
    have base_of : ∀ {b : Addr} {o : Obj}, s₁.heap.get? b = some o → H b = none → (hidT s₁.heap H).get? b = some o := fun e n => hidT_get e n
    have noA : ∀ {b : Addr} {o : Obj} {es : Array DictEntry} {ep : Nat}, s₁.heap.get? b = some o → o.data = .dict es ep → H b = none := fun {b o es ep} e d => by
      cases q : H b with
      | none => rfl
      | some u =>
        have e' : b = a := hA b (by rw [q]; simp)
        subst e'
        rw [ha] at e; cases e
        have d' : Data.seq vs.toArray _ = Data.dict es ep := d
        cases d'
    have nsK : ∀ {b : Addr} {m : Str → Option Value}, s₁.heap.Ns b m → (hidT s₁.heap H).Ns b m := fun {b m} ⟨o, es, ep, e, d, r⟩ => ⟨o, es, ep, base_of e (noA e d), d, r⟩
    have hKb : K.In (hidT s₁.heap H) := fun b o e => base_of (KX b o e) (by
      cases q : H b with
      | none => rfl
      | some u =>
        have e' : b = a := hA b (by rw [q]; simp)
        subst e'
        rw [hK (by rw [q]; simp)] at e; cases e)
    have hM : Mod K mg (hidT s₁.heap H) := ⟨hKb, nsK hns, ⟨mb, nsK hb, hbb⟩, let ⟨mc, h1, h2⟩ := hlim; ⟨mc, nsK h1, h2⟩⟩
    have e0 : Env0 P w K mg (hidT s₁.heap H) callerA [] s₁ H := ⟨rfl, hM, fun b o e => of_hidT e, Nat.le_of_eq (hidT_size _ _), trivial, fun b hb => absurd (show b ∈ ([] : List Addr) from hb) (by simp), hok, .of_eq hg⟩
    refine codeAny_mono ((F _ hKb (nsK hns)).run callerA [] s₁ H ⟨[.ref a], []⟩ [.ref a] [.ref a] _ _ hr e0 (hbind s₁ (.ref a)) (.cons rfl .nil) (hsp H hO hS)) fun r s' h => ?_
    cases r with
    | error e => exact (hCX H e s' h).elim
    | ok fl =>
      cases fl with
      | next => exact False.elim h
      | brk => exact False.elim h
      | cont => exact False.elim h
      | ret u =>
        obtain ⟨v, H', os, bare, un, hok', r', q⟩ := h
        have q' : v = .bl true := q
        subst q'
        obtain rfl : u = Value.bool true := r'
        refine ⟨rfl, OldK.of_keep fun b o e => ?_, os, bare⟩
        cases q : H b with
        | none => exact un.keep b o e q (by intro z; exact absurd (show b ∈ ([] : List Addr) from z) (by simp)) (by simp)
        | some u =>
          rcases hO b with z | ⟨ob, xs, z⟩
          · rw [q] at z; cases z
          · have z2 := un.frzs b ob _ z
            obtain ⟨e1, _⟩ := hok b _ z
            obtain ⟨e2, _⟩ := hok' b _ z2
            rw [e] at e1; cases e1
            exact e2
  cases hk : K.lookup a with
  | some o =>
    have e := KX a o hk
    rw [ha] at e
    cases e
    refine core (fun _ => none) (fun _ => .inl rfl) (.inr ⟨_, vs.toArray, _, hk, rfl, rfl, rfl, by rw [List.size_toArray, lenV]; exact hl, by simpa using rv⟩) (fun b u z => by have z' : (none : Option HO) = some u := z; cases z') (fun b z => absurd rfl z) fun z => absurd rfl z
  | none =>
    refine core (fun b => if b = a then some (.frz { cls := .type "list", data := .seq vs.toArray } (.lst (ns.map V.int))) else none) (fun b => ?_) (.inl (.inr ⟨{ cls := .type "list", data := .seq vs.toArray }, if_pos rfl⟩)) (fun b u z => ?_) (fun b z => ?_) fun _ => hk
    · by_cases hb : b = a
      · exact .inr ⟨_, _, if_pos hb⟩
      · exact .inl (if_neg hb)
    · by_cases hb : b = a
      · have z' := (if_pos hb).symm.trans z
        cases z'
        subst hb
        exact ⟨ha, by rw [List.length_map]; exact hl, vs, _, rv, ha⟩
      · have z' := (if_neg hb).symm.trans z
        cases z'
    · by_cases hb : b = a
      · exact hb
      · exact absurd (if_neg hb) z
end L2
namespace L2
open PySem PySem.Spec PyProof.Rows
theorem walk_of {l : PySem.W.OpenLaw} {n k : Nat} {q : Program} {loose : List Str} {XP : (Str → Option Value) → Heap → Prop} {YP : World → Heap → Prop} {d : DefRec} {K : Params → PySem.W.Frag} {CX : World → CXT} {sp : World → Sp} {x : Str}
    (hn : l.most = some n) (hn2 : n ≤ sizeLine) (hdf : d.params.defaults = []) (hr : Room k callerA)
    (hY : ∀ (w : World) (h : Heap), YP w h → (K w.params).In h)
    (F : ∀ (w : World) (mg : Str → Option Value) (fa : Addr) (h : Heap), (K w.params).In h → h.Ns mainGlobals mg → mg d.name = some (.ref fa) →
      ∃ fd : FuncData, (∀ (s : Shared) (u : Value), BindsTo s fd ⟨[u], []⟩ [(x, u)]) ∧
        ∀ base : Heap, (K w.params).In base → base.Ns mainGlobals mg → FnOk l.prog w (K w.params) mg base (CX w) k fa fd [x] (sp w))
    (hsp : ∀ (w : World) (H : Hp) (a : Addr) (ns : List Int), ns.length ≤ n → Only H → SqL (K w.params) H a (ns.map V.int) → sp w [.ref a] H (fun v _ => v = .bl true) fun _ _ _ => False)
    (hCX : ∀ (w : World) (H : Hp) (s : Shared) (e : Value) (s' : Shared), CX w [] H s (fun _ _ _ => False) e s' → False) :
    PySem.W.WalkO q loose XP YP l.row.toRowW d [] (fun f vs => PySem.call f vs) := by
  refine Att.attach_call hn hdf fun w s₀ s₁ mg mb fa o pm cd doc a vs ns G Y ho hd hcd hmg hobj hints hlen hg => ?_
  have KX := hY w _ Y
  obtain ⟨fd, hb, hF⟩ := F w mg fa _ KX G.T.g hmg
  exact law_call KX G.T.g G.T.b G.T.builtins G.T.nolimit hg hobj hints (Nat.le_trans hlen hn2) hr hF hb (fun H hO hS => hsp w H a ns hlen hO hS) fun H e s' => hCX w H s₁ e s'
end L2
namespace L2
open PySem PySem.Spec PyProof.Rows
def inClass (s : Stmt) (j : Nat) : Stmt := match s with
  | .ClassDef _ _ _ body _ _ _ _ _ _ _ => body.getD j (.Pass ⟨0, 0, 0, 0⟩)
  | _ => .Pass ⟨0, 0, 0, 0⟩
def defArgs (s : Stmt) : Arguments := match s with
  | .FunctionDef _ a _ _ _ _ _ _ _ _ => a
  | _ => { posonlyargs := [], args := [], vararg := none, kwonlyargs := [], kw_defaults := [], kwarg := none, defaults := [] }
def defBody (s : Stmt) : List Stmt := match s with
  | .FunctionDef _ _ b _ _ _ _ _ _ _ => b
  | _ => []
def defScope (s : Stmt) : Scope := match s with
  | .FunctionDef _ _ _ _ _ _ sc _ _ _ => sc
  | _ => { kind := .function, names := [], isGenerator := false, isCoroutine := false }
abbrev CX0 : CXT := fun _ _ _ _ _ _ => False
abbrev E0 : XK := fun _ _ _ => False
structure Fun (K : PySem.W.Frag) (x qual : Str) (st : Stmt) (f : Addr) (fd : FuncData) : Prop where
  ex : ∃ (oc : Value) (od : Option Addr) (kV doc pm : Value) (an : Option Addr) (cdv ct : Value) (osl : Array (Option Value)),
    fd = PySem.W.fnOf x qual (defArgs st) (defBody st) (defScope st) .none kV doc pm an cdv ct ∧ K.lookup f = some ⟨oc, od, .func fd, osl⟩ ∧ PySem.W.codeIn K cdv qual = true
  kp : PySem.W.keepIn K (.ref f) = true
section
variable {P : Program} {w : World} {K : PySem.W.Frag} {mg : Str → Option Value} {base : Heap}
theorem Fun.ok {x qual : Str} {st : Stmt} {f : Addr} {fd : FuncData} {N ps : List Str} {k : Nat} {sp : Sp} (F : Fun K x qual st f fd) (S : FnScope N ps (defScope st)) (len : ∀ vs H Q E, sp vs H Q E → vs.length = ps.length)
    (hbody : ∀ (cdv : Value) (A : Around) (outer : List Env) (s : Shared) (H : Hp) (vs : List V) (Q : VK) (E : XK), Room k (A.deeper (envOfC qual (defScope st) s.heap.objs.size f cdv)) → sp vs H Q E →
      ∃ t, PSs (cxOf CX0 P w K mg base N qual (defScope st) f cdv A outer s H E).nox (defBody st) t ∧ t { nx := fun _ H' => Q .non H', rt := Q } (start N vs) H) : FnOk P w K mg base CX0 (k + 1) f fd ps sp := by
  obtain ⟨oc, od, kV, doc, pm, an, cdv, ct, osl, rfl, lk, hcd⟩ := F.ex
  refine fn_of lk hcd S len fun A outer s H vs Q E hr hsp => ?_
  obtain ⟨t, h, q⟩ := hbody cdv A outer s H vs Q E hr hsp
  exact ⟨t, h.nox, q⟩
theorem Fun.binds {x qual : Str} {st : Stmt} {f : Addr} {fd : FuncData} {ps : List Str} (F : Fun K x qual st f fd)
    (h : ∀ (kV doc pm : Value) (an : Option Addr) (cdv ct : Value) (us : List Value), us.length = ps.length → bindArgs (PySem.W.fnOf x qual (defArgs st) (defBody st) (defScope st) .none kV doc pm an cdv ct) ⟨us, []⟩ = pure (ps.zip us)) : Binds K fd ps [] := by
  obtain ⟨oc, od, kV, doc, pm, an, cdv, ct, osl, rfl, lk, hcd⟩ := F.ex
  exact .all (h kV doc pm an cdv ct)
theorem fun_mk {x qual : Str} {st : Stmt} {f : Addr} {oc : Value} {od an : Option Addr} {osl : Array (Option Value)} {kV doc pm cdv ct : Value} (l : K.lookup f = some ⟨oc, od, .func (PySem.W.fnOf x qual (defArgs st) (defBody st) (defScope st) .none kV doc pm an cdv ct), osl⟩)
    (c : PySem.W.codeIn K cdv qual = true) (k : PySem.W.keepIn K (.ref f) = true) : Fun K x qual st f (PySem.W.fnOf x qual (defArgs st) (defBody st) (defScope st) .none kV doc pm an cdv ct) := ⟨⟨oc, od, kV, doc, pm, an, cdv, ct, osl, rfl, l, c⟩, k⟩
end
theorem small1000 {n : Nat} (h : n ≤ 1000) : n < sizeLine := Nat.lt_of_le_of_lt h (by decide)
section
variable {X : Cx}
theorem pv (i : Nat) {x : Str} {pos : Pos} (hN : X.N[i]? = some x := by rfl) (hv : Vis X.env.scope x := by first | exact Or.inl rfl | exact Or.inr (Or.inl rfl) | exact Or.inr (Or.inr rfl)) (hd : (x == ("__debug__" : Str)) = false := by decide)
    (hcd : (x == ("__classdict__" : Str)) = false := by decide) : PE X (.Name x pos) (tVar i) := pe_var hN hv hd hcd
end
theorem iteF {A B : Prop} (h : B) : if false = true then A else B := by
  rw [if_neg Bool.false_ne_true]
  exact h
theorem iteT {A B : Prop} (h : A) : if true = true then A else B := by
  rw [if_pos rfl]
  exact h
theorem ite2 {c A B : Prop} [Decidable c] (h1 : c → A) (h2 : ¬ c → B) : if c then A else B := by
  by_cases h : c
  · rw [if_pos h]
    exact h1 h
  · rw [if_neg h]
    exact h2 h
theorem iteNS {c A B : Prop} [Decidable c] (hc : c) (h : B) : if (!decide c) = true then A else B := by
  rw [decide_eq_true hc]
  exact iteF h
def Same (H H' : Hp) : Prop := ∀ b o, H b = some o → H' b = some o
theorem Same.refl (H : Hp) : Same H H := fun _ _ h => h
theorem Same.trans {H H1 H2 : Hp} (a : Same H H1) (b : Same H1 H2) : Same H H2 := fun c o h => b c o (a c o h)
theorem Same.free {H H' : Hp} (e : Same H H') {l : Addr} (h : H' l = Option.none) : H l = Option.none := by
  cases q : H l with
  | none => rfl
  | some o =>
    rw [e l o q] at h
    cases h
theorem Same.seq {K : PySem.W.Frag} {H H' : Hp} {a : Addr} {xs : List V} (e : Same H H') (h : SqL K H a xs) : SqL K H' a xs := by
  rcases h with (h | ⟨o, h⟩) | h
  · exact .inl (.inl (e _ _ h))
  · exact .inl (.inr ⟨o, e _ _ h⟩)
  · exact .inr h
end L2
namespace L2
open PySem PySem.Spec PyProof.Rows
def clOf (env : Env) : List (Str × NameKind) → List (Str × Addr) → List (Str × Addr)
  | [], cs => cs
  | (n, k) :: r, cs => clOf env r (if k = .free then (n, (env.cells.lookup n).getD 0) :: cs else cs)
theorem closure_go {env : Env} (f : Str × NameKind → List (Str × Addr) → Sem (ForInStep (List (Str × Addr))))
    (hf : ∀ n k r, f (n, k) r = if k = .free then (cellOf env n >>= fun a => pure (.yield ((n, a) :: r))) else pure (.yield r)) :
    ∀ (l : List (Str × NameKind)) (cs : List (Str × Addr)), (∀ y ∈ l, y.2 = .free → ∃ c, env.cells.lookup y.1 = some c) → forIn l cs f = pure (clOf env l cs)
  | [], cs, _ => rfl
  | (n, k) :: r, cs, h => by
    rw [List.forIn_cons, hf]
    by_cases hk : k = .free
    · obtain ⟨c, hc⟩ := h (n, k) List.mem_cons_self hk
      rw [if_pos hk]
      unfold cellOf
      rw [hc]
      show (pure c >>= fun a => pure (ForInStep.yield ((n, a) :: cs))) >>= _ = _
      rw [pure_bind, pure_bind]
      show forIn r ((n, c) :: cs) f = _
      rw [closure_go f hf r _ fun y hy => h y (List.mem_cons_of_mem _ hy)]
      unfold clOf
      rw [if_pos hk, hc]
      cases r <;> rfl
    · rw [if_neg hk, pure_bind]
      show forIn r cs f = _
      rw [closure_go f hf r _ fun y hy => h y (List.mem_cons_of_mem _ hy)]
      conv => rhs; unfold clOf
      rw [if_neg hk]
theorem closureFor_clOf {scope : Scope} {env : Env} (h : ∀ y ∈ scope.names, y.2 = .free → ∃ c, env.cells.lookup y.1 = some c) : closureFor scope env = pure (clOf env scope.names []) := by
  unfold closureFor
  show (forIn scope.names ([] : List (Str × Addr)) _ >>= fun cs => pure cs) = _
  rw [closure_go (env := env) _ (fun n k r => ?_) scope.names [] h]
  · rfl
  · cases k <;> rfl
theorem clOf_lookup {env : Env} {x : Str} {c : Addr} : ∀ (l : List (Str × NameKind)) (cs : List (Str × Addr)), (∀ y ∈ l, y.2 = .free → ∃ c, env.cells.lookup y.1 = some c) →
    (∀ y d, cs.lookup y = some d → env.cells.lookup y = some d) → (clOf env l cs).lookup x = some c → env.cells.lookup x = some c
  | [], cs, _, hc, h => hc x c h
  | (n, k) :: r, cs, hl, hc, h => by
    unfold clOf at h
    by_cases hk : k = .free
    · rw [if_pos hk] at h
      obtain ⟨d, hd⟩ := hl (n, k) List.mem_cons_self hk
      refine clOf_lookup r _ (fun y hy => hl y (List.mem_cons_of_mem _ hy)) (fun y e q => ?_) h
      rw [hd] at q
      by_cases hy : y = n
      · subst hy
        rw [List.lookup_cons_self] at q
        have q' : d = e := Option.some.inj q
        rw [← q']; exact hd
      · have hb : (y == n) = false := beq_eq_false_iff_ne.mpr hy
        rw [List.lookup_cons, hb] at q
        exact hc y e q
    · rw [if_neg hk] at h
      exact clOf_lookup r _ (fun y hy => hl y (List.mem_cons_of_mem _ hy)) hc h
theorem clOf_has {env : Env} {x : Str} : ∀ (l : List (Str × NameKind)) (cs : List (Str × Addr)), ((x, NameKind.free) ∈ l ∨ ∃ c, cs.lookup x = some c) → ∃ c, (clOf env l cs).lookup x = some c
  | [], cs, h => h.elim (fun z => nomatch z) id
  | (n, k) :: r, cs, h => by
    unfold clOf
    refine clOf_has r _ ?_
    rcases h with h | ⟨c, h⟩
    · rcases List.mem_cons.mp h with e | e
      · cases e
        rw [if_pos rfl]
        exact .inr ⟨_, List.lookup_cons_self ..⟩
      · exact .inl e
    · right
      by_cases hk : k = .free
      · rw [if_pos hk]
        by_cases hx : x = n
        · subst hx; exact ⟨_, List.lookup_cons_self ..⟩
        · have hb : (x == n) = false := beq_eq_false_iff_ne.mpr hx
          rw [List.lookup_cons, hb]; exact ⟨c, h⟩
      · rw [if_neg hk]; exact ⟨c, h⟩
theorem lookup_relabel {env : Env} {x : Str} {k : NameKind} : ∀ {names : List (Str × NameKind)},
    (names.map fun (n, k) => if (k == NameKind.free && env.scope.kind == .function && env.kindOf n == some .cell) then (n, NameKind.cell) else (n, k)).lookup x = some k →
    ∃ k0, names.lookup x = some k0 ∧ (k = k0 ∨ (k = .cell ∧ k0 = .free))
  | [], h => by simp at h
  | (n, k1) :: r, h => by
    have ih := @lookup_relabel env x k r
    by_cases hc : (k1 == NameKind.free && env.scope.kind == .function && env.kindOf n == some .cell) = true
    · rw [List.map_cons] at h
      dsimp only at h
      rw [if_pos hc] at h
      cases hx : x == n with
      | true =>
        simp only [List.lookup_cons, hx] at h ⊢
        refine ⟨k1, rfl, .inr ⟨(Option.some.inj h).symm, ?_⟩⟩
        simp only [Bool.and_eq_true, beq_iff_eq] at hc
        exact hc.1.1
      | false =>
        simp only [List.lookup_cons, hx] at h ⊢
        exact ih h
    · rw [List.map_cons] at h
      dsimp only at h
      rw [if_neg hc] at h
      cases hx : x == n with
      | true =>
        simp only [List.lookup_cons, hx] at h ⊢
        exact ⟨k1, rfl, .inl (Option.some.inj h).symm⟩
      | false =>
        simp only [List.lookup_cons, hx] at h ⊢
        exact ih h
abbrev Cx.seen (X : Cx) (js : List Nat) : List Str := js.map fun j => X.N.getD j (Str.ofString "")
abbrev Cx.comp (X : Cx) (scope : Scope) (T : List Str) (js : List Nat) (C : Addr) (s₀ : Shared) (H₀ : Hp) (ex : List Addr) (pn : List (Addr × Obj)) : Cx :=
  { X with N := T ++ X.seen js, s₀ := s₀, H₀ := H₀, env := compEnvC scope (clOf X.env scope.names []) C X.env, outer := X.stack, ex := ex, fn := fun _ => false, pn := pn, xe := fun _ _ => False }
def seenV (js : List Nat) (σ : St) : St := js.map fun j => σ.getD j none
def cells0 (n : Nat) (js : List Nat) (σ : St) : St := List.replicate n none ++ seenV js σ
structure CompSc (X : Cx) (scope : Scope) (T : List Str) (js : List Nat) : Prop where
  kind : scope.kind = .function
  cell : (scope.names.all fun y => decide (y.2 ≠ .cell)) = true
  loc : (scope.names.all fun y => decide (y.2 = .local → scope.names.lookup y.1 = some .local)) = true
  fr : (scope.names.all fun y => decide (y.2 = .free → (X.env.kindOf y.1 = some .cell ∨ X.env.kindOf y.1 = some .free))) = true
  seen : (js.all fun j => decide (scope.names.lookup (X.N.getD j (Str.ofString "")) = some .free)) = true
section
variable {X : Cx} {pins : List (Addr × Obj)} {σ : St} {H H2 H' : Hp} {s s2 : Shared} {scope : Scope} {T : List Str} {js : List Nat}
theorem CompSc.has (S : CompSc X scope T js) (I : Inv X pins σ H s) : ∀ y ∈ scope.names, y.2 = .free → ∃ c, X.env.cells.lookup y.1 = some c := fun y hy hf =>
  I.ok.has y.1 (of_decide_eq_true (List.all_eq_true.mp S.fr y hy) hf)
theorem comp_start {fp : List Addr} {D : Addr} {o : Obj} {h4 : Heap} {t4 : Nat} (S : CompSc X scope T js) (I : Inv X pins σ H s) (hc : X.calm = true) (hfp : ∀ b ∈ fp, FpOk X pins H b) (hob : ∀ b ∈ fp, ∃ o, s.heap.get? b = some o)
    (hD : s.heap.objs.size ≤ D) (hDo : h4.get? D = some o) (hod : ∀ v, o.data ≠ .cell v) {C : Addr} (hC : s.heap.objs.size ≤ C) (hDC : D ≠ C) (hk : ∀ b u, s.heap.get? b = some u → h4.get? b = some u) {m : Str → Option Value} (hm : h4.Ns C m) :
    Inv (X.comp scope T js C s H fp (X.pn ++ pins)) [(D, o)] (cells0 T.length js σ) H { s with heap := h4, toks := t4 } := by
  have hhas := S.has I
  have look : ∀ x c, (clOf X.env scope.names []).lookup x = some c → X.env.cells.lookup x = some c := fun x c e => clOf_lookup scope.names [] hhas (fun _ _ z => by simp at z) e
  have ltc : ∀ x c, X.env.cells.lookup x = some c → c < s.heap.objs.size := fun x c e => by obtain ⟨v, q⟩ := I.cell x c e; exact q.lt
  have ltp : ∀ p ∈ X.pn ++ pins, p.1 < s.heap.objs.size := fun p hp => Heap.lt_size (I.pin p hp).1
  have ltf : ∀ b ∈ fp, b < s.heap.objs.size := fun b hb => by obtain ⟨o, e⟩ := hob b hb; exact Heap.lt_size e
  have stk : ∀ b ∈ frs X.stack, b ≠ X.env.locals → b ∈ X.fs := fun b hb ne => (List.mem_cons.mp (I.stkSub b hb)).elim (fun z => absurd z ne) id
  have frC : H C = none := I.hok.fresh hC
  have frD : H D = none := I.hok.fresh hD
  refine ⟨⟨I.ok.mod, S.kind, I.ok.glob, I.ok.blt, hC, fun x y c h1 h2 => I.ok.inj x y c (look x c h1) (look y c h2), fun x hx => ?_, fun x c hf => (by cases hf), I.ok.hd, I.ok.frames, .inl rfl, fun b hb => ?_, I.bs, Nat.le_trans I.ok.bsz I.sz, fun b ob e hb => ?_, fun b hb hq => ?_, I.stack, I.stkFree⟩,
    rfl, I.bare, Un.kept hk, ⟨m, hm, fun i x v h1 h2 h3 => ?_⟩, fun x c e => ?_, frC, fun x c e => I.freeC x c (look x c e), fun p hp => ?_, I.hok.kept hk, ?_⟩
  · obtain ⟨k0, e0, hk0⟩ : ∃ k0, scope.names.lookup x = some k0 ∧ k0 = .free := by
      rcases hx with hx | hx
      · obtain ⟨k0, e0, q⟩ := lookup_relabel hx
        rcases q with q | q
        · exact absurd q.symm (of_decide_eq_true (List.all_eq_true.mp S.cell _ (PySem.mem_of_lookup e0)))
        · exact ⟨k0, e0, q.2⟩
      · obtain ⟨k0, e0, q⟩ := lookup_relabel hx
        rcases q with q | q
        · exact ⟨k0, e0, q.symm⟩
        · exact ⟨k0, e0, q.2⟩
    subst hk0
    exact clOf_has scope.names [] (.inl (PySem.mem_of_lookup e0))
  · refine ⟨Nat.ne_of_lt (Nat.lt_of_lt_of_le (ltf b hb) hC), fun x c e => (hfp b hb).2.2.2.2.1 x c (look x c e)⟩
  · obtain ⟨_, _, _, q, _⟩ := hfp b hb
    rcases q with q | q
    · exact I.ok.noex b ob e q
    · exact absurd (Nat.lt_of_lt_of_le (Heap.lt_size e) (Nat.le_trans I.ok.bsz q)) (Nat.lt_irrefl _)
  · obtain ⟨_, q1, q2, _⟩ := hfp b hb
    exact q2 (stk b hq q1)
  · -- the names that the block sees
    have h1' : (T ++ X.seen js)[i]? = some x := h1
    have hi : T.length ≤ i := by
      refine Nat.le_of_not_lt fun hlt => ?_
      unfold cells0 at h2
      rw [List.getElem?_append_left (by simpa using hlt), List.getElem?_replicate] at h2
      split at h2 <;> cases h2
    rw [List.getElem?_append_right hi] at h1'
    unfold cells0 at h2
    rw [List.getElem?_append_right (by simpa using hi), List.length_replicate] at h2
    unfold seenV at h2
    rw [List.getElem?_map] at h1' h2
    cases ej : js[i - T.length]? with
    | none => rw [ej] at h1'; cases h1'
    | some j =>
      rw [ej] at h1' h2
      have e1 : X.N.getD j (Str.ofString "") = x := Option.some.inj h1'
      have e2 : σ.getD j none = some v := Option.some.inj h2
      have hjf := of_decide_eq_true (List.all_eq_true.mp S.seen j (List.mem_of_getElem? ej))
      rw [e1] at hjf
      have eσ : σ[j]? = some (some v) := by
        rw [List.getD_eq_getElem?_getD] at e2
        cases q : σ[j]? with
        | none => rw [q] at e2; cases e2
        | some w => rw [q] at e2; exact congrArg some e2
      have hjl : j < X.N.length := by rw [← I.len]; exact (List.getElem?_eq_some_iff.mp eσ).1
      have eN : X.N[j]? = some x := by
        rw [List.getElem?_eq_getElem hjl]
        rw [List.getD_eq_getElem?_getD, List.getElem?_eq_getElem hjl] at e1
        exact congrArg some e1
      have kx := of_decide_eq_true (List.all_eq_true.mp S.fr _ (PySem.mem_of_lookup hjf)) rfl
      obtain ⟨m0, hn0, hl0⟩ := I.loc
      obtain ⟨u, ru, lk⟩ := hl0 j x v eN eσ (by rcases kx with q | q; exact .inr (.inl q); exact .inr (.inr q))
      refine ⟨u, ru, .inr ⟨?_, ?_⟩⟩
      · obtain ⟨k, hkx⟩ : ∃ k, (relabel scope X.env).names.lookup x = some k := by
          rcases h3 with q | q | q
          · exact ⟨_, q⟩
          · exact ⟨_, q⟩
          · exact ⟨_, q⟩
        obtain ⟨k0, e0, q⟩ := lookup_relabel hkx
        rw [hjf] at e0
        cases e0
        rcases q with q | q
        · subst q; exact .inr hkx
        · rw [q.1] at hkx; exact .inl hkx
      · rcases lk with ⟨kl, _⟩ | ⟨_, c, ec, zc⟩
        · rw [kl] at kx
          rcases kx with q | q <;> cases q
        · obtain ⟨c', ec'⟩ := clOf_has (env := X.env) scope.names [] (.inl (PySem.mem_of_lookup hjf))
          have e3 := look x c' ec'
          rw [ec] at e3
          cases e3
          refine ⟨c, ec', ?_⟩
          obtain ⟨oc, hoc, hd⟩ := zc
          exact ⟨oc, hk c oc hoc, hd⟩
  · obtain ⟨v, oc, hoc, hd⟩ := I.cell x c (look x c e)
    exact ⟨v, oc, hk c oc hoc, hd⟩
  · rcases List.mem_append.mp hp with hp | hp
    · obtain ⟨e, n, ne, nf, d⟩ := I.pin p hp
      refine ⟨hk p.1 p.2 e, n, Nat.ne_of_lt (Nat.lt_of_lt_of_le (ltp p hp) hC), fun z => nf (stk p.1 z ne), d⟩
    · obtain rfl : p = (D, o) := by simpa using hp
      refine ⟨hDo, frD, hDC, fun z => ?_, hod⟩
      obtain ⟨_, ob, e, _⟩ := I.stack.mem z
      exact absurd (Nat.lt_of_lt_of_le (Heap.lt_size e) hD) (Nat.lt_irrefl _)
  · show (cells0 T.length js σ).length = (T ++ X.seen js).length
    unfold cells0 seenV
    simp
end
end L2
namespace L2
open PySem PySem.Spec PyProof.Rows
section
variable {prog : Program} {w : World} {A : Around} {R : Result → Shared → Prop} {s : Shared}
theorem compLoop_gen {elt target iter : Expr} {ifs : List Expr} {scope : Scope} {pos : Pos} {it acc : Value} {env : Env} (I : Nat → Shared → Prop)
    (turn : ∀ n s, I n s → wpAny (model prog w) A (pyNext it) (fun r s₁ => match r with
      | none => R (.ok .next) s₁
      | some v => wpAny (model prog w) A (letOwnedTupleGo target it v) (fun _ s₁' => wpAny (model prog w) A (assign target env v) (fun _ s₂ =>
          wpAny (model prog w) A (forIn ifs true fun c r => if r = true then do let ok ← isTrue c env (eval c env); pure (ForInStep.yield ok) else pure (ForInStep.yield r)) (fun ok s₃ =>
            if ok = true then wpAny (model prog w) A (eval elt env) (fun x s₄ =>
              wpAny (model prog w) A (call (.builtin "list.append") [acc, x]) (fun _ s₅ => ∃ m, m < n ∧ I m s₅) (fun _ _ => False) s₄) (fun _ _ => False) s₃
            else ∃ m, m < n ∧ I m s₃) (fun _ _ => False) s₂) (fun _ _ => False) s₁') (fun _ _ => False) s₁) (fun _ _ => False) s)
    (n : Nat) (h : I n s) : codeAny (model prog w) A (.compLoop (.ListComp elt [⟨target, iter, ifs, 0⟩] scope pos) 0 it acc env) R s := by
  refine codeAny_loop rfl I (fun n s hI => ?_) n h
  show wpAny _ A ((compTurn (.ListComp elt [⟨target, iter, ifs, 0⟩] scope pos) 0 it acc env).onRaise (fun x => do noteFrame x env; theTreesLotGoes x)) _ _ s
  refine wpAny_noted (wpAny_noRaise ?_)
  rw [compTurn_list]
  refine wpAny_bind (wpAny_standAt (wpAny_bind (thn (turn n s hI) fun r s₁ h₁ => ?_)))
  cases r with
  | none => exact wpAny_pure h₁
  | some v =>
    refine wpAny_bind (thn h₁ fun _ s₁' h₁' => ?_)
    refine wpAny_bind (thn h₁' fun _ s₂ h₂ => wpAny_bind (thn h₂ fun ok s₃ h₃ => ?_))
    cases ok with
    | false => exact wpAny_pure ⟨rfl, h₃⟩
    | true => exact wpAny_bind (wpAny_bind (thn h₃ fun x s₄ h₄ => wpAny_bind (thn h₄ fun _ s₅ h₅ => wpAny_pure (wpAny_pure ⟨rfl, h₅⟩))))
end
abbrev TB := (V → Hp → Prop) → (Hp → Prop) → St → Hp → Prop
def PCB (X : Cx) (ifs : List Expr) (elt : Expr) (tb : TB) : Prop :=
  ∀ (pins : List (Addr × Obj)) (s : Shared) (σ : St) (H : Hp) (K : V → Hp → Prop) (N : Hp → Prop), Inv X pins σ H s → tb K N σ H →
    wpAny (model X.prog X.w) X.A (forIn ifs true fun c r => if r = true then do let ok ← isTrue c X.env (eval c X.env); pure (ForInStep.yield ok) else pure (ForInStep.yield r))
      (fun ok s3 => if ok = true then wpAny (model X.prog X.w) X.A (eval elt X.env) (fun u s4 => ∃ v H4, Inv X pins σ H4 s4 ∧ RelV v u ∧ K v H4) X.xe s3 else ∃ H3, Inv X pins σ H3 s3 ∧ N H3) X.xe s
def cbElt (te : TE) : TB := fun K _ σ H => te σ H K
def cbIf (tc : TT) (te : TE) : TB := fun K N σ H => tc σ H fun b H1 => if b = true then te σ H1 K else N H1
theorem pcb_elt {X : Cx} {elt : Expr} {te : TE} (he : PE X elt te) : PCB X [] elt (cbElt te) := by
  intro pins s σ H K N I h
  refine wpAny_tests_nil ?_
  rw [if_pos rfl]
  exact he pins s σ H K I h
theorem pcb_if {X : Cx} {c elt : Expr} {tc : TT} {te : TE} (hc : PT X c tc) (he : PE X elt te) : PCB X [c] elt (cbIf tc te) := by
  intro pins s σ H K N I h
  refine wpAny_tests_one (thn (hc pins s σ H _ I h) fun b s1 ⟨H1, I1, q1⟩ => ?_)
  cases b with
  | true =>
    rw [if_pos rfl] at q1 ⊢
    exact he pins s1 σ H1 K I1 q1
  | false =>
    rw [if_neg Bool.false_ne_true] at q1 ⊢
    exact ⟨H1, I1, q1⟩
def CompW (nT : Nat) (js : List Nat) (J : It) (g : TG) (tb : TB) (σ : St) (H1 : Hp) (Q : VK) : Prop :=
  ∃ W : Nat → Nat → List V → Hp → Prop, (∃ m, W 0 m [] H1) ∧ ∀ i m ys H2, W i m ys H2 →
    (J.stop i H2 ∧ ys.length ≤ sizeLine ∧ ∀ l, H2 l = none → Q (.ref l) (upd H2 l (.lst ys))) ∨
    (J.go i H2 ∧ ys.length < sizeLine ∧ ∃ N : List V → Hp → Prop, (∀ ys' H', N ys' H' → ∃ m', m' < m ∧ W (i + 1) m' ys' H') ∧ ∀ x H3, J.yld i H2 x H3 → g x (cells0 nT js σ) H3 fun σ4 H4 => σ4.drop nT = seenV js σ ∧
       tb (fun v H5 => N (ys ++ [v]) H5) (fun H5 => N ys H5) σ4 H4)
def tComp (nT : Nat) (js : List Nat) (wi : TI) (g : TG) (tb : TB) : TE := fun σ H Q => wi σ H fun J H1 => CompW nT js J g tb σ H1 Q
def lobj (its : List Value) (n : Nat) : Obj := { cls := .type "list", data := .seq its.toArray n }
section
variable {X : Cx} {pins : List (Addr × Obj)} {σ : St} {H2 : Hp} {s2 : Shared} {scope : Scope} {T : List Str} {js : List Nat}
theorem Un.track {fs ex : List Addr} {H H' : Hp} {h h' : Heap} {D : Addr} {o : HO} (u : Un fs ex H H' h h') (hD : h.objs.size ≤ D) (hn : H' D = none) : Un fs ex H (upd H' D o) h h' where
  keep := u.keep
  slot := u.slot
  free := fun b ob e n hx => by rw [upd_ne (Nat.ne_of_lt (Nat.lt_of_lt_of_le (Heap.lt_size e) hD))]; exact u.free b ob e n hx
  there := u.there
  tups := fun b xs e => by have q := u.tups b xs e; rw [upd_ne (ne_of_none q hn)]; exact q
  frzs := fun b ob w e => by have q := u.frzs b ob w e; rw [upd_ne (ne_of_none q hn)]; exact q
  tbls := fun b ps e => by obtain ⟨m, q⟩ := u.tbls b ps e; exact ⟨m, by rw [upd_ne (ne_of_none q hn)]; exact q⟩
theorem HOk.track {P : Program} {w : World} {H : Hp} {h : Heap} {D : Addr} {o : HO} (x : HOk P w H h) (hn : H D = none) (new : ObjOk P w (upd H D o) h D o) : HOk P w (upd H D o) h := fun b u e => by
  by_cases hb : b = D
  · subst hb; rw [upd_same] at e; cases e; exact new
  · rw [upd_ne hb] at e
    exact (x b u e).stay (fun c v _ q => q) (fun c q => by rw [upd_ne (ne_of_none q hn)]; exact q) fun c xs q => by rw [upd_ne (ne_of_none q hn)]; exact q
theorem acc_append {XC : Cx} {D : Addr} {its : List Value} {n : Nat} {σc : St} {H : Hp} {s : Shared} {u : Value} (I : Inv XC [(D, lobj its n)] σc H s) (hD : XC.s₀.heap.objs.size ≤ D) (hc : ∀ x c, XC.env.cells.lookup x = some c → c ≠ D)
    (hp : ∀ p ∈ XC.pn, p.1 ≠ D) (hz : its.length < sizeLine) :
    wpAny (model XC.prog XC.w) XC.A (call (.builtin "list.append") [.ref D, u]) (fun _ s5 => ∃ n', Inv XC [(D, lobj (its ++ [u]) n')] σc H s5 ∧ ∀ b o, b ≠ D → s.heap.get? b = some o → s5.heap.get? b = some o) (fun _ _ => False) s := by
  obtain ⟨e, hn, hL, hf, hd⟩ := I.pin (D, lobj its n) (List.mem_append_right _ (List.mem_singleton.mpr rfl))
  refine call_meets F.slot_list_append ⟨_, e, rfl⟩ F.entry_list_append (F.args_list_append_2 _ _) (PySem.list_append D its.toArray n u (by rw [List.size_toArray]; omega)) ⟨e, ?_⟩
  have q := PySem.IsL.update e (·.push u)
  have I0 : Inv XC [] σc H s := I.pins_of fun p hp => absurd hp (by simp)
  have k : ∀ b o, b ≠ D → s.heap.get? b = some o → (s.heap.update D (Obj.mapSeq (·.push u))).get? b = some o := fun b o hb e' => (Heap.get?_update_other s.heap (Obj.mapSeq (·.push u)) (Ne.symm hb)).trans e'
  have I1 : Inv XC [] σc H { s with heap := s.heap.update D (Obj.mapSeq (·.push u)) } :=
    I0.turned (it := D) (t' := s.toks) k hn hL (.inr hD) hc (fun p hp' => hp p (by simpa using hp'))
  refine ⟨(if ((its ++ [u]).toArray.size == its.toArray.size) = true then n else n + 1), I1.pins_of fun p hp' => ?_, k⟩
  obtain rfl : p = (D, lobj (its ++ [u]) (if ((its ++ [u]).toArray.size == its.toArray.size) = true then n else n + 1)) := by simpa using hp'
  refine ⟨?_, hn, hL, hf, fun v z => by cases z⟩
  have q' : (its.toArray.push u) = (its ++ [u]).toArray := by simp
  rw [q'] at q
  exact q
theorem comp_block {tg iter elt : Expr} {ifs : List Expr} {pos : Pos} {g : TG} {tb : TB} {it : Addr} {fp : List Addr} {tn : Nat → Heap → Prop} {J : It} {E : Value → Shared → Prop} {RR : Value → Addr → Result → Shared → Prop}
    (S : CompSc X scope T js) (hc : X.calm = true) (I : Inv X pins σ H2 s2) (TT : Turn X.prog X.w X.K tg J fp it tn) (st : tn 0 s2.heap) (hfp : ∀ b ∈ fp, FpOk X pins H2 b)
    (hg : ∀ C s₀ H₀ ex pn, PG (X.comp scope T js C s₀ H₀ ex pn) tg g) (hb : ∀ C s₀ H₀ ex pn, PCB (X.comp scope T js C s₀ H₀ ex pn) ifs elt tb) {Q : VK}
    (W : Nat → Nat → List V → Hp → Prop) (w0 : ∃ m, W 0 m [] H2)
    (turn : ∀ i m ys H2, W i m ys H2 →
      (J.stop i H2 ∧ ys.length ≤ sizeLine ∧ ∀ l, H2 l = none → Q (.ref l) (upd H2 l (.lst ys))) ∨
      (J.go i H2 ∧ ys.length < sizeLine ∧ ∃ N : List V → Hp → Prop, (∀ ys' H', N ys' H' → ∃ m', m' < m ∧ W (i + 1) m' ys' H') ∧ ∀ x H3, J.yld i H2 x H3 → g x (cells0 T.length js σ) H3 fun σ4 H4 => σ4.drop T.length = seenV js σ ∧
        tb (fun v H5 => N (ys ++ [v]) H5) (fun H5 => N ys H5) σ4 H4))
    (hRR : ∀ D C s' H' m, s2.heap.objs.size ≤ C → D ≠ C → s'.heap.Ns C m → H' C = none → Inv X pins σ H' s' → Q (.ref D) H' → RR (.ref D) C (.ok .next) s') :
    wpAny (model X.prog X.w) X.A (newList []) (fun acc s₃ => wpAny (model X.prog X.w) X.A (newFunctionEnv scope X.env.globals (clOf X.env scope.names []) [] X.env.qual none .none (some X.env)) (fun cenv s₄ =>
      codeAny (model X.prog X.w) X.A (.compStart (.ListComp elt [⟨tg, iter, ifs, 0⟩] scope pos) 0 (.ref it) acc { cenv with scope := relabel scope X.env }) (RR acc cenv.locals) s₄) E s₃) E s2 := by
  have ob : ∀ b ∈ fp, ∃ o, s2.heap.get? b = some o := fun b hb => by obtain ⟨o, e, _⟩ := TT.obj 0 _ st b hb; exact ⟨o, e⟩
  have ltf : ∀ b ∈ fp, b < s2.heap.objs.size := fun b hb => by obtain ⟨o, e⟩ := ob b hb; exact Heap.lt_size e
  have hcell : ∀ y ∈ scope.names, y.2 ≠ .cell := fun y hy => of_decide_eq_true (List.all_eq_true.mp S.cell y hy)
  refine wpAny_newObj_type (wpAny_newFunctionEnv hcell (by intro y hy; simp at hy) (fun h₁ hns₁ hsb₁ => ?_) S.kind)
  dsimp only at hns₁ hsb₁ ⊢
  generalize hHH : s2.heap.push { cls := .type "list", dict := none, data := .seq ([] : List Value).toArray } = HH at hns₁ hsb₁ ⊢
  have hC : HH.objs.size = s2.heap.objs.size + 1 := by rw [← hHH, Heap.size_push]
  have hDC : s2.heap.objs.size ≠ HH.objs.size := by rw [hC]; exact Nat.ne_of_lt (Nat.lt_succ_self _)
  have hCle : s2.heap.objs.size ≤ HH.objs.size := by rw [hC]; exact Nat.le_succ _
  have below : ∀ b, b < s2.heap.objs.size → b ≠ HH.objs.size := fun b hb => by rw [hC]; exact Nat.ne_of_lt (Nat.lt_succ_of_lt hb)
  have old : ∀ b o, s2.heap.get? b = some o → h₁.get? b = some o := fun b o e => hsb₁.extBut b o (below b (Heap.lt_size e)) (Heap.get?_push_of_some _ (hHH ▸ Heap.get?_push_of_some _ e))
  have hacc : h₁.get? s2.heap.objs.size = some (lobj [] 0) := hsb₁.extBut _ _ hDC (Heap.get?_push_of_some _ (hHH ▸ Heap.get?_push_size _ rfl))
  generalize hCC : HH.objs.size = C at *
  generalize hDD : s2.heap.objs.size = D at *
  have I4 : ∀ t4, Inv (X.comp scope T js C s2 H2 fp (X.pn ++ pins)) [(D, lobj [] 0)] (cells0 T.length js σ) H2 { s2 with heap := h₁, toks := t4 } := fun t4 =>
    comp_start S I hc hfp ob (Nat.le_of_eq hDD) hacc (fun v z => by cases z) (by rw [hDD]; exact hCle) hDC old hns₁
  have look : ∀ x c, (clOf X.env scope.names []).lookup x = some c → X.env.cells.lookup x = some c := fun x c e => clOf_lookup scope.names [] (S.has I) (fun _ _ z => by simp at z) e
  have ltc : ∀ x c, X.env.cells.lookup x = some c → c < D := fun x c e => by obtain ⟨v, q⟩ := I.cell x c e; rw [← hDD]; exact q.lt
  have ltp : ∀ p ∈ X.pn ++ pins, p.1 < D := fun p hp => by rw [← hDD]; exact Heap.lt_size (I.pin p hp).1
  have stat : ∀ {H' : Hp} {o : Obj}, (∀ b ∈ fp, H' b = none) → ∀ b ∈ fp, FpOk (X.comp scope T js C s2 H2 fp (X.pn ++ pins)) [(D, o)] H' b := fun hn b hb => by
    obtain ⟨_, q1, q2, q3, q4, q5⟩ := hfp b hb
    have lb : b < D := ltf b hb
    refine ⟨hn b hb, Nat.ne_of_lt (Nat.lt_of_lt_of_le lb hCle), fun z => ?_, .inl hb, fun x c e => q4 x c (look x c e), fun p hp => ?_⟩
    · exact (List.mem_cons.mp (I.stkSub b z)).elim q1 q2
    · rcases List.mem_append.mp hp with hp | hp
      · exact q5 p hp
      · obtain rfl : p = (D, _) := by simpa using hp
        exact Nat.ne_of_gt lb
  have loop : ∀ t4, codeAny (model X.prog X.w) X.A (.compLoop (.ListComp elt [⟨tg, iter, ifs, 0⟩] scope pos) 0 (.ref it) (.ref D) (compEnvC scope (clOf X.env scope.names []) C X.env)) (RR (.ref D) C) { s2 with heap := h₁, toks := t4 } := by
    intro t4
    obtain ⟨m0, w0⟩ := w0
    refine compLoop_gen (fun n s' => ∃ i ys H' its nn, Inv (X.comp scope T js C s2 H2 fp (X.pn ++ pins)) [(D, lobj its nn)] (cells0 T.length js σ) H' s' ∧ Vals ys its ∧ tn i s'.heap ∧ (∀ b ∈ fp, H' b = none) ∧ W i n ys H') ?_ m0
      ⟨0, [], H2, [], 0, I4 t4, .nil, TT.keep _ _ _ st fun b hb o e => old b o e, fun b hb => (hfp b hb).1, w0⟩
    rintro n s3 ⟨i, ys, H3, its, nn, I3, v3, st3, fr3, w3⟩
    rcases turn i n ys H3 w3 with ⟨stop, hz, q⟩ | ⟨go, hz, N, hN, step⟩
    · refine thn (TT.done (X.comp scope T js C s2 H2 fp (X.pn ++ pins)) rfl rfl rfl hc i _ s3 _ H3 _ I3 (stat fr3) st3 stop) fun r s4 ⟨hr, I5⟩ => ?_
      subst hr
      obtain ⟨e, hn, hL, hf, hd⟩ := I5.pin (D, lobj its nn) (List.mem_append_right _ (List.mem_singleton.mpr rfl))
      have hH : HOk X.prog X.w (upd H3 D (.lst ys)) s4.heap := I5.hok.track hn ⟨hz, its, nn, v3, e⟩
      have hU : Un (frs X.stack) fp H2 (upd H3 D (.lst ys)) s2.heap s4.heap := Un.track I5.base (Nat.le_of_eq hDD) hn
      have IX : Inv X pins σ (upd H3 D (.lst ys)) s4 := I.call' (ch := fp) I5.os hU hH I5.bare fun b hb => by
        obtain ⟨_, q1, q2, q3, q4, q5⟩ := hfp b hb
        exact ⟨q3, q1, q4, q5⟩
      obtain ⟨m, hm, _⟩ := I5.loc
      exact hRR D C s4 _ m hCle hDC hm (by rw [upd_ne (Ne.symm hDC)]; exact I5.free) IX (q D hn)
    · refine thn (TT.item (X.comp scope T js C s2 H2 fp (X.pn ++ pins)) rfl rfl rfl hc i _ s3 _ H3 _ I3 (stat fr3) st3 go) fun r s4 ⟨u, hr, h4⟩ => ?_
      subst hr
      refine thn h4 fun _ s5 ⟨x, H5, I5, r5, y5, st5, fr5⟩ => ?_
      have I5' := I5.pinned (stat fr5) (TT.obj _ _ st5)
      refine thn (hg C s2 H2 fp (X.pn ++ pins) _ s5 _ H5 x u _ I5' r5 (step x H5 y5)) fun _ s6 ⟨σ6, H6, I6, dr, q6⟩ => ?_
      have I6' : Inv (X.comp scope T js C s2 H2 fp (X.pn ++ pins)) ([(D, lobj its nn)] ++ pinsAt fp s5.heap) σ6 H6 s6 := I6
      refine thn (hb C s2 H2 fp (X.pn ++ pins) _ s6 σ6 H6 _ _ I6' q6) fun ok s7 q7 => ?_
      have back : ∀ {o : Obj} {s8 : Shared} {H8 : Hp}, Inv (X.comp scope T js C s2 H2 fp (X.pn ++ pins)) ([(D, o)] ++ pinsAt fp s5.heap) σ6 H8 s8 → Inv (X.comp scope T js C s2 H2 fp (X.pn ++ pins)) [(D, o)] (cells0 T.length js σ) H8 s8 ∧ tn (i + 1) s8.heap ∧ ∀ b ∈ fp, H8 b = none := fun {o s8 H8} I8 => by
        refine ⟨I8.unpinned.weak ?_ fun j v e => ?_, TT.keep _ _ _ st5 fun b hb o' e => (I8.pin (b, o') (List.mem_append_right _ (List.mem_append_right _ (mem_pinsAt hb e)))).1, fun b hb => ?_⟩
        · rw [I8.len]
          show (cells0 T.length js σ).length = (T ++ X.seen js).length
          unfold cells0 seenV
          simp
        · unfold cells0 at e
          by_cases hj : j < T.length
          · rw [List.getElem?_append_left (by simpa using hj), List.getElem?_replicate] at e
            split at e <;> cases e
          · rw [List.getElem?_append_right (by simpa using hj), List.length_replicate, ← dr, List.getElem?_drop] at e
            rw [show T.length + (j - T.length) = j by omega] at e
            exact e
        · obtain ⟨o', e, d⟩ := TT.obj _ _ st5 b hb
          exact (I8.pin (b, o') (List.mem_append_right _ (List.mem_append_right _ (mem_pinsAt hb e)))).2.1
      cases ok with
      | false =>
        rw [if_neg Bool.false_ne_true] at q7 ⊢
        obtain ⟨H7, I7, n7⟩ := q7
        obtain ⟨m', hm', w7⟩ := hN _ _ n7
        obtain ⟨J1, J2, J3⟩ := back I7
        exact ⟨m', hm', i + 1, ys, H7, its, nn, J1, v3, J2, J3, w7⟩
      | true =>
        rw [if_pos rfl] at q7 ⊢
        refine thn q7 fun u7 s8 ⟨v, H8, I8, r8, n8⟩ => ?_
        obtain ⟨m', hm', w8⟩ := hN _ _ n8
        obtain ⟨J1, J2, J3⟩ := back I8
        have lz : its.length < sizeLine := by rw [← v3.length]; exact hz
        refine thn (acc_append (XC := X.comp scope T js C s2 H2 fp (X.pn ++ pins)) (u := u7) J1 (Nat.le_of_eq hDD) (fun x c e => Nat.ne_of_lt (ltc x c (look x c e))) (fun p hp => Nat.ne_of_lt (ltp p hp)) lz) fun _ s9 ⟨n', I9, k9⟩ => ?_
        refine ⟨m', hm', i + 1, ys ++ [v], H8, its ++ [u7], n', I9, v3.append (.cons r8 .nil), TT.keep _ _ _ J2 fun b hb o e => k9 b o (Nat.ne_of_lt (ltf b hb)) e, J3, w8⟩
  exact codeAny_compStart_list (loop _) (TT.self _ 0 _ _ _ (TT.keep _ _ _ st fun b hb o e => old b o e) (loop _))
theorem CompSc.names (S : CompSc X scope T js) : ∀ y ∈ scope.names, y.2 = .local → scope.names.lookup y.1 = some .local := fun y hy => of_decide_eq_true (List.all_eq_true.mp S.loc y hy)
theorem Inv.dropC {C : Addr} {H' : Hp} {s s' : Shared} {h' : Heap} (I : Inv X pins σ H2 s) (hC : s.heap.objs.size ≤ C) (I' : Inv X pins σ H' s') (hn : H' C = none) (hs : Heap.SameBut C s'.heap h') : Inv X pins σ H' { s' with heap := h' } := by
  refine I'.turned (it := C) (t' := s'.toks) (fun b o hb e => (hs.2 b hb).trans e) hn (Nat.ne_of_gt (Nat.lt_of_lt_of_le I.lt hC)) (.inr (Nat.le_trans I.sz hC)) (fun x c e => ?_) fun p hp => ?_
  · obtain ⟨v, q⟩ := I.cell x c e
    exact Nat.ne_of_lt (Nat.lt_of_lt_of_le q.lt hC)
  · exact Nat.ne_of_lt (Nat.lt_of_lt_of_le (Heap.lt_size (I.pin p hp).1) hC)
theorem pe_comp {tg iter elt : Expr} {ifs : List Expr} {pos : Pos} {wi : TI} {g : TG} {tb : TB} (T : List Str) (js : List Nat) (S : CompSc X scope T js) (hc : X.calm = true) (hi : PI X tg iter wi)
    (hg : ∀ C s₀ H₀ ex pn, PG (X.comp scope T js C s₀ H₀ ex pn) tg g) (hb : ∀ C s₀ H₀ ex pn, PCB (X.comp scope T js C s₀ H₀ ex pn) ifs elt tb)
    (hs : ∀ x, foldedSetIterable iter X.env x = pure x := by intro _; rfl) : PE X (.ListComp elt [⟨tg, iter, ifs, 0⟩] scope pos) (tComp T.length js wi g tb) := by
  intro pins s σ H Q I h
  rw [eval_ListComp]
  refine wpAny_comprehension_free (use := none) rfl hs (closureFor_clOf (S.has I)) S.kind S.names (thn (hi pins s σ H _ I h) fun v s1 h1 => thn h1 fun itv s2 h2 => ?_)
  obtain ⟨it, fp, tn, J, H2, e, I2, TT, st2, f2, W, w0, turn⟩ := h2
  subst e
  refine comp_block (RR := fun acc C => compPost (model X.prog X.w) X.A X.xe none (EP X pins σ Q) acc C) S hc I2 TT st2 f2 hg hb W w0 turn fun D C s' H' m hC hDC hm hn I' q => ?_
  exact ⟨m, hm, fun h' hs' => ⟨.ref D, H', I2.dropC hC I' hn hs', rfl, q⟩⟩
theorem ps_setComp {tg iter elt : Expr} {ifs : List Expr} {pos pos' spos : Pos} {wi : TI} {g : TG} {tb : TB} {i : Nat} {x : Str} (T : List Str) (js : List Nat) (hN : X.N.Nodup) (hxi : X.N[i]? = some x) (hx : X.env.scope.names.lookup x = some .local)
    (S : CompSc X scope T js) (hc : X.calm = true) (hi : PI X tg iter wi)
    (hg : ∀ C s₀ H₀ ex pn, PG (X.comp scope T js C s₀ H₀ ex pn) tg g) (hb : ∀ C s₀ H₀ ex pn, PCB (X.comp scope T js C s₀ H₀ ex pn) ifs elt tb)
    (hsw : swapsWith (.ListComp elt [⟨tg, iter, ifs, 0⟩] scope pos) (some (.Name x pos')) spos.line X.env = pure true := by rfl)
    (hs : ∀ x, foldedSetIterable iter X.env x = pure x := by intro _; rfl) : PS X (.Assign [.Name x pos'] (.ListComp elt [⟨tg, iter, ifs, 0⟩] scope pos) spos) (tAsg (tComp T.length js wi g tb) (gName i)) := by
  intro pins s σ H D0 I h
  rw [exec_Assign_Name_used _ _ _ _ hsw]
  refine wpAny_bind (wpAny_standAt (wpAny_bind ?_))
  show wpAny _ X.A (do let _ ← comprehension (.ListComp elt [⟨tg, iter, ifs, 0⟩] scope pos) scope X.env _ (newList []) false (eval iter X.env) (some (assign (.Name x pos') X.env))) _ _ s
  refine wpAny_bind (thn (wpAny_comprehension_free (use := some (assign (.Name x pos') X.env)) (Q := fun _ s' => SP X pins D0 .next s') rfl hs (closureFor_clOf (S.has I)) S.kind S.names (thn (hi pins s σ H _ I h) fun v s1 h1 => thn h1 fun itv s2 h2 => ?_)) fun _ s' hq => wpAny_pure (wpAny_pure hq))
  obtain ⟨it, fp, tn, J, H2, e, I2, TT, st2, f2, W, w0, turn⟩ := h2
  subst e
  refine comp_block (Q := fun x H1 => gName i x σ H1 D0.nx) (RR := fun acc C => compPost (model X.prog X.w) X.A X.xe (some (assign (.Name x pos') X.env)) (fun _ s' => SP X pins D0 .next s') acc C) S hc I2 TT st2 f2 hg hb W w0 turn fun D C s' H' m hC hDC hm hn I' q => ?_
  show wpAny _ X.A (assign (.Name x pos') X.env (.ref D)) _ _ _
  have nC : X.env.locals ≠ C := Nat.ne_of_lt (Nat.lt_of_lt_of_le I2.lt hC)
  refine wpAny_assign_Name (store_ok2 I' hN hxi (.inl hx) (v := .ref D) rfl (fun s3 I3 hs3 => ?_) (.inr hx))
  obtain ⟨a, sb, ha⟩ := hs3
  have na : C ≠ a := by
    rcases ha with z | z
    · rw [z]; exact Ne.symm nC
    · obtain ⟨v, q⟩ := I2.cell x a z
      exact Ne.symm (Nat.ne_of_lt (Nat.lt_of_lt_of_le q.lt hC))
  refine ⟨m, hm.sameBut sb na, fun h' hs' => ⟨_, H', ?_, q⟩⟩
  refine I3.turned (it := C) (t' := s3.toks) (fun b o hb e => (hs'.2 b hb).trans e) hn (Ne.symm nC) (.inr (Nat.le_trans I2.sz hC)) (fun x c e => ?_) fun p hp => ?_
  · obtain ⟨v, q⟩ := I2.cell x c e
    exact Nat.ne_of_lt (Nat.lt_of_lt_of_le q.lt hC)
  · exact Nat.ne_of_lt (Nat.lt_of_lt_of_le (Heap.lt_size (I2.pin p hp).1) hC)
end
section
variable {nT : Nat} {js : List Nat} {g : TG} {tb : TB} {Q : VK} {σ : St} {H : Hp}
theorem comp_range {lo : Int} {n : Nat} (Pv : Nat → List V → Hp → Prop) (h0 : Pv 0 [] H) (hz : n ≤ sizeLine) (hlen : ∀ i ys H, Pv i ys H → ys.length ≤ i)
    (hs : ∀ i ys H, i < n → Pv i ys H → g (.int (lo + i)) (cells0 nT js σ) H fun σ4 H4 => σ4.drop nT = seenV js σ ∧ tb (fun v H5 => Pv (i + 1) (ys ++ [v]) H5) (fun H5 => Pv (i + 1) ys H5) σ4 H4)
    (hd : ∀ ys H, Pv n ys H → ∀ l, H l = none → Q (.ref l) (upd H l (.lst ys))) :
    CompW nT js (Itr lo n) g tb σ H Q := by
  refine ⟨fun i m ys H => m = n - i ∧ i ≤ n ∧ Pv i ys H, ⟨n, by simp, Nat.zero_le _, h0⟩, ?_⟩
  rintro i m ys H2 ⟨rfl, hi, p⟩
  have hl := hlen i ys H2 p
  by_cases hlt : i < n
  · refine .inr ⟨hlt, by omega, Pv (i + 1), fun ys' H' p' => ⟨n - (i + 1), by omega, rfl, hlt, p'⟩, fun x H3 y => ?_⟩
    obtain ⟨e, y⟩ := y
    subst e y
    exact hs i ys _ hlt p
  · have e : i = n := by omega
    subst e
    exact .inl ⟨Nat.le_refl _, by omega, hd ys H2 p⟩
theorem comp_list {K : PySem.W.Frag} {a : Addr} {xs : List V} (Pv : Nat → List V → Hp → Prop) (h0 : Pv 0 [] H) (hz : xs.length ≤ sizeLine) (hlen : ∀ i ys H, Pv i ys H → ys.length ≤ i) (hl : ∀ i ys H, i ≤ xs.length → Pv i ys H → SqL K H a xs)
    (hs : ∀ i x ys H, xs[i]? = some x → Pv i ys H → g x (cells0 nT js σ) H fun σ4 H4 => σ4.drop nT = seenV js σ ∧ tb (fun v H5 => Pv (i + 1) (ys ++ [v]) H5) (fun H5 => Pv (i + 1) ys H5) σ4 H4)
    (hd : ∀ ys H, Pv xs.length ys H → ∀ l, H l = none → Q (.ref l) (upd H l (.lst ys))) :
    CompW nT js (Itl K a) g tb σ H Q := by
  refine ⟨fun i m ys H => m = xs.length - i ∧ i ≤ xs.length ∧ Pv i ys H, ⟨xs.length, by simp, Nat.zero_le _, h0⟩, ?_⟩
  rintro i m ys H2 ⟨rfl, hi, p⟩
  have hl' := hlen i ys H2 p
  have q := hl i ys H2 hi p
  by_cases hlt : i < xs.length
  · refine .inr ⟨⟨xs, xs[i], q, by simp [hlt]⟩, by omega, Pv (i + 1), fun ys' H' p' => ⟨xs.length - (i + 1), by omega, rfl, hlt, p'⟩, fun x H3 y => ?_⟩
    obtain ⟨e, y⟩ := y
    subst e
    exact hs i x ys _ (y xs q) p
  · have e : i = xs.length := by omega
    subst e
    exact .inl ⟨⟨xs, q, Nat.le_refl _⟩, by omega, hd ys H2 p⟩
theorem comp_tup {K : PySem.W.Frag} {a : Addr} {xs : List V} (Pv : Nat → List V → Hp → Prop) (h0 : Pv 0 [] H) (hz : xs.length ≤ sizeLine) (hlen : ∀ i ys H, Pv i ys H → ys.length ≤ i) (hl : ∀ i ys H, i ≤ xs.length → Pv i ys H → SqT K H a xs)
    (hs : ∀ i x ys H, xs[i]? = some x → Pv i ys H → g x (cells0 nT js σ) H fun σ4 H4 => σ4.drop nT = seenV js σ ∧ tb (fun v H5 => Pv (i + 1) (ys ++ [v]) H5) (fun H5 => Pv (i + 1) ys H5) σ4 H4)
    (hd : ∀ ys H, Pv xs.length ys H → ∀ l, H l = none → Q (.ref l) (upd H l (.lst ys))) :
    CompW nT js (Itt K a) g tb σ H Q := by
  refine ⟨fun i m ys H => m = xs.length - i ∧ i ≤ xs.length ∧ Pv i ys H, ⟨xs.length, by simp, Nat.zero_le _, h0⟩, ?_⟩
  rintro i m ys H2 ⟨rfl, hi, p⟩
  have hl' := hlen i ys H2 p
  have q := hl i ys H2 hi p
  by_cases hlt : i < xs.length
  · refine .inr ⟨⟨xs, xs[i], q, by simp [hlt]⟩, by omega, Pv (i + 1), fun ys' H' p' => ⟨xs.length - (i + 1), by omega, rfl, hlt, p'⟩, fun x H3 y => ?_⟩
    obtain ⟨e, y⟩ := y
    subst e
    exact hs i x ys _ (y xs q) p
  · have e : i = xs.length := by omega
    subst e
    exact .inl ⟨⟨xs, q, Nat.le_refl _⟩, by omega, hd ys H2 p⟩
end
end L2
namespace L2
open PySem PySem.Spec PyProof.Rows
section
variable {X : Cx}
def clsV : V → Value
  | .ty n => .type n
  | .ref a => .ref a
  | _ => .none
theorem call_isinst : CallR X (.builtin "isinstance") (fun xs H Q => ∃ x c t b, xs = [x, c] ∧ (∀ u, RelV c u → u = clsV c) ∧ TyOf X.K H x t ∧ PySem.W.kitOne X.K t (clsV c) = some b ∧ Q (.bl b) H) := by
  intro pins s σ H xs us Q I r h
  obtain ⟨x, c, t, b, rfl, hcv, ty, e, q⟩ := h
  obtain ⟨u, u', rfl, r1, r2⟩ := r.two
  obtain rfl := hcv u' r2
  exact isinst_ok I r1 ty e fun tk => ⟨.bl b, H, I.tok tk, rfl, q⟩
theorem bools_of : ∀ {bs : List Bool} {us : List Value}, Vals (bs.map V.bl) us → LSm.BoolsAre us bs
  | [], _, .nil => .nil
  | b :: bs, _, .cons r t => by
    cases (show _ = Value.bool b from r)
    exact .cons b (bools_of t)
theorem call_all (hc : X.calm = true) : CallR X (.builtin "all") (fun xs H Q => ∃ p, ∃ bs : List Bool, xs = [.ref p] ∧ SqL X.K H p (bs.map V.bl) ∧ Q (.bl (bs.all id)) H) := by
  intro pins s σ H xs us Q I r h
  obtain ⟨p, bs, rfl, hq, q⟩ := h
  obtain ⟨u, rfl, r1⟩ := r.one
  cases r1
  obtain ⟨its, rv, pl, hz⟩ := I.list hq
  have hb := bools_of rv
  have hl := pl.isList
  have hh := I.ok.hd hc
  have hlt : p < s.heap.objs.size := by obtain ⟨_, e, _⟩ := hl; exact Heap.lt_size e
  refine call_all_walk (wpAny_pyIter_list hl ?_)
  refine ⟨s.heap.objs.size, [s.heap.objs.size, p], [s.heap.objs.size], its.toArray.size, _, _, fun i => (bs[i]?).getD true, rfl, Walks.list (A := X.A.in1) hh _ p (Nat.ne_of_lt hlt) its.toArray,
    ⟨⟨_, Heap.get?_push_size _ rfl, rfl, rfl⟩, hl.push _⟩, fun i v s' Q' E' hP hQ => ?_, fun h' tk hk => ?_⟩
  · obtain ⟨b, e, rfl⟩ := hb.get i v (by simpa using hP)
    simp only [e, Option.getD_some] at hQ
    exact wpAny_truthy_bool hQ
  · have e : ((List.range its.toArray.size).all fun i => (bs[i]?).getD true) = bs.all id := by
      rw [List.size_toArray, hb.length]; exact LSm.range_all bs
    rw [e]
    exact ⟨.bl _, H, I.kept (h' := h') (t' := tk) (LSm.kept_iter hk), rfl, q⟩
end
inductive Dt where
  | non | bl (b : Bool) | int (i : Int) | str (x : Str) | lst (xs : List Dt) | tup (xs : List Dt)
mutual
def IsD (H : Hp) : Dt → V → Prop
  | .non, v => v = .non
  | .bl b, v => v = .bl b
  | .int i, v => v = .int i
  | .str x, v => v = .str x
  | .lst ds, v => ∃ a xs, v = .ref a ∧ H a = some (.lst xs) ∧ IsDs H ds xs
  | .tup ds, v => ∃ a xs, v = .ref a ∧ H a = some (.tup xs) ∧ IsDs H ds xs
def IsDs (H : Hp) : List Dt → List V → Prop
  | [], xs => xs = []
  | d :: ds, xs => ∃ x r, xs = x :: r ∧ IsD H d x ∧ IsDs H ds r
end
mutual
def eqD : Dt → Dt → Bool
  | .non, .non => true
  | .bl a, .bl b => a == b
  | .bl a, .int b => (if a then 1 else 0) == b
  | .int a, .bl b => a == (if b then 1 else 0)
  | .int a, .int b => a == b
  | .str a, .str b => a == b
  | .lst as, .lst bs => eqDs as bs
  | .tup as, .tup bs => eqDs as bs
  | _, _ => false
def eqDs : List Dt → List Dt → Bool
  | [], [] => true
  | a :: as, b :: bs => eqD a b && eqDs as bs
  | _, _ => false
end
mutual
def depthD : Dt → Nat
  | .lst ds => depthDs ds + 1
  | .tup ds => depthDs ds + 1
  | _ => 0
def depthDs : List Dt → Nat
  | [] => 0
  | d :: ds => max (depthD d) (depthDs ds)
end
mutual
theorem eqD_refl : ∀ d : Dt, eqD d d = true
  | .non => by unfold eqD; rfl
  | .bl b => by unfold eqD; simp
  | .int b => by unfold eqD; simp
  | .str b => by unfold eqD; simp
  | .lst ds => by unfold eqD; exact eqDs_refl ds
  | .tup ds => by unfold eqD; exact eqDs_refl ds
theorem eqDs_refl : ∀ ds : List Dt, eqDs ds ds = true
  | [] => by unfold eqDs; rfl
  | d :: ds => by unfold eqDs; rw [eqD_refl d, eqDs_refl ds]; rfl
end
theorem IsDs.length {H : Hp} : ∀ {ds : List Dt} {xs : List V}, IsDs H ds xs → ds.length = xs.length
  | [], xs, h => by unfold IsDs at h; rw [h]; rfl
  | d :: ds, xs, h => by
    unfold IsDs at h
    obtain ⟨x, r, rfl, _, h⟩ := h
    simp [IsDs.length h]
theorem IsDs.get {H : Hp} : ∀ {ds : List Dt} {xs : List V} {i : Nat} {d : Dt}, IsDs H ds xs → ds[i]? = some d → ∃ x, xs[i]? = some x ∧ IsD H d x
  | [], xs, i, d, h, e => by simp at e
  | d' :: ds, xs, i, d, h, e => by
    unfold IsDs at h
    obtain ⟨x, r, rfl, hx, h⟩ := h
    cases i with
    | zero => simp at e; subst e; exact ⟨x, rfl, hx⟩
    | succ i => obtain ⟨y, e1, e2⟩ := IsDs.get (i := i) (d := d) h (by simpa using e); exact ⟨y, by simpa using e1, e2⟩
theorem IsDs.get' {H : Hp} {ds : List Dt} {xs : List V} {i : Nat} {x : V} (h : IsDs H ds xs) (e : xs[i]? = some x) : ∃ d, ds[i]? = some d ∧ IsD H d x := by
  have hi : i < ds.length := by rw [h.length]; exact (List.getElem?_eq_some_iff.mp e).1
  obtain ⟨y, e1, e2⟩ := h.get (List.getElem?_eq_getElem hi)
  rw [e] at e1
  cases e1
  exact ⟨_, List.getElem?_eq_getElem hi, e2⟩
mutual
theorem IsD.inj {H : Hp} : ∀ {d d' : Dt} {v : V}, IsD H d v → IsD H d' v → d = d'
  | .non, d', v, h, h' => by unfold IsD at h; subst h; cases d' <;> unfold IsD at h' <;> first | rfl | (cases h'; done) | (obtain ⟨_, _, z, _⟩ := h'; exact nomatch z)
  | .bl b, d', v, h, h' => by unfold IsD at h; subst h; cases d' <;> unfold IsD at h' <;> first | (cases h'; rfl) | (cases h'; done) | (obtain ⟨_, _, z, _⟩ := h'; exact nomatch z)
  | .int b, d', v, h, h' => by unfold IsD at h; subst h; cases d' <;> unfold IsD at h' <;> first | (cases h'; rfl) | (cases h'; done) | (obtain ⟨_, _, z, _⟩ := h'; exact nomatch z)
  | .str b, d', v, h, h' => by unfold IsD at h; subst h; cases d' <;> unfold IsD at h' <;> first | (cases h'; rfl) | (cases h'; done) | (obtain ⟨_, _, z, _⟩ := h'; exact nomatch z)
  | .lst ds, d', v, h, h' => by
    unfold IsD at h
    obtain ⟨a, xs, rfl, ha, hs⟩ := h
    cases d' <;> unfold IsD at h'
    case lst ds' =>
      obtain ⟨b, ys, e, hb, hs'⟩ := h'
      cases e
      rw [ha] at hb
      cases hb
      rw [IsDs.inj hs hs']
    case tup ds' =>
      obtain ⟨b, ys, e, hb, hs'⟩ := h'
      cases e
      rw [ha] at hb
      cases hb
    all_goals cases h'
  | .tup ds, d', v, h, h' => by
    unfold IsD at h
    obtain ⟨a, xs, rfl, ha, hs⟩ := h
    cases d' <;> unfold IsD at h'
    case tup ds' =>
      obtain ⟨b, ys, e, hb, hs'⟩ := h'
      cases e
      rw [ha] at hb
      cases hb
      rw [IsDs.inj hs hs']
    case lst ds' =>
      obtain ⟨b, ys, e, hb, hs'⟩ := h'
      cases e
      rw [ha] at hb
      cases hb
    all_goals cases h'
theorem IsDs.inj {H : Hp} : ∀ {ds ds' : List Dt} {xs : List V}, IsDs H ds xs → IsDs H ds' xs → ds = ds'
  | [], ds', xs, h, h' => by
    unfold IsDs at h; subst h
    cases ds' <;> unfold IsDs at h'
    · rfl
    · obtain ⟨_, _, e, _⟩ := h'; cases e
  | d :: ds, ds', xs, h, h' => by
    unfold IsDs at h
    obtain ⟨x, r, rfl, hx, hr⟩ := h
    cases ds' with
    | nil => unfold IsDs at h'; cases h'
    | cons d' ds' =>
      unfold IsDs at h'
      obtain ⟨y, r', e, hy, hr'⟩ := h'
      cases e
      rw [IsD.inj hx hy, IsDs.inj hr hr']
end
mutual
theorem IsD.mono {H H' : Hp} (e : Same H H') : ∀ {d : Dt} {v : V}, IsD H d v → IsD H' d v
  | .non, v, h => by unfold IsD at h ⊢; exact h
  | .bl _, v, h => by unfold IsD at h ⊢; exact h
  | .int _, v, h => by unfold IsD at h ⊢; exact h
  | .str _, v, h => by unfold IsD at h ⊢; exact h
  | .lst ds, v, h => by unfold IsD at h ⊢; obtain ⟨a, xs, h1, h2, h3⟩ := h; exact ⟨a, xs, h1, e _ _ h2, IsDs.mono e h3⟩
  | .tup ds, v, h => by unfold IsD at h ⊢; obtain ⟨a, xs, h1, h2, h3⟩ := h; exact ⟨a, xs, h1, e _ _ h2, IsDs.mono e h3⟩
theorem IsDs.mono {H H' : Hp} (e : Same H H') : ∀ {ds : List Dt} {xs : List V}, IsDs H ds xs → IsDs H' ds xs
  | [], xs, h => by unfold IsDs at h ⊢; exact h
  | d :: ds, xs, h => by unfold IsDs at h ⊢; obtain ⟨x, r, h1, h2, h3⟩ := h; exact ⟨x, r, h1, IsD.mono e h2, IsDs.mono e h3⟩
end
theorem eqDs_range : ∀ (as bs : List Dt), as.length = bs.length → eqDs as bs = (List.range as.length).all fun i => match as[i]?, bs[i]? with | some a, some b => eqD a b | _, _ => false
  | [], [], _ => by unfold eqDs; rfl
  | a :: as, b :: bs, h => by
    unfold eqDs
    rw [eqDs_range as bs (by simpa using h), List.length_cons, List.range_succ_eq_map, List.all_cons, List.all_map]
    rfl
  | [], _ :: _, h => by simp at h
  | _ :: _, [], h => by simp at h
theorem eqDs_len : ∀ (as bs : List Dt), as.length ≠ bs.length → eqDs as bs = false
  | [], [], h => absurd rfl h
  | a :: as, b :: bs, h => by
    unfold eqDs
    rw [eqDs_len as bs (by simpa using h), Bool.and_false]
  | [], _ :: _, _ => by unfold eqDs; rfl
  | _ :: _, [], _ => by unfold eqDs; rfl
section
variable {X : Cx} {pins : List (Addr × Obj)} {σ : St} {H : Hp} {s : Shared}
def eqIx (as bs : List Dt) (i : Nat) : Bool := match as[i]?, bs[i]? with | some a, some b => eqD a b | _, _ => false
theorem rc_lists (I : Inv X pins σ H s) {A : Around} {l b : Addr} {xs ys : List V} {ds es : List Dt} (hl : H l = some (.lst xs)) (hb : H b = some (.lst ys)) (h1 : IsDs H ds xs) (h2 : IsDs H es ys) (hu : A.units < cLine)
    (he : ∀ us ws, Vals xs us → Vals ys ws → ∀ (j : Nat) d e u w, ds[j]? = some d → es[j]? = some e → us[j]? = some u → ws[j]? = some w → SeqAt.EqAt A.in1 s u w (eqD d e)) : SeqAt.RcAt A s (.ref l) (.ref b) (eqDs ds es) := by
  obtain ⟨us, r1, p1, _⟩ := I.list (SqL.of (K := X.K) hl)
  obtain ⟨ws, r2, p2, _⟩ := I.list (SqL.of (K := X.K) hb)
  have n1 : us.length = ds.length := by rw [← r1.length, h1.length]
  have n2 : ws.length = es.length := by rw [← r2.length, h2.length]
  by_cases hsz : ds.length = es.length
  · have q := SeqAt.RcAt.lists (e := eqIx ds es) p1.isList p2.isList (by simp [n1, n2, hsz]) hu (fun j q1 q2 => by
      have j1 : j < us.length := by simpa using q1
      have j2 : j < ws.length := by simpa using q2
      have g1 : ds[j]? = some ds[j] := List.getElem?_eq_getElem (by omega)
      have g2 : es[j]? = some es[j] := List.getElem?_eq_getElem (by omega)
      have z := he us ws r1 r2 j _ _ us[j] ws[j] g1 g2 (List.getElem?_eq_getElem j1) (List.getElem?_eq_getElem j2)
      have ez : eqIx ds es j = eqD ds[j] es[j] := by unfold eqIx; rw [g1, g2]
      rw [ez]
      simpa using z)
    rw [eqDs_range ds es hsz]
    rw [List.size_toArray, n1] at q
    exact q
  · rw [eqDs_len ds es hsz]
    exact SeqAt.RcAt.lists_lengths p1.isList p2.isList (by simpa [n1, n2] using hsz) hu
theorem rc_tuples (I : Inv X pins σ H s) {A : Around} {l b : Addr} {xs ys : List V} {ds es : List Dt} (hl : H l = some (.tup xs)) (hb : H b = some (.tup ys)) (h1 : IsDs H ds xs) (h2 : IsDs H es ys) (hu : A.units < cLine)
    (he : ∀ us ws, Vals xs us → Vals ys ws → ∀ (j : Nat) d e u w, ds[j]? = some d → es[j]? = some e → us[j]? = some u → ws[j]? = some w → SeqAt.EqAt A.in1 s u w (eqD d e)) : SeqAt.RcAt A s (.ref l) (.ref b) (eqDs ds es) := by
  obtain ⟨us, r1, p1, _⟩ := I.tuple (SqT.of (K := X.K) hl)
  obtain ⟨ws, r2, p2, _⟩ := I.tuple (SqT.of (K := X.K) hb)
  have n1 : us.length = ds.length := by rw [← r1.length, h1.length]
  have n2 : ws.length = es.length := by rw [← r2.length, h2.length]
  have q := SeqAt.RcAt.tuples (e := eqIx ds es) (show s.heap.IsTuple l us.toArray from p1) (show s.heap.IsTuple b ws.toArray from p2) hu (fun j q1 q2 => by
      have j1 : j < us.length := by simpa using q1
      have j2 : j < ws.length := by simpa using q2
      have g1 : ds[j]? = some ds[j] := List.getElem?_eq_getElem (by omega)
      have g2 : es[j]? = some es[j] := List.getElem?_eq_getElem (by omega)
      have z := he us ws r1 r2 j _ _ us[j] ws[j] g1 g2 (List.getElem?_eq_getElem j1) (List.getElem?_eq_getElem j2)
      have ez : eqIx ds es j = eqD ds[j] es[j] := by unfold eqIx; rw [g1, g2]
      rw [ez]
      simpa using z)
  rw [List.size_toArray, List.size_toArray, n1, n2] at q
  by_cases hsz : ds.length = es.length
  · rw [← hsz, Nat.min_self] at q
    rw [eqDs_range ds es hsz]
    have e1 : (ds.length == ds.length) = true := beq_self_eq_true _
    rw [e1, Bool.and_true] at q
    exact q
  · rw [eqDs_len ds es hsz]
    have e0 : (ds.length == es.length) = false := beq_eq_false_iff_ne.mpr hsz
    rw [e0, Bool.and_false] at q
    exact q
theorem depthDs_mem : ∀ {ds : List Dt} {j : Nat} {d : Dt}, ds[j]? = some d → depthD d ≤ depthDs ds
  | [], j, d, h => by simp at h
  | d' :: ds, j, d, h => by
    unfold depthDs
    cases j with
    | zero => simp at h; subst h; exact Nat.le_max_left _ _
    | succ j => exact Nat.le_trans (depthDs_mem (j := j) (by simpa using h)) (Nat.le_max_right _ _)
theorem IsDs.rel {H : Hp} {ds : List Dt} {xs : List V} {us : List Value} {j : Nat} {d : Dt} {u : Value} (h : IsDs H ds xs) (r : Vals xs us) (g : ds[j]? = some d) (g' : us[j]? = some u) : ∃ x, IsD H d x ∧ RelV x u := by
  obtain ⟨x, e, hx⟩ := h.get g
  obtain ⟨u', e', ru⟩ := r.get e
  rw [g'] at e'
  cases e'
  exact ⟨x, hx, ru⟩
def flatD : Dt → V
  | .non => .non
  | .bl b => .bl b
  | .int i => .int i
  | .str x => .str x
  | _ => .ref 0
def isFlat : Dt → Bool
  | .lst _ => false
  | .tup _ => false
  | _ => true
theorem IsD.flat {H : Hp} {d : Dt} {v : V} (h : IsD H d v) (f : isFlat d = true) : v = flatD d := by
  cases d with
  | lst _ => cases f
  | tup _ => cases f
  | _ => unfold IsD at h; exact h
theorem eqD_flat {d e : Dt} (f : isFlat d = true) (g : isFlat e = true) : eqD d e = eqV (flatD d) (flatD e) := by
  cases d <;> first | cases f | skip
  all_goals cases e <;> first | cases g | skip
  all_goals (unfold eqD; rfl)
theorem flat_flat {d : Dt} (f : isFlat d = true) : flatV (flatD d) = true := by
  cases d <;> first | rfl | cases f
theorem eqD_seq_flat {d e : Dt} (f : isFlat d = false) (g : isFlat e = true) : eqD d e = false := by
  cases d <;> first | cases f | skip
  all_goals cases e <;> first | cases g | skip
  all_goals (unfold eqD; rfl)
theorem eqD_flat_seq {d e : Dt} (f : isFlat d = true) (g : isFlat e = false) : eqD d e = false := by
  cases d <;> first | cases f | skip
  all_goals cases e <;> first | cases g | skip
  all_goals (unfold eqD; rfl)
theorem eqAt_lst_flat {A : Around} {a : Addr} {items : Array Value} (hl : s.heap.IsList a items) (hu : A.units < cLine) {x : V} {w : Value} (fx : flatV x = true) (r : RelV x w) : SeqAt.EqAt A s (.ref a) w false := by
  cases x with
  | non => obtain rfl : w = Value.none := r; exact SeqAt.EqAt.list_none hl hu
  | bl b => obtain rfl : w = Value.bool b := r; exact SeqAt.EqAt.list_bool b hl hu
  | int b => obtain ⟨t, rfl⟩ := r; exact SeqAt.EqAt.list_int b t hl hu
  | str b => obtain ⟨t, rfl⟩ := r; exact SeqAt.EqAt.list_str b t hl hu
  | _ => exact absurd (show false = true from fx) Bool.false_ne_true
theorem eqAt_tup_flat {A : Around} {a : Addr} {items : Array Value} (hl : s.heap.IsTuple a items) (hu : A.units < cLine) {x : V} {w : Value} (fx : flatV x = true) (r : RelV x w) : SeqAt.EqAt A s (.ref a) w false := by
  cases x with
  | non => obtain rfl : w = Value.none := r; exact SeqAt.EqAt.tuple_none hl hu
  | bl b => obtain rfl : w = Value.bool b := r; exact SeqAt.EqAt.tuple_bool b hl hu
  | int b => obtain ⟨t, rfl⟩ := r; exact SeqAt.EqAt.tuple_int b t hl hu
  | str b => obtain ⟨t, rfl⟩ := r; exact SeqAt.EqAt.tuple_str b t hl hu
  | _ => exact absurd (show false = true from fx) Bool.false_ne_true
theorem eqAt_flat_lst {A : Around} {a : Addr} {items : Array Value} (hl : s.heap.IsList a items) (hu : A.units < cLine) {x : V} {w : Value} (fx : flatV x = true) (r : RelV x w) : SeqAt.EqAt A s w (.ref a) false := by
  cases x with
  | non => obtain rfl : w = Value.none := r; exact SeqAt.EqAt.none_list hl hu
  | bl b => obtain rfl : w = Value.bool b := r; exact SeqAt.EqAt.bool_list b hl hu
  | int b => obtain ⟨t, rfl⟩ := r; exact SeqAt.EqAt.int_list b t hl hu
  | str b => obtain ⟨t, rfl⟩ := r; exact SeqAt.EqAt.str_list b t hl hu
  | _ => exact absurd (show false = true from fx) Bool.false_ne_true
theorem eqAt_flat_tup {A : Around} {a : Addr} {items : Array Value} (hl : s.heap.IsTuple a items) (hu : A.units < cLine) {x : V} {w : Value} (fx : flatV x = true) (r : RelV x w) : SeqAt.EqAt A s w (.ref a) false := by
  cases x with
  | non => obtain rfl : w = Value.none := r; exact SeqAt.EqAt.none_tuple hl hu
  | bl b => obtain rfl : w = Value.bool b := r; exact SeqAt.EqAt.bool_tuple b hl hu
  | int b => obtain ⟨t, rfl⟩ := r; exact SeqAt.EqAt.int_tuple b t hl hu
  | str b => obtain ⟨t, rfl⟩ := r; exact SeqAt.EqAt.str_tuple b t hl hu
  | _ => exact absurd (show false = true from fx) Bool.false_ne_true
theorem IsD.seq {H : Hp} {d : Dt} {v : V} (h : IsD H d v) (f : isFlat d = false) : (∃ ds a xs, d = .lst ds ∧ v = .ref a ∧ H a = some (.lst xs) ∧ IsDs H ds xs) ∨ (∃ ds a xs, d = .tup ds ∧ v = .ref a ∧ H a = some (.tup xs) ∧ IsDs H ds xs) := by
  cases d with
  | lst ds => unfold IsD at h; obtain ⟨a, xs, h1, h2, h3⟩ := h; exact .inl ⟨ds, a, xs, rfl, h1, h2, h3⟩
  | tup ds => unfold IsD at h; obtain ⟨a, xs, h1, h2, h3⟩ := h; exact .inr ⟨ds, a, xs, rfl, h1, h2, h3⟩
  | _ => cases f
theorem eqD_ll (as bs : List Dt) : eqD (.lst as) (.lst bs) = eqDs as bs := by unfold eqD; rfl
theorem eqD_tt (as bs : List Dt) : eqD (.tup as) (.tup bs) = eqDs as bs := by unfold eqD; rfl
theorem eqD_lt (as bs : List Dt) : eqD (.lst as) (.tup bs) = false := by unfold eqD; rfl
theorem eqD_tl (as bs : List Dt) : eqD (.tup as) (.lst bs) = false := by unfold eqD; rfl
theorem depth_l (ds : List Dt) : depthD (.lst ds) = depthDs ds + 1 := by unfold depthD; rfl
theorem depth_t (ds : List Dt) : depthD (.tup ds) = depthDs ds + 1 := by unfold depthD; rfl
theorem eqAt_D (I : Inv X pins σ H s) : ∀ (n : Nat) (d e : Dt) (v x : V) (u w : Value) (A : Around), depthD d ≤ n → IsD H d v → IsD H e x → RelV v u → RelV x w → A.units + n < cLine → SeqAt.EqAt A s u w (eqD d e) := by
  intro n
  induction n with
  | zero =>
    intro d e v x u w A hd h1 h2 r1 r2 hu
    have hu0 : A.units < cLine := by omega
    have fd : isFlat d = true := by
      cases d with
      | lst ds => rw [depth_l] at hd; omega
      | tup ds => rw [depth_t] at hd; omega
      | _ => rfl
    obtain rfl := h1.flat fd
    cases fe : isFlat e with
    | true =>
      obtain rfl := h2.flat fe
      rw [eqD_flat fd fe]
      exact eqAt_V r1 r2 (flat_flat fd) (flat_flat fe)
    | false =>
      rw [eqD_flat_seq fd fe]
      rcases h2.seq fe with ⟨es, b, ys, rfl, rfl, hb, hs2⟩ | ⟨es, b, ys, rfl, rfl, hb, hs2⟩
      · obtain rfl : w = Value.ref b := r2
        obtain ⟨ws, _, p2, _⟩ := I.list (SqL.of (K := X.K) hb)
        exact eqAt_flat_lst p2.isList hu0 (flat_flat fd) r1
      · obtain rfl : w = Value.ref b := r2
        obtain ⟨ws, _, p2, _⟩ := I.tuple (SqT.of (K := X.K) hb)
        exact eqAt_flat_tup (show s.heap.IsTuple b ws.toArray from p2) hu0 (flat_flat fd) r1
  | succ n ih =>
    intro d e v x u w A hd h1 h2 r1 r2 hu
    have hu0 : A.units < cLine := by omega
    have hin : A.in1.units + n < cLine := by show A.units + 1 + n < cLine; omega
    cases fd : isFlat d with
    | true =>
      obtain rfl := h1.flat fd
      cases fe : isFlat e with
      | true =>
        obtain rfl := h2.flat fe
        rw [eqD_flat fd fe]
        exact eqAt_V r1 r2 (flat_flat fd) (flat_flat fe)
      | false =>
        rw [eqD_flat_seq fd fe]
        rcases h2.seq fe with ⟨es, b, ys, rfl, rfl, hb, hs2⟩ | ⟨es, b, ys, rfl, rfl, hb, hs2⟩
        · obtain rfl : w = Value.ref b := r2
          obtain ⟨ws, _, p2, _⟩ := I.list (SqL.of (K := X.K) hb)
          exact eqAt_flat_lst p2.isList hu0 (flat_flat fd) r1
        · obtain rfl : w = Value.ref b := r2
          obtain ⟨ws, _, p2, _⟩ := I.tuple (SqT.of (K := X.K) hb)
          exact eqAt_flat_tup (show s.heap.IsTuple b ws.toArray from p2) hu0 (flat_flat fd) r1
    | false =>
      have h1' := h1
      have h2' := h2
      rcases h1.seq fd with ⟨ds, a, xs, rfl, rfl, ha, hs⟩ | ⟨ds, a, xs, rfl, rfl, ha, hs⟩
      · obtain rfl : u = Value.ref a := r1
        obtain ⟨us, _, p1, _⟩ := I.list (SqL.of (K := X.K) ha)
        cases fe : isFlat e with
        | true =>
          obtain rfl := h2.flat fe
          rw [eqD_seq_flat fd fe]
          exact eqAt_lst_flat p1.isList hu0 (flat_flat fe) r2
        | false =>
          rcases h2.seq fe with ⟨es, b, ys, rfl, rfl, hb, hs2⟩ | ⟨es, b, ys, rfl, rfl, hb, hs2⟩
          · obtain rfl : w = Value.ref b := r2
            by_cases hab : a = b
            · subst hab
              rw [IsD.inj h1' h2', eqD_refl]
              exact SeqAt.EqAt.same _
            · rw [eqD_ll]
              refine SeqAt.EqAt.of_refs hab (rc_lists I ha hb hs hs2 hu0 fun us ws k1 k2 j d e u w g1 g2 g3 g4 => ?_)
              obtain ⟨x1, q1, q2⟩ := hs.rel k1 g1 g3
              obtain ⟨x2, q3, q4⟩ := hs2.rel k2 g2 g4
              exact ih d e x1 x2 u w A.in1 (by have := depthDs_mem g1; rw [depth_l] at hd; omega) q1 q3 q2 q4 hin
          · obtain rfl : w = Value.ref b := r2
            obtain ⟨ws, _, p2, _⟩ := I.tuple (SqT.of (K := X.K) hb)
            rw [eqD_lt]
            exact SeqAt.EqAt.list_tuple p1.isList (show s.heap.IsTuple b ws.toArray from p2) hu0
      · obtain rfl : u = Value.ref a := r1
        obtain ⟨us, _, p1, _⟩ := I.tuple (SqT.of (K := X.K) ha)
        cases fe : isFlat e with
        | true =>
          obtain rfl := h2.flat fe
          rw [eqD_seq_flat fd fe]
          exact eqAt_tup_flat (show s.heap.IsTuple a us.toArray from p1) hu0 (flat_flat fe) r2
        | false =>
          rcases h2.seq fe with ⟨es, b, ys, rfl, rfl, hb, hs2⟩ | ⟨es, b, ys, rfl, rfl, hb, hs2⟩
          · obtain rfl : w = Value.ref b := r2
            obtain ⟨ws, _, p2, _⟩ := I.list (SqL.of (K := X.K) hb)
            rw [eqD_tl]
            exact SeqAt.EqAt.tuple_list (show s.heap.IsTuple a us.toArray from p1) p2.isList hu0
          · obtain rfl : w = Value.ref b := r2
            by_cases hab : a = b
            · subst hab
              rw [IsD.inj h1' h2', eqD_refl]
              exact SeqAt.EqAt.same _
            · rw [eqD_tt]
              refine SeqAt.EqAt.of_refs hab (rc_tuples I ha hb hs hs2 hu0 fun us ws k1 k2 j d e u w g1 g2 g3 g4 => ?_)
              obtain ⟨x1, q1, q2⟩ := hs.rel k1 g1 g3
              obtain ⟨x2, q3, q4⟩ := hs2.rel k2 g2 g4
              exact ih d e x1 x2 u w A.in1 (by have := depthDs_mem g1; rw [depth_t] at hd; omega) q1 q3 q2 q4 hin
def rEqD : R2 := fun x y H Q => ∃ d e, IsD H d x ∧ IsD H e y ∧ isFlat d = false ∧ isFlat e = false ∧ depthD d ≤ 20 ∧ Q (.bl (eqD d e)) H
theorem rcAt_D (I : Inv X pins σ H s) {d e : Dt} {v x : V} {u w : Value} {A : Around} (h1 : IsD H d v) (h2 : IsD H e x) (fd : isFlat d = false) (fe : isFlat e = false) (r1 : RelV v u) (r2 : RelV x w) (hd : depthD d ≤ 20) (hu : A.units + 20 < cLine) : SeqAt.RcAt A s u w (eqD d e) := by
  have hu0 : A.units < cLine := by omega
  have hin : A.in1.units + 19 < cLine := by show A.units + 1 + 19 < cLine; omega
  rcases h1.seq fd with ⟨ds, a, xs, rfl, rfl, ha, hs⟩ | ⟨ds, a, xs, rfl, rfl, ha, hs⟩
  · obtain rfl : u = Value.ref a := r1
    obtain ⟨us, _, p1, _⟩ := I.list (SqL.of (K := X.K) ha)
    rcases h2.seq fe with ⟨es, b, ys, rfl, rfl, hb, hs2⟩ | ⟨es, b, ys, rfl, rfl, hb, hs2⟩
    · obtain rfl : w = Value.ref b := r2
      rw [eqD_ll]
      refine rc_lists I ha hb hs hs2 hu0 fun us ws k1 k2 j d e u w g1 g2 g3 g4 => ?_
      obtain ⟨x1, q1, q2⟩ := hs.rel k1 g1 g3
      obtain ⟨x2, q3, q4⟩ := hs2.rel k2 g2 g4
      exact eqAt_D I 19 d e x1 x2 u w A.in1 (by have := depthDs_mem g1; rw [depth_l] at hd; omega) q1 q3 q2 q4 hin
    · obtain rfl : w = Value.ref b := r2
      obtain ⟨ws, _, p2, _⟩ := I.tuple (SqT.of (K := X.K) hb)
      rw [eqD_lt]
      exact SeqAt.RcAt.list_tuple p1.isList (show s.heap.IsTuple b ws.toArray from p2) hu0
  · obtain rfl : u = Value.ref a := r1
    obtain ⟨us, _, p1, _⟩ := I.tuple (SqT.of (K := X.K) ha)
    rcases h2.seq fe with ⟨es, b, ys, rfl, rfl, hb, hs2⟩ | ⟨es, b, ys, rfl, rfl, hb, hs2⟩
    · obtain rfl : w = Value.ref b := r2
      obtain ⟨ws, _, p2, _⟩ := I.list (SqL.of (K := X.K) hb)
      rw [eqD_tl]
      exact SeqAt.RcAt.tuple_list (show s.heap.IsTuple a us.toArray from p1) p2.isList hu0
    · obtain rfl : w = Value.ref b := r2
      rw [eqD_tt]
      refine rc_tuples I ha hb hs hs2 hu0 fun us ws k1 k2 j d e u w g1 g2 g3 g4 => ?_
      obtain ⟨x1, q1, q2⟩ := hs.rel k1 g1 g3
      obtain ⟨x2, q3, q4⟩ := hs2.rel k2 g2 g4
      exact eqAt_D I 19 d e x1 x2 u w A.in1 (by have := depthDs_mem g1; rw [depth_t] at hd; omega) q1 q3 q2 q4 hin
end
section
variable {X : Cx}
theorem op_eqD (hu : X.A.units + 20 < cLine) : OpR X (compareOp .Eq) rEqD := by
  intro pins s σ H x y v u Q I rx ry h
  obtain ⟨d, e, h1, h2, s1, s2, hd, q⟩ := h
  exact rcAt_D I h1 h2 s1 s2 rx ry hd hu X.prog X.w X.xe _ ⟨.bl (eqD d e), H, I, rfl, q⟩
end
end L2
namespace L2
open PySem PySem.Spec PyProof.Rows
structure Bt (mg : Str → Option Value) : Prop where
  len : mg "len" = none
  range : mg "range" = none
  isinstance : mg "isinstance" = none
  all : mg "all" = none
  any : mg "any" = none
  sum : mg "sum" = none
  min : mg "min" = none
  max : mg "max" = none
  int : mg "int" = none
  bool : mg "bool" = none
  tuple : mg "tuple" = none
  list : mg "list" = none
  reversed : mg "reversed" = none
theorem bt_len : bootBuiltins "len" = some (.builtin "len") := by decide +kernel
theorem bt_isinstance : bootBuiltins "isinstance" = some (.builtin "isinstance") := by decide +kernel
theorem bt_all : bootBuiltins "all" = some (.builtin "all") := by decide +kernel
theorem bt_min : bootBuiltins "min" = some (.builtin "min") := by decide +kernel
theorem bt_max : bootBuiltins "max" = some (.builtin "max") := by decide +kernel
theorem bt_int : bootBuiltins "int" = some (.type "int") := by decide +kernel
theorem bt_bool : bootBuiltins "bool" = some (.type "bool") := by decide +kernel
theorem bt_tuple : bootBuiltins "tuple" = some (.type "tuple") := by decide +kernel
theorem bt_list : bootBuiltins "list" = some (.type "list") := by decide +kernel
structure Callee (P : Program) (w : World) (K : PySem.W.Frag) (mg : Str → Option Value) (base : Heap) (CX : CXT) (x : Str) (k : Nat) (ps : List Str) (sp : Sp) : Prop where
  ex : ∃ f fd, mg x = some (.ref f) ∧ PySem.W.keepIn K (.ref f) = true ∧ Binds K fd ps [] ∧ FnOk P w K mg base CX k f fd ps sp
section
variable {X : Cx} {CX : CXT} {j k : Nat} {ps : List Str} {sp : Sp} {x : Str} {p pos : Pos} {e : Expr} {es : List Expr} {t : TA}
def CXNo (CX : CXT) : Prop := ∀ outer H s e s', ¬ CX outer H s E0 e s'
theorem cxno0 : CXNo CX0 := fun _ _ _ _ _ h => h
theorem passNo (h : CXNo CX) : Passes CX X E0 := fun _ _ H s e s' _ q => (h _ H s e s' q).elim
theorem pe_cal (c : Callee X.prog X.w X.K X.mg X.base CX x k ps sp) (hr : Room j X.A) (ha : PA X (e :: es) t) (hk : k ≤ j := by decide) (hx : CXNo CX := by exact cxno0) (hg : Gl X x := by rfl)
    (hdb : (x == ("__debug__" : Str)) = false := by decide) (he : starEach (e :: es) X.env = (false, eval e X.env) :: starEach es X.env := by rfl) (hpl : (backTo pos (starEach es X.env)).any (·.1) = false := by rfl) :
    PE X (.Call (.Name x p) (e :: es) [] pos) (tCall sp [] E0 t) := by
  obtain ⟨f, fd, hm, hkp, hb, F⟩ := c.ex
  exact pe_call F (hr.mono hk) hg hm hkp hb .nil (passNo hx) ha hdb he hpl
end
theorem same_upd {H : Hp} {l : Addr} {o : HO} (h : H l = none) : Same H (upd H l o) := fun b u e => by rw [upd_ne (ne_of_none e h)]; exact e
theorem same_upd' {H H' : Hp} {l : Addr} {o : HO} (s : Same H H') (h : H l = none) : Same H (upd H' l o) := fun b u e => by rw [upd_ne (ne_of_none e h)]; exact s b u e
theorem map_get {ns : List Int} {i : Nat} {x : V} (h : (ns.map V.int)[i]? = some x) : ∃ z, ns[i]? = some z ∧ x = .int z := by
  rw [List.getElem?_map] at h
  cases e : ns[i]? with
  | none => rw [e] at h; cases h
  | some z => rw [e] at h; exact ⟨z, rfl, (Option.some.inj h).symm⟩
theorem pz {j : Int} (h : decide (0 < j) = true) : 0 < j := of_decide_eq_true h
theorem dec_int1 {z y : Int} : (decide (V.int z = V.int y) = true) ↔ z = y := by
  constructor
  · intro h; have := of_decide_eq_true h; cases this; rfl
  · intro h; subst h; exact decide_eq_true rfl
def tJoin (t u : TS) : TS := fun D σ H => ∃ J : St → Hp → Prop, t { D with nx := J } σ H ∧ ∀ σ' H', J σ' H' → u D σ' H'
theorem pss_join {X : Cx} {st : Stmt} {rest : List Stmt} {t u : TS} (h1 : PS X st t) (h2 : PSs X rest u) : PSs X (st :: rest) (tJoin t u) := by
  intro pins s σ H D I h
  obtain ⟨J, h, hj⟩ := h
  refine wpAny_execs_cons (thn (h1 pins s σ H _ I h) fun f s1 q => ?_)
  cases f with
  | next => obtain ⟨σ1, H1, I1, q1⟩ := q; exact h2 pins s1 σ1 H1 D I1 (hj σ1 H1 q1)
  | brk => exact q
  | cont => exact q
  | ret v => exact q
theorem isDs_ints {H : Hp} : ∀ ns : List Int, IsDs H (ns.map Dt.int) (ns.map V.int)
  | [] => by unfold IsDs; rfl
  | n :: r => by
    show IsDs H (Dt.int n :: r.map Dt.int) (V.int n :: r.map V.int)
    unfold IsDs
    exact ⟨_, _, rfl, by unfold IsD; rfl, isDs_ints r⟩
theorem depth_ints : ∀ ns : List Int, depthDs (ns.map Dt.int) = 0
  | [] => by unfold depthDs; rfl
  | n :: r => by
    show depthDs (Dt.int n :: r.map Dt.int) = 0
    unfold depthDs
    rw [depth_ints r]
    unfold depthD
    rfl
theorem isD_lstI {H : Hp} {a : Addr} {ns : List Int} (h : H a = some (.lst (ns.map V.int))) : IsD H (.lst (ns.map Dt.int)) (.ref a) := by unfold IsD; exact ⟨a, _, rfl, h, isDs_ints ns⟩
theorem isD_tupI {H : Hp} {a : Addr} {ns : List Int} (h : H a = some (.tup (ns.map V.int))) : IsD H (.tup (ns.map Dt.int)) (.ref a) := by unfold IsD; exact ⟨a, _, rfl, h, isDs_ints ns⟩
theorem units20 {k : Nat} {A : Around} (hr : Room k A) : A.units + 20 < cLine := by have := hr.units; omega
end L2
namespace L2
open PySem PySem.Spec PyProof.Rows
section
variable {prog : Program} {w : World} {A : Around} {s : Shared} {R : Result → Shared → Prop}
variable {I : Addr} {fp wr : List Addr} {G : Array GenState → Array GenState → Prop} {n : Nat} {P : Nat → Value → Prop} {St : Nat → Shared → Prop}
end
section
variable {prog : Program} {w : World} {A : Around} {E : Value → Shared → Prop} {s : Shared}
variable {I : Addr} {fp wr : List Addr} {G : Array GenState → Array GenState → Prop} {n : Nat} {P : Nat → Value → Prop} {St : Nat → Shared → Prop}
end
section
variable {X : Cx} {e : Expr} {te : TE} {p1 p2 pos pos2 : Pos}
end
section
variable {X : Cx} {pins : List (Addr × Obj)} {σ : St} {H : Hp} {s : Shared}
theorem rcn_lists (I : Inv X pins σ H s) {A : Around} {l b : Addr} {xs ys : List V} {ds es : List Dt} (hl : H l = some (.lst xs)) (hb : H b = some (.lst ys)) (h1 : IsDs H ds xs) (h2 : IsDs H es ys) (hu : A.units < cLine)
    (he : ∀ us ws, Vals xs us → Vals ys ws → ∀ (j : Nat) d e u w, ds[j]? = some d → es[j]? = some e → us[j]? = some u → ws[j]? = some w → SeqAt.EqAt A.in1 s u w (eqD d e)) : SeqAt.RcNeAt A s (.ref l) (.ref b) (!eqDs ds es) := by
  obtain ⟨us, r1, p1, _⟩ := I.list (SqL.of (K := X.K) hl)
  obtain ⟨ws, r2, p2, _⟩ := I.list (SqL.of (K := X.K) hb)
  have n1 : us.length = ds.length := by rw [← r1.length, h1.length]
  have n2 : ws.length = es.length := by rw [← r2.length, h2.length]
  by_cases hsz : ds.length = es.length
  · have q := SeqAt.RcNeAt.lists (e := eqIx ds es) p1.isList p2.isList (by simp [n1, n2, hsz]) hu (fun j q1 q2 => by
      have j1 : j < us.length := by simpa using q1
      have j2 : j < ws.length := by simpa using q2
      have g1 : ds[j]? = some ds[j] := List.getElem?_eq_getElem (by omega)
      have g2 : es[j]? = some es[j] := List.getElem?_eq_getElem (by omega)
      have z := he us ws r1 r2 j _ _ us[j] ws[j] g1 g2 (List.getElem?_eq_getElem j1) (List.getElem?_eq_getElem j2)
      have ez : eqIx ds es j = eqD ds[j] es[j] := by unfold eqIx; rw [g1, g2]
      rw [ez]
      simpa using z)
    rw [eqDs_range ds es hsz]
    rw [List.size_toArray, n1] at q
    exact q
  · rw [eqDs_len ds es hsz]
    exact SeqAt.RcNeAt.lists_lengths p1.isList p2.isList (by simpa [n1, n2] using hsz) hu
theorem rcn_tuples (I : Inv X pins σ H s) {A : Around} {l b : Addr} {xs ys : List V} {ds es : List Dt} (hl : H l = some (.tup xs)) (hb : H b = some (.tup ys)) (h1 : IsDs H ds xs) (h2 : IsDs H es ys) (hu : A.units < cLine)
    (he : ∀ us ws, Vals xs us → Vals ys ws → ∀ (j : Nat) d e u w, ds[j]? = some d → es[j]? = some e → us[j]? = some u → ws[j]? = some w → SeqAt.EqAt A.in1 s u w (eqD d e)) : SeqAt.RcNeAt A s (.ref l) (.ref b) (!eqDs ds es) := by
  obtain ⟨us, r1, p1, _⟩ := I.tuple (SqT.of (K := X.K) hl)
  obtain ⟨ws, r2, p2, _⟩ := I.tuple (SqT.of (K := X.K) hb)
  have n1 : us.length = ds.length := by rw [← r1.length, h1.length]
  have n2 : ws.length = es.length := by rw [← r2.length, h2.length]
  have q := SeqAt.RcNeAt.tuples (e := eqIx ds es) (show s.heap.IsTuple l us.toArray from p1) (show s.heap.IsTuple b ws.toArray from p2) hu (fun j q1 q2 => by
      have j1 : j < us.length := by simpa using q1
      have j2 : j < ws.length := by simpa using q2
      have g1 : ds[j]? = some ds[j] := List.getElem?_eq_getElem (by omega)
      have g2 : es[j]? = some es[j] := List.getElem?_eq_getElem (by omega)
      have z := he us ws r1 r2 j _ _ us[j] ws[j] g1 g2 (List.getElem?_eq_getElem j1) (List.getElem?_eq_getElem j2)
      have ez : eqIx ds es j = eqD ds[j] es[j] := by unfold eqIx; rw [g1, g2]
      rw [ez]
      simpa using z)
  rw [List.size_toArray, List.size_toArray, n1, n2] at q
  by_cases hsz : ds.length = es.length
  · rw [← hsz, Nat.min_self] at q
    rw [eqDs_range ds es hsz]
    have e1 : (ds.length == ds.length) = true := beq_self_eq_true _
    rw [e1, Bool.and_true] at q
    exact q
  · rw [eqDs_len ds es hsz]
    have e0 : (ds.length == es.length) = false := beq_eq_false_iff_ne.mpr hsz
    rw [e0, Bool.and_false] at q
    exact q
theorem rcnAt_D (I : Inv X pins σ H s) {d e : Dt} {v x : V} {u w : Value} {A : Around} (h1 : IsD H d v) (h2 : IsD H e x) (hk : (∃ ds es, d = .lst ds ∧ e = .lst es) ∨ (∃ ds es, d = .tup ds ∧ e = .tup es)) (r1 : RelV v u) (r2 : RelV x w) (hd : depthD d ≤ 20) (hu : A.units + 20 < cLine) : SeqAt.RcNeAt A s u w (!eqD d e) := by
  have hu0 : A.units < cLine := by omega
  have hin : A.in1.units + 19 < cLine := by show A.units + 1 + 19 < cLine; omega
  rcases hk with ⟨ds, es, rfl, rfl⟩ | ⟨ds, es, rfl, rfl⟩
  · unfold IsD at h1 h2
    obtain ⟨a, xs, rfl, ha, hs⟩ := h1
    obtain ⟨b, ys, rfl, hb, hs2⟩ := h2
    obtain rfl : u = Value.ref a := r1
    obtain rfl : w = Value.ref b := r2
    rw [eqD_ll]
    refine rcn_lists I ha hb hs hs2 hu0 fun us ws k1 k2 j d e u w g1 g2 g3 g4 => ?_
    obtain ⟨x1, q1, q2⟩ := hs.rel k1 g1 g3
    obtain ⟨x2, q3, q4⟩ := hs2.rel k2 g2 g4
    exact eqAt_D I 19 d e x1 x2 u w A.in1 (by have := depthDs_mem g1; rw [depth_l] at hd; omega) q1 q3 q2 q4 hin
  · unfold IsD at h1 h2
    obtain ⟨a, xs, rfl, ha, hs⟩ := h1
    obtain ⟨b, ys, rfl, hb, hs2⟩ := h2
    obtain rfl : u = Value.ref a := r1
    obtain rfl : w = Value.ref b := r2
    rw [eqD_tt]
    refine rcn_tuples I ha hb hs hs2 hu0 fun us ws k1 k2 j d e u w g1 g2 g3 g4 => ?_
    obtain ⟨x1, q1, q2⟩ := hs.rel k1 g1 g3
    obtain ⟨x2, q3, q4⟩ := hs2.rel k2 g2 g4
    exact eqAt_D I 19 d e x1 x2 u w A.in1 (by have := depthDs_mem g1; rw [depth_t] at hd; omega) q1 q3 q2 q4 hin
end
section
variable {X : Cx}
inductive rNeS (x y : V) (H : Hp) (Q : VK) : Prop
  | mk (d e : Dt) (e1 : IsD H d x) (e2 : IsD H e y) (e3 : (∃ ds es, d = .lst ds ∧ e = .lst es) ∨ (∃ ds es, d = .tup ds ∧ e = .tup es)) (e4 : depthD d ≤ 20) (q : Q (.bl (!eqD d e)) H) : rNeS x y H Q
theorem op_neD (hu : X.A.units + 20 < cLine) : OpR X (compareOp .NotEq) rNeS := by
  intro pins s σ H x y v u Q I rx ry h
  obtain ⟨d, e, h1, h2, hk, hd, q⟩ := h
  exact rcnAt_D I h1 h2 hk rx ry hd hu X.prog X.w X.xe _ ⟨.bl (!eqD d e), H, I, rfl, q⟩
end
theorem IsDs.snoc {H : Hp} {d : Dt} {v : V} : ∀ {ds : List Dt} {ys : List V}, IsDs H ds ys → IsD H d v → IsDs H (ds ++ [d]) (ys ++ [v])
  | [], ys, h, hv => by
    unfold IsDs at h
    subst h
    show IsDs H [d] [v]
    unfold IsDs
    exact ⟨v, [], rfl, hv, by unfold IsDs; rfl⟩
  | d' :: ds, ys, h, hv => by
    unfold IsDs at h
    obtain ⟨x, r, rfl, hx, hr⟩ := h
    show IsDs H (d' :: (ds ++ [d])) (x :: (r ++ [v]))
    unfold IsDs
    exact ⟨x, _, rfl, hx, IsDs.snoc hr hv⟩
def PvD (H0 : Hp) (f : Nat → Dt) (i : Nat) (ys : List V) (H' : Hp) : Prop := Same H0 H' ∧ IsDs H' ((List.range i).map f) ys
theorem PvD.zero {H0 H' : Hp} {f : Nat → Dt} (s : Same H0 H') : PvD H0 f 0 [] H' := ⟨s, by show IsDs H' [] []; unfold IsDs; rfl⟩
theorem PvD.len {H0 : Hp} {f : Nat → Dt} {i : Nat} {ys : List V} {H' : Hp} (p : PvD H0 f i ys H') : ys.length ≤ i := by
  have := p.2.length; rw [List.length_map, List.length_range] at this; omega
theorem PvD.next {H0 : Hp} {f : Nat → Dt} {i : Nat} {ys : List V} {H1 H2 : Hp} {v : V} (p : PvD H0 f i ys H1) (s : Same H1 H2) (d : IsD H2 (f i) v) : PvD H0 f (i + 1) (ys ++ [v]) H2 := by
  refine ⟨p.1.trans s, ?_⟩
  rw [List.range_succ, List.map_append]
  exact (IsDs.mono s p.2).snoc d
section
variable {X : Cx} (K : PySem.W.Frag)
theorem ix_listK (h : X.K = K := by rfl) : IxR X (rIxL K) := by subst h; exact ix_list
theorem ix_tupK (h : X.K = K := by rfl) : IxR X (rIxT K) := by subst h; exact ix_tup
theorem sl_listK (h : X.K = K := by rfl) : SlR X (rSlL K) := by subst h; exact sl_list
theorem call_lenK (h : X.K = K := by rfl) : CallR X (.builtin "len") (rLen K) := by subst h; exact call_len_seq
theorem call_listK (h : X.K = K := by rfl) : CallR X (.type "list") (fun xs H Q => ∃ p ys, xs = [.ref p] ∧ (SqL K H p ys ∨ SqT K H p ys) ∧ ∀ l, H l = none → Q (.ref l) (upd H l (.lst ys))) := by subst h; exact call_list_of
theorem call_tupleK (h : X.K = K := by rfl) : CallR X (.type "tuple") (fun xs H Q => ∃ p ys, xs = [.ref p] ∧ ((SqL K H p ys ∧ ∀ l, H l = none → Q (.ref l) (upd H l (.tup ys))) ∨ (SqT K H p ys ∧ Q (.ref p) H))) := by subst h; exact call_tuple_of
theorem call_allK (hc : X.calm = true) (h : X.K = K := by rfl) : CallR X (.builtin "all") (fun xs H Q => ∃ p, ∃ bs : List Bool, xs = [.ref p] ∧ SqL K H p (bs.map V.bl) ∧ Q (.bl (bs.all id)) H) := by subst h; exact call_all hc
theorem call_isinstK (h : X.K = K := by rfl) : CallR X (.builtin "isinstance") (fun xs H Q => ∃ x c t b, xs = [x, c] ∧ (∀ u, RelV c u → u = clsV c) ∧ TyOf K H x t ∧ PySem.W.kitOne K t (clsV c) = some b ∧ Q (.bl b) H) := by subst h; exact call_isinst
theorem pi_listK {tg l : Expr} {tl : TE} (hl : PE X l tl) (h : X.K = K := by rfl) : PI X tg l (iList K tl) := by subst h; exact pi_list hl
theorem pi_tupK {tg l : Expr} {tl : TE} (hl : PE X l tl) (h : X.K = K := by rfl) : PI X tg l (iTup K tl) := by subst h; exact pi_tup hl
end
end L2
namespace L2
open PySem PySem.Spec PyProof.Rows
theorem rangeSize_down (a b : Int) : Builtin.Range.rangeSize a b (-1) = if b < a then a - b else 0 := by
  unfold Builtin.Range.rangeSize
  rw [if_neg (by decide)]
  simp only [Int.neg_neg, Int.ediv_one]
  split <;> omega
theorem small_down {a b : Int} (ha : -(2 ^ 61) ≤ a) (ha' : a < 2 ^ 61) (hb : -(2 ^ 61) ≤ b) (hb' : b < 2 ^ 61) : Builtin.Range.small a b (-1) = true := by
  unfold Builtin.Range.small
  rw [rangeSize_down]
  simp only [Builtin.Range.rangeFitsLong, Bool.and_eq_true, Bool.or_eq_true, decide_eq_true_eq, beq_iff_eq, show ¬ ((-1 : Int) > 0) by decide, if_false]
  split <;> (try simp) <;> omega
def Itd (hi : Int) (n : Nat) : It := ⟨fun i _ => i < n, fun i H x H' => H' = H ∧ x = .int (hi - i), fun i _ => n ≤ i⟩
theorem turn_down {P : Program} {w : World} {K : PySem.W.Frag} {tg : Expr} (it : Addr) (hi : Int) (n : Nat) : Turn P w K tg (Itd hi n) [it] it (fun i h => IsRangeIter h it (hi + (i : Nat) * (-1)) ((n : Int) - (i : Nat)) (-1)) where
  mem := by simp
  obj := fun i h st b hb => by
    have e : b = it := by simpa using hb
    subst e
    exact ⟨_, st, fun v z => by
      have z' : Data.fields _ = Data.cell v := z
      cases z'⟩
  keep := fun i h h' st k => k it (by simp) _ st
  item := by
    intro X hP hw hK hc i pins s σ H E I hf st hg
    subst hP hw hK
    obtain ⟨f0, f1, f2, f3, f4, f5⟩ := hf it (by simp)
    have W := Walks.range (prog := X.prog) (w := X.w) (I.ok.hd hc) it hi (-1) n
    refine W.item i s _ _ hg st fun v h' tk hv st' kk => ?_
    obtain ⟨t, rfl⟩ := hv
    have I1 : Inv X pins σ H { s with heap := h', toks := tk } := I.turned (fun b o hb e => kk b o (by simpa using hb) e) f0 f1 f3 f4 f5
    refine ⟨_, rfl, go_of (s := { s with heap := h', toks := tk }) (n := "range_iterator") st' rfl rfl (by decide) ⟨.int (hi - i), H, I1, ⟨t, ?_⟩, ⟨rfl, rfl⟩, st', fun b hb => (hf b hb).1⟩⟩
    congr 1
    omega
  done := by
    intro X hP hw hK hc i pins s σ H E I hf st hg
    subst hP hw hK
    obtain ⟨f0, f1, f2, f3, f4, f5⟩ := hf it (by simp)
    exact wpAny_pyNext_range_end (I.ok.hd hc) st (by have : n ≤ i := hg; omega) fun h' eb => ⟨rfl, I.turned (t' := s.toks) (fun b o hb e => eb b o hb e) f0 f1 f3 f4 f5⟩
  self := fun _ _ _ _ _ st h => wpAny_pyIter_rangeiter st h
section
variable {X : Cx} {tg : Expr}
theorem range_itd {pins : List (Addr × Obj)} {σ : St} {H : Hp} {s : Shared} {R : It → Hp → Prop} {E : Value → Shared → Prop} {hi lo : Int} {t u v : Tok} {tk : Nat} (I : Inv X pins σ H s) (h1 : -(2 ^ 61) ≤ hi) (h2 : hi < 2 ^ 61) (h3 : -(2 ^ 61) ≤ lo) (h4 : lo < 2 ^ 61)
    (q : R (Itd hi (hi - lo).toNat) H) : wpAny (model X.prog X.w) X.A (pyIter (.ref s.heap.objs.size)) (PIE X pins σ tg R) E { s with heap := s.heap.push { cls := .type "range", data := .fields #[.int hi t, .int lo u, .int (-1) v] }, toks := tk } := by
  refine wpAny_pyIter_range (IsRange.new ..) (small_down h1 h2 h3 h4) ?_
  have I1 : Inv X pins σ H { s with heap := s.heap.push { cls := .type "range", data := .fields #[.int hi t, .int lo u, .int (-1) v] }, toks := tk } := I.kept fun b o e => Heap.get?_push_of_some _ e
  refine ⟨(s.heap.push { cls := .type "range", data := .fields #[.int hi t, .int lo u, .int (-1) v] }).objs.size, [(s.heap.push { cls := .type "range", data := .fields #[.int hi t, .int lo u, .int (-1) v] }).objs.size], _, _, H, rfl,
    I1.kept (t' := tk) fun b o e => Heap.get?_push_of_some _ e, turn_down _ hi (hi - lo).toNat, ?_, fun b hb => ?_, q⟩
  · have e1 : hi + ((0 : Nat) : Int) * (-1) = hi := by simp
    have e2 : (((hi - lo).toNat : Nat) : Int) - ((0 : Nat) : Int) = Builtin.Range.rangeSize hi lo (-1) := by rw [rangeSize_down]; split <;> omega
    show IsRangeIter _ _ (hi + ((0 : Nat) : Int) * (-1)) ((((hi - lo).toNat : Nat) : Int) - ((0 : Nat) : Int)) (-1)
    rw [e1, e2]
    exact Heap.get?_push_size _ rfl
  · have e : b = (s.heap.push { cls := .type "range", data := .fields #[.int hi t, .int lo u, .int (-1) v] }).objs.size := by simpa using hb
    subst e
    exact I1.fpOk (Nat.le_refl _) (I1.hok.fresh (Nat.le_refl _))
def iRngD (ta : TA) : TI := fun σ H R => ta σ H fun vs H1 => ∃ i j : Int, vs = [.int i, .int j, .int (-1)] ∧ (-(2 ^ 61) ≤ i ∧ i < 2 ^ 61 ∧ -(2 ^ 61) ≤ j ∧ j < 2 ^ 61) ∧ R (Itd i (i - j).toNat) H1
theorem Vals.three {x y z : V} {us : List Value} (h : Vals [x, y, z] us) : ∃ u v w, us = [u, v, w] ∧ RelV x u ∧ RelV y v ∧ RelV z w := by
  cases h with
  | cons a t =>
    obtain ⟨v, w, rfl, b, c⟩ := Vals.two t
    exact ⟨_, _, _, rfl, a, b, c⟩
theorem pi_rangeD {a b c : Expr} {ta : TA} {p pos : Pos} (hg : Gl X "range") (hm : X.mg "range" = none) (ha : PA X [a, b, c] ta) (hs : starEach [a, b, c] X.env = (false, eval a X.env) :: starEach [b, c] X.env := by rfl) (hpl : (backTo pos (starEach [b, c] X.env)).any (·.1) = false := by rfl) :
    PI X tg (.Call (.Name "range" p) [a, b, c] [] pos) (iRngD ta) := by
  intro pins s σ H R I h
  refine Call_ (ld_blt I hg hm boot_range (PyProof.Rows.callWith_type1 (thn (ha pos pins s σ H _ I h) fun us s1 ⟨vs, H1, I1, r1, q1⟩ => ?_) hs hpl))
  obtain ⟨i, j, e, ⟨q1, q2, q3, q4⟩, q⟩ := q1
  subst e
  obtain ⟨u, v, w, rfl, ⟨t1, rfl⟩, ⟨t2, rfl⟩, ⟨t3, rfl⟩⟩ := r1.three
  exact call_range_3 (by decide) (range_itd I1 (by omega) (by omega) (by omega) (by omega) q) (.inl (PyProof.noPylong_small (by decide)))
end
theorem for_down {hi : Int} {n : Nat} {g : TG} {tb : TS} {D : Ends} {σ : St} {H : Hp} (Pv : Nat → St → Hp → Prop) (h0 : Pv 0 σ H)
    (hs : ∀ i σ H, i < n → Pv i σ H → g (.int (hi - i)) σ H fun σ2 H2 => tb { D with nx := Pv (i + 1), ct := Pv (i + 1), bk := D.nx } σ2 H2) (hd : ∀ σ H, Pv n σ H → D.nx σ H) :
    ∃ W : Nat → Nat → St → Hp → Prop, (∃ m, W 0 m σ H) ∧ ∀ i m σ H, W i m σ H →
      ((Itd hi n).stop i H ∧ D.nx σ H) ∨ ((Itd hi n).go i H ∧ ∃ N : St → Hp → Prop, (∀ σ' H', N σ' H' → ∃ m', m' < m ∧ W (i + 1) m' σ' H') ∧ ∀ x H', (Itd hi n).yld i H x H' → g x σ H' fun σ2 H2 => tb { D with nx := N, ct := N, bk := D.nx } σ2 H2) := by
  refine ⟨fun i m σ H => m = n - i ∧ i ≤ n ∧ Pv i σ H, ⟨n, by simp, Nat.zero_le _, h0⟩, ?_⟩
  rintro i m σ H ⟨rfl, hi', p⟩
  by_cases hlt : i < n
  · refine .inr ⟨hlt, Pv (i + 1), fun σ' H' p' => ⟨n - (i + 1), by omega, rfl, hlt, p'⟩, fun x H' y => ?_⟩
    obtain ⟨e, y⟩ := y
    subst e y
    exact hs i σ _ hlt p
  · have e : i = n := by omega
    subst e
    exact .inl ⟨Nat.le_refl _, hd σ H p⟩
structure Method (P : Program) (w : World) (K : PySem.W.Frag) (mg : Str → Option Value) (base : Heap) (CX : CXT) (C : Addr) (m : Str) (k : Nat) (ps : List Str) (sp : Sp) : Prop where
  cl : Cls K C
  ex : ∃ f fd, Meth K C m f ∧ Binds K fd ps [] ∧ FnOk P w K mg base CX k f fd ps sp
structure Maker (P : Program) (w : World) (K : PySem.W.Frag) (mg : Str → Option Value) (base : Heap) (CX : CXT) (x : Str) (C : Addr) (k : Nat) (ps : List Str) (sp : Sp) : Prop where
  ex : ∃ f fd, mg x = some (.ref C) ∧ Mk K C f ∧ Binds K fd ps [] ∧ FnOk P w K mg base CX k f fd ps sp
section
variable {X : Cx} {CX : CXT} {j k : Nat} {ps : List Str} {sp : Sp} {x m : Str} {C : Addr} {p pos apos : Pos} {o e : Expr} {es : List Expr} {ta : TE} {t : TA}
theorem pe_met (c : Method X.prog X.w X.K X.mg X.base CX C m k ps sp) (he : PE X o ta) (hr : Room j X.A) (ha : PA X (e :: es) t) {pl : Sem Bool} (hk : k ≤ j := by decide) (hx : CXNo CX := by exact cxno0)
    (hst : starEach (e :: es) X.env = (false, eval e X.env) :: starEach es X.env := by rfl) (hpl : (backTo pos (starEach es X.env)).any (·.1) = false := by rfl)
    (ht : eval (.Call (.Attribute o m apos) (e :: es) [] pos) X.env = (do
      let ov ← eval o X.env
      standAt apos.atName
      let (f, first) ← holding [ov] (getMethod ov m pl)
      callWith pos f first (backTo pos (starEach (e :: es) X.env)) (backToKw pos (keywordEach [] X.env))) := by rfl) :
    PE X (.Call (.Attribute o m apos) (e :: es) [] pos) (tMeth C m sp [] E0 ta t) := by
  obtain ⟨f, fd, hm, hb, F⟩ := c.ex
  exact pe_meth (pl := pl) he c.cl hm F (hr.mono hk) hb .nil (passNo hx) ha hst hpl ht
theorem pe_met0 (c : Method X.prog X.w X.K X.mg X.base CX C m k ps sp) (he : PE X o ta) (hr : Room j X.A) {pl : Sem Bool} (hk : k ≤ j := by decide) (hx : CXNo CX := by exact cxno0)
    (ht : eval (.Call (.Attribute o m apos) [] [] pos) X.env = (do
      let ov ← eval o X.env
      standAt apos.atName
      let (f, first) ← holding [ov] (getMethod ov m pl)
      callWith pos f first (backTo pos (starEach [] X.env)) (backToKw pos (keywordEach [] X.env))) := by rfl) :
    PE X (.Call (.Attribute o m apos) [] [] pos) (tMeth C m sp [] E0 ta tNil) := by
  obtain ⟨f, fd, hm, hb, F⟩ := c.ex
  exact pe_meth0 (pl := pl) he c.cl hm F (hr.mono hk) hb .nil (passNo hx) ht
theorem pe_mak (c : Maker X.prog X.w X.K X.mg X.base CX x C k ps sp) (hr : Room j X.A) (ha : PA X (e :: es) t) (hk : k + 1 ≤ j := by decide) (hx : CXNo CX := by exact cxno0) (hg : Gl X x := by rfl)
    (hdb : (x == ("__debug__" : Str)) = false := by decide) (he : starEach (e :: es) X.env = (false, eval e X.env) :: starEach es X.env := by rfl) (hpl : (backTo pos (starEach es X.env)).any (·.1) = false := by rfl) :
    PE X (.Call (.Name x p) (e :: es) [] pos) (tMake C sp [] E0 t) := by
  obtain ⟨f, fd, hm, M, hb, F⟩ := c.ex
  exact pe_make M F (hr.mono hk) hg hm hb .nil (passNo hx) ha hdb he hpl
end
end L2
namespace L2
open PySem PySem.Spec PyProof.Rows
section
variable {X : Cx} {pins : List (Addr × Obj)} {σ : St} {H : Hp} {s : Shared} {h' : Heap}
theorem Inv.turnedL {t' : Nat} {ch : List Addr} {a : Addr} {o : HO} (I : Inv X pins σ H s) (k : ∀ b o, b ∉ ch → s.heap.get? b = some o → h'.get? b = some o) (hf : ∀ b ∈ ch, FpOk X pins H b) (hp : s.heap.objs.size ≤ a)
    (new : ObjOk X.prog X.w (upd H a o) h' a o) : Inv X pins σ (upd H a o) { s with heap := h', toks := t' } := by
  have nit : ∀ b u, H b = some u → b ∉ ch := fun b u e z => by rw [(hf b z).1] at e; cases e
  have na : ∀ b u, H b = some u → b ≠ a := fun b u e z => by rw [z, I.hok.fresh hp] at e; cases e
  have nb : ∀ b ob, s.heap.get? b = some ob → b ≠ a := fun b ob e z => absurd (Heap.lt_size e) (by rw [z]; exact Nat.not_lt.mpr hp)
  have hL : X.env.locals ∉ ch := fun z => (hf _ z).2.1 rfl
  refine I.step (g' := s.gens) (d' := s.drawn) (ch := ch) (fun b hb => ?_) (fun b o _ _ hc e _ => k b o hc e) (fun b o _ _ hc e _ => ⟨o.slots, k b o hc e⟩) (fun b ob _ e n => by rw [upd_ne (nb b ob e)]; exact n)
    (fun b o hc e => ⟨o, k b o hc e⟩) (fun b xs e => by rw [upd_ne (na b _ e)]; exact e) (fun b _ _ e => by rw [upd_ne (na b _ e)]; exact e) (fun b ps e => ⟨#[], by rw [upd_ne (na b _ e), e]; simp⟩) (fun m hm => ?_) (fun b u e => ?_) I.bare
  · obtain ⟨f0, f1, f2, f3, f4, f5⟩ := hf b hb
    exact ⟨f3, f1, f4, f5⟩
  · obtain ⟨o, es, ep, ho, r⟩ := hm
    exact ⟨o, es, ep, k _ o hL ho, r⟩
  · by_cases hb : b = a
    · subst hb
      rw [upd_same] at e
      cases e
      exact new
    · rw [upd_ne hb] at e
      refine (I.hok b u e).stay (fun c v hc q => k c v ?_ q) (fun c q => by rw [upd_ne (na c _ q)]; exact q) fun c xs q => by rw [upd_ne (na c _ q)]; exact q
      rcases hc with z | z
      · rw [z]; exact nit b u e
      · exact nit c _ z
theorem Inv.turnedS {t' : Nat} {ch : List Addr} (I : Inv X pins σ H s) (k : ∀ b o, b ∉ ch → s.heap.get? b = some o → h'.get? b = some o) (hf : ∀ b ∈ ch, FpOk X pins H b) : Inv X pins σ H { s with heap := h', toks := t' } := by
  have nit : ∀ b u, H b = some u → b ∉ ch := fun b u e z => by rw [(hf b z).1] at e; cases e
  have hL : X.env.locals ∉ ch := fun z => (hf _ z).2.1 rfl
  refine I.step (g' := s.gens) (d' := s.drawn) (ch := ch) (fun b hb => ?_) (fun b o _ _ hc e _ => k b o hc e) (fun b o _ _ hc e _ => ⟨o.slots, k b o hc e⟩) (fun b ob _ e n => n)
    (fun b o hc e => ⟨o, k b o hc e⟩) (fun b xs e => e) (fun b _ _ e => e) (fun b ps e => ⟨#[], by rw [e]; simp⟩) (fun m hm => ?_) (fun b u e => ?_) I.bare
  · obtain ⟨f0, f1, f2, f3, f4, f5⟩ := hf b hb
    exact ⟨f3, f1, f4, f5⟩
  · obtain ⟨o, es, ep, ho, r⟩ := hm
    exact ⟨o, es, ep, k _ o hL ho, r⟩
  · refine (I.hok b u e).stay (fun c v hc q => k c v ?_ q) (fun c q => q) fun c xs q => q
    rcases hc with z | z
    · rw [z]; exact nit b u e
    · exact nit c _ z
theorem FpOk.upd {b a : Addr} {o : HO} (f : FpOk X pins H b) (h : b ≠ a) : FpOk X pins (upd H a o) b := ⟨by rw [upd_ne h]; exact f.1, f.2⟩
end
def Itz (K : PySem.W.Frag) (a b : Addr) : It :=
  ⟨fun i H => ∃ xs ys x y, SqL K H a xs ∧ SqL K H b ys ∧ xs[i]? = some x ∧ ys[i]? = some y,
   fun i H v H' => ∃ p x y, v = .ref p ∧ H p = none ∧ H' = upd H p (.tup [x, y]) ∧ (∀ xs, SqL K H a xs → xs[i]? = some x) ∧ ∀ ys, SqL K H b ys → ys[i]? = some y,
   fun i H => ∃ xs ys, SqL K H a xs ∧ SqL K H b ys ∧ (xs.length ≤ i ∨ ys.length ≤ i)⟩
theorem turn_zip {P : Program} {w : World} {K : PySem.W.Frag} {elts : List Expr} {x1 : Nat} {pos : Pos} {z TI TO i1 i2 l1 l2 : Addr} (D : ZipApart z TI TO i1 i2 l1 l2) :
    Turn P w K (.Tuple elts x1 pos) (Itz K l1 l2) [z, TI, TO, i1, i2] z (fun i h => IsZip h z TI TO .none ∧ IsPair h TI (.ref i1) (.ref i2) ∧ (∃ a b, IsPair h TO a b) ∧ h.IsListIter i1 l1 i ∧ h.IsListIter i2 l2 i) where
  mem := by simp
  obj := fun i h st b hb => by
    obtain ⟨h1, h2, ⟨a, b', h3⟩, ⟨o4, e4, c4, d4⟩, ⟨o5, e5, c5, d5⟩⟩ := st
    have hb' : b = z ∨ b = TI ∨ b = TO ∨ b = i1 ∨ b = i2 := by simpa using hb
    rcases hb' with e | e | e | e | e <;> subst e
    · exact ⟨_, h1, fun v q => by
        have q' : Data.fields _ = Data.cell v := q
        cases q'⟩
    · exact ⟨_, h2, fun v q => by
        have q' : Data.seq _ _ = Data.cell v := q
        cases q'⟩
    · exact ⟨_, h3, fun v q => by
        have q' : Data.seq _ _ = Data.cell v := q
        cases q'⟩
    · exact ⟨o4, e4, fun v q => by rw [d4] at q; cases q⟩
    · exact ⟨o5, e5, fun v q => by rw [d5] at q; cases q⟩
  keep := fun i h h' st k => by
    obtain ⟨h1, h2, ⟨a, b', h3⟩, h4, h5⟩ := st
    exact ⟨k z (by simp) _ h1, k TI (by simp) _ h2, ⟨a, b', k TO (by simp) _ h3⟩, h4.at fun o e => k i1 (by simp) o e, h5.at fun o e => k i2 (by simp) o e⟩
  item := by
    intro X hP hw hK hc i pins s σ H E I hf st hg
    subst hP hw hK
    obtain ⟨xs, ys, x, y, hq1, hq2, hx, hy⟩ := hg
    obtain ⟨its1, rv1, p1, hz1⟩ := I.list hq1
    obtain ⟨its2, rv2, p2, hz2⟩ := I.list hq2
    obtain ⟨u1, hu1, ru1⟩ := rv1.get hx
    obtain ⟨u2, hu2, ru2⟩ := rv2.get hy
    obtain ⟨h1, h2, ⟨a, b', h3⟩, h4, h5⟩ := st
    have hlt : ∀ {c : Addr} {o : Obj}, s.heap.get? c = some o → c ≠ s.heap.objs.size := fun e => Nat.ne_of_lt (Heap.lt_size e)
    have n4 : i1 ≠ s.heap.objs.size := by obtain ⟨o, e, _⟩ := id h4; exact hlt e
    have n5 : i2 ≠ s.heap.objs.size := by obtain ⟨o, e, _⟩ := id h5; exact hlt e
    refine wpAny_pyNext_zip_item D h1 h2 h3 h4 h5 p1.isList p2.isList (x := u1) (y := u2) (by simpa using hu1) (by simpa using hu2) fun h' a1 a2 a3 a4 a5 a6 a7 => ?_
    have I1 : Inv X pins σ (upd H s.heap.objs.size (.tup [x, y])) { s with heap := h' } := I.turnedL (t' := s.toks) (ch := [z, TI, TO, i1, i2]) (fun b o hb e => a7 b o (fun q => hb (by simp [q])) (fun q => hb (by simp [q])) (fun q => hb (by simp [q])) (fun q => hb (by simp [q])) e) hf (Nat.le_refl _)
      ⟨by show 2 ≤ sizeLine; decide, [u1, u2], .cons ru1 (.cons ru2 .nil), ⟨_, a5, rfl, _, rfl⟩⟩
    have hf1 : ∀ b ∈ [z, TI, TO, i1, i2], FpOk X pins (upd H s.heap.objs.size (.tup [x, y])) b := fun b hb => (hf b hb).upd (by
      have hb' : b = z ∨ b = TI ∨ b = TO ∨ b = i1 ∨ b = i2 := by simpa using hb
      rcases hb' with e | e | e | e | e <;> subst e
      · exact hlt h1
      · exact hlt h2
      · exact hlt h3
      · exact n4
      · exact n5)
    refine ⟨_, rfl, wpAny_letOwnedTupleGo_zip (s := { s with heap := h' }) a1 fun h2' a1' sb => ?_⟩
    have I2 : Inv X pins σ (upd H s.heap.objs.size (.tup [x, y])) { s with heap := h2' } := I1.turnedS (s := { s with heap := h' }) (t' := s.toks) (ch := [z, TI, TO, i1, i2]) (fun b o hb e => (sb.2 b fun q => hb (by simp [q])).trans e) hf1
    have h2e : IsPair h' TI (.ref i1) (.ref i2) := a7 _ _ D.TIz D.TITO D.TIi1 D.TIi2 h2
    exact ⟨.ref s.heap.objs.size, _, I2, rfl, ⟨_, x, y, rfl, I.hok.fresh (Nat.le_refl _), rfl, fun zs hz => by rw [I.list_inj hz hq1]; exact hx, fun zs hz => by rw [I.list_inj hz hq2]; exact hy⟩,
      ⟨a1', (sb.2 _ D.TIz).trans h2e, ⟨_, _, (sb.2 _ D.TOz).trans a2⟩, a3.at fun o e => (sb.2 _ D.i1z).trans e, a4.at fun o e => (sb.2 _ D.i2z).trans e⟩, fun b hb => (hf1 b hb).1⟩
  done := by
    intro X hP hw hK hc i pins s σ H E I hf st hg
    subst hP hw hK
    obtain ⟨xs, ys, hq1, hq2, hend⟩ := hg
    obtain ⟨its1, rv1, p1, hz1⟩ := I.list hq1
    obtain ⟨its2, rv2, p2, hz2⟩ := I.list hq2
    obtain ⟨h1, h2, ⟨a, b', h3⟩, h4, h5⟩ := st
    have hl1 := rv1.length
    have hl2 := rv2.length
    refine wpAny_pyNext_zip_end (I.ok.hd hc) D h1 h2 h3 h4 h5 p1.isList p2.isList ?_ fun h' eb => ⟨rfl, I.turnedS (t' := s.toks) (ch := [z, TI, TO, i1, i2]) (fun b o hb e => eb b o (fun q => hb (by simp [q])) (fun q => hb (by simp [q])) (fun q => hb (by simp [q])) (fun q => hb (by simp [q])) e) hf⟩
    rcases hend with q | q
    · exact .inl (by simp; omega)
    · exact .inr (by simp; omega)
  self := fun _ _ _ _ _ st h => wpAny_pyIter_zip st.1 h
section
variable {X : Cx} {elts : List Expr} {x1 : Nat} {pos : Pos}
theorem bt_zip : bootBuiltins "zip" = some (.type "zip") := by decide +kernel
theorem bt_enumerate : bootBuiltins "enumerate" = some (.type "enumerate") := by decide +kernel
def iZip (K : PySem.W.Frag) (ta : TA) : TI := fun σ H R => ta σ H fun vs H1 => ∃ a b, vs = [.ref a, .ref b] ∧ (∃ xs, SqL K H1 a xs) ∧ (∃ ys, SqL K H1 b ys) ∧ R (Itz K a b) H1
theorem pi_zipK (K : PySem.W.Frag) {a b : Expr} {ta : TA} {p q : Pos} (hg : Gl X "zip") (hm : X.mg "zip" = none) (ha : PA X [a, b] ta) (hK : X.K = K := by rfl) (hs : starEach [a, b] X.env = (false, eval a X.env) :: starEach [b] X.env := by rfl) (hpl : (backTo q (starEach [b] X.env)).any (·.1) = false := by rfl) :
    PI X (.Tuple elts x1 pos) (.Call (.Name "zip" p) [a, b] [] q) (iZip K ta) := by
  subst hK
  intro pins s σ H R I h
  refine Call_ (ld_blt I hg hm bt_zip (PyProof.Rows.callWith_type1 (thn (ha q pins s σ H _ I h) fun us s1 ⟨vs, H1, I1, r1, q1⟩ => ?_) hs hpl))
  obtain ⟨l1, l2, e, ⟨xs, hx⟩, ⟨ys, hy⟩, q⟩ := q1
  subst e
  cases r1 with
  | cons r rr =>
    cases rr with
    | cons r' rr' =>
      cases rr'
      cases r
      cases r'
      obtain ⟨its1, rv1, p1, hz1⟩ := I1.list hx
      obtain ⟨its2, rv2, p2, hz2⟩ := I1.list hy
      refine call_zip_2 p1.isList p2.isList fun h' a1 a2 a3 a4 a5 a6 a7 => ?_
      refine wpAny_pyIter_zip (s := { s1 with heap := h' }) a1 ?_
      have I2 : Inv X pins σ H1 { s1 with heap := h' } := I1.kept (t' := s1.toks) a7
      have n1 : @LT.lt Nat _ l1 s1.heap.objs.size := by obtain ⟨o, e, _⟩ := p1.isList; exact Heap.lt_size e
      have n2 : @LT.lt Nat _ l2 s1.heap.objs.size := by obtain ⟨o, e, _⟩ := p2.isList; exact Heap.lt_size e
      have D : ZipApart (s1.heap.objs.size + 4) (s1.heap.objs.size + 2) (s1.heap.objs.size + 3) s1.heap.objs.size (s1.heap.objs.size + 1) l1 l2 := by
        generalize s1.heap.objs.size = n at n1 n2
        exact ⟨(by first | exact Nat.ne_of_lt (by omega) | exact Nat.ne_of_gt (by omega)), (by first | exact Nat.ne_of_lt (by omega) | exact Nat.ne_of_gt (by omega)), (by first | exact Nat.ne_of_lt (by omega) | exact Nat.ne_of_gt (by omega)), (by first | exact Nat.ne_of_lt (by omega) | exact Nat.ne_of_gt (by omega)), (by first | exact Nat.ne_of_lt (by omega) | exact Nat.ne_of_gt (by omega)), (by first | exact Nat.ne_of_lt (by omega) | exact Nat.ne_of_gt (by omega)), (by first | exact Nat.ne_of_lt (by omega) | exact Nat.ne_of_gt (by omega)), (by first | exact Nat.ne_of_lt (by omega) | exact Nat.ne_of_gt (by omega)), (by first | exact Nat.ne_of_lt (by omega) | exact Nat.ne_of_gt (by omega)), (by first | exact Nat.ne_of_lt (by omega) | exact Nat.ne_of_gt (by omega)), (by first | exact Nat.ne_of_lt (by omega) | exact Nat.ne_of_gt (by omega)), (by first | exact Nat.ne_of_lt (by omega) | exact Nat.ne_of_gt (by omega)), (by first | exact Nat.ne_of_lt (by omega) | exact Nat.ne_of_gt (by omega)), (by first | exact Nat.ne_of_lt (by omega) | exact Nat.ne_of_gt (by omega)), (by first | exact Nat.ne_of_lt (by omega) | exact Nat.ne_of_gt (by omega)), (by first | exact Nat.ne_of_lt (by omega) | exact Nat.ne_of_gt (by omega)), (by first | exact Nat.ne_of_lt (by omega) | exact Nat.ne_of_gt (by omega)), (by first | exact Nat.ne_of_lt (by omega) | exact Nat.ne_of_gt (by omega))⟩
      refine ⟨_, _, _, _, H1, rfl, I2, turn_zip D, ⟨a1, a2, ⟨_, _, a3⟩, a4, a5⟩, fun b hb => ?_, q⟩
      have hb' : b = s1.heap.objs.size + 4 ∨ b = s1.heap.objs.size + 2 ∨ b = s1.heap.objs.size + 3 ∨ b = s1.heap.objs.size ∨ b = s1.heap.objs.size + 1 := by simpa using hb
      have hb2 : s1.heap.objs.size ≤ b := by rcases hb' with q | q | q | q | q <;> rw [q] <;> first | exact Nat.le_refl _ | exact Nat.le_add_right _ _
      exact I1.fpOk hb2 (I1.hok.fresh hb2)
end
def Ite (K : PySem.W.Frag) (a : Addr) : It :=
  ⟨fun i H => ∃ xs x, SqL K H a xs ∧ xs[i]? = some x,
   fun i H v H' => ∃ p x, v = .ref p ∧ H p = none ∧ H' = upd H p (.tup [.int i, x]) ∧ ∀ xs, SqL K H a xs → xs[i]? = some x,
   fun i H => ∃ xs, SqL K H a xs ∧ xs.length ≤ i⟩
theorem turn_enum {P : Program} {w : World} {K : PySem.W.Frag} {elts : List Expr} {x1 : Nat} {pos : Pos} {e it l : Addr} (hei : e ≠ it) :
    Turn P w K (.Tuple elts x1 pos) (Ite K l) [e, it] e (fun i h => (∃ old, IsEnum h e it i old) ∧ h.IsListIter it l i) where
  mem := by simp
  obj := fun i h st b hb => by
    obtain ⟨⟨old, h1⟩, ⟨o4, e4, c4, d4⟩⟩ := st
    have hb' : b = e ∨ b = it := by simpa using hb
    rcases hb' with q | q <;> subst q
    · exact ⟨_, h1, fun v q => by
        have q' : Data.fields _ = Data.cell v := q
        cases q'⟩
    · exact ⟨o4, e4, fun v q => by rw [d4] at q; cases q⟩
  keep := fun i h h' st k => by
    obtain ⟨⟨old, h1⟩, h4⟩ := st
    exact ⟨⟨old, k e (by simp) _ h1⟩, h4.at fun o q => k it (by simp) o q⟩
  item := by
    intro X hP hw hK hc i pins s σ H E I hf st hg
    subst hP hw hK
    obtain ⟨xs, x, hq1, hx⟩ := hg
    obtain ⟨its1, rv1, p1, hz1⟩ := I.list hq1
    obtain ⟨u1, hu1, ru1⟩ := rv1.get hx
    obtain ⟨⟨old, h1⟩, h4⟩ := st
    have n1 : e ≠ s.heap.objs.size := Nat.ne_of_lt (Heap.lt_size h1)
    have n4 : it ≠ s.heap.objs.size := by obtain ⟨o, q, _⟩ := id h4; exact Nat.ne_of_lt (Heap.lt_size q)
    refine wpAny_pyNext_enum_item h1 h4 p1.isList (x := u1) (by simpa using hu1) hei fun h' ho hit' hT hsz hk => ?_
    have I1 : Inv X pins σ (upd H s.heap.objs.size (.tup [.int i, x])) { s with heap := h', toks := s.toks + 1 } := I.turnedL (t' := s.toks + 1) (ch := [e, it]) (fun b o hb q => hk b o (fun z => hb (by simp [z])) (fun z => hb (by simp [z])) q) hf (Nat.le_refl _)
      ⟨by show 2 ≤ sizeLine; decide, [_, u1], .cons ⟨_, rfl⟩ (.cons ru1 .nil), ⟨_, hT, rfl, _, rfl⟩⟩
    have hf1 : ∀ b ∈ [e, it], FpOk X pins (upd H s.heap.objs.size (.tup [.int i, x])) b := fun b hb => (hf b hb).upd (by
      have hb' : b = e ∨ b = it := by simpa using hb
      rcases hb' with q | q <;> subst q
      · exact n1
      · exact n4)
    refine ⟨_, rfl, wpAny_letOwnedTupleGo_enum (s := { s with heap := h', toks := s.toks + 1 }) ho fun h2' he' sb => ?_⟩
    have I2 : Inv X pins σ (upd H s.heap.objs.size (.tup [.int i, x])) { s with heap := h2', toks := s.toks + 1 } := I1.turnedS (s := { s with heap := h', toks := s.toks + 1 }) (t' := s.toks + 1) (ch := [e, it]) (fun b o hb q => (sb.2 b fun z => hb (by simp [z])).trans q) hf1
    exact ⟨.ref s.heap.objs.size, _, I2, rfl, ⟨_, x, rfl, I.hok.fresh (Nat.le_refl _), rfl, fun zs hz => by rw [I.list_inj hz hq1]; exact hx⟩,
      ⟨⟨_, by simpa using he'⟩, hit'.at fun o q => (sb.2 _ hei.symm).trans q⟩, fun b hb => (hf1 b hb).1⟩
  done := by
    intro X hP hw hK hc i pins s σ H E I hf st hg
    subst hP hw hK
    obtain ⟨xs, hq1, hend⟩ := hg
    obtain ⟨its1, rv1, p1, hz1⟩ := I.list hq1
    obtain ⟨⟨old, h1⟩, h4⟩ := st
    have hl1 := rv1.length
    exact wpAny_pyNext_enum_end (I.ok.hd hc) h1 h4 p1.isList (by simp; omega) fun h' eb => ⟨rfl, I.turnedS (t' := s.toks) (ch := [e, it]) (fun b o hb q => eb b o (fun z => hb (by simp [z])) q) hf⟩
  self := fun _ _ _ _ _ st h => by
    obtain ⟨⟨old, h1⟩, _⟩ := st
    exact wpAny_pyIter_enum h1 h
section
variable {X : Cx} {elts : List Expr} {x1 : Nat} {pos : Pos}
def iEnum (K : PySem.W.Frag) (ta : TA) : TI := fun σ H R => ta σ H fun vs H1 => ∃ a, vs = [.ref a] ∧ (∃ xs, SqL K H1 a xs) ∧ R (Ite K a) H1
theorem pi_enumK (K : PySem.W.Frag) {a : Expr} {ta : TA} {p q : Pos} (hg : Gl X "enumerate") (hm : X.mg "enumerate" = none) (ha : PA X [a] ta) (hK : X.K = K := by rfl) (hs : starEach [a] X.env = [(false, eval a X.env)] := by rfl) :
    PI X (.Tuple elts x1 pos) (.Call (.Name "enumerate" p) [a] [] q) (iEnum K ta) := by
  subst hK
  intro pins s σ H R I h
  refine Call_ (ld_blt I hg hm bt_enumerate (PyProof.Rows.callWith_type1 (thn (ha q pins s σ H _ I h) fun us s1 ⟨vs, H1, I1, r1, q1⟩ => ?_) hs rfl))
  obtain ⟨l1, e, ⟨xs, hx⟩, q⟩ := q1
  subst e
  cases r1 with
  | cons r rr =>
    cases rr
    cases r
    obtain ⟨its1, rv1, p1, hz1⟩ := I1.list hx
    refine call_enumerate_list p1.isList fun h' a1 a2 a3 a4 => ?_
    refine wpAny_pyIter_enum (s := { s1 with heap := h' }) a1 ?_
    have I2 : Inv X pins σ H1 { s1 with heap := h' } := I1.kept (t' := s1.toks) a4
    refine ⟨_, _, _, _, H1, rfl, I2, turn_enum (by show (_ : Nat) ≠ (_ : Nat); omega), ⟨⟨_, a1⟩, a2⟩, fun b hb => ?_, q⟩
    have hb' : b = s1.heap.objs.size + 1 ∨ b = s1.heap.objs.size := by simpa using hb
    have hb2 : s1.heap.objs.size ≤ b := by rcases hb' with q | q <;> rw [q] <;> first | exact Nat.le_refl _ | exact Nat.le_add_right _ _
    exact I1.fpOk hb2 (I1.hok.fresh hb2)
end
theorem for_enum {K : PySem.W.Frag} {a : Addr} {xs : List V} {g : TG} {tb : TS} {D : Ends} {σ : St} {H : Hp} (Pv : Nat → St → Hp → Prop) (h0 : Pv 0 σ H) (hk : ∀ i σ H, i ≤ xs.length → Pv i σ H → SqL K H a xs)
    (hs : ∀ i x σ H p, xs[i]? = some x → Pv i σ H → H p = none → g (.ref p) σ (upd H p (.tup [.int i, x])) fun σ2 H2 => tb { D with nx := Pv (i + 1), ct := Pv (i + 1), bk := D.nx } σ2 H2) (hd : ∀ σ H, Pv xs.length σ H → D.nx σ H) :
    ∃ W : Nat → Nat → St → Hp → Prop, (∃ m, W 0 m σ H) ∧ ∀ i m σ H, W i m σ H →
      ((Ite K a).stop i H ∧ D.nx σ H) ∨ ((Ite K a).go i H ∧ ∃ N : St → Hp → Prop, (∀ σ' H', N σ' H' → ∃ m', m' < m ∧ W (i + 1) m' σ' H') ∧ ∀ x H', (Ite K a).yld i H x H' → g x σ H' fun σ2 H2 => tb { D with nx := N, ct := N, bk := D.nx } σ2 H2) := by
  refine ⟨fun i m σ H => m = xs.length - i ∧ i ≤ xs.length ∧ Pv i σ H, ⟨xs.length, by simp, Nat.zero_le _, h0⟩, ?_⟩
  rintro i m σ H ⟨rfl, hi', p⟩
  have hq := hk i σ H hi' p
  by_cases hlt : i < xs.length
  · refine .inr ⟨⟨xs, _, hq, List.getElem?_eq_getElem hlt⟩, Pv (i + 1), fun σ' H' p' => ⟨xs.length - (i + 1), by omega, rfl, hlt, p'⟩, fun x H' y => ?_⟩
    obtain ⟨q, z, rfl, hn, rfl, hz⟩ := y
    exact hs i z σ H q (hz xs hq) p hn
  · have e : i = xs.length := by omega
    subst e
    exact .inl ⟨⟨xs, hq, Nat.le_refl _⟩, hd σ H p⟩
theorem pg_tupK (K : PySem.W.Frag) {X : Cx} {pos : Pos} {es : List Expr} {k : Nat} {t : TGs} (n : Nat) (hc : X.calm = true) (h : PGs X es t) (hK : X.K = K := by rfl)
    (hn : (assignEach es X.env).length = n := by rfl) (hst : (assignEach es X.env).findIdx? (·.1) = none := by rfl) : PG X (.Tuple es k pos) (gTup K n t) := by subst hK; exact pg_tup hc h hn hst
structure Bz (mg : Str → Option Value) : Prop where
  zip : mg "zip" = none
  enumerate : mg "enumerate" = none
end L2
namespace HT
open PySem PyProof.Rows
section
open PySem.SeqAt
open PySem.AutoSeq1 (wpAny_loadPart')
open PySem.MeetsSeq PySem.MeetsSeq2 PySem.MeetsSeq3
end
end HT
namespace L2
open PySem PySem.Spec PyProof.Rows
section
variable {X : Cx}
end
end L2
namespace L2
open PySem PySem.Spec PyProof.Rows
abbrev bmV : List Value := [.type "ValueError", .type "Exception", .type "BaseException", .type "object"]
abbrev ExcIn (K : PySem.W.Frag) (C : Addr) : Prop := PySem.W.excIn K C bmV "ValueError.__new__" = true
theorem exc_obj {K : PySem.W.Frag} {h : Heap} {C : Addr} (X : K.In h) (q : ExcIn K C) :
    ∃ bm N nm qn bs hdct sn sub ab col dd k0 k1 k2 k3 k5 mN, h.get? C = some (excClassObj nm qn C N bs bm hdct sn sub ab col dd k0 k1 k2 k3 k5 "ValueError.__new__") ∧ h.Ns N mN ∧ mN "__init__" = none ∧ OwnTail h bmV bm ∧
      ∀ y b, PySem.W.mroIn K C y = some b → (Value.ref C :: bm).contains y = b := by
  unfold ExcIn PySem.W.excIn at q
  split at q
  · rename_i dd cd sl ho
    split at q
    · rename_i C' bm k0 k1 k2 k3 n k5 hm hs
      simp only [Bool.and_eq_true, beq_iff_eq, Bool.not_eq_true'] at q
      obtain ⟨⟨⟨⟨⟨rfl, rfl⟩, hdel⟩, ht⟩, hok⟩, hni⟩ := q
      obtain ⟨nm, bs, mro, ns, qn, hd, sn, sub, ab, col, del⟩ := cd
      dsimp only at hm hdel hok hni
      subst hm hdel
      have hsl : sl = #[k0, k1, k2, k3, some (.builtin "ValueError.__new__"), k5] := by
        obtain ⟨l⟩ := sl
        simp only at hs
        rw [hs]
      subst hsl
      refine ⟨bm, ns, nm, qn, bs, hd, sn, sub, ab, col, dd, k0, k1, k2, k3, k5, _, X _ _ ho, .of_isNs (PySem.W.isNs_of_in X hok), PySem.W.nsMap_none_of_in X hok hni, PySem.W.tail_of_in X ht, fun y b e => ?_⟩
      unfold PySem.W.mroIn PySem.W.clsIn at e
      rw [ho] at e
      simpa using e
    · cases q
  · cases q
structure Flies (P : Program) (w : World) (outer : List Env) (H : Hp) (s : Shared) (a C : Addr) (a0 : Value) (B : Heap) (H' : Hp) (s' : Shared) : Prop where
  os : s'.os = s.os
  bare : AllBare s'.gens
  un : Un (frs outer) [] H H' s.heap s'.heap
  hok : HOk P w H' s'.heap
  fl : Heap.FlyingW B outer a (.ref C) a0 s'.heap
  cov : ∀ b o, s.heap.get? b = some o → b ∉ frs outer → ∃ o', B.get? b = some o' ∧ (H b = none → o' = o)
  cov2 : ∀ b, H' b ≠ none → ∃ o, B.get? b = some o
  new : s.heap.get? a = none
def CXe (P : Program) (w : World) : CXT := fun outer H s E e s' => ∃ (a C : Addr) (a0 : Value) (B : Heap) (H' : Hp), e = .ref a ∧ Flies P w outer H s a C a0 B H' s' ∧ E (.ref C) none H'
theorem HOk.stays {P : Program} {w : World} {H : Hp} {B h h' : Heap} (ok : HOk P w H h) (c : ∀ b, H b ≠ none → ∃ o, B.get? b = some o) (k1 : B.StaysIn h) (k2 : B.StaysIn h') : HOk P w H h' := fun b u e => by
  refine (ok b u e).stay (fun c' v hc q => ?_) (fun _ q => q) fun _ _ q => q
  have hne : H c' ≠ none := by
    rcases hc with z | z
    · rw [z, e]; simp
    · rw [z]; simp
  obtain ⟨o, ho⟩ := c c' hne
  have h1 := k1 _ _ ho
  rw [q] at h1
  cases h1
  exact k2 _ _ ho
theorem Un.fly {fs0 : List Addr} {H0 H H' : Hp} {h0 h h' h'' B : Heap} {l : List Env} {L : Addr} (u0 : Un fs0 [] H0 H h0 h) (u : Un (frs l) [] H H' h h') (hfs : frs l = L :: fs0) (hL : h0.get? L = none)
    (hff : h'.FunFrames B l) (sm : h'.UpToSlots h'') (k2 : B.StaysIn h'') (cov : ∀ b o, h.get? b = some o → b ∉ frs l → ∃ o', B.get? b = some o' ∧ (H b = none → o' = o)) : Un fs0 [] H0 H' h0 h'' := by
  have nL : ∀ b o, h0.get? b = some o → b ≠ L := fun b o e z => by rw [z, hL] at e; cases e
  have frame : ∀ b o, b ∈ frs l → h'.get? b = some o → ∃ sl, h''.get? b = some { o with slots := sl } := fun b o hb e => by
    obtain ⟨_, o1, e1, hn⟩ := hff.mem (b := b) hb
    rw [e] at e1
    cases e1
    exact sm b o e hn
  refine ⟨fun b o e n hb hx => ?_, fun b o e n hb hx => ?_, fun b o e n hx => ?_, fun b o e hx => ?_, fun b xs e => u.tups _ _ (u0.tups _ _ e), fun b o x e => u.frzs _ _ _ (u0.frzs _ _ _ e), fun b ps e => ?_⟩
  · have e1 := u0.keep b o e n hb hx
    obtain ⟨o', ho', heq⟩ := cov b o e1 (by rw [hfs]; exact fun z => (List.mem_cons.mp z).elim (nL b o e) hb)
    rw [heq (u0.free b o e n hx)] at ho'
    exact k2 _ _ ho'
  · obtain ⟨sl, e1⟩ := u0.slot b o e n hb hx
    have n1 := u0.free b o e n hx
    have hb' : b ∈ frs l := by rw [hfs]; exact List.mem_cons_of_mem _ hb
    obtain ⟨sl2, e2⟩ := u.slot b _ e1 n1 hb' hx
    obtain ⟨sl3, e3⟩ := frame b _ hb' e2
    exact ⟨sl3, e3⟩
  · obtain ⟨o1, e1⟩ := u0.there b o e hx
    exact u.free b o1 e1 (u0.free b o e n hx) hx
  · obtain ⟨o1, e1⟩ := u0.there b o e hx
    by_cases hb : b ∈ frs l
    · obtain ⟨o2, e2⟩ := u.there b o1 e1 hx
      obtain ⟨sl, e3⟩ := frame b o2 hb e2
      exact ⟨_, e3⟩
    · obtain ⟨o', ho', _⟩ := cov b o1 e1 hb
      exact ⟨o', k2 _ _ ho'⟩
  · obtain ⟨m1, e1⟩ := u0.tbls b ps e
    obtain ⟨m2, e2⟩ := u.tbls b _ e1
    exact ⟨m1 ++ m2, by rw [e2, Array.append_assoc]⟩
theorem ObjOk.there {P : Program} {w : World} {H : Hp} {h : Heap} {a : Addr} {o : HO} (x : ObjOk P w H h a o) : ∃ u, h.get? a = some u := by
  cases o with
  | lst xs => obtain ⟨_, _, _, _, e⟩ := x; exact ⟨_, e⟩
  | tup xs => obtain ⟨_, _, _, ob, e, _⟩ := x; exact ⟨_, e⟩
  | dK kvs => obtain ⟨_, _, _, _, o, _, _, e, _⟩ := x; exact ⟨_, e⟩
  | dT kvs => obtain ⟨_, _, _, _, o, _, _, e, _⟩ := x; exact ⟨_, e⟩
  | set S n => obtain ⟨o, _, _, _, e, _⟩ := x; exact ⟨_, e⟩
  | ins C dx fs => obtain ⟨_, _, _, e, _⟩ := x; exact ⟨_, e⟩
  | own y => exact x
  | xd fs => obtain ⟨_, ⟨_, _, _, e, _⟩, _⟩ := x; exact ⟨_, e⟩
  | rng lo hi => obtain ⟨_, _, _, e⟩ := x; exact ⟨_, e⟩
  | frz ob u => obtain ⟨e, _⟩ := x; exact ⟨_, e⟩
  | tbl ps => exact ⟨_, (show h.get? a = some _ from x)⟩
  | met f y => exact ⟨_, (show h.get? a = some _ from x)⟩
  | ext φ => obtain ⟨_, ⟨_, e⟩, _⟩ := x; exact ⟨_, e⟩
theorem funFrames_rebase {h base B : Heap} : ∀ {l : List Env}, h.FunFrames base l → (∀ b ∈ frs l, B.get? b = none) → h.FunFrames B l
  | [], _, _ => trivial
  | env :: r, ⟨hk, ⟨L, o, hf, hn, ho, hd⟩, hr⟩, hb => by
    have e : frs (env :: r) = L :: frs r := by unfold frs; rw [List.filterMap_cons, hf]
    refine ⟨hk, ⟨L, o, hf, hb L (by rw [e]; exact List.mem_cons_self ..), ho, hd⟩, funFrames_rebase hr fun b q => hb b (by rw [e]; exact List.mem_cons_of_mem _ q)⟩
section
variable {P : Program} {w : World} {K : PySem.W.Frag} {mg : Str → Option Value} {base : Heap} {N : List Str} {qual : Str} {scope : Scope} {f : Addr} {cd : Value} {A : Around} {outer : List Env} {s0 : Shared} {H0 : Hp} {E : XK}
def Takes (X : Cx) (EE : St → XK) : Prop := ∀ (pins : List (Addr × Obj)) (σ : St) (H : Hp) (s : Shared) (e : Value) (s' : Shared), Inv X pins σ H s → CXe X.prog X.w X.stack H s (EE σ) e s' → X.xe e s'
theorem takes_fn : Takes (cxOf (CXe P w) P w K mg base N qual scope f cd A outer s0 H0 E) (fun _ => E) := by
  rintro pins σ H s e s' I ⟨a, C, a0, B, H', rfl, F, q⟩
  have hL : s0.heap.get? s0.heap.objs.size = none := Heap.get?_none_of_le (Nat.le_refl _)
  refine wpAny_leaves_onW (base := B) I.ok.frames rfl F.fl fun h'' fl sm => ⟨a, C, a0, B, H', rfl, ⟨?_, F.bare, ?_, ?_, fl, ?_, F.cov2, ?_⟩, q⟩
  · exact F.os.trans I.os
  · exact Un.fly I.base F.un rfl hL F.fl.2.2.1 sm fl.1 F.cov
  · exact F.hok.stays F.cov2 F.fl.1 fl.1
  · intro b o e hb
    obtain ⟨o1, e1⟩ := I.base.there b o e (by simp [cxOf])
    have nL : b ≠ s0.heap.objs.size := fun z => by rw [z, hL] at e; cases e
    obtain ⟨o', ho', heq⟩ := F.cov b o1 e1 (fun z => (List.mem_cons.mp z).elim nL hb)
    refine ⟨o', ho', fun n => ?_⟩
    have e2 := I.base.keep b o e n hb (by simp [cxOf])
    rw [e1] at e2
    cases e2
    exact heq (I.base.free b o e n (by simp [cxOf]))
  · cases e : s0.heap.get? a with
    | none => rfl
    | some o =>
      obtain ⟨o1, e1⟩ := I.base.there a o e (by simp [cxOf])
      have := F.new
      rw [e1] at this
      cases this
def tRaise (C : Addr) (E : XK) (t : TA) : TS := fun _ σ H => t σ H fun vs H1 => vs.length ≤ 10 ∧ E (.ref C) none H1
theorem ps_raise {x : Str} {C : Addr} {arg : Expr} {np cpos pos : Pos} {t : TA} (hm : mg x = some (.ref C)) (hE : ExcIn K C) (hB : PySem.W.mroIn K C (.type "BaseException") = some true)
    (ha : PA (cxOf (CXe P w) P w K mg base N qual scope f cd A outer s0 H0 E) [arg] t) (hg : Gl (cxOf (CXe P w) P w K mg base N qual scope f cd A outer s0 H0 E) x := by rfl)
    (hst : starEach [arg] (cxOf (CXe P w) P w K mg base N qual scope f cd A outer s0 H0 E).env = [(false, eval arg (cxOf (CXe P w) P w K mg base N qual scope f cd A outer s0 H0 E).env)] := by rfl)
    (hd : (x == ("__debug__" : Str)) = false := by decide) :
    PS (cxOf (CXe P w) P w K mg base N qual scope f cd A outer s0 H0 E) (.Raise (some (.Call (.Name x np) [arg] [] cpos)) none pos) (tRaise C E t) := by
  intro pins s σ H D I h
  generalize hX : cxOf (CXe P w) P w K mg base N qual scope f cd A outer s0 H0 E = X at *
  have hcalm : X.calm = true := by rw [← hX]; rfl
  have hXK : X.K = K := by rw [← hX]; rfl
  obtain ⟨bm, N', nm, qn, bs, hdct, sn, sub, ab, col, dd, k0, k1, k2, k3, k5, mN, hC, hN, hni, TL, hmro⟩ := exc_obj I.ok.mod.kin (by rw [hXK]; exact hE)
  have hbase : bm.contains (.type "BaseException") = true := by
    have := hmro (.type "BaseException") true (by rw [hXK]; exact hB)
    rw [List.contains_cons] at this
    simpa using this
  have hpl : (backTo cpos (starEach [arg] X.env)).any (·.1) = false := by rw [hst]; rfl
  refine wpAny_Raise_call_subT (C := C) (nm := nm) (q := qn) (N := N') (bs := bs) (bm := bm) (hdct := hdct) (sn := sn) (sub := sub) (ab := ab) (col := col) (dd := dd) (k0 := k0) (k1 := k1) (k2 := k2) (k3 := k3) (k5 := k5) F.excBase_ValueError hbase (I.ok.hd hcalm) hpl hni ?_
  refine ld_glob I hg (by rw [← hX]; exact hm) ⟨rfl, ?_⟩ hd
  have harg : backTo cpos (starEach [arg] X.env) = [(false, (backTo cpos (starEach [arg] X.env)).head!.2)] := by rw [hst]; rfl
  rw [harg]
  refine Calls.evalArgs_plain ?_
  rw [← harg]
  refine thn (ha cpos pins s σ H _ I h) fun us s1 ⟨vs, H1, I1, r, hl, q⟩ => ?_
  refine ⟨rfl, ?_, I1.bk _ _ hC, hN.keeps I1.bk, TL.keeps I1.bk, fun h' e hx => ?_⟩
  · show us.length ≤ sizeLine
    have := r.length
    have := small1000 (n := 10) (by omega)
    omega
  have ff : s1.heap.FunFrames (PySem.W.hideAll s1.heap (frs X.stack)) X.stack := funFrames_rebase I1.stack fun b hb => PySem.W.hideAll_none _ hb
  have kb : (PySem.W.hideAll s1.heap (frs X.stack)).StaysIn s1.heap := fun b o q => PySem.W.of_hideAll _ q
  have cv : ∀ b o, s1.heap.get? b = some o → b ∉ frs X.stack → ∃ o', (PySem.W.hideAll s1.heap (frs X.stack)).get? b = some o' ∧ (H1 b = none → o' = o) := fun b o e1 hb => ⟨o, PySem.W.hideAll_get _ e1 hb, fun _ => rfl⟩
  have cv2 : ∀ b, H1 b ≠ none → ∃ o, (PySem.W.hideAll s1.heap (frs X.stack)).get? b = some o := fun b hb => by
    cases q1 : H1 b with
    | none => exact absurd q1 hb
    | some u =>
      obtain ⟨o, ho⟩ := (I1.hok b u q1).there
      exact ⟨o, PySem.W.hideAll_get _ ho fun z => hb (I1.stkFree b z)⟩
  subst hX
  have hL : s0.heap.get? s0.heap.objs.size = none := Heap.get?_none_of_le (Nat.le_refl _)
  refine wpAny_leaves_madeW (base := PySem.W.hideAll s1.heap (frs (cxOf (CXe P w) P w K mg base N qual scope f cd A outer s0 H0 E).stack)) (h := s1.heap) I1.ok.frames rfl kb ff hx fun h'' t fl ht htn sm => ⟨e, C, .ref t, _, H1, rfl, ⟨I1.os, I1.bare, ?_, ?_, fl, ?_, cv2, ?_⟩, q⟩
  · exact Un.fly I1.base (Un.kept hx.keeps) rfl hL (ff.of_keeps fun b o hb _ => ⟨o, hx.keeps b o hb, rfl⟩) sm fl.1 cv
  · exact I1.hok.stays cv2 kb fl.1
  · intro b o e1 hb
    obtain ⟨o1, e2⟩ := I1.base.there b o e1 (by simp [cxOf])
    have nL : b ≠ s0.heap.objs.size := fun z => by rw [z, hL] at e1; cases e1
    obtain ⟨o', ho', heq⟩ := cv b o1 e2 (fun z => (List.mem_cons.mp z).elim nL hb)
    refine ⟨o', ho', fun n => ?_⟩
    have e3 := I1.base.keep b o e1 n hb (by simp [cxOf])
    rw [e2] at e3
    cases e3
    exact heq (I1.base.free b o e1 n (by simp [cxOf]))
  · cases e1 : s0.heap.get? e with
    | none => rfl
    | some o =>
      obtain ⟨o1, e2⟩ := I1.base.there e o e1 (by simp [cxOf])
      have := hx.new
      rw [e2] at this
      cases this
end
section
variable {P : Program} {w : World} {K : PySem.W.Frag} {mg : Str → Option Value} {base : Heap}
theorem Fun.okX {x qual : Str} {st : Stmt} {f : Addr} {fd : FuncData} {N ps : List Str} {k : Nat} {sp : Sp} (F : Fun K x qual st f fd) (S : FnScope N ps (defScope st)) (len : ∀ vs H Q E, sp vs H Q E → vs.length = ps.length)
    (hbody : ∀ (cdv : Value) (A : Around) (outer : List Env) (s : Shared) (H : Hp) (vs : List V) (Q : VK) (E : XK), Room k (A.deeper (envOfC qual (defScope st) s.heap.objs.size f cdv)) → sp vs H Q E →
      ∃ t, PSs (cxOf (CXe P w) P w K mg base N qual (defScope st) f cdv A outer s H E) (defBody st) t ∧ t { nx := fun _ H' => Q .non H', rt := Q } (start N vs) H) : FnOk P w K mg base (CXe P w) (k + 1) f fd ps sp := by
  obtain ⟨oc, od, kV, doc, pm, an, cdv, ct, osl, rfl, lk, hcd⟩ := F.ex
  exact fn_of lk hcd S len fun A outer s H vs Q E hr hsp => hbody cdv A outer s H vs Q E hr hsp
end
section
variable {X : Cx} {j k : Nat} {ps : List Str} {sp : Sp} {x : Str} {p pos : Pos} {e : Expr} {es : List Expr} {t : TA} {EE : St → XK}
def tCallX (sp : Sp) (EE : St → XK) (t : TA) : TE := fun σ H Q => t σ H fun vs H1 => sp vs H1 Q (EE σ)
theorem pe_calX (c : Callee X.prog X.w X.K X.mg X.base (CXe X.prog X.w) x k ps sp) (hr : Room j X.A) (hx : Takes X EE) (ha : PA X (e :: es) t) (hk : k ≤ j := by decide) (hg : Gl X x := by rfl)
    (hdb : (x == ("__debug__" : Str)) = false := by decide) (he : starEach (e :: es) X.env = (false, eval e X.env) :: starEach es X.env := by rfl) (hpl : (backTo pos (starEach es X.env)).any (·.1) = false := by rfl) :
    PE X (.Call (.Name x p) (e :: es) [] pos) (tCallX sp EE t) := by
  obtain ⟨f, fd, hm, hkp, hb, F⟩ := c.ex
  intro pins s σ H Q I h
  refine wpAny_Call_Name_kw (ld_glob I hg hm ?_ hdb)
  refine PySem.W.callWith_K (h₀ := X.base) I.ok.mod.kin hkp (thn (ha pos pins s σ H _ I h) fun us s1 ⟨vs, H1, I1, r, q⟩ => ⟨I1.kIn, ?_⟩) he hpl
  have hl : (us ++ []).length = ps.length := by rw [List.append_nil, ← r.length]; exact F.len _ _ _ _ q
  have hb' := hb s1 us I1.kIn hl
  rw [List.append_nil] at hb'
  refine wpAny_call (codeAny_mono (F.run X.A X.stack s1 H1 ⟨us, []⟩ us vs Q (EE σ) (hr.mono hk) I1.env0 hb' r q) fun r s' hq => ?_)
  cases r with
  | error e => exact hx pins σ H1 s1 e s' I1 hq
  | ok fl =>
    cases fl with
    | ret u => exact I1.after hq
    | next => exact False.elim hq
    | brk => exact False.elim hq
    | cont => exact False.elim hq
end
def excO (C a : Addr) : HO := .ext fun h => ∃ o, h.get? a = some o ∧ o.cls = .ref C
def Wx (X : Cx) (EE : St → XK) : Value → Shared → Prop := fun e s' => ∃ (pins : List (Addr × Obj)) (σ : St) (H : Hp) (s : Shared), Inv X pins σ H s ∧ CXe X.prog X.w X.stack H s (EE σ) e s'
theorem takes_wx {X : Cx} {EE : St → XK} : Takes (X.wish (Wx X EE)) EE := fun pins σ H s e s' I h => ⟨pins, σ, H, s, I.unwish, h⟩
abbrev Cx.exc (X : Cx) (a : Addr) : Cx := { X with A := X.A.mark (some (.ref a)), calm := false, xe := fun _ _ => False }
theorem Inv.exc {X : Cx} {pins : List (Addr × Obj)} {σ : St} {H : Hp} {s : Shared} (a : Addr) (I : Inv X pins σ H s) : Inv (X.exc a) pins σ H s :=
  ⟨⟨I.ok.mod, I.ok.kind, I.ok.glob, I.ok.blt, I.ok.above, I.ok.inj, I.ok.has, I.ok.cab, (fun z => by cases z), I.ok.frames, I.ok.stk, I.ok.exf, I.ok.bs, I.ok.bsz, I.ok.noex, I.ok.exfs, I.ok.funs, I.ok.frf⟩, I.os, I.bare, I.base, I.loc, I.cell, I.free, I.freeC, I.pin, I.hok, I.len⟩
theorem Inv.unexc {X : Cx} {pins : List (Addr × Obj)} {σ : St} {H : Hp} {s : Shared} {a : Addr} (ok : X.Ok) (I : Inv (X.exc a) pins σ H s) : Inv X pins σ H s := ⟨ok, I.os, I.bare, I.base, I.loc, I.cell, I.free, I.freeC, I.pin, I.hok, I.len⟩
theorem Inv.goes {X : Cx} {pins : List (Addr × Obj)} {σ : St} {H : Hp} {s : Shared} {i : Nat} {n : Str} {M : Model} {A : Around} {E : Value → Shared → Prop} {Q : Unit → Shared → Prop} {pos : Pos} (I : Inv X pins σ H s) (hN : X.N.Nodup) (hi : X.N[i]? = some n) (hk : X.env.scope.names.lookup n = some .local)
    (h : ∀ s', Inv X pins (σ.set i none) H s' → Q () s') : wpAny M A (do bindName X.env n .none; unbindBehindTheSuite X.env n pos) Q E s := by
  obtain ⟨m, hn, hl⟩ := id I.loc
  have hcls : (X.env.scope.kind == .class || (X.env.scope.kind == .module && X.env.locals != X.env.globals)) = false := by rw [I.ok.kind]; rfl
  have hiσ : i < σ.length := by rw [I.len]; exact (List.getElem?_eq_some_iff.mp hi).1
  have cne := I.cne
  obtain ⟨oL, _, _, hoL, _⟩ := id hn
  refine wpAny_nameGoes_keeps hk hn hcls fun h' v hn' hs => h _ ?_
  have tracked : HOk X.prog X.w H h' := fun b ob e => by
    refine (I.hok b ob e).stay (fun c w' hc q => (hs.2 c ?_).trans q) (fun _ q => q) fun _ _ q => q
    rintro rfl
    have hfree := I.free
    rcases hc with z | hc
    · rw [← z, hfree] at e; cases e
    · rw [hfree] at hc; cases hc
  refine ⟨I.ok, I.os, I.bare, ⟨fun b o e n hb hx => ?_, fun b o e n hb hx => ?_, I.base.free, fun b o e hx => ?_, I.base.tups, I.base.frzs, I.base.tbls⟩, ⟨_, hn', fun j y v' e1 e2 e3 => ?_⟩, fun y c e => ?_, I.free, I.freeC, fun p hp => ?_, tracked, by simpa using I.len⟩
  · exact (hs.2 b (Nat.ne_of_lt (Nat.lt_of_lt_of_le (Heap.lt_size e) I.ok.above))).trans (I.base.keep b o e n hb hx)
  · obtain ⟨sl, e1⟩ := I.base.slot b o e n hb hx
    exact ⟨sl, (hs.2 b (Nat.ne_of_lt (Nat.lt_of_lt_of_le (Heap.lt_size e) I.ok.above))).trans e1⟩
  · obtain ⟨o', e1⟩ := I.base.there b o e hx
    exact ⟨o', (hs.2 b (Nat.ne_of_lt (Nat.lt_of_lt_of_le (Heap.lt_size e) I.ok.above))).trans e1⟩
  · by_cases hj : j = i
    · subst hj
      rw [List.getElem?_set_self hiσ] at e2
      cases e2
    · rw [List.getElem?_set_ne (Ne.symm hj)] at e2
      obtain ⟨u', r', q⟩ := hl j y v' e1 e2 e3
      refine ⟨u', r', ?_⟩
      rcases q with ⟨k, e⟩ | ⟨k, c, e, z⟩
      · refine .inl ⟨k, ?_⟩
        have : y ≠ n := fun e => hj (nodup_ix hN e1 (e ▸ hi))
        simp [this, e]
      · exact .inr ⟨k, c, e, z.sameBut hs (cne y c e)⟩
  · obtain ⟨w', z⟩ := I.cell y c e
    exact ⟨w', z.sameBut hs (cne y c e)⟩
  · obtain ⟨e, n, ne, nf, d⟩ := I.pin p hp
    exact ⟨(hs.2 p.1 ne).trans e, n, ne, nf, d⟩
theorem Un.fly0 {H H' : Hp} {h h' h'' B : Heap} {l : List Env} (u : Un (frs l) [] H H' h h') (hff : h'.FunFrames B l) (sm : h'.UpToSlots h'') (k2 : B.StaysIn h'')
    (cov : ∀ b o, h.get? b = some o → b ∉ frs l → ∃ o', B.get? b = some o' ∧ (H b = none → o' = o)) : Un (frs l) [] H H' h h'' := by
  have frame : ∀ b o, b ∈ frs l → h'.get? b = some o → ∃ sl, h''.get? b = some { o with slots := sl } := fun b o hb e => by
    obtain ⟨_, o1, e1, hn⟩ := hff.mem (b := b) hb
    rw [e] at e1
    cases e1
    exact sm b o e hn
  refine ⟨fun b o e n hb hx => ?_, fun b o e n hb hx => ?_, u.free, fun b o e hx => ?_, u.tups, u.frzs, u.tbls⟩
  · obtain ⟨o', ho', heq⟩ := cov b o e hb
    rw [heq n] at ho'
    exact k2 _ _ ho'
  · obtain ⟨sl2, e2⟩ := u.slot b _ e n hb hx
    obtain ⟨sl3, e3⟩ := frame b _ hb e2
    exact ⟨sl3, e3⟩
  · by_cases hb : b ∈ frs l
    · obtain ⟨o2, e2⟩ := u.there b o e hx
      obtain ⟨sl, e3⟩ := frame b o2 hb e2
      exact ⟨_, e3⟩
    · obtain ⟨o', ho', _⟩ := cov b o e hb
      exact ⟨o', k2 _ _ ho'⟩
theorem wpAny_excMatches_sub_ref {M : Model} {A : Around} {E : Value → Shared → Prop} {s : Shared} {e C D : Addr} {oe : Obj} {Q : Bool → Shared → Prop} {K : PySem.W.Frag} (X : K.In s.heap) (hC : ExcIn K C) (hD : ExcIn K D) (he : s.heap.get? e = some oe) (hcls : oe.cls = .ref C)
    (hB : PySem.W.mroIn K D (.type "BaseException") = some true) {b : Bool} (hsub : PySem.W.mroIn K C (.ref D) = some b) (hq : Q b s) : wpAny M A (excMatches (.ref e) (.ref D)) Q E s := by
  obtain ⟨h, g, d, t, os⟩ := s
  obtain ⟨bm, N, nm, qn, bs, hdct, sn, sub, ab, col, dd, k0, k1, k2, k3, k5, mN, oC, hN, hni, TL, hmro⟩ := exc_obj X hC
  obtain ⟨bm', N', nm', qn', bs', hdct', sn', sub', ab', col', dd', k0', k1', k2', k3', k5', mN', oD, hN', hni', TL', hmro'⟩ := exc_obj X hD
  have hcB := hmro' _ _ hB
  have hcC := hmro _ _ hsub
  have f := tc_notTuple
  unfold excMatches
  repeat (first | (with_reducible refine wpAny_loadPart_at he ?_; rw [hcls]) | with_reducible refine wpAny_loadPart_at oD ?_ | (with_reducible refine wpAny_isSubtype_exc oD ?_; rw [hcB]) | (with_reducible refine wpAny_isSubtype_exc oC ?_; rw [hcC]) | wp_step)
  cases b
  · wp_walk
    exact hq
  · wp_walk
    exact hq
end L2
namespace L2
open PySem PySem.Spec PyProof.Rows
abbrev Cx.pinned (X : Cx) (pn : List (Addr × Obj)) : Cx := { X with pn := pn }
theorem Inv.toPinned {X : Cx} {pins : List (Addr × Obj)} {σ : St} {H : Hp} {s : Shared} (I : Inv X pins σ H s) : Inv (X.pinned (X.pn ++ pins)) [] σ H s :=
  ⟨⟨I.ok.mod, I.ok.kind, I.ok.glob, I.ok.blt, I.ok.above, I.ok.inj, I.ok.has, I.ok.cab, I.ok.hd, I.ok.frames, I.ok.stk, I.ok.exf, I.ok.bs, I.ok.bsz, I.ok.noex, I.ok.exfs, I.ok.funs, I.ok.frf⟩, I.os, I.bare, I.base, I.loc, I.cell, I.free, I.freeC, fun p hp => I.pin p (by simpa using hp), I.hok, I.len⟩
theorem Inv.ofPinned {X : Cx} {pins pins' : List (Addr × Obj)} {σ : St} {H : Hp} {s : Shared} (I : Inv (X.pinned (X.pn ++ pins)) pins' σ H s) : Inv X pins σ H s :=
  ⟨⟨I.ok.mod, I.ok.kind, I.ok.glob, I.ok.blt, I.ok.above, I.ok.inj, I.ok.has, I.ok.cab, I.ok.hd, I.ok.frames, I.ok.stk, I.ok.exf, I.ok.bs, I.ok.bsz, I.ok.noex, I.ok.exfs, I.ok.funs, I.ok.frf⟩, I.os, I.bare, I.base, I.loc, I.cell, I.free, I.freeC, fun p hp => I.pin p (List.mem_append_left _ hp), I.hok, I.len⟩
theorem SP.ofPinned {X : Cx} {pins pins' : List (Addr × Obj)} {D : Ends} {f : Flow} {s' : Shared} {W : Value → Shared → Prop} (h : SP ((X.pinned (X.pn ++ pins)).wish W) pins' D f s') : SP X pins D f s' := by
  cases f with
  | next => obtain ⟨σ', H', I, q⟩ := h; exact ⟨σ', H', I.unwish.ofPinned, q⟩
  | brk => obtain ⟨σ', H', I, q⟩ := h; exact ⟨σ', H', I.unwish.ofPinned, q⟩
  | cont => obtain ⟨σ', H', I, q⟩ := h; exact ⟨σ', H', I.unwish.ofPinned, q⟩
  | ret u => obtain ⟨v, σ', H', I, r, q⟩ := h; exact ⟨v, σ', H', I.unwish.ofPinned, r, q⟩
def tTry (K : PySem.W.Frag) (D0 : Addr) (i : Nat) (EE : St → XK) (tb th : TS) : TS := fun D σ H =>
  tb D σ H ∧ ∀ σ1 C a H1, EE σ1 (.ref C) none H1 → H1 a = none → ExcIn K C ∧ PySem.W.mroIn K C (.ref D0) = some true ∧
    th { nx := fun σ2 H2 => D.nx (σ2.set i none) H2, rt := D.rt, bk := fun σ2 H2 => D.bk (σ2.set i none) H2, ct := fun σ2 H2 => D.ct (σ2.set i none) H2 } (σ1.set i (some (.ref a))) (upd H1 a (excO C a))
theorem hok_exc {P : Program} {w : World} {H : Hp} {h : Heap} {a C : Addr} (ok : HOk P w H h) (hn : H a = none) (ha : ∃ o, h.get? a = some o ∧ o.cls = .ref C) : HOk P w (upd H a (excO C a)) h := fun b u e => by
  by_cases hb : b = a
  · subst hb
    rw [upd_same] at e
    cases e
    obtain ⟨o, e1, e2⟩ := ha
    exact ⟨⟨o, e1, e2⟩, ⟨o, e1⟩, fun h1 h2 ⟨o', q1, q2⟩ k => ⟨o', k _ q1, q2⟩⟩
  · rw [upd_ne hb] at e
    have na : ∀ c v, H c = some v → c ≠ a := fun c v q z => by rw [z, hn] at q; cases q
    exact (ok b u e).stay (fun c v hc q => q) (fun c q => by rw [upd_ne (na c _ q)]; exact q) fun c xs q => by rw [upd_ne (na c _ q)]; exact q
theorem Un.exc {fs : List Addr} {H H' : Hp} {h h' : Heap} {a C : Addr} (u : Un fs [] H H' h h') (hn : H' a = none) (hh : h.get? a = none) : Un fs [] H (upd H' a (excO C a)) h h' := by
  have na : ∀ c v, H' c = some v → c ≠ a := fun c v q z => by rw [z, hn] at q; cases q
  refine ⟨u.keep, u.slot, fun b o e n hx => ?_, u.there, fun b xs e => ?_, fun b o x e => ?_, fun b ps e => ?_⟩
  · rw [upd_ne (fun z => by rw [z, hh] at e; cases e)]; exact u.free b o e n hx
  · have := u.tups b xs e; rw [upd_ne (na _ _ this)]; exact this
  · have := u.frzs b o x e; rw [upd_ne (na _ _ this)]; exact this
  · obtain ⟨m, q⟩ := u.tbls b ps e
    exact ⟨m, by rw [upd_ne (na _ _ q)]; exact q⟩
theorem ps_try {X : Cx} {body : List Stmt} {b₀ : Stmt} {suite : List Stmt} {dn n : Str} {np hpos pos : Pos} {D0 : Addr} {i : Nat} {EE : St → XK} {tb th : TS} (K : PySem.W.Frag) (hK : X.K = K) (hN : X.N.Nodup) (hi : X.N[i]? = some n) (hk : X.env.scope.names.lookup n = some .local) (hcalm : X.calm = true)
    (hstk : X.stack = X.env :: X.outer) (hfr : X.env.frame = some X.env.locals) (hm : X.mg dn = some (.ref D0)) (hD : ExcIn K D0) (hB : PySem.W.mroIn K D0 (.type "BaseException") = some true)
    (hbody : ∀ pn, PSs ((X.pinned pn).wish (Wx (X.pinned pn) EE)) body tb) (hh : ∀ a, PSs (X.exc a) (b₀ :: suite) th) (hg : Gl X dn := by rfl) (hd : (dn == ("__debug__" : Str)) = false := by decide) :
    PS X (.Try body [.ExceptHandler (some (.Name dn np)) (some n) (b₀ :: suite) hpos] [] [] pos) (tTry K D0 i EE tb th) := by
  intro pins s σ H D I h
  subst hK
  obtain ⟨hb, hx⟩ := h
  refine wpAny_Try_except (wpAny_mono (hbody (X.pn ++ pins) [] s σ H D (I.toPinned.wish _) hb) (fun f s1 q => ?_) fun e s1 q => ?_)
  · have q' := SP.ofPinned q
    cases f with
    | next => exact wpAny_execs_nil q'
    | brk => exact q'
    | cont => exact q'
    | ret u => exact q'
  · obtain ⟨pins', σ1, H1', s', I', a, C, a0, B, H1, rfl, F, qE⟩ := q
    have J0 : Inv X pins σ1 H1' s' := I'.ofPinned
    have hfl : Heap.FlyingW B (X.env :: X.outer) a (.ref C) a0 s1.heap := by rw [← hstk]; exact F.fl
    have hAf : X.A.frames = some (X.env :: X.outer) := by rw [← hstk]; exact I.ok.frames
    refine wpAny_looks_onW hAf hfr hfl fun h4 held4 sm4 => ?_
    refine wpAny_landsW held4 fun h5 fl5 sm5 => ?_
    have hna : H1 a = none := by
      cases q : H1 a with
      | none => rfl
      | some u =>
        obtain ⟨o, ho⟩ := F.cov2 a (by rw [q]; simp)
        rw [F.fl.2.1] at ho
        cases ho
    obtain ⟨hC, hsub, hth⟩ := hx σ1 C a H1 qE hna
    have un5 : Un (frs X.stack) [] H1' H1 s'.heap h5 := Un.fly0 F.un F.fl.2.2.1 (sm4.trans sm5) fl5.1 F.cov
    have hok5 : HOk X.prog X.w H1 h5 := F.hok.stays F.cov2 F.fl.1 fl5.1
    have J5 : Inv X pins σ1 H1 { s1 with heap := h5 } := J0.call' (s' := { s1 with heap := h5 }) F.os un5 hok5 F.bare fun b z => absurd z (by simp)
    obtain ⟨ob, hob, hobc⟩ := fl5.there
    refine wpAny_handleBy_cons (codeAny_handlers_test (ld_glob (X := X.exc a) (J5.exc a) hg hm ?_ hd)) (by intro q; cases q)
    refine wpAny_excMatches_sub_ref (s := { s1 with heap := h5 }) J5.kIn hC hD hob hobc hB hsub ?_
    refine codeAny_handlers_suite_as ?_
    refine lands_againW (s := { s1 with heap := h5 }) fl5 fun h6 fl6 sm6 => ?_
    have un6 : Un (frs X.stack) [] H1' H1 s'.heap h6 := Un.fly0 F.un F.fl.2.2.1 ((sm4.trans sm5).trans sm6) fl6.1 F.cov
    have hok6 : HOk X.prog X.w H1 h6 := F.hok.stays F.cov2 F.fl.1 fl6.1
    have J6 : Inv X pins σ1 (upd H1 a (excO C a)) { s1 with heap := h6 } := J0.call' (s' := { s1 with heap := h6 }) F.os (un6.exc hna F.new) (hok_exc hok6 hna fl6.there) F.bare fun b z => absurd z (by simp)
    refine store_ok (X := X.exc a) (J6.exc a) hN hi (.inl hk) (v := .ref a) rfl (fun s7 J7 => ?_) (.inr hk)
    refine wpAny_mono (hh a pins s7 _ _ _ J7 hth) (fun f s8 q8 => ?_) fun e s8 q8 => q8.elim
    show wpAny _ X.A _ _ _ s8
    cases f with
    | next =>
      obtain ⟨σ', H', I8, q⟩ := q8
      exact Inv.goes (I8.unexc J5.ok) hN hi hk fun s9 J9 => ⟨_, _, J9, q⟩
    | brk =>
      obtain ⟨σ', H', I8, q⟩ := q8
      exact Inv.goes (I8.unexc J5.ok) hN hi hk fun s9 J9 => ⟨_, _, J9, q⟩
    | cont =>
      obtain ⟨σ', H', I8, q⟩ := q8
      exact Inv.goes (I8.unexc J5.ok) hN hi hk fun s9 J9 => ⟨_, _, J9, q⟩
    | ret u =>
      obtain ⟨v, σ', H', I8, r, q⟩ := q8
      exact Inv.goes (I8.unexc J5.ok) hN hi hk fun s9 J9 => ⟨v, _, _, J9, r, q⟩
end L2
namespace L2
open PySem PySem.Spec PyProof.Rows PySem.W Builtin Builtin.ObjectAttr Builtin.Getset_descriptor
theorem class_get' {prog : Program} {w : World} {A : Around} {s : Shared} {K : Frag} {x C : Addr} {ox : Obj} {tp : Value} {R : Result → Shared → Prop} (X : K.In s.heap) (hx : s.heap.get? x = some ox) (hc : ox.cls = .ref C) (hm : mroIn K C (.type "object") = some true)
    (h : R (.ok (.ret (.ref C))) s) : codeAny (model prog w) A (.call (.builtin "getset_descriptor.__get__") ⟨[.builtin "object.__class__", .ref x, tp], []⟩) R s := by
  obtain ⟨hh, g, dr, t, os⟩ := s
  have L0 : Looks (model prog w) hh (typeOf (.ref x)) (.ref C) := hc ▸ (Looks.ld hx).andThen .now
  have L1 := looks_mroIn (M := model prog w) X hm
  refine codeAny_call_builtin KF.slot_gs.plain KF.entry_gs (KF.slot_gs.check _ _ _ _ _ _ _ _ KF.type_class (KF.args_gs _ _ _) ?_)
  unfold Builtin.«getset_descriptor.__get__» descrGet
  rw [dga_obj]
  refine wpAny_bind (wpAny_pure ?_)
  unfold descrGetter descrCheckInstance descrNameAndClass isInstance
  simp only [KF.owner_class]
  repeat lk
  refine ⟨Code.quiet_builtin _ (by decide +kernel), codeAny_builtin KF.entry_class ?_⟩
  unfold Builtin.«object.__class__» shownTypeOf
  repeat lk
  exact h
theorem class_entry {prog : Program} {w : World} {A : Around} {s : Shared} {K : Frag} {x C : Addr} {ox : Obj} {tk : Tok} {Q : Fin → Shared → Prop} {E : Value → Shared → Prop} (X : K.In s.heap) (hx : s.heap.get? x = some ox) (hc : ox.cls = .ref C) (hm : mroIn K C (.type "object") = some true)
    (hcl : findIn K (.ref C) "__class__" = some (some (.builtin "object.__class__"))) (hn : specialIn K (.builtin "object.__class__") "__get__" = some (some (.builtin "getset_descriptor.__get__"))) (htk : takesIn K (.builtin "object.__class__") = some true)
    (h : Q (.done (.ret (.ref C))) s) : wpAny (model prog w) A (Builtin.«object.__getattribute__» ⟨[.ref x, .str "__class__" tk], []⟩) Q E s := by
  obtain ⟨hh, g, dr, t, os⟩ := s
  have L0 : Looks (model prog w) hh (typeOf (.ref x)) (.ref C) := hc ▸ (Looks.ld hx).andThen .now
  have L3 := looks_findIn (M := model prog w) X hcl
  have hT5 : (⟨hh, g, dr, t, os⟩ : Shared).TypeIs (.builtin "object.__class__") "getset_descriptor" := KF.type_class
  have f5 := KF.type_class
  have f6 := F.slot_gs_get.lookup
  have f7 := F.slot_gs_set.lookup
  repeat (any_goals (first | assumption | with_reducible refine Looks.at L0 ?_ | with_reducible refine Looks.at L3 ?_ | wp_step))
  refine class_get' X hx hc hm ?_
  exact wpAny_pure h
theorem check_ga_exc {M : Model} {A : Around} {E : Value → Shared → Prop} {s : Shared} {K : Frag} {a C : Addr} {o : Obj} {nameV : Value} {Q : Unit → Shared → Prop} (X : K.In s.heap) (hE : ExcIn K C) (hB : mroIn K C (.type "BaseException") = some true) (hx : s.heap.get? a = some o) (hc : o.cls = .ref C) (hq : Q () s) :
    wpAny M A (checkBuiltinCall "BaseException.__getattribute__" ⟨[.ref a, nameV], []⟩) Q E s := by
  obtain ⟨h, g, d, t, os⟩ := s
  obtain ⟨bm, N, nm, qn, bs, hdct, sn, sub, ab, col, dd, k0, k1, k2, k3, k5, mN, hC, hN, hni, TL, hmro⟩ := exc_obj X hE
  have hk : builtinKind "BaseException.__getattribute__" = some .slot := by decide +kernel
  have hsplit : splitId "BaseException.__getattribute__" = some ("BaseException", "__getattribute__") := by decide +kernel
  have hcB := hmro _ _ hB
  have ha := F.args_bexc_ga (.ref a) nameV
  simp only [checkBuiltinCall, hk, hsplit]
  refine wpAny_bind ?_
  · unfold isInstance
    repeat (first | (with_reducible refine wpAny_loadPart_at hx ?_; rw [hc]) | (with_reducible refine wpAny_isSubtype_exc hC ?_; rw [hcB]) | wp_step)
    exact hq
theorem exc_class {prog : Program} {w : World} {A : Around} {E : Value → Shared → Prop} {s : Shared} {K : Frag} {a C : Addr} {o : Obj} {Q : Option Value → Shared → Prop} (X : K.In s.heap) (hE : ExcIn K C) (hB : mroIn K C (.type "BaseException") = some true) (hm : mroIn K C (.type "object") = some true)
    (hga : findIn K (.ref C) "__getattribute__" = some (some (.builtin "BaseException.__getattribute__"))) (hgn : findIn K (.ref C) "__getattr__" = some none)
    (hcl : findIn K (.ref C) "__class__" = some (some (.builtin "object.__class__"))) (hn : specialIn K (.builtin "object.__class__") "__get__" = some (some (.builtin "getset_descriptor.__get__"))) (htk : takesIn K (.builtin "object.__class__") = some true)
    (hx : s.heap.get? a = some o) (hc : o.cls = .ref C) (h : Q (some (.ref C)) { s with toks := s.toks + 1 }) : wpAny (model prog w) A (getAttr? (.ref a) "__class__") Q E s := by
  obtain ⟨hh, g, d, t, os⟩ := s
  have L0 : Looks (model prog w) hh (typeOf (.ref a)) (.ref C) := hc ▸ (Looks.ld hx).andThen .now
  have L1 := looks_findIn (M := model prog w) X hga
  have L2 := looks_findIn (M := model prog w) X hgn
  have FB := F.attr_ValueError
  have f3 := FB.ga.bind (.ref a)
  have hx2 : (Value.builtin "BaseException.__getattribute__" == Value.builtin "object.__getattribute__") = false := by decide +kernel
  have hx1 : (onTheHeap (Value.ref C) && Value.builtin "BaseException.__getattribute__" == Value.builtin "object.__getattribute__") = false := by rw [hx2]; rfl
  unfold getAttr? getAttrBy?
  refine wpAny_bind (wpAny_mkText (wpAny_bind (wpAny_attempt ?_)))
  have hx0 : ∀ expr : Bool, (expr && onTheHeap (Value.builtin "BaseException.__getattribute__")) = false := fun expr => by cases expr <;> rfl
  unfold getAttrBy
  repeat (any_goals (first | assumption | with_reducible refine Looks.at L0 ?_ | with_reducible refine Looks.at L1 ?_ | with_reducible refine Looks.at L2 ?_ | wp_step))
  refine codeAny_call_builtin FB.ga.plain F.entry_bexc_ga (check_ga_exc (s := ⟨hh, g, d, t + 1, os⟩) X hE hB hx hc (class_entry (s := ⟨hh, g, d, t + 1, os⟩) X hx hc hm hcl hn htk ?_))
  repeat (any_goals (first | assumption | wp_step))
theorem kitx_exc {K : Frag} {a C : Addr} (hE : ExcIn K C) (hB : mroIn K C (.type "BaseException") = some true) (hm : mroIn K C (.type "object") = some true)
    (hga : findIn K (.ref C) "__getattribute__" = some (some (.builtin "BaseException.__getattribute__"))) (hgn : findIn K (.ref C) "__getattr__" = some none)
    (hcl : findIn K (.ref C) "__class__" = some (some (.builtin "object.__class__"))) (hn : specialIn K (.builtin "object.__class__") "__get__" = some (some (.builtin "getset_descriptor.__get__"))) (htk : takesIn K (.builtin "object.__class__") = some true) :
    KitX K (.ref a) (.ref C) (fun h => ∃ o, h.get? a = some o ∧ o.cls = .ref C) where
  ty := fun M h X p => by
    obtain ⟨o, hx, hc⟩ := p
    exact hc ▸ (Looks.ld hx).andThen .now
  it := fun M h X p => by
    obtain ⟨bm, N, nm, qn, bs, hdct, sn, sub, ab, col, dd, k0, k1, k2, k3, k5, mN, hC, hN, hni, TL, hmro⟩ := exc_obj X hE
    intro A' Q' E' s' k q
    unfold isType loadHead
    exact wpAny_bind (wpAny_loadPart (k _ _ hC) (wpAny_pure q))
  ne := fun h tp dd' its n sl X htp => by
    obtain ⟨bm, N, nm, qn, bs, hdct, sn, sub, ab, col, dd, k0, k1, k2, k3, k5, mN, hC, hN, hni, TL, hmro⟩ := exc_obj X hE
    refine Bool.eq_false_iff.mpr fun q => ?_
    cases beq_iff_eq.mp q
    rw [hC] at htp
    have z := congrArg Obj.data (Option.some.inj htp)
    cases z
  ca := fun X p k => by
    obtain ⟨o, hx, hc⟩ := p
    exact exc_class X hE hB hm hga hgn hcl hn htk hx hc k
structure ExcC (K : Frag) (C : Addr) : Prop where
  ex : ExcIn K C
  be : mroIn K C (.type "BaseException") = some true
  ob : mroIn K C (.type "object") = some true
  ga : findIn K (.ref C) "__getattribute__" = some (some (.builtin "BaseException.__getattribute__"))
  gn : findIn K (.ref C) "__getattr__" = some none
  cl : findIn K (.ref C) "__class__" = some (some (.builtin "object.__class__"))
  sg : specialIn K (.builtin "object.__class__") "__get__" = some (some (.builtin "getset_descriptor.__get__"))
  tk : takesIn K (.builtin "object.__class__") = some true
theorem call_isinstX {X : Cx} (K : Frag) (h : X.K = K := by rfl) : CallR X (.builtin "isinstance") (fun xs H Q => ∃ a c C b, xs = [.ref a, c] ∧ (∀ u, RelV c u → u = clsV c) ∧ H a = some (excO C a) ∧ ExcC K C ∧ kitOne K (.ref C) (clsV c) = some b ∧ Q (.bl b) H) := by
  subst h
  intro pins s σ H xs us Q I r h
  obtain ⟨a, c, C, b, rfl, hcv, ha, hC, e, q⟩ := h
  obtain ⟨u, u', rfl, r1, r2⟩ := r.two
  obtain rfl := hcv u' r2
  cases r1
  obtain ⟨φ, _, _⟩ := (show ObjOk X.prog X.w H s.heap a (excO C a) from I.hok a _ ha)
  exact kia_one (kitx_exc hC.ex hC.be hC.ob hC.ga hC.gn hC.cl hC.sg hC.tk) I.kIn φ e (fun z => nomatch z) fun tk => ⟨.bl b, H, I.tok tk, rfl, q⟩
end L2
namespace L2
open PySem PySem.Spec PyProof.Rows
section
variable {prog : Program} {w : World} {A : Around} {I : Addr} {fp wr : List Addr} {G : Array GenState → Array GenState → Prop} {n : Nat} {P : Nat → Value → Prop} {St : Nat → Shared → Prop} {R : Result → Shared → Prop}
end
section
variable {prog : Program} {w : World} {A : Around} {E : Value → Shared → Prop} {s : Shared}
end
end L2
namespace Att
open PySem PySem.W PySem.Calls PyProof.Rows
end Att
namespace L2
open PySem PySem.Spec PyProof.Rows
end L2
namespace L2
open PySem PySem.Spec PyProof.Rows
theorem call_minL {X : Cx} (hc : X.calm = true) : CallR X (.builtin "min") (fun xs H Q => ∃ (p : Addr) (ns : List Int), xs = [.ref p] ∧ SqL X.K H p (ns.map V.int) ∧ 0 < ns.length ∧ ∀ M, M ∈ ns → (∀ a, a ∈ ns → M ≤ a) → Q (.int M) H) := by
  intro pins s σ H xs us Q I r h
  obtain ⟨p, ns, rfl, hq, hne, q⟩ := h
  obtain ⟨u, rfl, r1⟩ := r.one
  cases r1
  obtain ⟨its, rv, pl, hz⟩ := I.list hq
  have hi : IntsAre its.toArray.toList ns := intsAre_of rv
  obtain ⟨ys, e⟩ := hi.allInts.items
  have hns : ns = ys.toList.map (·.1) := by rw [← hi.numsOf, ← nums_intItems, ← e]
  have hsz : 0 < ys.size := by have h3 := hne; rw [hns, List.length_map, Array.length_toList] at h3; exact h3
  have hl : s.heap.IsList p its.toArray := pl.isList
  have e' : its.toArray = intItems ys := by simpa using e
  rw [e'] at hl
  refine min_intList (I.ok.hd hc) hl hsz fun v h' tk hv hk => ?_
  obtain ⟨t, rfl⟩ := intItems_at hv
  obtain ⟨h1, h2⟩ := argBest_lt (numAt ys) (ys.size - 1)
  refine ⟨.int _, H, I.kept hk, ⟨_, rfl⟩, q _ ?_ fun a ha => ?_⟩
  · rw [hns, numAt_eq]; exact getD_mem (by rw [List.length_map, Array.length_toList]; omega)
  · rw [hns] at ha
    obtain ⟨j, hj, rfl⟩ := mem_getD ha
    rw [List.length_map, Array.length_toList] at hj
    rw [← numAt_eq]; exact h2 j (by omega)
theorem call_maxL {X : Cx} (hc : X.calm = true) : CallR X (.builtin "max") (fun xs H Q => ∃ (p : Addr) (ns : List Int), xs = [.ref p] ∧ SqL X.K H p (ns.map V.int) ∧ 0 < ns.length ∧ ∀ M, M ∈ ns → (∀ a, a ∈ ns → a ≤ M) → Q (.int M) H) := by
  intro pins s σ H xs us Q I r h
  obtain ⟨p, ns, rfl, hq, hne, q⟩ := h
  obtain ⟨u, rfl, r1⟩ := r.one
  cases r1
  obtain ⟨its, rv, pl, hz⟩ := I.list hq
  have hi : IntsAre its.toArray.toList ns := intsAre_of rv
  obtain ⟨ys, e⟩ := hi.allInts.items
  have hns : ns = ys.toList.map (·.1) := by rw [← hi.numsOf, ← nums_intItems, ← e]
  have hsz : 0 < ys.size := by have h3 := hne; rw [hns, List.length_map, Array.length_toList] at h3; exact h3
  have hl : s.heap.IsList p its.toArray := pl.isList
  have e' : its.toArray = intItems ys := by simpa using e
  rw [e'] at hl
  refine max_intList (I.ok.hd hc) hl hsz fun v h' tk hv hk => ?_
  obtain ⟨t, rfl⟩ := intItems_at hv
  obtain ⟨h1, h2⟩ := argBest_gt (numAt ys) (ys.size - 1)
  refine ⟨.int _, H, I.kept hk, ⟨_, rfl⟩, q _ ?_ fun a ha => ?_⟩
  · rw [hns, numAt_eq]; exact getD_mem (by rw [List.length_map, Array.length_toList]; omega)
  · rw [hns] at ha
    obtain ⟨j, hj, rfl⟩ := mem_getD ha
    rw [List.length_map, Array.length_toList] at hj
    rw [← numAt_eq]; exact h2 j (by omega)
theorem call_minLK {X : Cx} (K : PySem.W.Frag) (hc : X.calm = true) (h : X.K = K := by rfl) : CallR X (.builtin "min") (fun xs H Q => ∃ (p : Addr) (ns : List Int), xs = [.ref p] ∧ SqL K H p (ns.map V.int) ∧ 0 < ns.length ∧ ∀ M, M ∈ ns → (∀ a, a ∈ ns → M ≤ a) → Q (.int M) H) := by subst h; exact call_minL hc
theorem call_maxLK {X : Cx} (K : PySem.W.Frag) (hc : X.calm = true) (h : X.K = K := by rfl) : CallR X (.builtin "max") (fun xs H Q => ∃ (p : Addr) (ns : List Int), xs = [.ref p] ∧ SqL K H p (ns.map V.int) ∧ 0 < ns.length ∧ ∀ M, M ∈ ns → (∀ a, a ∈ ns → a ≤ M) → Q (.int M) H) := by subst h; exact call_maxL hc
end L2
namespace L2
open PySem PySem.Spec PyProof.Rows
section
variable {X : Cx} {pins : List (Addr × Obj)} {s : Shared} {σ : St} {H : Hp}
open Classical in
noncomputable def evD (H : Hp) (ds : List Dt) (e : Dt) (u : Value) : Bool := decide (∃ (d : Dt) (b : Addr), d ∈ ds ∧ u = .ref b ∧ IsD H d (.ref b) ∧ eqD d e = true)
end
end L2
namespace RevT
open PySem PySem.Spec PyProof.Rows
section
variable {prog : Program} {w : World} {A : Around} {E : Value → Shared → Prop} {s : Shared}
def IsRevT (h : Heap) (a t : Addr) (i : Int) : Prop := ∃ o, h.get? a = some o ∧ o.cls = .type "reversed" ∧ o.data = .fields #[.ref t, rawInt i]
end
section
variable {prog : Program} {w : World} {A : Around} {E : Value → Shared → Prop} {s : Shared}
end
end RevT
namespace L2
open PySem PySem.Spec PyProof.Rows
section
variable {X : Cx} {e : Expr} {te : TE} {p1 p2 pos pos2 : Pos}
end
end L2
namespace L2
open PySem PySem.Spec PyProof.Rows Builtin.Str
section
variable {X : Cx}
end
section
variable {X : Cx} {tg : Expr}
end
end L2
namespace L2
open PySem PySem.Spec PyProof.Rows
section
variable {X : Cx} {j k : Nat} {ps : List Str} {sp : Sp} {x m : Str} {C : Addr} {p pos apos : Pos} {o e : Expr} {es : List Expr} {ta : TE} {t : TA} {E : XK}
theorem pass_of (h : Takes X (fun _ => E)) : Passes (CXe X.prog X.w) X E := fun pins σ H s e s' I q => h pins σ H s e s' I q
theorem pe_metX (c : Method X.prog X.w X.K X.mg X.base (CXe X.prog X.w) C m k ps sp) (he : PE X o ta) (hr : Room j X.A) (hx : Takes X (fun _ => E)) (ha : PA X (e :: es) t) {pl : Sem Bool} (hk : k ≤ j := by decide)
    (hst : starEach (e :: es) X.env = (false, eval e X.env) :: starEach es X.env := by rfl) (hpl : (backTo pos (starEach es X.env)).any (·.1) = false := by rfl)
    (ht : eval (.Call (.Attribute o m apos) (e :: es) [] pos) X.env = (do
      let ov ← eval o X.env
      standAt apos.atName
      let (f, first) ← holding [ov] (getMethod ov m pl)
      callWith pos f first (backTo pos (starEach (e :: es) X.env)) (backToKw pos (keywordEach [] X.env))) := by rfl) :
    PE X (.Call (.Attribute o m apos) (e :: es) [] pos) (tMeth C m sp [] E ta t) := by
  obtain ⟨f, fd, hm, hb, F⟩ := c.ex
  exact pe_meth (pl := pl) he c.cl hm F (hr.mono hk) hb .nil (pass_of hx) ha hst hpl ht
theorem pe_met0X (c : Method X.prog X.w X.K X.mg X.base (CXe X.prog X.w) C m k ps sp) (he : PE X o ta) (hr : Room j X.A) (hx : Takes X (fun _ => E)) {pl : Sem Bool} (hk : k ≤ j := by decide)
    (ht : eval (.Call (.Attribute o m apos) [] [] pos) X.env = (do
      let ov ← eval o X.env
      standAt apos.atName
      let (f, first) ← holding [ov] (getMethod ov m pl)
      callWith pos f first (backTo pos (starEach [] X.env)) (backToKw pos (keywordEach [] X.env))) := by rfl) :
    PE X (.Call (.Attribute o m apos) [] [] pos) (tMeth C m sp [] E ta tNil) := by
  obtain ⟨f, fd, hm, hb, F⟩ := c.ex
  exact pe_meth0 (pl := pl) he c.cl hm F (hr.mono hk) hb .nil (pass_of hx) ht
end
end L2
namespace L2
open PySem PySem.Spec PyProof.Rows
open AutoSeq1 (wpAny_loadPart')
section
variable {prog : Program} {w : World} {A : Around} {E : Value → Shared → Prop} {s : Shared}
theorem nextOf_tuple_item {it t : Addr} {i : Nat} {items : Array Value} {x : Value} {Q : Value → Shared → Prop} (hit : s.heap.IsTupleIter it t i) (ht : s.heap.IsTuple t items) (hx : items[i]? = some x)
    (hQ : ∀ h', h'.IsTupleIter it t (i + 1) → Heap.SameBut it s.heap h' → Q x { s with heap := h' }) : wpAny (model prog w) A (Builtin.SmallTypes.nextOf (.ref it)) Q E s := by
  obtain ⟨o, ho, hc, hd⟩ := id hit
  obtain ⟨ol, hol, _, nl, hdl⟩ := ht
  unfold Builtin.SmallTypes.nextOf
  refine wpAny_bind (wpAny_callSpecial?_slot (name := Str.ofString "__next__") hit.typeIs F.slot_tuple_iterator_next
    (wpAny_call_entry F.slot_tuple_iterator_next hit.typeIs F.entry_tuple_iterator_next ?_ (F.args_tuple_iterator_next_1 _)))
  show wpAny _ _ (field (.ref it) 0 >>= _) _ _ s
  refine wpAny_bind (wpAny_field ho hd (x := .ref t) rfl ?_)
  show wpAny _ _ (if (Value.ref t == Value.none) = true then _ else _) _ _ s
  rw [if_neg (show ¬ ((Value.ref t == Value.none) = true) from Bool.false_ne_true)]
  show wpAny _ _ (field (.ref it) 1 >>= _) _ _ s
  refine wpAny_bind (wpAny_field ho hd (x := .int i 0) rfl ?_)
  show wpAny _ _ (seqItems? (.ref t) >>= _) _ _ s
  refine wpAny_bind (wpAny_seqItems hol hdl ?_)
  simp only [Int.toNat_natCast, hx]
  refine wpAny_bind (wpAny_setField ho hd (by simp) (wpAny_pure ⟨x, rfl, wpAny_pure (hQ _ ?_ (Heap.SameBut.update ..))⟩))
  exact ⟨_, Heap.get?_update_self _ ho (Obj.isFreed_of_fields (Obj.data_mapFields hd _)), (Obj.cls_mapFields ..).trans hc, by
    rw [Obj.data_mapFields hd]; simp [rawInt]⟩
theorem nextOf_tuple_end {it t : Addr} {i : Nat} {items : Array Value} {Q : Value → Shared → Prop} (hh : A.handled = none) (hit : s.heap.IsTupleIter it t i) (ht : s.heap.IsTuple t items) (hx : items[i]? = none)
    (hE : ∀ h' e, Heap.ExtBut it s.heap h' → (∃ o, h'.get? e = some o ∧ o.cls = .type "StopIteration") → E (.ref e) { s with heap := h' }) : wpAny (model prog w) A (Builtin.SmallTypes.nextOf (.ref it)) Q E s := by
  obtain ⟨o, ho, hc, hd⟩ := id hit
  obtain ⟨ol, hol, _, nl, hdl⟩ := ht
  unfold Builtin.SmallTypes.nextOf
  refine wpAny_bind (wpAny_callSpecial?_slot (name := Str.ofString "__next__") hit.typeIs F.slot_tuple_iterator_next
    (wpAny_call_entry F.slot_tuple_iterator_next hit.typeIs F.entry_tuple_iterator_next ?_ (F.args_tuple_iterator_next_1 _)))
  show wpAny _ _ (field (.ref it) 0 >>= _) _ _ s
  refine wpAny_bind (wpAny_field ho hd (x := .ref t) rfl ?_)
  show wpAny _ _ (if (Value.ref t == Value.none) = true then _ else _) _ _ s
  rw [if_neg (show ¬ ((Value.ref t == Value.none) = true) from Bool.false_ne_true)]
  show wpAny _ _ (field (.ref it) 1 >>= _) _ _ s
  refine wpAny_bind (wpAny_field ho hd (x := .int i 0) rfl ?_)
  show wpAny _ _ (seqItems? (.ref t) >>= _) _ _ s
  refine wpAny_bind (wpAny_seqItems hol hdl ?_)
  simp only [Int.toNat_natCast, hx]
  refine wpAny_bind (wpAny_rule (wpAny_bind (wpAny_setField ho hd (by simp) ?_)))
  show wpAny _ _ (newExc (.type "StopIteration") [] >>= _) _ _ _
  refine wpAny_bind ?_
  simp only [newExc, newTuple]
  refine wpAny_bind (wpAny_newObj_type ?_ (by size_fits))
  refine wpAny_bind (m := firstArgMember _ _) (wpAny_of_eq (a := Value.none) (by first | rfl | (simp only [firstArgMember]; rfl)) ?_)
  refine wpAny_newObj_type ?_ (by size_fits)
  simp only [raiseNew]
  refine wpAny_bind (wpAny_handled ?_)
  first | rw [show A.in1.handled = none from hh] | rw [hh]
  refine wpAny_bind (wpAny_pure (wpAny_throw ?_))
  exact hE _ _ (((Heap.SameBut.update ..).extBut.push _).push _) ⟨_, Heap.get?_push_size _ rfl, rfl⟩
theorem draws_tuple (hh : A.handled = none) (it t : Addr) (hne : t ≠ it) (items : Array Value) :
    Draws prog w A it [it, t] items.size (fun i v => items[i]? = some v) (fun i h => h.IsTupleIter it t i ∧ h.IsTuple t items) where
  live := fun _ _ st => let ⟨o, ho, _⟩ := st.1; ⟨o, ho⟩
  frame := fun _ _ _ st hk => ⟨st.1.at fun o e => hk it (by simp) o e, by obtain ⟨o, ho, r⟩ := st.2; exact ⟨o, hk t (by simp) o ho, r⟩⟩
  item := fun i s Q E hi st hQ => by
    refine nextOf_tuple_item st.1 st.2 (x := items[i]) (by simp [hi]) fun h' hit' hs' => ?_
    exact hQ _ h' s.toks (by simp [hi]) ⟨hit', st.2.extBut hs'.extBut hne⟩ hs'
  done := fun s Q E st hE => nextOf_tuple_end hh st.1 st.2 (by simp) hE
theorem meets_enumerate_newT (l : Addr) (items : Array Value) (n : Nat) (dct : Option Addr) (sl : Array (Option Value)) :
    Meets (Builtin.«enumerate.__new__» ⟨[.type "enumerate", .ref l], []⟩) (fun _ R s => s.heap.get? l = some { cls := .type "tuple", dict := dct, data := .seq items n, slots := sl } ∧
      R (.ok (.ret (.ref (s.heap.push { cls := .type "tuple_iterator", data := .fields #[.ref l, .int 0 0] }).objs.size)))
        { s with heap := (s.heap.push { cls := .type "tuple_iterator", data := .fields #[.ref l, .int 0 0] }).push { cls := .type "enumerate", data := .fields #[.none, .bool false, .ref s.heap.objs.size, rawInt 0, .none, .none] } }) :=
  .of_wp fun prog w A R s h => by
    obtain ⟨hp, g, d, tk, os⟩ := s; obtain ⟨hl, h⟩ := h
    have hsub := sub_enumerate
    have hL : Heap.IsTuple (Shared.heap ⟨hp, g, d, tk, os⟩) l items := ⟨_, hl, rfl, n, rfl⟩
    wp_walk using wpAny_loadPart' hl
    refine wpAny_stack_any fun st => wpAny_pure ?_
    split
    · rename_i c _ _ _ _ _
      cases (c == Value.type "enumerate")
      · wp_walk using wpAny_loadPart' hl, wpAny_pyIter_tuple hL
        exact ⟨_, rfl, h⟩
      · wp_walk using wpAny_loadPart' hl, wpAny_pyIter_tuple hL
        exact ⟨_, rfl, h⟩
    · wp_walk using wpAny_loadPart' hl, wpAny_pyIter_tuple hL
      exact ⟨_, rfl, h⟩
theorem call_enumerate_tuple {l : Addr} {items : Array Value} {Q : Value → Shared → Prop} (hL : s.heap.IsTuple l items)
    (h : ∀ h', IsEnum h' (s.heap.objs.size + 1) s.heap.objs.size 0 .none → h'.IsTupleIter s.heap.objs.size l 0 → h'.objs.size = s.heap.objs.size + 2 →
      (∀ b o, s.heap.get? b = some o → h'.get? b = some o) → Q (.ref (s.heap.objs.size + 1)) { s with heap := h' }) :
    wpAny (model prog w) A (call (.type "enumerate") [.ref l]) Q E s := by
  obtain ⟨⟨c, dct, dt, sl⟩, hl, hc, n, hd⟩ := hL
  replace hc : c = .type "tuple" := hc
  replace hd : dt = .seq items n := hd
  subst hc hd
  refine callType_new F.called_enumerate (by decide) (F.typeCall_enumerate_1 _) (F.newCall_enumerate_1 _) (fun obj => F.args_object_init_2 obj _) F.entry_enumerate_new
    (meets_enumerate_newT l items n dct sl) ⟨hl, ?_⟩
  have hz : (s.heap.push { cls := .type "tuple_iterator", data := .fields #[.ref l, .int 0 0] }).objs.size = s.heap.objs.size + 1 := Heap.size_push ..
  show _ ∧ _
  rw [hz]
  have he : IsEnum ((s.heap.push { cls := .type "tuple_iterator", data := .fields #[.ref l, .int 0 0] }).push
      { cls := .type "enumerate", data := .fields #[.none, .bool false, .ref s.heap.objs.size, rawInt 0, .none, .none] }) (s.heap.objs.size + 1) s.heap.objs.size 0 .none := by
    have := Heap.get?_push_size (s.heap.push { cls := .type "tuple_iterator", data := .fields #[.ref l, .int 0 0] })
      (o := { cls := .type "enumerate", data := .fields #[.none, .bool false, .ref s.heap.objs.size, rawInt 0, .none, .none] }) rfl
    rw [hz] at this; exact this
  refine ⟨⟨_, he, rfl⟩, h _ he ⟨_, Heap.get?_push_of_some _ (Heap.get?_push_size _ rfl), rfl, rfl⟩ (by rw [Heap.size_push, hz]) fun b o x => Heap.get?_push_of_some _ (Heap.get?_push_of_some _ x)⟩
end
def Itet (K : PySem.W.Frag) (a : Addr) : It :=
  ⟨fun i H => ∃ xs x, SqT K H a xs ∧ xs[i]? = some x,
   fun i H v H' => ∃ p x, v = .ref p ∧ H p = none ∧ H' = upd H p (.tup [.int i, x]) ∧ ∀ xs, SqT K H a xs → xs[i]? = some x,
   fun i H => ∃ xs, SqT K H a xs ∧ xs.length = i⟩
theorem turn_enumT {P : Program} {w : World} {K : PySem.W.Frag} {elts : List Expr} {x1 : Nat} {pos : Pos} {e it l : Addr} (hei : e ≠ it) (hli : l ≠ it) (hel : e ≠ l) :
    Turn P w K (.Tuple elts x1 pos) (Itet K l) [e, it] e (fun i h => (∃ old, IsEnum h e it i old) ∧ h.IsTupleIter it l i) where
  mem := by simp
  obj := fun i h st b hb => by
    obtain ⟨⟨old, h1⟩, ⟨o4, e4, c4, d4⟩⟩ := st
    have hb' : b = e ∨ b = it := by simpa using hb
    rcases hb' with q | q <;> subst q
    · exact ⟨_, h1, fun v q => by
        have q' : Data.fields _ = Data.cell v := q
        cases q'⟩
    · exact ⟨o4, e4, fun v q => by rw [d4] at q; cases q⟩
  keep := fun i h h' st k => by
    obtain ⟨⟨old, h1⟩, h4⟩ := st
    exact ⟨⟨old, k e (by simp) _ h1⟩, h4.at fun o q => k it (by simp) o q⟩
  item := by
    intro X hP hw hK hc i pins s σ H E I hf st hg
    subst hP hw hK
    obtain ⟨xs, x, hq1, hx⟩ := hg
    obtain ⟨its1, rv1, p1, hz1⟩ := I.tuple hq1
    obtain ⟨u1, hu1, ru1⟩ := rv1.get hx
    obtain ⟨⟨old, h1⟩, h4⟩ := st
    have n1 : e ≠ s.heap.objs.size := Nat.ne_of_lt (Heap.lt_size h1)
    have n4 : it ≠ s.heap.objs.size := by obtain ⟨o, q, _⟩ := id h4; exact Nat.ne_of_lt (Heap.lt_size q)
    have hlt : i < its1.toArray.size := by have := (List.getElem?_eq_some_iff.mp hu1).1; simpa using this
    refine wpAny_pyNext_enum_itemD (draws_tuple (show X.A.in1.handled = none from I.ok.hd hc) it l hli its1.toArray) h1 ⟨h4, (show s.heap.IsTuple l its1.toArray from p1)⟩ hlt hei (by simp [hei, hel]) fun x' h' tk hx' ho hit' hT hsz hk => ?_
    have hx2 : x' = u1 := by
      have : its1[i]? = some x' := by simpa using hx'
      rw [hu1] at this
      exact (Option.some.inj this).symm
    subst hx2
    have I1 : Inv X pins σ (upd H s.heap.objs.size (.tup [.int i, x])) { s with heap := h', toks := tk + 1 } := I.turnedL (t' := tk + 1) (ch := [e, it]) (fun b o hb q => hk b o (fun z => hb (by simp [z])) (fun z => hb (by simp [z])) q) hf (Nat.le_refl _)
      ⟨by show 2 ≤ sizeLine; decide, [_, x'], .cons ⟨_, rfl⟩ (.cons ru1 .nil), ⟨_, hT, rfl, _, rfl⟩⟩
    have hf1 : ∀ b ∈ [e, it], FpOk X pins (upd H s.heap.objs.size (.tup [.int i, x])) b := fun b hb => (hf b hb).upd (by
      have hb' : b = e ∨ b = it := by simpa using hb
      rcases hb' with q | q <;> subst q
      · exact n1
      · exact n4)
    refine ⟨_, rfl, wpAny_letOwnedTupleGo_enum (s := { s with heap := h', toks := tk + 1 }) ho fun h2' he' sb => ?_⟩
    have I2 : Inv X pins σ (upd H s.heap.objs.size (.tup [.int i, x])) { s with heap := h2', toks := tk + 1 } := I1.turnedS (s := { s with heap := h', toks := tk + 1 }) (t' := tk + 1) (ch := [e, it]) (fun b o hb q => (sb.2 b fun z => hb (by simp [z])).trans q) hf1
    exact ⟨.ref s.heap.objs.size, _, I2, rfl, ⟨_, x, rfl, I.hok.fresh (Nat.le_refl _), rfl, fun zs hz => by rw [I.tuple_inj hz hq1]; exact hx⟩,
      ⟨⟨_, by simpa using he'⟩, hit'.1.at fun o q => (sb.2 _ hei.symm).trans q⟩, fun b hb => (hf1 b hb).1⟩
  done := by
    intro X hP hw hK hc i pins s σ H E I hf st hg
    subst hP hw hK
    obtain ⟨xs, hq1, hend⟩ := hg
    obtain ⟨its1, rv1, p1, hz1⟩ := I.tuple hq1
    obtain ⟨⟨old, h1⟩, h4⟩ := st
    have hl1 := rv1.length
    have hi : i = its1.toArray.size := by simp; omega
    exact wpAny_pyNext_enum_endD (draws_tuple (show X.A.in1.handled = none from I.ok.hd hc) it l hli its1.toArray) h1 ⟨hi ▸ h4, (show s.heap.IsTuple l its1.toArray from p1)⟩ fun h' eb => ⟨rfl, I.turnedS (t' := s.toks) (ch := [e, it]) (fun b o hb q => eb b o (fun z => hb (by simp [z])) q) hf⟩
  self := fun _ _ _ _ _ st h => by
    obtain ⟨⟨old, h1⟩, _⟩ := st
    exact wpAny_pyIter_enum h1 h
section
variable {X : Cx} {elts : List Expr} {x1 : Nat} {pos : Pos}
def iEnumT (K : PySem.W.Frag) (ta : TA) : TI := fun σ H R => ta σ H fun vs H1 => ∃ a, vs = [.ref a] ∧ (∃ xs, SqT K H1 a xs) ∧ R (Itet K a) H1
theorem pi_enumTK (K : PySem.W.Frag) {a : Expr} {ta : TA} {p q : Pos} (hg : Gl X "enumerate") (hm : X.mg "enumerate" = none) (ha : PA X [a] ta) (hK : X.K = K := by rfl) (hs : starEach [a] X.env = [(false, eval a X.env)] := by rfl) :
    PI X (.Tuple elts x1 pos) (.Call (.Name "enumerate" p) [a] [] q) (iEnumT K ta) := by
  subst hK
  intro pins s σ H R I h
  refine Call_ (ld_blt I hg hm bt_enumerate (PyProof.Rows.callWith_type1 (thn (ha q pins s σ H _ I h) fun us s1 ⟨vs, H1, I1, r1, q1⟩ => ?_) hs rfl))
  obtain ⟨l1, e, ⟨xs, hx⟩, q⟩ := q1
  subst e
  cases r1 with
  | cons r rr =>
    cases rr
    cases r
    obtain ⟨its1, rv1, p1, hz1⟩ := I1.tuple hx
    have p1' : s1.heap.IsTuple l1 its1.toArray := p1
    have n1 : @LT.lt Nat _ l1 s1.heap.objs.size := by obtain ⟨o, e, _⟩ := id p1'; exact Heap.lt_size e
    refine call_enumerate_tuple p1' fun h' a1 a2 a3 a4 => ?_
    refine wpAny_pyIter_enum (s := { s1 with heap := h' }) a1 ?_
    have I2 : Inv X pins σ H1 { s1 with heap := h' } := I1.kept (t' := s1.toks) a4
    refine ⟨_, _, _, _, H1, rfl, I2, turn_enumT (by show (_ : Nat) ≠ (_ : Nat); omega) (Nat.ne_of_lt n1) (Nat.ne_of_gt (Nat.lt_succ_of_lt n1)), ⟨⟨_, a1⟩, a2⟩, fun b hb => ?_, q⟩
    have hb' : b = s1.heap.objs.size + 1 ∨ b = s1.heap.objs.size := by simpa using hb
    have hb2 : s1.heap.objs.size ≤ b := by rcases hb' with q | q <;> rw [q] <;> first | exact Nat.le_refl _ | exact Nat.le_add_right _ _
    exact I1.fpOk hb2 (I1.hok.fresh hb2)
end
theorem for_enumT {K : PySem.W.Frag} {a : Addr} {xs : List V} {g : TG} {tb : TS} {D : Ends} {σ : St} {H : Hp} (Pv : Nat → St → Hp → Prop) (h0 : Pv 0 σ H) (hk : ∀ i σ H, i ≤ xs.length → Pv i σ H → SqT K H a xs)
    (hs : ∀ i x σ H p, xs[i]? = some x → Pv i σ H → H p = none → g (.ref p) σ (upd H p (.tup [.int i, x])) fun σ2 H2 => tb { D with nx := Pv (i + 1), ct := Pv (i + 1), bk := D.nx } σ2 H2) (hd : ∀ σ H, Pv xs.length σ H → D.nx σ H) :
    ∃ W : Nat → Nat → St → Hp → Prop, (∃ m, W 0 m σ H) ∧ ∀ i m σ H, W i m σ H →
      ((Itet K a).stop i H ∧ D.nx σ H) ∨ ((Itet K a).go i H ∧ ∃ N : St → Hp → Prop, (∀ σ' H', N σ' H' → ∃ m', m' < m ∧ W (i + 1) m' σ' H') ∧ ∀ x H', (Itet K a).yld i H x H' → g x σ H' fun σ2 H2 => tb { D with nx := N, ct := N, bk := D.nx } σ2 H2) := by
  refine ⟨fun i m σ H => m = xs.length - i ∧ i ≤ xs.length ∧ Pv i σ H, ⟨xs.length, by simp, Nat.zero_le _, h0⟩, ?_⟩
  rintro i m σ H ⟨rfl, hi', p⟩
  have hq := hk i σ H hi' p
  by_cases hlt : i < xs.length
  · refine .inr ⟨⟨xs, _, hq, List.getElem?_eq_getElem hlt⟩, Pv (i + 1), fun σ' H' p' => ⟨xs.length - (i + 1), by omega, rfl, hlt, p'⟩, fun x H' y => ?_⟩
    obtain ⟨q, z, rfl, hn, rfl, hz⟩ := y
    exact hs i z σ H q (hz xs hq) p hn
  · have e : i = xs.length := by omega
    subst e
    exact .inl ⟨⟨xs, hq, rfl⟩, hd σ H p⟩
end L2
namespace L2
open PySem PySem.Spec PyProof.Rows
theorem for_rangeL {lo : Int} {n : Nat} {g : TG} {tb : TS} {D : Ends} {σ : St} {H : Hp} (Pv : Nat → St → Hp → Prop) (h0 : Pv 0 σ H)
    (hs : ∀ Pw : Nat → St → Hp → Prop, (∀ i σ H, Pv i σ H → Pw i σ H) → ∀ i σ H, i < n → Pv i σ H → g (.int (lo + i)) σ H fun σ2 H2 => tb { D with nx := Pw (i + 1), ct := Pw (i + 1), bk := D.nx } σ2 H2) (hd : ∀ σ H, Pv n σ H → D.nx σ H) :
    ∃ W : Nat → Nat → St → Hp → Prop, (∃ m, W 0 m σ H) ∧ ∀ i m σ H, W i m σ H →
      ((Itr lo n).stop i H ∧ D.nx σ H) ∨ ((Itr lo n).go i H ∧ ∃ N : St → Hp → Prop, (∀ σ' H', N σ' H' → ∃ m', m' < m ∧ W (i + 1) m' σ' H') ∧ ∀ x H', (Itr lo n).yld i H x H' → g x σ H' fun σ2 H2 => tb { D with nx := N, ct := N, bk := D.nx } σ2 H2) := for_range Pv h0  (hs Pv fun _ _ _ q => q) hd
theorem for_enumL {K : PySem.W.Frag} {a : Addr} {xs : List V} {g : TG} {tb : TS} {D : Ends} {σ : St} {H : Hp} (Pv : Nat → St → Hp → Prop) (h0 : Pv 0 σ H) (hk : ∀ i σ H, i ≤ xs.length → Pv i σ H → SqL K H a xs)
    (hs : ∀ Pw : Nat → St → Hp → Prop, (∀ i σ H, Pv i σ H → Pw i σ H) → ∀ i x σ H p, xs[i]? = some x → Pv i σ H → H p = none → g (.ref p) σ (upd H p (.tup [.int i, x])) fun σ2 H2 => tb { D with nx := Pw (i + 1), ct := Pw (i + 1), bk := D.nx } σ2 H2) (hd : ∀ σ H, Pv xs.length σ H → D.nx σ H) :
    ∃ W : Nat → Nat → St → Hp → Prop, (∃ m, W 0 m σ H) ∧ ∀ i m σ H, W i m σ H →
      ((Ite K a).stop i H ∧ D.nx σ H) ∨ ((Ite K a).go i H ∧ ∃ N : St → Hp → Prop, (∀ σ' H', N σ' H' → ∃ m', m' < m ∧ W (i + 1) m' σ' H') ∧ ∀ x H', (Ite K a).yld i H x H' → g x σ H' fun σ2 H2 => tb { D with nx := N, ct := N, bk := D.nx } σ2 H2) := for_enum Pv h0 hk (hs Pv fun _ _ _ q => q) hd
theorem for_downL {hi : Int} {n : Nat} {g : TG} {tb : TS} {D : Ends} {σ : St} {H : Hp} (Pv : Nat → St → Hp → Prop) (h0 : Pv 0 σ H)
    (hs : ∀ Pw : Nat → St → Hp → Prop, (∀ i σ H, Pv i σ H → Pw i σ H) → ∀ i σ H, i < n → Pv i σ H → g (.int (hi - i)) σ H fun σ2 H2 => tb { D with nx := Pw (i + 1), ct := Pw (i + 1), bk := D.nx } σ2 H2) (hd : ∀ σ H, Pv n σ H → D.nx σ H) :
    ∃ W : Nat → Nat → St → Hp → Prop, (∃ m, W 0 m σ H) ∧ ∀ i m σ H, W i m σ H →
      ((Itd hi n).stop i H ∧ D.nx σ H) ∨ ((Itd hi n).go i H ∧ ∃ N : St → Hp → Prop, (∀ σ' H', N σ' H' → ∃ m', m' < m ∧ W (i + 1) m' σ' H') ∧ ∀ x H', (Itd hi n).yld i H x H' → g x σ H' fun σ2 H2 => tb { D with nx := N, ct := N, bk := D.nx } σ2 H2) := for_down Pv h0 (hs Pv fun _ _ _ q => q) hd
theorem joinL {t u : TS} {D : Ends} {σ : St} {H : Hp} (J : St → Hp → Prop) (h1 : ∀ N : St → Hp → Prop, (∀ σ H, J σ H → N σ H) → t { D with nx := N } σ H) (h2 : ∀ σ' H', J σ' H' → u D σ' H') : tJoin t u D σ H := ⟨J, h1 J fun _ _ q => q, h2⟩
end L2
namespace Rp
def stepR (st : List Int × Int) (c : Int) : List Int × Int := if c = 1 then (st.1, st.2 + 1) else if 0 < st.2 then (st.1 ++ [st.2], 0) else st
def foldR (ns : List Int) : List Int × Int := ns.foldl stepR ([], 0)
def runsZ (ns : List Int) : List Int := if 0 < (foldR ns).2 then (foldR ns).1 ++ [(foldR ns).2] else (foldR ns).1
theorem foldR_snoc (ns : List Int) (z : Int) : foldR (ns ++ [z]) = stepR (foldR ns) z := by unfold foldR; rw [List.foldl_append]; rfl
theorem foldR_take {ns : List Int} {i : Nat} {z : Int} (h : ns[i]? = some z) : foldR (ns.take (i + 1)) = stepR (foldR (ns.take i)) z := by
  rw [List.take_add_one, h]; exact foldR_snoc _ _
theorem stepR_len (st : List Int × Int) (z : Int) : (stepR st z).1.length ≤ st.1.length + 1 := by
  unfold stepR; split
  · simp
  · split <;> simp
theorem foldR_len : ∀ (ns : List Int) (st : List Int × Int), (ns.foldl stepR st).1.length ≤ st.1.length + ns.length
  | [], st => by simp
  | z :: r, st => by
    rw [List.foldl_cons]
    have h1 := foldR_len r (stepR st z)
    have h2 := stepR_len st z
    rw [List.length_cons]; omega
theorem foldR_length (ns : List Int) : (foldR ns).1.length ≤ ns.length := by
  have := foldR_len ns ([], 0)
  simpa [foldR] using this
theorem runsZ_length (ns : List Int) : (runsZ ns).length ≤ ns.length + 1 := by
  have := foldR_length ns
  unfold runsZ
  split
  · rw [List.length_append, List.length_singleton]; omega
  · omega
theorem runs_zero (ns : List Int) : (foldR (ns ++ [0])).1 = runsZ ns := by
  rw [foldR_snoc]
  unfold stepR runsZ
  rw [if_neg (by decide)]
  split <;> rfl
def mixZ (c k : Int) : Int :=
  ((((c * 69621 + 7001 * k + 3) % 2147483629) * ((c * 69621 + 7001 * k + 3) % 2147483629) + 39373 * ((c * 69621 + 7001 * k + 3) % 2147483629) + k) % 2147483647)
theorem mixed_lt (c k : Int) : 0 ≤ (c * 69621 + 7001 * k + 3) % 2147483629 ∧ (c * 69621 + 7001 * k + 3) % 2147483629 < 2147483629 := by omega
def cellZ (ns : List Int) (i : Nat) : Int := ns.getD i 0
end Rp
namespace Rp
open PySem L2
def dRow (xs : List Int) : Dt := .lst (xs.map Dt.int)
def dRows (xss : List (List Int)) : Dt := .lst (xss.map dRow)
def dTup (xs : List Int) : Dt := .tup (xs.map Dt.int)
def dTups (xss : List (List Int)) : Dt := .tup (xss.map dTup)
def dBoard (b : List (List Int) × List (List Int)) : Dt := .tup [dTups b.1, dTups b.2]
def colZ (xss : List (List Int)) (j : Nat) : List Int := xss.map fun xs => xs.getD j 0
def boardZ (xss : List (List Int)) (w : Nat) : List (List Int) × List (List Int) := (xss.map runsZ, (List.range w).map fun j => runsZ (colZ xss j))
theorem isDs_ints_inv {H : Hp} : ∀ {xs : List Int} {ys : List V}, IsDs H (xs.map Dt.int) ys → ys = xs.map V.int
  | [], ys, h => by
    have h' : IsDs H [] ys := h
    unfold IsDs at h'
    exact h'
  | x :: r, ys, h => by
    have h' : IsDs H (Dt.int x :: r.map Dt.int) ys := h
    unfold IsDs at h'
    obtain ⟨y, r', rfl, hy, hr⟩ := h'
    unfold IsD at hy
    subst hy
    rw [isDs_ints_inv hr]
    rfl
theorem isD_row {H : Hp} {a : Addr} {xs : List Int} (h : H a = some (.lst (xs.map V.int))) : IsD H (dRow xs) (.ref a) := isD_lstI h
theorem isD_tup {H : Hp} {a : Addr} {xs : List Int} (h : H a = some (.tup (xs.map V.int))) : IsD H (dTup xs) (.ref a) := isD_tupI h
theorem row_inv {H : Hp} {xs : List Int} {v : V} (h : IsD H (dRow xs) v) : ∃ a, v = .ref a ∧ H a = some (.lst (xs.map V.int)) := by
  unfold dRow IsD at h
  obtain ⟨a, ys, rfl, ha, hs⟩ := h
  rw [isDs_ints_inv hs] at ha
  exact ⟨a, rfl, ha⟩
theorem tup_inv {H : Hp} {xs : List Int} {v : V} (h : IsD H (dTup xs) v) : ∃ a, v = .ref a ∧ H a = some (.tup (xs.map V.int)) := by
  unfold dTup IsD at h
  obtain ⟨a, ys, rfl, ha, hs⟩ := h
  rw [isDs_ints_inv hs] at ha
  exact ⟨a, rfl, ha⟩
theorem rows_inv {H : Hp} {xss : List (List Int)} {a : Addr} (h : IsD H (dRows xss) (.ref a)) : ∃ vs, H a = some (.lst vs) ∧ IsDs H (xss.map dRow) vs := by
  unfold dRows IsD at h
  obtain ⟨b, vs, e, hb, hs⟩ := h
  cases e
  exact ⟨vs, hb, hs⟩
theorem tups_inv {H : Hp} {xss : List (List Int)} {a : Addr} (h : IsD H (dTups xss) (.ref a)) : ∃ vs, H a = some (.tup vs) ∧ IsDs H (xss.map dTup) vs := by
  unfold dTups IsD at h
  obtain ⟨b, vs, e, hb, hs⟩ := h
  cases e
  exact ⟨vs, hb, hs⟩
theorem mk_rows {H : Hp} {xss : List (List Int)} {a : Addr} {vs : List V} (h : H a = some (.lst vs)) (hs : IsDs H (xss.map dRow) vs) : IsD H (dRows xss) (.ref a) := by
  unfold dRows IsD
  exact ⟨a, vs, rfl, h, hs⟩
theorem mk_tups {H : Hp} {xss : List (List Int)} {a : Addr} {vs : List V} (h : H a = some (.tup vs)) (hs : IsDs H (xss.map dTup) vs) : IsD H (dTups xss) (.ref a) := by
  unfold dTups IsD
  exact ⟨a, vs, rfl, h, hs⟩
theorem board_inv {H : Hp} {b : List (List Int) × List (List Int)} {a : Addr} (h : IsD H (dBoard b) (.ref a)) : ∃ r c, H a = some (.tup [.ref r, .ref c]) ∧ IsD H (dTups b.1) (.ref r) ∧ IsD H (dTups b.2) (.ref c) := by
  unfold dBoard IsD at h
  obtain ⟨x, vs, e, hx, hs⟩ := h
  cases e
  unfold IsDs at hs
  obtain ⟨v1, r1, rfl, h1, hs⟩ := hs
  unfold IsDs at hs
  obtain ⟨v2, r2, rfl, h2, hs⟩ := hs
  unfold IsDs at hs
  subst hs
  have h1' := h1
  have h2' := h2
  unfold dTups IsD at h1 h2
  obtain ⟨r, _, rfl, _⟩ := h1
  obtain ⟨c, _, rfl, _⟩ := h2
  exact ⟨r, c, hx, h1', h2'⟩
theorem mk_board {H : Hp} {b : List (List Int) × List (List Int)} {a r c : Addr} (h : H a = some (.tup [.ref r, .ref c])) (h1 : IsD H (dTups b.1) (.ref r)) (h2 : IsD H (dTups b.2) (.ref c)) : IsD H (dBoard b) (.ref a) := by
  unfold dBoard IsD
  refine ⟨a, _, rfl, h, ?_⟩
  unfold IsDs
  refine ⟨_, _, rfl, h1, ?_⟩
  unfold IsDs
  exact ⟨_, _, rfl, h2, by unfold IsDs; rfl⟩
theorem depth_le {f : List Int → Dt} {n : Nat} (hf : ∀ xs, depthD (f xs) ≤ n) : ∀ xss : List (List Int), depthDs (xss.map f) ≤ n
  | [] => by show depthDs [] ≤ n; unfold depthDs; exact Nat.zero_le _
  | x :: r => by
    show depthDs (f x :: r.map f) ≤ n
    unfold depthDs
    have h1 := hf x
    have h2 := depth_le hf r
    omega
theorem depth_row (xs : List Int) : depthD (dRow xs) ≤ 1 := by unfold dRow; rw [depth_l, depth_ints]; omega
theorem depth_tup (xs : List Int) : depthD (dTup xs) ≤ 1 := by unfold dTup; rw [depth_t, depth_ints]; omega
theorem depth_rows (xss : List (List Int)) : depthD (dRows xss) ≤ 2 := by unfold dRows; rw [depth_l]; have := depth_le depth_row xss; omega
theorem rows_get {H : Hp} {f : List Int → Dt} {xss : List (List Int)} {vs : List V} {i : Nat} {v : V} (hs : IsDs H (xss.map f) vs) (e : vs[i]? = some v) : ∃ xs, xss[i]? = some xs ∧ IsD H (f xs) v := by
  obtain ⟨d, e1, e2⟩ := hs.get' e
  rw [List.getElem?_map] at e1
  cases q : xss[i]? with
  | none => rw [q] at e1; cases e1
  | some xs => rw [q] at e1; cases e1; exact ⟨xs, rfl, e2⟩
theorem rows_len {H : Hp} {f : List Int → Dt} {xss : List (List Int)} {vs : List V} (hs : IsDs H (xss.map f) vs) : vs.length = xss.length := by rw [← hs.length, List.length_map]
theorem map_range {α β : Type} (f : α → β) (d : α) (xs : List α) : (List.range xs.length).map (fun i => f (xs.getD i d)) = xs.map f := by
  apply List.ext_getElem?
  intro i
  rw [List.getElem?_map, List.getElem?_map]
  by_cases h : i < xs.length
  · rw [List.getElem?_range h, List.getElem?_eq_getElem h]
    simp [h]
  · rw [List.getElem?_eq_none (by simpa using h), List.getElem?_eq_none (by simpa using h)]
    rfl
theorem getD_of {α : Type} {xs : List α} {i : Nat} {x d : α} (h : xs[i]? = some x) : xs.getD i d = x := by rw [List.getD_eq_getElem?_getD, h]; rfl
theorem upd_swap {H : Hp} {a b : Addr} {o o' o2 : HO} (h : a ≠ b) : upd (upd (upd H a o) b o') a o2 = upd (upd H b o') a o2 := by
  funext c
  unfold upd
  by_cases h1 : c = a
  · simp [h1]
  · by_cases h2 : c = b
    · simp [h1, h2]
    · simp [h1, h2]
def pixZ (c : Int) (i j : Nat) : Int := if mixZ c 3 % 3 < mixZ c (1000 + 20 * (i : Int) + j) / 7 % 4 then 1 else 0
def picRow (c : Int) (w i : Nat) : List Int := (List.range w).map fun j => pixZ c i j
def picZ (c : Int) (r w : Nat) : List (List Int) := (List.range r).map fun i => picRow c w i
theorem picRow_len (c : Int) (w i : Nat) : (picRow c w i).length = w := by unfold picRow; simp
theorem picZ_len (c : Int) (r w : Nat) : (picZ c r w).length = r := by unfold picZ; simp
theorem picZ_row {c : Int} {r w : Nat} {xs : List Int} (h : xs ∈ picZ c r w) : xs.length = w := by
  unfold picZ at h
  obtain ⟨i, _, rfl⟩ := List.mem_map.mp h
  exact picRow_len c w i
theorem isDs_of_get {H : Hp} : ∀ {ds : List Dt} {xs : List V}, ds.length = xs.length → (∀ (i : Nat) d x, ds[i]? = some d → xs[i]? = some x → IsD H d x) → IsDs H ds xs
  | [], [], _, _ => by unfold IsDs; rfl
  | [], _ :: _, h, _ => by simp at h
  | _ :: _, [], h, _ => by simp at h
  | d :: ds, x :: xs, h, g => by
    unfold IsDs
    exact ⟨x, xs, rfl, g 0 d x rfl rfl, isDs_of_get (by simpa using h) fun i d' x' e1 e2 => g (i + 1) d' x' (by simpa using e1) (by simpa using e2)⟩
structure Own (H0 H : Hp) (l : Addr) (as : List Addr) (xss : List (List Int)) : Prop where
  same : Same H0 H
  at' : H l = some (.lst (as.map V.ref))
  len : as.length = xss.length
  row : ∀ (i : Nat) a xs, as[i]? = some a → xss[i]? = some xs → H a = some (.lst (xs.map V.int))
  nd : as.Nodup
  nl : l ∉ as
  new : ∀ a ∈ as, H0 a = none
  newl : H0 l = none
theorem Own.isD {H0 H : Hp} {l : Addr} {as : List Addr} {xss : List (List Int)} (o : Own H0 H l as xss) : IsD H (dRows xss) (.ref l) := by
  refine mk_rows o.at' (isDs_of_get (by simp [o.len]) fun i d x e1 e2 => ?_)
  rw [List.getElem?_map] at e1 e2
  cases q1 : xss[i]? with
  | none => rw [q1] at e1; cases e1
  | some xs =>
    cases q2 : as[i]? with
    | none => rw [q2] at e2; cases e2
    | some a =>
      rw [q1] at e1; rw [q2] at e2
      cases e1; cases e2
      exact isD_row (o.row i a xs q2 q1)
theorem nodup_get {as : List Addr} (h : as.Nodup) {i j : Nat} {a : Addr} (e1 : as[i]? = some a) (e2 : as[j]? = some a) : i = j := by
  obtain ⟨h1, q1⟩ := List.getElem?_eq_some_iff.mp e1
  obtain ⟨h2, q2⟩ := List.getElem?_eq_some_iff.mp e2
  exact (List.getElem_inj h).mp (q1.trans q2.symm)
theorem set_mem {α : Type} {as : List α} {i : Nat} {c x : α} (h : x ∈ as.set i c) : x = c ∨ x ∈ as := by
  rcases List.mem_or_eq_of_mem_set h with h | h
  · exact .inr h
  · exact .inl h
structure Grow (H0 : Hp) (f : Nat → List Int) (i : Nat) (as : List Addr) (H' : Hp) : Prop where
  same : Same H0 H'
  len : as.length = i
  row : ∀ (j : Nat) a, as[j]? = some a → H' a = some (.lst ((f j).map V.int))
  nd : as.Nodup
  new : ∀ a ∈ as, H0 a = none
theorem Grow.zero {H0 : Hp} {f : Nat → List Int} : Grow H0 f 0 [] H0 := ⟨Same.refl _, rfl, fun j a e => by simp at e, List.nodup_nil, fun a h => by simp at h⟩
theorem Grow.there {H0 : Hp} {f : Nat → List Int} {i : Nat} {as : List Addr} {H' : Hp} (g : Grow H0 f i as H') {b : Addr} (hb : H' b = none) : b ∉ as := fun z => by
  obtain ⟨j, hj, e⟩ := List.getElem_of_mem z
  have q := g.row j b (by rw [List.getElem?_eq_getElem hj, e])
  rw [hb] at q; cases q
theorem Grow.next {H0 : Hp} {f : Nat → List Int} {i : Nat} {as : List Addr} {H1 H2 : Hp} (g : Grow H0 f i as H1) (s : Same H1 H2) {b : Addr} (hb : H1 b = none) (h : H2 b = some (.lst ((f i).map V.int))) : Grow H0 f (i + 1) (as ++ [b]) H2 := by
  refine ⟨g.same.trans s, by rw [List.length_append, List.length_singleton, g.len], fun j a e => ?_, List.nodup_append.mpr ⟨g.nd, by simp, fun x hx y hy => by rw [List.mem_singleton.mp hy]; intro z; exact g.there hb (z ▸ hx)⟩, fun a ha => ?_⟩
  · by_cases hj : j < as.length
    · rw [List.getElem?_append_left hj] at e
      exact s _ _ (g.row j a e)
    · rw [List.getElem?_append_right (by omega)] at e
      have hj0 : j - as.length = 0 := by
        have := (List.getElem?_eq_some_iff.mp e).1
        simp at this
        omega
      rw [hj0] at e
      have e' : b = a := Option.some.inj e
      have e2 : j = i := by have := g.len; omega
      rw [← e', e2]
      exact h
  · rcases List.mem_append.mp ha with z | z
    · exact g.new a z
    · rw [List.mem_singleton.mp z]; exact g.same.free hb
def RowsAt (H : Hp) (as : List Addr) (tbl : List (List Int)) : Prop := as.length = tbl.length ∧ ∀ (i : Nat) a xs, as[i]? = some a → tbl[i]? = some xs → H a = some (.lst (xs.map V.int))
theorem RowsAt.isD {H : Hp} {as : List Addr} {tbl : List (List Int)} (r : RowsAt H as tbl) {l : Addr} (h : H l = some (.lst (as.map V.ref))) : IsD H (dRows tbl) (.ref l) := by
  refine mk_rows h (isDs_of_get (by simp [r.1]) fun i d x e1 e2 => ?_)
  rw [List.getElem?_map] at e1 e2
  cases q1 : tbl[i]? with
  | none => rw [q1] at e1; cases e1
  | some xs =>
    cases q2 : as[i]? with
    | none => rw [q2] at e2; cases e2
    | some a =>
      rw [q1] at e1; rw [q2] at e2
      cases e1; cases e2
      exact isD_row (r.2 i a xs q2 q1)
theorem RowsAt.set {H : Hp} {as : List Addr} {tbl : List (List Int)} (r : RowsAt H as tbl) (nd : as.Nodup) {i : Nat} {a : Addr} (e : as[i]? = some a) (ys : List Int) : RowsAt (upd H a (.lst (ys.map V.int))) as (tbl.set i ys) := by
  refine ⟨by rw [List.length_set]; exact r.1, fun j b xs e1 e2 => ?_⟩
  by_cases hj : j = i
  · subst hj
    rw [e] at e1
    cases e1
    rw [List.getElem?_set_self (by rw [← r.1]; exact (List.getElem?_eq_some_iff.mp e).1)] at e2
    cases e2
    exact upd_same
  · rw [List.getElem?_set_ne (Ne.symm hj)] at e2
    have nn : b ≠ a := fun z => hj (nodup_get nd (by rw [← z]; exact e1) e)
    rw [upd_ne nn]
    exact r.2 j b xs e1 e2
theorem RowsAt.mono {H H' : Hp} {as : List Addr} {tbl : List (List Int)} (r : RowsAt H as tbl) (s : Same H H') : RowsAt H' as tbl := ⟨r.1, fun i a xs e1 e2 => s _ _ (r.2 i a xs e1 e2)⟩
theorem Grow.rows {H0 : Hp} {f : Nat → List Int} {n : Nat} {as : List Addr} {H' : Hp} (g : Grow H0 f n as H') : RowsAt H' as ((List.range n).map f) := by
  refine ⟨by rw [List.length_map, List.length_range]; exact g.len, fun i a xs e1 e2 => ?_⟩
  have hi : i < n := by have := (List.getElem?_eq_some_iff.mp e2).1; rw [List.length_map, List.length_range] at this; exact this
  rw [List.getElem?_map, List.getElem?_range hi] at e2
  cases e2
  exact g.row i a e1
def KeptBut (H H' : Hp) (as : List Addr) : Prop := ∀ b o, H b = some o → b ∉ as → H' b = some o
theorem KeptBut.refl (H : Hp) (as : List Addr) : KeptBut H H as := fun _ _ h _ => h
theorem KeptBut.same {H H1 H2 : Hp} {as : List Addr} (k : KeptBut H H1 as) (s : Same H1 H2) : KeptBut H H2 as := fun b o h n => s _ _ (k b o h n)
theorem KeptBut.upd {H H1 : Hp} {as : List Addr} {a : Addr} {o : HO} (k : KeptBut H H1 as) (ha : a ∈ as) : KeptBut H (upd H1 a o) as := fun b o' h n => by
  have nn : b ≠ a := fun z => n (by rw [z]; exact ha)
  rw [upd_ne nn]
  exact k b o' h n
end Rp
namespace Rp
abbrev Sight := List (Option Int)
def fitsB (k : Nat) (s : Sight) : Bool := decide (k ≤ s.length) && (s.take k).all (fun x => decide (x ≠ some 0)) && (decide (k = s.length) || decide (s[k]? ≠ some (some 1)))
def runCells (k n : Nat) : List Int := List.replicate k 1 ++ (if k < n then [0] else [])
def layL (rs : List Nat) (s : Sight) : List (List Int) :=
  match s with
  | [] => if rs = [] then [[]] else []
  | x :: t =>
    (if x = some 1 then [] else (layL rs t).map (fun c => 0 :: c)) ++
    (match rs with
     | [] => []
     | k :: rs' => if fitsB k (x :: t) = true then (layL rs' (t.drop k)).map (fun c => runCells k (t.length + 1) ++ c) else [])
termination_by s.length
decreasing_by
  · simp
  · simp; omega
theorem layL_nil (rs : List Nat) : layL rs [] = if rs = [] then [[]] else [] := by rw [layL.eq_def]
theorem layL_cons (rs : List Nat) (x : Option Int) (t : Sight) : layL rs (x :: t) = (if x = some 1 then [] else (layL rs t).map (fun c => 0 :: c)) ++
    (match rs with
     | [] => []
     | k :: rs' => if fitsB k (x :: t) = true then (layL rs' (t.drop k)).map (fun c => runCells k (t.length + 1) ++ c) else []) := by rw [layL.eq_def]
def waysN (rs : List Nat) (s : Sight) : Nat := (layL rs s).length
theorem ways_nil (rs : List Nat) : waysN rs [] = if rs = [] then 1 else 0 := by
  unfold waysN
  rw [layL_nil]
  split <;> rfl
def emptyN (rs : List Nat) (s : Sight) : Nat := match s with
  | [] => 0
  | x :: t => if x = some 1 then 0 else waysN rs t
def fullN (rs : List Nat) (s : Sight) : Nat := match rs with
  | [] => 0
  | k :: r => if fitsB k s = true then waysN r (s.drop (k + 1)) else 0
theorem ways_cons (rs : List Nat) (x : Option Int) (t : Sight) : waysN rs (x :: t) = emptyN rs (x :: t) + fullN rs (x :: t) := by
  unfold waysN
  rw [layL_cons, List.length_append]
  congr 1
  · unfold emptyN
    show _ = if x = some 1 then 0 else waysN rs t
    split
    · rfl
    · rw [List.length_map]; rfl
  · cases rs with
    | nil => rfl
    | cons k r =>
      unfold fullN
      show (if fitsB k (x :: t) = true then (layL r (t.drop k)).map (fun c => runCells k (t.length + 1) ++ c) else []).length = if fitsB k (x :: t) = true then waysN r ((x :: t).drop (k + 1)) else 0
      split
      · rw [List.length_map]; rfl
      · rfl
def wayT (rs : List Nat) (s : Sight) (p d : Nat) : Int := (waysN (rs.drop d) (s.drop p) : Nat)
theorem drop_at {α : Type} {l : List α} {p : Nat} (h : p < l.length) : l.drop p = l[p] :: l.drop (p + 1) := List.drop_eq_getElem_cons h
theorem wayT_end (rs : List Nat) (s : Sight) {d : Nat} (hd : d ≤ rs.length) : wayT rs s s.length d = if d = rs.length then 1 else 0 := by
  unfold wayT
  rw [List.drop_length, ways_nil]
  by_cases h : d = rs.length
  · rw [if_pos h, h, List.drop_length, if_pos rfl]; rfl
  · rw [if_neg h, if_neg]
    · rfl
    · intro z
      have := congrArg List.length z
      rw [List.length_drop] at this
      simp at this
      omega
def emptyT (T : Nat → Nat → Int) (s : Sight) (p d : Nat) : Int := if s[p]? = some (some 1) then 0 else T (p + 1) d
def fullT (T : Nat → Nat → Int) (rs : List Nat) (s : Sight) (p d : Nat) : Int :=
  if d = rs.length then 0 else if fitsB (rs.getD d 0) (s.drop p) = true then T (min (p + rs.getD d 0 + 1) s.length) (d + 1) else 0
theorem wayT_step (rs : List Nat) (s : Sight) {p d : Nat} (hp : p < s.length) (hd : d ≤ rs.length) : wayT rs s p d = emptyT (wayT rs s) s p d + fullT (wayT rs s) rs s p d := by
  have e1 := drop_at hp
  unfold wayT
  rw [e1, ways_cons, Int.natCast_add]
  congr 1
  · unfold emptyT emptyN
    rw [List.getElem?_eq_getElem hp]
    show ((if s[p] = some 1 then 0 else waysN (rs.drop d) (s.drop (p + 1)) : Nat) : Int) = if some s[p] = some (some 1) then 0 else ((waysN (rs.drop d) (s.drop (p + 1)) : Nat) : Int)
    by_cases h : s[p] = some 1
    · rw [if_pos h, if_pos (by rw [h])]; rfl
    · rw [if_neg h, if_neg (fun z => h (Option.some.inj z))]
  · unfold fullT
    by_cases h : d = rs.length
    · rw [if_pos h, h, List.drop_length]; rfl
    · rw [if_neg h]
      have hd' : d < rs.length := by omega
      rw [drop_at hd']
      unfold fullN
      have eg : rs.getD d 0 = rs[d] := by rw [List.getD_eq_getElem?_getD, List.getElem?_eq_getElem hd']; rfl
      rw [eg, ← e1]
      show ((if fitsB rs[d] (s.drop p) = true then waysN (rs.drop (d + 1)) ((s.drop p).drop (rs[d] + 1)) else 0 : Nat) : Int) = _
      split
      · show ((waysN (rs.drop (d + 1)) ((s.drop p).drop (rs[d] + 1)) : Nat) : Int) = ((waysN (rs.drop (d + 1)) (s.drop (min (p + rs[d] + 1) s.length)) : Nat) : Int)
        rw [List.drop_drop]
        congr 2
        by_cases hm : p + rs[d] + 1 ≤ s.length
        · rw [Nat.min_eq_left hm]
          congr 1
        · rw [Nat.min_eq_right (by omega), List.drop_length, List.drop_eq_nil_of_le (by omega)]
      · rfl
open PySem L2
def vO : Option Int → V
  | none => .non
  | some i => .int i
def sightV (s : Sight) : List V := s.map vO
def runsV (rs : List Nat) : List V := rs.map fun k => V.int (k : Nat)
theorem sightV_get {s : Sight} {p : Nat} (h : p < s.length) : (sightV s)[p]? = some (vO s[p]) := by unfold sightV; rw [List.getElem?_map, List.getElem?_eq_getElem h]; rfl
theorem runsV_get {rs : List Nat} {d : Nat} (h : d < rs.length) : (runsV rs)[d]? = some (.int (rs.getD d 0 : Nat)) := by
  unfold runsV
  rw [List.getElem?_map, List.getElem?_eq_getElem h, List.getD_eq_getElem?_getD, List.getElem?_eq_getElem h]
  rfl
theorem vO_one {x : Option Int} : decide (vO x = V.int 1) = decide (x = some 1) := by
  cases x with
  | none => rfl
  | some i =>
    by_cases h : i = 1
    · subst h; rfl
    · rw [decide_eq_false (fun z => h (by cases z; rfl)), decide_eq_false (fun z => h (by cases z; rfl))]
theorem vO_scal {x : Option Int} {i : Int} : scal (vO x) (.int i) = true := by cases x <;> rfl
theorem vO_flat {x : Option Int} : flatV (vO x) = true := by cases x <;> rfl
theorem sight_flat (s : Sight) : (sightV s).all flatV = true := by
  rw [List.all_eq_true]
  intro v hv
  obtain ⟨x, _, rfl⟩ := List.mem_map.mp hv
  exact vO_flat
theorem sight_in0 (s : Sight) : inV (.int 0) (sightV s) = !(s.all fun x => decide (x ≠ some 0)) := by
  unfold inV sightV
  induction s with
  | nil => rfl
  | cons x t ih =>
    rw [List.map_cons, List.any_cons, ih, List.all_cons]
    have e : eqV (vO x) (.int 0) = !decide (x ≠ some 0) := by
      cases x with
      | none => rfl
      | some i =>
        show (i == 0) = _
        by_cases h : i = 0
        · subst h; rfl
        · have h1 : (i == 0) = false := beq_eq_false_iff_ne.mpr h
          have h2 : some i ≠ some (0 : Int) := fun z => h (by cases z; rfl)
          rw [h1]
          simp [h2]
    rw [e, Bool.not_and]
theorem cut_sight {s : Sight} {p k : Nat} (h : p + k ≤ s.length) : cutV (sightV s) (some (p : Int)) (some ((p : Int) + (k : Int))) = sightV ((s.drop p).take k) := by
  have e : (p : Int) + (k : Int) = ((p + k : Nat) : Int) := by omega
  unfold cutV
  rw [e, HT.sIx_nat, HT.sIx_nat]
  unfold sightV
  rw [List.length_map, Nat.min_eq_left h, Nat.min_eq_left (by omega : p ≤ s.length), show p + k - p = k by omega, List.map_take, List.map_drop]
def getT (tbl : List (List Int)) (p d : Nat) : Int := (tbl.getD p []).getD d 0
theorem tbl_get {H : Hp} {tbl : List (List Int)} {lw : Addr} (hd : IsD H (dRows tbl) (.ref lw)) {p : Nat} (hp : p < tbl.length) : ∃ vs b, H lw = some (.lst vs) ∧ vs[p]? = some (.ref b) ∧ H b = some (.lst ((tbl.getD p []).map V.int)) := by
  obtain ⟨vs, hv, hs⟩ := rows_inv hd
  have hl := rows_len hs
  have hp' : p < vs.length := by omega
  obtain ⟨xs, hx, hxd⟩ := rows_get hs (List.getElem?_eq_getElem hp')
  obtain ⟨b, eb, hb⟩ := row_inv hxd
  rw [getD_of hx]
  exact ⟨vs, b, hv, by rw [List.getElem?_eq_getElem hp', eb], hb⟩
theorem row_get {row : List Int} {d : Nat} (h : d < row.length) : (row.map V.int)[d]? = some (.int (row.getD d 0)) := by
  rw [List.getElem?_map, List.getElem?_eq_getElem h, List.getD_eq_getElem?_getD, List.getElem?_eq_getElem h]
  rfl
def cflds (tr ls lw : Addr) : List (Str × V) := putF "ways" (.ref lw) (putF "sight" (.ref ls) (putF "runs" (.ref tr) []))
theorem kWR : ¬ (("runs" : Str) = "ways") := by decide +kernel
theorem kWS : ¬ (("sight" : Str) = "ways") := by decide +kernel
theorem kRS : ¬ (("runs" : Str) = "sight") := by decide +kernel
theorem lk_ways (tr ls lw : Addr) : (cflds tr ls lw).lookup ("ways" : Str) = some (.ref lw) := by unfold cflds; rw [lookup_putF, if_pos rfl]
theorem lk_sight (tr ls lw : Addr) : (cflds tr ls lw).lookup ("sight" : Str) = some (.ref ls) := by unfold cflds; rw [lookup_putF, if_neg kWS, lookup_putF, if_pos rfl]
theorem lk_runs (tr ls lw : Addr) : (cflds tr ls lw).lookup ("runs" : Str) = some (.ref tr) := by unfold cflds; rw [lookup_putF, if_neg kWR, lookup_putF, if_neg kRS, lookup_putF, if_pos rfl]
theorem lk_no (tr ls lw : Addr) {m : Str} (h1 : ¬ m = "ways") (h2 : ¬ m = "sight") (h3 : ¬ m = "runs") : (cflds tr ls lw).lookup m = none := by unfold cflds; rw [lookup_putF, if_neg h1, lookup_putF, if_neg h2, lookup_putF, if_neg h3]; rfl
structure CP (C : Addr) (H : Hp) (c : Addr) (rs : List Nat) (s : Sight) (tbl : List (List Int)) : Prop where
  ex : ∃ dx tr ls lw, H c = some (.ins C dx (cflds tr ls lw)) ∧ H tr = some (.tup (runsV rs)) ∧ H ls = some (.lst (sightV s)) ∧ IsD H (dRows tbl) (.ref lw)
  len : tbl.length = s.length + 1
  wid : ∀ row ∈ tbl, row.length = rs.length + 1
theorem CP.mono {C : Addr} {H H' : Hp} {c : Addr} {rs : List Nat} {s : Sight} {tbl : List (List Int)} (p : CP C H c rs s tbl) (e : Same H H') : CP C H' c rs s tbl := by
  obtain ⟨dx, tr, ls, lw, h1, h2, h3, h4⟩ := p.ex
  exact ⟨⟨dx, tr, ls, lw, e _ _ h1, e _ _ h2, e _ _ h3, IsD.mono e h4⟩, p.len, p.wid⟩
theorem CP.row {C : Addr} {H : Hp} {c : Addr} {rs : List Nat} {s : Sight} {tbl : List (List Int)} (p : CP C H c rs s tbl) {i : Nat} (h : i ≤ s.length) : (tbl.getD i []).length = rs.length + 1 := by
  have hi : i < tbl.length := by have := p.len; omega
  rw [List.getD_eq_getElem?_getD, List.getElem?_eq_getElem hi]
  exact p.wid _ (List.getElem_mem hi)
def wholeT (rs : List Nat) (s : Sight) : List (List Int) := (List.range (s.length + 1)).map fun p => (List.range (rs.length + 1)).map fun d => wayT rs s p d
theorem getT_whole (rs : List Nat) (s : Sight) {p d : Nat} (hp : p ≤ s.length) (hd : d ≤ rs.length) : getT (wholeT rs s) p d = wayT rs s p d := by
  unfold getT wholeT
  rw [getD_of (x := (List.range (rs.length + 1)).map fun d => wayT rs s p d) (by rw [List.getElem?_map, List.getElem?_range (by omega)]; rfl)]
  rw [getD_of (x := wayT rs s p d) (by rw [List.getElem?_map, List.getElem?_range (by omega)]; rfl)]
theorem getT_set {tbl : List (List Int)} {p d p' d' : Nat} {v : Int} (hp : p < tbl.length) (hd : d < (tbl.getD p []).length) : getT (tbl.set p ((tbl.getD p []).set d v)) p' d' = if p' = p ∧ d' = d then v else getT tbl p' d' := by
  unfold getT
  by_cases h : p' = p
  · subst h
    have e : (tbl.set p' ((tbl.getD p' []).set d v)).getD p' [] = (tbl.getD p' []).set d v := getD_of (List.getElem?_set_self hp)
    rw [e]
    by_cases h2 : d' = d
    · subst h2
      rw [if_pos ⟨rfl, rfl⟩]
      exact getD_of (List.getElem?_set_self hd)
    · rw [if_neg (fun z => h2 z.2), List.getD_eq_getElem?_getD, List.getElem?_set_ne (Ne.symm h2), ← List.getD_eq_getElem?_getD]
  · rw [if_neg (fun z => h z.1)]
    congr 1
    rw [List.getD_eq_getElem?_getD, List.getElem?_set_ne (Ne.symm h), ← List.getD_eq_getElem?_getD]
theorem set_wid {tbl : List (List Int)} {p d n : Nat} {v : Int} (hp : p < tbl.length) (h : ∀ row ∈ tbl, row.length = n) : ∀ row ∈ tbl.set p ((tbl.getD p []).set d v), row.length = n := fun row hr => by
  rcases set_mem hr with z | z
  · rw [z, List.length_set, List.getD_eq_getElem?_getD, List.getElem?_eq_getElem hp]
    exact h _ (List.getElem_mem hp)
  · exact h row z
theorem emptyT_congr {T T' : Nat → Nat → Int} {s : Sight} {p d : Nat} (h : T (p + 1) d = T' (p + 1) d) : emptyT T s p d = emptyT T' s p d := by unfold emptyT; rw [h]
theorem fullT_congr {T T' : Nat → Nat → Int} {rs : List Nat} {s : Sight} {p d : Nat} (hd : d ≤ rs.length) (hp : p < s.length) (h : ∀ p' d', p + 1 ≤ p' → p' ≤ s.length → d' ≤ rs.length → T p' d' = T' p' d') : fullT T rs s p d = fullT T' rs s p d := by
  unfold fullT
  by_cases h1 : d = rs.length
  · rw [if_pos h1, if_pos h1]
  · rw [if_neg h1, if_neg h1]
    split
    · exact h _ _ (by omega) (Nat.min_le_right _ _) (by omega)
    · rfl
theorem whole_ext {rs : List Nat} {s : Sight} {tbl : List (List Int)} (h1 : tbl.length = s.length + 1) (h2 : ∀ row ∈ tbl, row.length = rs.length + 1) (h3 : ∀ p d, p ≤ s.length → d ≤ rs.length → getT tbl p d = wayT rs s p d) : tbl = wholeT rs s := by
  unfold wholeT
  apply List.ext_getElem
  · rw [h1, List.length_map, List.length_range]
  · intro p hp1 hp2
    rw [List.getElem_map, List.getElem_range]
    have hw := h2 _ (List.getElem_mem hp1)
    apply List.ext_getElem
    · rw [hw, List.length_map, List.length_range]
    · intro d hd1 hd2
      rw [List.getElem_map, List.getElem_range]
      have q := h3 p d (by omega) (by omega)
      unfold getT at q
      rw [getD_of (List.getElem?_eq_getElem hp1), getD_of (List.getElem?_eq_getElem hd1)] at q
      exact q
end Rp
namespace Rp
def runsR (acc : Int) : List Int → List Int
  | [] => if 0 < acc then [acc] else []
  | z :: r => if z = 1 then runsR (acc + 1) r else if 0 < acc then acc :: runsR 0 r else runsR 0 r
theorem runsR_fold : ∀ (ns : List Int) (l : List Int) (acc : Int), 0 ≤ acc →
    (if 0 < (ns.foldl stepR (l, acc)).2 then (ns.foldl stepR (l, acc)).1 ++ [(ns.foldl stepR (l, acc)).2] else (ns.foldl stepR (l, acc)).1) = l ++ runsR acc ns
  | [], l, acc, h => by
    rw [List.foldl_nil]
    unfold runsR
    split <;> simp
  | z :: r, l, acc, h => by
    rw [List.foldl_cons]
    have e : stepR (l, acc) z = if z = 1 then (l, acc + 1) else if 0 < acc then (l ++ [acc], 0) else (l, acc) := rfl
    rw [e]
    unfold runsR
    by_cases h1 : z = 1
    · rw [if_pos h1, if_pos h1]
      exact runsR_fold r l (acc + 1) (by omega)
    · rw [if_neg h1, if_neg h1]
      by_cases h2 : 0 < acc
      · rw [if_pos h2, if_pos h2, runsR_fold r (l ++ [acc]) 0 (by omega)]
        simp
      · rw [if_neg h2, if_neg h2]
        have h3 : acc = 0 := by omega
        subst h3
        exact runsR_fold r l 0 (by omega)
theorem runsZ_R (ns : List Int) : runsZ ns = runsR 0 ns := by
  have := runsR_fold ns [] 0 (by omega)
  unfold runsZ foldR
  rw [this]
  rfl
theorem runsR_ones : ∀ (k : Nat) (acc : Int) (r : List Int), runsR acc (List.replicate k 1 ++ r) = runsR (acc + k) r
  | 0, acc, r => by simp
  | k + 1, acc, r => by
    rw [List.replicate_succ, List.cons_append]
    show runsR (acc + 1) _ = _
    rw [runsR_ones k (acc + 1) r]
    congr 1
    omega
theorem runsZ_zero (c : List Int) : runsZ (0 :: c) = runsZ c := by rw [runsZ_R, runsZ_R]; rfl
theorem runsZ_run {k : Nat} (hk : 1 ≤ k) (c : List Int) : runsZ (List.replicate k 1 ++ 0 :: c) = (k : Int) :: runsZ c := by
  rw [runsZ_R, runsR_ones, runsZ_R]
  show (if (0 : Int) = 1 then _ else if 0 < (0 : Int) + k then ((0 : Int) + k) :: runsR 0 c else _) = _
  rw [if_neg (by decide), if_pos (by omega), Int.zero_add]
theorem runsZ_runE {k : Nat} (hk : 1 ≤ k) : runsZ (List.replicate k 1) = [(k : Int)] := by
  have := runsR_ones k 0 []
  rw [List.append_nil] at this
  rw [runsZ_R, this]
  show (if 0 < (0 : Int) + k then [(0 : Int) + k] else []) = _
  rw [if_pos (by omega), Int.zero_add]
def keepsB : Sight → List Int → Bool
  | x :: s, z :: c => (decide (x = none) || decide (x = some z)) && keepsB s c
  | _, _ => true
def bitsP (c : List Int) : Prop := ∀ z ∈ c, z = 0 ∨ z = 1
def sightP (s : Sight) : Prop := ∀ x ∈ s, x = none ∨ x = some 0 ∨ x = some 1
theorem keeps_ones : ∀ (k : Nat) (s : Sight) (c : List Int), k ≤ s.length → sightP s → keepsB s (List.replicate k 1 ++ c) = ((s.take k).all (fun x => decide (x ≠ some 0)) && keepsB (s.drop k) c)
  | 0, s, c, h, p => by simp
  | k + 1, [], c, h, p => by simp at h
  | k + 1, x :: s, c, h, p => by
    rw [List.replicate_succ, List.cons_append, List.take_succ_cons, List.drop_succ_cons, List.all_cons]
    show ((decide (x = none) || decide (x = some 1)) && keepsB s _) = _
    rw [keeps_ones k s c (by simpa using h) (fun y hy => p y (List.mem_cons_of_mem _ hy)), Bool.and_assoc]
    congr 1
    rcases p x (List.mem_cons_self ..) with e | e | e <;> subst e <;> decide
theorem keeps_zero (x : Option Int) (s : Sight) (c : List Int) (p : x = none ∨ x = some 0 ∨ x = some 1) : keepsB (x :: s) (0 :: c) = (decide (x ≠ some 1) && keepsB s c) := by
  show ((decide (x = none) || decide (x = some 0)) && keepsB s _) = _
  congr 1
  rcases p with e | e | e <;> subst e <;> decide
theorem split_run : ∀ (c : List Int), bitsP c → ∃ k r, c = List.replicate k 1 ++ r ∧ (r = [] ∨ ∃ r', r = 0 :: r')
  | [], _ => ⟨0, [], rfl, .inl rfl⟩
  | z :: c, h => by
    rcases h z (List.mem_cons_self ..) with e | e
    · subst e
      exact ⟨0, 0 :: c, rfl, .inr ⟨c, rfl⟩⟩
    · subst e
      obtain ⟨k, r, e, hr⟩ := split_run c fun y hy => h y (List.mem_cons_of_mem _ hy)
      exact ⟨k + 1, r, by rw [e, List.replicate_succ, List.cons_append], hr⟩
def runsI (rs : List Nat) : List Int := rs.map fun (k : Nat) => (k : Int)
theorem runsI_inj : ∀ {a b : List Nat}, runsI a = runsI b → a = b
  | [], [], _ => rfl
  | [], _ :: _, h => by simp [runsI] at h
  | _ :: _, [], h => by simp [runsI] at h
  | x :: a, y :: b, h => by
    unfold runsI at h
    rw [List.map_cons, List.map_cons] at h
    injection h with h1 h2
    rw [runsI_inj h2, Int.ofNat.inj h1]
theorem fitsB_iff {k : Nat} {s : Sight} : fitsB k s = true ↔ k ≤ s.length ∧ (s.take k).all (fun x => decide (x ≠ some 0)) = true ∧ (k = s.length ∨ s[k]? ≠ some (some 1)) := by
  unfold fitsB
  rw [Bool.and_eq_true, Bool.and_eq_true, Bool.or_eq_true, decide_eq_true_eq, decide_eq_true_eq, decide_eq_true_eq, and_assoc]
def layF (rs : List Nat) (s : Sight) : List (List Int) := match rs with
  | [] => []
  | k :: rs' => if fitsB k s = true then (layL rs' (s.drop (k + 1))).map (fun c => runCells k s.length ++ c) else []
def layE (rs : List Nat) (s : Sight) : List (List Int) := match s with
  | [] => []
  | x :: t => if x = some 1 then [] else (layL rs t).map (fun c => 0 :: c)
theorem layL_parts (rs : List Nat) (x : Option Int) (t : Sight) : layL rs (x :: t) = layE rs (x :: t) ++ layF rs (x :: t) := by
  rw [layL_cons]
  congr 1
theorem mem_lay : ∀ (n : Nat) (rs : List Nat) (s : Sight) (c : List Int), s.length = n → (∀ k ∈ rs, 1 ≤ k) → sightP s → bitsP c → (c ∈ layL rs s ↔ c.length = s.length ∧ runsZ c = runsI rs ∧ keepsB s c = true) := by
  intro n
  induction n using Nat.strongRecOn with
  | _ n ih =>
    intro rs s c hn hr hs hc
    cases s with
    | nil =>
      rw [layL_nil]
      constructor
      · intro h
        split at h
        · rename_i e
          have hc0 : c = [] := by simpa using h
          subst e hc0
          exact ⟨rfl, rfl, rfl⟩
        · simp at h
      · rintro ⟨h1, h2, _⟩
        have hc0 : c = [] := List.length_eq_zero_iff.mp (by simpa using h1)
        subst hc0
        have : rs = [] := by
          cases rs with
          | nil => rfl
          | cons k r => simp [runsI, runsZ, foldR] at h2
        rw [if_pos this]
        simp
    | cons x t =>
      have hst : sightP t := fun y hy => hs y (List.mem_cons_of_mem _ hy)
      have hx := hs x (List.mem_cons_self ..)
      have hnt : t.length < n := by rw [← hn]; simp
      rw [layL_parts, List.mem_append]
      obtain ⟨k, r, e, hrr⟩ := split_run c hc
      have hE : c ∈ layE rs (x :: t) ↔ ∃ c', c = 0 :: c' ∧ x ≠ some 1 ∧ c' ∈ layL rs t := by
        unfold layE
        show c ∈ (if x = some 1 then [] else (layL rs t).map (fun c => (0 : Int) :: c)) ↔ _
        split
        · rename_i h1
          simp [h1]
        · rename_i h1
          rw [List.mem_map]
          constructor
          · rintro ⟨c', h2, rfl⟩
            exact ⟨c', rfl, h1, h2⟩
          · rintro ⟨c', rfl, _, h2⟩
            exact ⟨c', h2, rfl⟩
      have hF : c ∈ layF rs (x :: t) ↔ ∃ k rs' c', rs = k :: rs' ∧ fitsB k (x :: t) = true ∧ c = runCells k (t.length + 1) ++ c' ∧ c' ∈ layL rs' (t.drop k) := by
        unfold layF
        cases rs with
        | nil => simp
        | cons k rs' =>
          show c ∈ (if fitsB k (x :: t) = true then (layL rs' (t.drop k)).map (fun c => runCells k (t.length + 1) ++ c) else []) ↔ _
          split
          · rename_i h1
            rw [List.mem_map]
            constructor
            · rintro ⟨c', h2, rfl⟩
              exact ⟨k, rs', c', rfl, h1, rfl, h2⟩
            · rintro ⟨k', rs'', c', e1, _, e2, h2⟩
              injection e1 with e3 e4
              subst e3 e4
              exact ⟨c', h2, e2.symm⟩
          · rename_i h1
            constructor
            · intro z; simp at z
            · rintro ⟨k', rs'', c', e1, h2, _⟩
              injection e1 with e3 e4
              subst e3
              exact absurd h2 h1
      rw [hE, hF]
      cases k with
      | zero =>
        rw [List.replicate_zero, List.nil_append] at e
        subst e
        have noF : ∀ k' (rs' : List Nat) c', rs = k' :: rs' → c ≠ runCells k' (t.length + 1) ++ c' := fun k' rs' c' e1 e2 => by
          have hk := hr k' (by rw [e1]; simp)
          obtain ⟨j, rfl⟩ : ∃ j, k' = j + 1 := ⟨k' - 1, by omega⟩
          unfold runCells at e2
          rw [List.replicate_succ, List.cons_append, List.cons_append] at e2
          rcases hrr with z | ⟨c0, z⟩
          · rw [z] at e2; cases e2
          · rw [z] at e2; injection e2 with e3 e4; exact absurd e3 (by decide)
        constructor
        · rintro (⟨c', rfl, h1, h2⟩ | ⟨k', rs', c', e1, _, e2, _⟩)
          · have hc' : bitsP c' := fun y hy => hc y (List.mem_cons_of_mem _ hy)
            obtain ⟨q1, q2, q3⟩ := (ih t.length hnt rs t c' rfl hr hst hc').mp h2
            exact ⟨by simp [q1], by rw [runsZ_zero]; exact q2, by rw [keeps_zero x t c' hx, decide_eq_true h1, q3]; rfl⟩
          · exact absurd e2 (noF k' rs' c' e1)
        · rintro ⟨h1, h2, h3⟩
          rcases hrr with z | ⟨c', z⟩
          · rw [z] at h1; simp at h1
          · subst z
            have hc' : bitsP c' := fun y hy => hc y (List.mem_cons_of_mem _ hy)
            rw [keeps_zero x t c' hx, Bool.and_eq_true, decide_eq_true_eq] at h3
            exact .inl ⟨c', rfl, h3.1, (ih t.length hnt rs t c' rfl hr hst hc').mpr ⟨by simpa using h1, by rw [← runsZ_zero]; exact h2, h3.2⟩⟩
      | succ j =>
        have noE : ∀ c', c ≠ 0 :: c' := fun c' e2 => by
          rw [e, List.replicate_succ, List.cons_append] at e2
          injection e2 with e3 e4
          exact absurd e3 (by decide)
        constructor
        · rintro (⟨c', e1, _⟩ | ⟨k', rs', c', e1, hf, e2, h2⟩)
          · exact absurd e1 (noE c')
          · obtain ⟨f1, f2, f3⟩ := fitsB_iff.mp hf
            have hk := hr k' (by rw [e1]; simp)
            have hr' : ∀ k ∈ rs', 1 ≤ k := fun k hk => hr k (by rw [e1]; exact List.mem_cons_of_mem _ hk)
            have hc' : bitsP c' := fun y hy => hc y (by rw [e2]; exact List.mem_append_right _ hy)
            have hs' : sightP (t.drop k') := fun y hy => hst y (List.mem_of_mem_drop hy)
            have hlt : (t.drop k').length < n := by rw [List.length_drop]; omega
            obtain ⟨q1, q2, q3⟩ := (ih _ hlt rs' (t.drop k') c' rfl hr' hs' hc').mp h2
            rw [List.length_drop] at q1
            have f1' : k' ≤ t.length + 1 := by simpa using f1
            by_cases hkn : k' < t.length + 1
            · have e3 : c = List.replicate k' 1 ++ 0 :: c' := by
                rw [e2]; unfold runCells; rw [if_pos hkn]; simp
              have hd : (x :: t).drop k' = (x :: t)[k'] :: t.drop k' := by rw [drop_at (by simpa using hkn), List.drop_succ_cons]
              refine ⟨by rw [e3]; simp [q1]; omega, by rw [e3, runsZ_run hk, q2, e1]; rfl, ?_⟩
              rw [e3, keeps_ones k' (x :: t) _ f1 hs, f2, hd, keeps_zero _ _ _ (hs _ (List.getElem_mem _)), q3]
              have : (x :: t)[k'] ≠ some 1 := fun z => by
                rcases f3 with w | w
                · simp at w; omega
                · rw [List.getElem?_eq_getElem (by simpa using hkn), z] at w; exact w rfl
              rw [decide_eq_true this]
              rfl
            · have hkn' : k' = t.length + 1 := by omega
              have hc0 : c' = [] := List.length_eq_zero_iff.mp (by omega)
              have e3 : c = List.replicate k' 1 := by
                rw [e2, hc0]; unfold runCells; rw [if_neg hkn]; simp
              have hrs : rs' = [] := by
                rw [hc0] at q2
                cases rs' with
                | nil => rfl
                | cons k r => simp [runsI, runsZ, foldR] at q2
              refine ⟨by rw [e3]; simp [hkn'], by rw [e3, runsZ_runE hk, e1, hrs]; rfl, ?_⟩
              have := keeps_ones k' (x :: t) [] f1 hs
              rw [List.append_nil] at this
              rw [e3, this, f2, hkn']
              simp [keepsB]
        · rintro ⟨h1, h2, h3⟩
          right
          rw [e, List.length_append, List.length_replicate] at h1
          have hjl : j + 1 ≤ (x :: t).length := by omega
          rw [e, keeps_ones (j + 1) (x :: t) r hjl hs, Bool.and_eq_true] at h3
          rcases hrr with z | ⟨c', z⟩
          · subst z
            have hjn : j + 1 = t.length + 1 := by simpa using h1
            rw [e, List.append_nil, runsZ_runE (by omega)] at h2
            have e1 : rs = [j + 1] := runsI_inj (by rw [← h2]; rfl)
            refine ⟨j + 1, [], [], e1, fitsB_iff.mpr ⟨hjl, h3.1, .inl (by simpa using hjn)⟩, ?_, ?_⟩
            · rw [e]; unfold runCells; rw [if_neg (by omega)]; simp
            · rw [List.drop_eq_nil_of_le (by omega), layL_nil, if_pos rfl]; simp
          · subst z
            have hjn : j + 1 < t.length + 1 := by simp at h1; omega
            rw [e, runsZ_run (by omega)] at h2
            cases rs with
            | nil => simp [runsI] at h2
            | cons k rs' =>
              have h2' : ((j + 1 : Nat) : Int) :: runsZ c' = (k : Int) :: runsI rs' := h2
              injection h2' with h4 h5
              have hk : j + 1 = k := by omega
              subst hk
              have hd : (x :: t).drop (j + 1) = (x :: t)[j + 1] :: t.drop (j + 1) := by rw [drop_at (by simpa using hjn), List.drop_succ_cons]
              rw [hd, keeps_zero _ _ _ (hs _ (List.getElem_mem _)), Bool.and_eq_true, decide_eq_true_eq] at h3
              have hc' : bitsP c' := fun y hy => hc y (by rw [e]; exact List.mem_append_right _ (List.mem_cons_of_mem _ hy))
              have hs' : sightP (t.drop (j + 1)) := fun y hy => hst y (List.mem_of_mem_drop hy)
              have hlt : (t.drop (j + 1)).length < n := by rw [List.length_drop]; omega
              refine ⟨j + 1, rs', c', rfl, fitsB_iff.mpr ⟨hjl, h3.1, .inr ?_⟩, ?_, (ih _ hlt rs' _ c' rfl (fun k hk => hr k (List.mem_cons_of_mem _ hk)) hs' hc').mpr ⟨?_, h5, h3.2.2⟩⟩
              · rw [List.getElem?_eq_getElem (by simpa using hjn)]
                exact fun z => h3.2.1 (Option.some.inj z)
              · rw [e]; unfold runCells; rw [if_pos hjn]; simp
              · rw [List.length_drop]; simp at h1; omega
theorem layE_bits {rs : List Nat} {x : Option Int} {t : Sight} {c : List Int} (h : c ∈ layE rs (x :: t)) : ∃ c', c = 0 :: c' ∧ x ≠ some 1 ∧ c' ∈ layL rs t := by
  unfold layE at h
  have h' : c ∈ (if x = some 1 then [] else (layL rs t).map (fun c => (0 : Int) :: c)) := h
  split at h'
  · simp at h'
  · rename_i h1
    obtain ⟨c', h2, rfl⟩ := List.mem_map.mp h'
    exact ⟨c', rfl, h1, h2⟩
theorem layF_bits {rs : List Nat} {s : Sight} {c : List Int} (h : c ∈ layF rs s) : ∃ k rs' c', rs = k :: rs' ∧ fitsB k s = true ∧ c = runCells k s.length ++ c' ∧ c' ∈ layL rs' (s.drop (k + 1)) := by
  unfold layF at h
  cases rs with
  | nil => simp at h
  | cons k rs' =>
    have h' : c ∈ (if fitsB k s = true then (layL rs' (s.drop (k + 1))).map (fun c => runCells k s.length ++ c) else []) := h
    split at h'
    · rename_i h1
      obtain ⟨c', h2, rfl⟩ := List.mem_map.mp h'
      exact ⟨k, rs', c', rfl, h1, rfl, h2⟩
    · simp at h'
theorem runCells_bits (k n : Nat) : bitsP (runCells k n) := fun z hz => by
  unfold runCells at hz
  rcases List.mem_append.mp hz with h | h
  · exact .inr (List.eq_of_mem_replicate h)
  · split at h
    · exact .inl (by simpa using h)
    · simp at h
theorem lay_bits : ∀ (n : Nat) (rs : List Nat) (s : Sight) (c : List Int), s.length = n → c ∈ layL rs s → bitsP c := by
  intro n
  induction n using Nat.strongRecOn with
  | _ n ih =>
    intro rs s c hn h
    cases s with
    | nil =>
      rw [layL_nil] at h
      split at h
      · have : c = [] := by simpa using h
        subst this
        intro z hz; simp at hz
      · simp at h
    | cons x t =>
      rw [layL_parts] at h
      rcases List.mem_append.mp h with h | h
      · obtain ⟨c', rfl, _, h2⟩ := layE_bits h
        intro z hz
        rcases List.mem_cons.mp hz with e | e
        · exact .inl e
        · exact ih t.length (by rw [← hn]; simp) rs t c' rfl h2 z e
      · obtain ⟨k, rs', c', _, _, rfl, h2⟩ := layF_bits h
        intro z hz
        rcases List.mem_append.mp hz with e | e
        · exact runCells_bits k _ z e
        · exact ih _ (by rw [← hn, List.length_drop]; simp; omega) rs' _ c' rfl h2 z e
theorem lay_sound {rs : List Nat} {s : Sight} {c : List Int} (hr : ∀ k ∈ rs, 1 ≤ k) (hs : sightP s) (h : c ∈ layL rs s) : c.length = s.length ∧ runsZ c = runsI rs ∧ keepsB s c = true :=
  (mem_lay _ rs s c rfl hr hs (lay_bits _ rs s c rfl h)).mp h
open L2 in
theorem lexLt_pre : ∀ (p a b : List Int), HT.lexLt (p ++ a) (p ++ b) = HT.lexLt a b
  | [], a, b => rfl
  | x :: p, a, b => by
    rw [List.cons_append, List.cons_append, HT.lexLt_cons, if_pos rfl]
    exact lexLt_pre p a b
open L2 in
theorem lay_sorted : ∀ (n : Nat) (rs : List Nat) (s : Sight), s.length = n → (∀ k ∈ rs, 1 ≤ k) → (layL rs s).Pairwise (fun a b => HT.lexLt a b = true) := by
  intro n
  induction n using Nat.strongRecOn with
  | _ n ih =>
    intro rs s hn hr
    cases s with
    | nil =>
      rw [layL_nil]
      split
      · exact List.pairwise_singleton _ _
      · exact List.Pairwise.nil
    | cons x t =>
      rw [layL_parts, List.pairwise_append]
      refine ⟨?_, ?_, ?_⟩
      · show (if x = some 1 then [] else (layL rs t).map (fun c => (0 : Int) :: c)).Pairwise _
        split
        · exact List.Pairwise.nil
        · rw [List.pairwise_map]
          refine (ih t.length (by rw [← hn]; simp) rs t rfl hr).imp fun {a b} h => ?_
          rw [HT.lexLt_cons, if_pos rfl]
          exact h
      · unfold layF
        cases rs with
        | nil => exact List.Pairwise.nil
        | cons k rs' =>
          show (if fitsB k (x :: t) = true then (layL rs' ((x :: t).drop (k + 1))).map (fun c => runCells k (x :: t).length ++ c) else []).Pairwise _
          split
          · rw [List.pairwise_map]
            refine (ih _ (by rw [← hn, List.length_drop]; simp; omega) rs' _ rfl (fun k hk => hr k (List.mem_cons_of_mem _ hk))).imp fun {a b} h => ?_
            rw [lexLt_pre]
            exact h
          · exact List.Pairwise.nil
      · intro a ha b hb
        obtain ⟨a', rfl, _⟩ := layE_bits ha
        obtain ⟨k, rs', b', e, _, rfl, _⟩ := layF_bits hb
        have hk := hr k (by rw [e]; simp)
        obtain ⟨j, rfl⟩ : ∃ j, k = j + 1 := ⟨k - 1, by omega⟩
        unfold runCells
        rw [List.replicate_succ, List.cons_append, List.cons_append, HT.lexLt_cons, if_neg (by decide)]
        rfl
theorem emptyT_nat (rs : List Nat) (s : Sight) {p d : Nat} (hp : p < s.length) : emptyT (wayT rs s) s p d = ((layE (rs.drop d) (s.drop p)).length : Nat) := by
  unfold emptyT
  rw [List.getElem?_eq_getElem hp, drop_at hp]
  unfold layE
  show _ = (((if s[p] = some 1 then [] else (layL (rs.drop d) (s.drop (p + 1))).map (fun c => (0 : Int) :: c)) : List (List Int)).length : Int)
  by_cases h : s[p] = some 1
  · rw [if_pos (by rw [h]), if_pos h]; rfl
  · rw [if_neg (fun z => h (Option.some.inj z)), if_neg h, List.length_map]; rfl
theorem drop_min (s : Sight) (p : Nat) : s.drop (min p s.length) = s.drop p := by
  by_cases h : p ≤ s.length
  · rw [Nat.min_eq_left h]
  · rw [Nat.min_eq_right (by omega), List.drop_length, List.drop_eq_nil_of_le (by omega)]
theorem runCells_len {k n : Nat} (h : k ≤ n) : (runCells k n).length = min (k + 1) n := by
  unfold runCells
  rw [List.length_append, List.length_replicate]
  split
  · simp; omega
  · simp; omega
end Rp
namespace Rp
open PySem L2
theorem lexLt_irrefl : ∀ a : List Int, HT.lexLt a a = false
  | [] => HT.lexLt_nil_nil
  | x :: r => by rw [HT.lexLt_cons, if_pos rfl]; exact lexLt_irrefl r
theorem lexLt_asymm : ∀ a b : List Int, HT.lexLt a b = true → HT.lexLt b a = false
  | [], [], h => by rw [HT.lexLt_nil_nil]
  | [], y :: s, h => by rw [HT.lexLt_cons_nil]
  | x :: r, [], h => by rw [HT.lexLt_cons_nil] at h; cases h
  | x :: r, y :: s, h => by
    rw [HT.lexLt_cons] at h ⊢
    by_cases e : x = y
    · rw [if_pos e] at h
      rw [if_pos e.symm]
      exact lexLt_asymm r s h
    · rw [if_neg e] at h
      rw [if_neg (Ne.symm e)]
      have := of_decide_eq_true h
      exact decide_eq_false (by omega)
theorem sorted_eq : ∀ {l1 l2 : List (List Int)}, l1.Pairwise (fun a b => HT.lexLt a b = true) → l2.Pairwise (fun a b => HT.lexLt a b = true) → (∀ c, c ∈ l1 ↔ c ∈ l2) → l1 = l2
  | [], [], _, _, _ => rfl
  | [], b :: l2, _, _, h => by have := (h b).mpr (List.mem_cons_self ..); cases this
  | a :: l1, [], _, _, h => by have := (h a).mp (List.mem_cons_self ..); cases this
  | a :: l1, b :: l2, p1, p2, h => by
    rw [List.pairwise_cons] at p1 p2
    have hab : a = b := by
      rcases List.mem_cons.mp ((h a).mp (List.mem_cons_self ..)) with e | e
      · exact e
      · rcases List.mem_cons.mp ((h b).mpr (List.mem_cons_self ..)) with e' | e'
        · exact e'.symm
        · have q1 := p2.1 a e
          have q2 := p1.1 b e'
          rw [lexLt_asymm _ _ q1] at q2
          cases q2
    subst hab
    have ht : ∀ c, c ∈ l1 ↔ c ∈ l2 := fun c => by
      constructor
      · intro hc
        rcases List.mem_cons.mp ((h c).mp (List.mem_cons_of_mem _ hc)) with e | e
        · have := p1.1 c hc
          rw [e, lexLt_irrefl] at this
          cases this
        · exact e
      · intro hc
        rcases List.mem_cons.mp ((h c).mpr (List.mem_cons_of_mem _ hc)) with e | e
        · have := p2.1 c hc
          rw [e, lexLt_irrefl] at this
          cases this
        · exact e
    rw [sorted_eq p1.2 p2.2 ht]
def allBits : Nat → List (List Int)
  | 0 => [[]]
  | n + 1 => (allBits n).map (fun c => 0 :: c) ++ (allBits n).map (fun c => 1 :: c)
theorem allBits_len : ∀ n, (allBits n).length = 2 ^ n
  | 0 => rfl
  | n + 1 => by unfold allBits; rw [List.length_append, List.length_map, List.length_map, allBits_len n, Nat.pow_succ]; omega
theorem mem_allBits : ∀ (n : Nat) (c : List Int), c ∈ allBits n ↔ c.length = n ∧ bitsP c
  | 0, c => by
    unfold allBits
    rw [List.mem_singleton]
    constructor
    · rintro rfl; exact ⟨rfl, fun z hz => by cases hz⟩
    · rintro ⟨h, _⟩; exact List.length_eq_zero_iff.mp h
  | n + 1, c => by
    unfold allBits
    rw [List.mem_append, List.mem_map, List.mem_map]
    constructor
    · rintro (⟨d, hd, rfl⟩ | ⟨d, hd, rfl⟩)
      · obtain ⟨h1, h2⟩ := (mem_allBits n d).mp hd
        refine ⟨by rw [List.length_cons, h1], fun z hz => ?_⟩
        rcases List.mem_cons.mp hz with e | e
        · exact .inl e
        · exact h2 z e
      · obtain ⟨h1, h2⟩ := (mem_allBits n d).mp hd
        refine ⟨by rw [List.length_cons, h1], fun z hz => ?_⟩
        rcases List.mem_cons.mp hz with e | e
        · exact .inr e
        · exact h2 z e
    · rintro ⟨h1, h2⟩
      match c, h1, h2 with
      | z :: d, h1, h2 =>
        have hd : d ∈ allBits n := (mem_allBits n d).mpr ⟨by simpa using h1, fun y hy => h2 y (List.mem_cons_of_mem _ hy)⟩
        rcases h2 z (List.mem_cons_self ..) with e | e
        · exact .inl ⟨d, hd, by rw [e]⟩
        · exact .inr ⟨d, hd, by rw [e]⟩
theorem allBits_sorted : ∀ n, (allBits n).Pairwise (fun a b => HT.lexLt a b = true)
  | 0 => by unfold allBits; exact List.pairwise_singleton ..
  | n + 1 => by
    unfold allBits
    rw [List.pairwise_append]
    refine ⟨?_, ?_, ?_⟩
    · rw [List.pairwise_map]
      refine (allBits_sorted n).imp fun {a b} h => ?_
      rw [HT.lexLt_cons, if_pos rfl]
      exact h
    · rw [List.pairwise_map]
      refine (allBits_sorted n).imp fun {a b} h => ?_
      rw [HT.lexLt_cons, if_pos rfl]
      exact h
    · intro a ha b hb
      obtain ⟨a', _, rfl⟩ := List.mem_map.mp ha
      obtain ⟨b', _, rfl⟩ := List.mem_map.mp hb
      rw [HT.lexLt_cons, if_neg (by decide)]
      rfl
def fitB (rs : List Nat) (s : Sight) (c : List Int) : Bool := keepsB s c && decide (runsZ c = runsI rs)
theorem fit_lay {rs : List Nat} {s : Sight} (hr : ∀ k ∈ rs, 1 ≤ k) (hs : sightP s) : (allBits s.length).filter (fitB rs s) = layL rs s := by
  refine sorted_eq ((allBits_sorted _).filter _) (lay_sorted _ rs s rfl hr) fun c => ?_
  rw [List.mem_filter, mem_allBits]
  unfold fitB
  rw [Bool.and_eq_true, decide_eq_true_eq]
  constructor
  · rintro ⟨⟨h1, h2⟩, h3, h4⟩
    exact (mem_lay _ rs s c rfl hr hs h2).mpr ⟨h1, h4, h3⟩
  · intro h
    have hb := lay_bits _ rs s c rfl h
    obtain ⟨h1, h2, h3⟩ := (mem_lay _ rs s c rfl hr hs hb).mp h
    exact ⟨⟨h1, hb⟩, h3, h2⟩
end Rp
namespace Rp
open PySem L2
def hasB (rs : List Nat) (s : Sight) (i : Nat) (b : Int) : Bool := (layL rs s).any fun c => decide (c[i]? = some b)
def toldO (e f : Bool) : Option Int := if e && f then none else if f then some 1 else some 0
def bestO (rs : List Nat) (s : Sight) (i : Nat) : Option Int := toldO (hasB rs s i 0) (hasB rs s i 1)
def bestS (rs : List Nat) (s : Sight) : Sight := (List.range s.length).map (bestO rs s)
theorem hasB_iff {rs : List Nat} {s : Sight} {i : Nat} {b : Int} : hasB rs s i b = true ↔ ∃ c ∈ layL rs s, c[i]? = some b := by
  unfold hasB
  rw [List.any_eq_true]
  constructor
  · rintro ⟨c, h1, h2⟩; exact ⟨c, h1, of_decide_eq_true h2⟩
  · rintro ⟨c, h1, h2⟩; exact ⟨c, h1, decide_eq_true h2⟩
def Al (rs : List Nat) (s : Sight) (p e : Nat) (b : Bool) (q d : Nat) (c' : List Int) : Prop := p < q ∨ (q = p ∧ (e < d ∨ (d = e ∧ (b = true → c' ∈ layF (rs.drop e) (s.drop p)))))
structure BInv (rs : List Nat) (s : Sight) (p e : Nat) (b : Bool) (R : Nat → Nat → Bool) (Em Fu : Nat → Bool) : Prop where
  so : ∀ q d, q ≤ s.length → d ≤ rs.length → R q d = true → ∃ pre : List Int, pre.length = q ∧ ∀ c' ∈ layL (rs.drop d) (s.drop q), pre ++ c' ∈ layL rs s
  em : ∀ i, Em i = true → ∃ c ∈ layL rs s, c[i]? = some 0
  fu : ∀ i, Fu i = true → ∃ c ∈ layL rs s, c[i]? = some 1
  co : ∀ c ∈ layL rs s, ∃ (q d : Nat) (pre c' : List Int), c = pre ++ c' ∧ pre.length = q ∧ q ≤ s.length ∧ d ≤ rs.length ∧ R q d = true ∧ c' ∈ layL (rs.drop d) (s.drop q) ∧ Al rs s p e b q d c' ∧ ∀ i, i < q → (c[i]? = some 0 → Em i = true) ∧ (c[i]? = some 1 → Fu i = true)
theorem BInv.init {rs : List Nat} {s : Sight} {R : Nat → Nat → Bool} {Em Fu : Nat → Bool} (hR : ∀ q d, R q d = true ↔ q = 0 ∧ d = 0) (hE : ∀ i, Em i = false) (hF : ∀ i, Fu i = false) : BInv rs s 0 0 false R Em Fu := by
  refine ⟨fun q d _ _ hr => ?_, fun i hi => (by rw [hE] at hi; cases hi), fun i hi => (by rw [hF] at hi; cases hi), fun c hc => ?_⟩
  · obtain ⟨rfl, rfl⟩ := (hR q d).mp hr
    exact ⟨[], rfl, fun c' h => h⟩
  · exact ⟨0, 0, [], c, rfl, rfl, Nat.zero_le _, Nat.zero_le _, (hR 0 0).mpr ⟨rfl, rfl⟩, hc, .inr ⟨rfl, .inr ⟨rfl, fun z => by cases z⟩⟩, fun i hi => absurd hi (Nat.not_lt_zero _)⟩
theorem split_lay {rs : List Nat} {s : Sight} {p d : Nat} {c : List Int} (hp : p < s.length) (h : c ∈ layL (rs.drop d) (s.drop p)) : c ∈ layE (rs.drop d) (s.drop p) ∨ c ∈ layF (rs.drop d) (s.drop p) := by
  rw [drop_at hp, layL_parts, ← drop_at hp] at h
  exact List.mem_append.mp h
theorem BInv.noE {rs : List Nat} {s : Sight} {p e : Nat} {R : Nat → Nat → Bool} {Em Fu : Nat → Bool} (h : BInv rs s p e false R Em Fu) (hp : p < s.length) (hno : R p e = true → layE (rs.drop e) (s.drop p) = []) : BInv rs s p e true R Em Fu := by
  refine ⟨h.so, h.em, h.fu, fun c hc => ?_⟩
  obtain ⟨q, d, pre, c', h1, h2, h3, h4, h5, h6, h7, h8⟩ := h.co c hc
  refine ⟨q, d, pre, c', h1, h2, h3, h4, h5, h6, ?_, h8⟩
  rcases h7 with z | ⟨rfl, z | ⟨rfl, _⟩⟩
  · exact .inl z
  · exact .inr ⟨rfl, .inl z⟩
  · refine .inr ⟨rfl, .inr ⟨rfl, fun _ => ?_⟩⟩
    rcases split_lay hp h6 with w | w
    · rw [hno h5] at w; cases w
    · exact w
theorem BInv.noF {rs : List Nat} {s : Sight} {p e : Nat} {R : Nat → Nat → Bool} {Em Fu : Nat → Bool} (h : BInv rs s p e true R Em Fu) (hno : R p e = true → layF (rs.drop e) (s.drop p) = []) : BInv rs s p (e + 1) false R Em Fu := by
  refine ⟨h.so, h.em, h.fu, fun c hc => ?_⟩
  obtain ⟨q, d, pre, c', h1, h2, h3, h4, h5, h6, h7, h8⟩ := h.co c hc
  refine ⟨q, d, pre, c', h1, h2, h3, h4, h5, h6, ?_, h8⟩
  rcases h7 with z | ⟨rfl, z | ⟨rfl, w⟩⟩
  · exact .inl z
  · refine .inr ⟨rfl, ?_⟩
    by_cases hd : e + 1 < d
    · exact .inl hd
    · exact .inr ⟨by omega, fun q => by cases q⟩
  · have := w rfl
    rw [hno h5] at this
    cases this
theorem BInv.next {rs : List Nat} {s : Sight} {p : Nat} {R : Nat → Nat → Bool} {Em Fu : Nat → Bool} (h : BInv rs s p (rs.length + 1) false R Em Fu) : BInv rs s (p + 1) 0 false R Em Fu := by
  refine ⟨h.so, h.em, h.fu, fun c hc => ?_⟩
  obtain ⟨q, d, pre, c', h1, h2, h3, h4, h5, h6, h7, h8⟩ := h.co c hc
  refine ⟨q, d, pre, c', h1, h2, h3, h4, h5, h6, ?_, h8⟩
  have hpq : p < q := by
    rcases h7 with z | ⟨rfl, z | ⟨rfl, w⟩⟩ <;> omega
  by_cases hq : p + 1 < q
  · exact .inl hq
  · refine .inr ⟨by omega, ?_⟩
    by_cases hd : 0 < d
    · exact .inl hd
    · exact .inr ⟨by omega, fun z => by cases z⟩
theorem getElem_pre {pre c' : List Int} {j : Nat} : (pre ++ c')[pre.length + j]? = c'[j]? := by rw [List.getElem?_append_right (by omega)]; congr 1; omega
theorem getElem_pre' {pre c' : List Int} {p j : Nat} (h : pre.length = p) : (pre ++ c')[p + j]? = c'[j]? := by subst h; exact getElem_pre
theorem BInv.yesE {rs : List Nat} {s : Sight} {p e : Nat} {R R' : Nat → Nat → Bool} {Em Fu Em' : Nat → Bool} (h : BInv rs s p e false R Em Fu) (hp : p < s.length) (he : e ≤ rs.length) (hr : R p e = true) (hne : layE (rs.drop e) (s.drop p) ≠ [])
    (hR : ∀ q d, R' q d = (R q d || decide (q = p + 1 ∧ d = e))) (hE : ∀ i, Em' i = (Em i || decide (i = p))) : BInv rs s p e true R' Em' Fu := by
  obtain ⟨pre, hpl, hpre⟩ := h.so p e (by omega) he hr
  have hx : s[p] ≠ some 1 := fun z => hne (by rw [drop_at hp]; unfold layE; show (if s[p] = some 1 then [] else _) = []; rw [if_pos z])
  have hcons : ∀ c'' ∈ layL (rs.drop e) (s.drop (p + 1)), (0 :: c'') ∈ layL (rs.drop e) (s.drop p) := fun c'' hc => by
    rw [drop_at hp, layL_parts]
    refine List.mem_append_left _ ?_
    show (0 :: c'') ∈ (if s[p] = some 1 then [] else (layL (rs.drop e) (s.drop (p + 1))).map (fun c => (0 : Int) :: c))
    rw [if_neg hx]
    exact List.mem_map.mpr ⟨c'', hc, rfl⟩
  refine ⟨fun q d hq hd hr' => ?_, fun i hi => ?_, h.fu, fun c hc => ?_⟩
  · rw [hR, Bool.or_eq_true, decide_eq_true_eq] at hr'
    rcases hr' with z | ⟨rfl, rfl⟩
    · exact h.so q d hq hd z
    · refine ⟨pre ++ [0], by rw [List.length_append, hpl]; rfl, fun c'' hc => ?_⟩
      rw [List.append_assoc]
      exact hpre _ (hcons c'' hc)
  · rw [hE, Bool.or_eq_true, decide_eq_true_eq] at hi
    rcases hi with z | rfl
    · exact h.em i z
    · obtain ⟨c0, hc0⟩ := List.exists_mem_of_ne_nil _ hne
      have hc0' : c0 ∈ layL (rs.drop e) (s.drop i) := by rw [drop_at hp, layL_parts, ← drop_at hp]; exact List.mem_append_left _ hc0
      rw [drop_at hp] at hc0
      obtain ⟨c1, rfl, _, _⟩ := layE_bits hc0
      refine ⟨pre ++ 0 :: c1, hpre _ hc0', ?_⟩
      have := getElem_pre (pre := pre) (c' := 0 :: c1) (j := 0)
      rw [hpl] at this
      exact this
  · obtain ⟨q, d, pr, c', h1, h2, h3, h4, h5, h6, h7, h8⟩ := h.co c hc
    have keep : Al rs s p e true q d c' → _ := fun hA => (⟨q, d, pr, c', h1, h2, h3, h4, by rw [hR, h5]; rfl, h6, hA, fun i hi => ⟨fun z => by rw [hE, (h8 i hi).1 z]; rfl, (h8 i hi).2⟩⟩ : ∃ (q d : Nat) (pre c' : List Int), c = pre ++ c' ∧ pre.length = q ∧ q ≤ s.length ∧ d ≤ rs.length ∧ R' q d = true ∧ c' ∈ layL (rs.drop d) (s.drop q) ∧ Al rs s p e true q d c' ∧ ∀ i, i < q → (c[i]? = some 0 → Em' i = true) ∧ (c[i]? = some 1 → Fu i = true))
    rcases h7 with z | ⟨rfl, z | ⟨rfl, _⟩⟩
    · exact keep (.inl z)
    · exact keep (.inr ⟨rfl, .inl z⟩)
    · rcases split_lay hp h6 with w | w
      · rw [drop_at hp] at w
        obtain ⟨c1, rfl, _, hc1⟩ := layE_bits w
        refine ⟨q + 1, d, pr ++ [0], c1, by rw [h1, List.append_assoc]; rfl, by rw [List.length_append, h2]; rfl, by omega, h4, by rw [hR, decide_eq_true ⟨rfl, rfl⟩, Bool.or_true], hc1, .inl (by omega), fun i hi => ?_⟩
        by_cases hiq : i < q
        · exact ⟨fun z => by rw [hE, (h8 i hiq).1 z]; rfl, (h8 i hiq).2⟩
        · have : i = q := by omega
          subst this
          refine ⟨fun _ => by rw [hE, decide_eq_true rfl, Bool.or_true], fun z => ?_⟩
          have hg := getElem_pre (pre := pr) (c' := 0 :: c1) (j := 0)
          rw [h2, Nat.add_zero, ← h1, z] at hg
          cases hg
      · exact keep (.inr ⟨rfl, .inr ⟨rfl, fun _ => w⟩⟩)
theorem BInv.yesF {rs : List Nat} {s : Sight} {p e k : Nat} {R R' : Nat → Nat → Bool} {Em Fu Em' Fu' : Nat → Bool} (h : BInv rs s p e true R Em Fu) (hp : p < s.length) (he : e < rs.length) (hk : rs.getD e 0 = k) (hr : R p e = true) (hne : layF (rs.drop e) (s.drop p) ≠ [])
    (hR : ∀ q d, R' q d = (R q d || decide (q = min (p + k + 1) s.length ∧ d = e + 1)))
    (hE : ∀ i, Em' i = true ↔ Em i = true ∨ ∃ j, i = p + j ∧ (runCells k (s.length - p))[j]? = some 0) (hF : ∀ i, Fu' i = true ↔ Fu i = true ∨ ∃ j, i = p + j ∧ (runCells k (s.length - p))[j]? = some 1) : BInv rs s p (e + 1) false R' Em' Fu' := by
  obtain ⟨pre, hpl, hpre⟩ := h.so p e (by omega) (by omega) hr
  have eg : rs[e] = k := by rw [← hk, List.getD_eq_getElem?_getD, List.getElem?_eq_getElem he]; rfl
  have hfit : fitsB k (s.drop p) = true := by
    obtain ⟨c0, hc0⟩ := List.exists_mem_of_ne_nil _ hne
    obtain ⟨k', rs', c', e1, e2, _⟩ := layF_bits hc0
    rw [drop_at he] at e1
    injection e1 with e1 _
    rw [← eg, e1]
    exact e2
  have hkl : k ≤ s.length - p := by have := (fitsB_iff.mp hfit).1; rw [List.length_drop] at this; exact this
  have hcl : (runCells k (s.length - p)).length = min (p + k + 1) s.length - p := by rw [runCells_len hkl]; omega
  have hF' : layF (rs.drop e) (s.drop p) = (layL (rs.drop (e + 1)) (s.drop (min (p + k + 1) s.length))).map (fun c => runCells k (s.length - p) ++ c) := by
    rw [drop_at he, eg]
    show (if fitsB k (s.drop p) = true then (layL (rs.drop (e + 1)) ((s.drop p).drop (k + 1))).map (fun c => runCells k (s.drop p).length ++ c) else []) = _
    rw [if_pos hfit, List.drop_drop, List.length_drop, drop_min]
    rfl
  have hinF : ∀ c ∈ layF (rs.drop e) (s.drop p), c ∈ layL (rs.drop e) (s.drop p) := fun c hc => by rw [drop_at hp, layL_parts, ← drop_at hp]; exact List.mem_append_right _ hc
  obtain ⟨c0, hc0⟩ := List.exists_mem_of_ne_nil _ hne
  have hwit : ∀ j z, (runCells k (s.length - p))[j]? = some z → ∃ c ∈ layL rs s, c[p + j]? = some z := fun j z hz => by
    have h0 := hinF c0 hc0
    rw [hF'] at hc0
    obtain ⟨c1, _, rfl⟩ := List.mem_map.mp hc0
    refine ⟨_, hpre _ h0, ?_⟩
    rw [getElem_pre' hpl, List.getElem?_append_left (List.getElem?_eq_some_iff.mp hz).1]
    exact hz
  refine ⟨fun q d hq hd hr' => ?_, fun i hi => ?_, fun i hi => ?_, fun c hc => ?_⟩
  · rw [hR, Bool.or_eq_true, decide_eq_true_eq] at hr'
    rcases hr' with z | ⟨rfl, rfl⟩
    · exact h.so q d hq hd z
    · refine ⟨pre ++ runCells k (s.length - p), by rw [List.length_append, hpl, hcl]; omega, fun c'' hc => ?_⟩
      rw [List.append_assoc]
      refine hpre _ (hinF _ ?_)
      rw [hF']
      exact List.mem_map.mpr ⟨c'', hc, rfl⟩
  · rcases (hE i).mp hi with z | ⟨j, rfl, hj⟩
    · exact h.em i z
    · exact hwit j 0 hj
  · rcases (hF i).mp hi with z | ⟨j, rfl, hj⟩
    · exact h.fu i z
    · exact hwit j 1 hj
  · obtain ⟨q, d, pr, c', h1, h2, h3, h4, h5, h6, h7, h8⟩ := h.co c hc
    have keep : Al rs s p (e + 1) false q d c' → _ := fun hA => (⟨q, d, pr, c', h1, h2, h3, h4, by rw [hR, h5]; rfl, h6, hA, fun i hi => ⟨fun z => (hE i).mpr (.inl ((h8 i hi).1 z)), fun z => (hF i).mpr (.inl ((h8 i hi).2 z))⟩⟩ : ∃ (q d : Nat) (pre c' : List Int), c = pre ++ c' ∧ pre.length = q ∧ q ≤ s.length ∧ d ≤ rs.length ∧ R' q d = true ∧ c' ∈ layL (rs.drop d) (s.drop q) ∧ Al rs s p (e + 1) false q d c' ∧ ∀ i, i < q → (c[i]? = some 0 → Em' i = true) ∧ (c[i]? = some 1 → Fu' i = true))
    rcases h7 with z | ⟨rfl, z | ⟨rfl, w⟩⟩
    · exact keep (.inl z)
    · refine keep (.inr ⟨rfl, ?_⟩)
      by_cases hd : e + 1 < d
      · exact .inl hd
      · exact .inr ⟨by omega, fun q => by cases q⟩
    · have w' := w rfl
      rw [hF'] at w'
      obtain ⟨c1, hc1, rfl⟩ := List.mem_map.mp w'
      refine ⟨min (q + k + 1) s.length, d + 1, pr ++ runCells k (s.length - q), c1, by rw [h1, List.append_assoc], by rw [List.length_append, h2, hcl]; omega, by omega, by omega, by rw [hR, decide_eq_true ⟨rfl, rfl⟩, Bool.or_true], hc1, .inl (by omega), fun i hi => ?_⟩
      by_cases hiq : i < q
      · exact ⟨fun z => (hE i).mpr (.inl ((h8 i hiq).1 z)), fun z => (hF i).mpr (.inl ((h8 i hiq).2 z))⟩
      · obtain ⟨j, rfl⟩ : ∃ j, i = q + j := ⟨i - q, by omega⟩
        have hjl : j < (runCells k (s.length - q)).length := by rw [hcl]; omega
        have hg : c[q + j]? = (runCells k (s.length - q))[j]? := by rw [h1, getElem_pre' h2, List.getElem?_append_left hjl]
        exact ⟨fun z => (hE _).mpr (.inr ⟨j, rfl, by rw [← hg]; exact z⟩), fun z => (hF _).mpr (.inr ⟨j, rfl, by rw [← hg]; exact z⟩)⟩
theorem BInv.done {rs : List Nat} {s : Sight} {R : Nat → Nat → Bool} {Em Fu : Nat → Bool} (h : BInv rs s s.length 0 false R Em Fu) {i : Nat} (hi : i < s.length) : Em i = hasB rs s i 0 ∧ Fu i = hasB rs s i 1 := by
  have hq : ∀ c ∈ layL rs s, (c[i]? = some 0 → Em i = true) ∧ (c[i]? = some 1 → Fu i = true) := fun c hc => by
    obtain ⟨q, d, pre, c', h1, h2, h3, h4, h5, h6, h7, h8⟩ := h.co c hc
    refine h8 i ?_
    rcases h7 with z | ⟨rfl, _⟩ <;> omega
  constructor
  · rw [Bool.eq_iff_iff, hasB_iff]
    exact ⟨h.em i, fun ⟨c, h1, h2⟩ => (hq c h1).1 h2⟩
  · rw [Bool.eq_iff_iff, hasB_iff]
    exact ⟨h.fu i, fun ⟨c, h1, h2⟩ => (hq c h1).2 h2⟩
theorem fullT_nat (rs : List Nat) (s : Sight) {p d : Nat} (hp : p < s.length) (hd : d ≤ rs.length) : fullT (wayT rs s) rs s p d = ((layF (rs.drop d) (s.drop p)).length : Nat) := by
  have h1 : (((layL (rs.drop d) (s.drop p)).length : Nat) : Int) = emptyT (wayT rs s) s p d + fullT (wayT rs s) rs s p d := wayT_step rs s hp hd
  rw [emptyT_nat rs s hp] at h1
  have h2 : layL (rs.drop d) (s.drop p) = layE (rs.drop d) (s.drop p) ++ layF (rs.drop d) (s.drop p) := by rw [drop_at hp, layL_parts]
  rw [h2, List.length_append] at h1
  omega
end Rp
namespace Rp
open PySem L2
abbrev View := List Sight
def cellV (v : View) (i j : Nat) : Option Int := (v.getD i []).getD j none
def setC (v : View) (i j : Nat) (x : Option Int) : View := v.set i ((v.getD i []).set j x)
def kindT : Nat → Str
  | 0 => "row"
  | _ + 1 => "column"
def sightAt (v : View) (side n : Nat) : Sight := if side = 0 then v.getD n [] else v.map fun s => s.getD n none
def tellV (side n : Nat) (v : View) (pc : Nat × Option Int) : View := if side = 0 then setC v n pc.1 pc.2 else setC v pc.1 n pc.2
def toldF (s t : Sight) (p : Nat) : Option (Nat × Option Int) := if s.getD p none = t.getD p none then none else some (p, t.getD p none)
def toldL (s t : Sight) : List (Nat × Option Int) := (List.range s.length).filterMap (toldF s t)
structure Stp where
  side : Nat
  num : Nat
  cells : List (Nat × Option Int)
abbrev NSt := View × List Stp
abbrev Brd := List (List Int) × List (List Int)
def natR (xs : List Int) : List Nat := xs.map Int.toNat
def runsAt (b : Brd) (side n : Nat) : List Nat := natR ((if side = 0 then b.1 else b.2).getD n [])
def toldAt (b : Brd) (l : Nat × Nat) (v : View) : List (Nat × Option Int) := toldL (sightAt v l.1 l.2) (bestS (runsAt b l.1 l.2) (sightAt v l.1 l.2))
def layAt (b : Brd) (l : Nat × Nat) (v : View) : List (List Int) := layL (runsAt b l.1 l.2) (sightAt v l.1 l.2)
def stepV (b : Brd) (l : Nat × Nat) (st : NSt) : Option NSt :=
  if layAt b l st.1 = [] then none
  else some ((toldAt b l st.1).foldl (tellV l.1 l.2) st.1, if toldAt b l st.1 = [] then st.2 else st.2 ++ [⟨l.1, l.2, toldAt b l st.1⟩])
def goV (b : Brd) : List (Nat × Nat) → NSt → Option NSt
  | [], st => some st
  | l :: r, st => (stepV b l st).bind (goV b r)
def linesB (b : Brd) : List (Nat × Nat) := ((List.range b.1.length).map fun i => (0, i)) ++ ((List.range b.2.length).map fun i => (1, i))
def roundV (b : Brd) (st : NSt) : Option NSt := goV b (linesB b) st
def loopV (b : Brd) : Nat → NSt → Option NSt
  | 0, st => some st
  | n + 1, st => (roundV b st).bind fun st' => if st.2.length < st'.2.length then loopV b n st' else some st'
def unk (v : View) : Nat := (v.map fun s => s.countP (·.isNone)).sum
def narrowV (b : Brd) (v : View) : Option NSt := loopV b (unk v + 1) (v, [])
structure VOk (h w : Nat) (v : View) : Prop where
  len : v.length = h
  wid : ∀ s ∈ v, s.length = w
  bit : ∀ s ∈ v, sightP s
theorem VOk.row {h w : Nat} {v : View} (o : VOk h w v) {i : Nat} (hi : i < h) : (v.getD i []).length = w ∧ sightP (v.getD i []) := by
  have hi' : i < v.length := by rw [o.len]; exact hi
  rw [List.getD_eq_getElem?_getD, List.getElem?_eq_getElem hi']
  exact ⟨o.wid _ (List.getElem_mem hi'), o.bit _ (List.getElem_mem hi')⟩
theorem VOk.setC {h w : Nat} {v : View} (o : VOk h w v) {i j : Nat} {x : Option Int} (hi : i < h) (hx : x = none ∨ x = some 0 ∨ x = some 1) : VOk h w (setC v i j x) := by
  obtain ⟨h1, h2⟩ := o.row hi
  refine ⟨by unfold Rp.setC; rw [List.length_set]; exact o.len, fun s hs => ?_, fun s hs => ?_⟩
  · unfold Rp.setC at hs
    rcases List.mem_or_eq_of_mem_set hs with z | z
    · exact o.wid s z
    · rw [z, List.length_set]; exact h1
  · unfold Rp.setC at hs
    rcases List.mem_or_eq_of_mem_set hs with z | z
    · exact o.bit s z
    · rw [z]
      intro y hy
      rcases List.mem_or_eq_of_mem_set hy with q | q
      · exact h2 y q
      · rw [q]; exact hx
theorem cellV_set {h w : Nat} {v : View} (o : VOk h w v) {i j i' j' : Nat} {x : Option Int} (hi : i < h) (hj : j < w) : cellV (setC v i j x) i' j' = if i' = i ∧ j' = j then x else cellV v i' j' := by
  have hi' : i < v.length := by rw [o.len]; exact hi
  have hw := (o.row hi).1
  unfold cellV setC
  by_cases h1 : i' = i
  · subst h1
    rw [getD_of (x := (v.getD i' []).set j x) (List.getElem?_set_self hi')]
    by_cases h2 : j' = j
    · subst h2
      rw [if_pos ⟨rfl, rfl⟩, getD_of (List.getElem?_set_self (by rw [hw]; exact hj))]
    · rw [if_neg (fun z => h2 z.2), List.getD_eq_getElem?_getD, List.getElem?_set_ne (Ne.symm h2), ← List.getD_eq_getElem?_getD]
  · rw [if_neg (fun z => h1 z.1)]
    congr 1
    rw [List.getD_eq_getElem?_getD, List.getElem?_set_ne (Ne.symm h1), ← List.getD_eq_getElem?_getD]
def LOk (h w : Nat) (l : Nat × Nat) : Prop := (l.1 = 0 ∧ l.2 < h) ∨ (l.1 = 1 ∧ l.2 < w)
def lenL (h w : Nat) (l : Nat × Nat) : Nat := if l.1 = 0 then w else h
def posL (l : Nat × Nat) (p : Nat) : Nat × Nat := if l.1 = 0 then (l.2, p) else (p, l.2)
theorem sightAt_len {h w : Nat} {v : View} (o : VOk h w v) {l : Nat × Nat} (hl : LOk h w l) : (sightAt v l.1 l.2).length = lenL h w l := by
  unfold sightAt lenL
  rcases hl with ⟨h1, h2⟩ | ⟨h1, h2⟩
  · rw [if_pos h1, if_pos h1]; exact (o.row h2).1
  · rw [if_neg (by omega), if_neg (by omega), List.length_map]; exact o.len
theorem sightAt_get {h w : Nat} {v : View} (o : VOk h w v) {l : Nat × Nat} (hl : LOk h w l) {p : Nat} (hp : p < lenL h w l) : (sightAt v l.1 l.2).getD p none = cellV v (posL l p).1 (posL l p).2 := by
  unfold sightAt posL cellV
  unfold lenL at hp
  rcases hl with ⟨h1, h2⟩ | ⟨h1, h2⟩
  · rw [if_pos h1, if_pos h1]
  · rw [if_neg (by omega), if_neg (by omega)]
    rw [if_neg (by omega)] at hp
    have hp' : p < v.length := by rw [o.len]; exact hp
    rw [getD_of (x := (v[p]).getD l.2 none) (by rw [List.getElem?_map, List.getElem?_eq_getElem hp']; rfl)]
    show _ = (v.getD p []).getD l.2 none
    rw [getD_of (List.getElem?_eq_getElem hp')]
theorem sightAt_P {h w : Nat} {v : View} (o : VOk h w v) {l : Nat × Nat} (hl : LOk h w l) : sightP (sightAt v l.1 l.2) := by
  unfold sightAt
  rcases hl with ⟨h1, h2⟩ | ⟨h1, h2⟩
  · rw [if_pos h1]; exact (o.row h2).2
  · rw [if_neg (by omega)]
    intro x hx
    obtain ⟨s, hs, rfl⟩ := List.mem_map.mp hx
    have h3 := o.wid s hs
    have h4 : l.2 < s.length := by omega
    rw [getD_of (List.getElem?_eq_getElem h4)]
    exact o.bit s hs _ (List.getElem_mem h4)
theorem tellV_eq (l : Nat × Nat) (v : View) (pc : Nat × Option Int) : tellV l.1 l.2 v pc = setC v (posL l pc.1).1 (posL l pc.1).2 pc.2 := by
  unfold tellV posL
  by_cases h : l.1 = 0
  · rw [if_pos h, if_pos h]
  · rw [if_neg h, if_neg h]
theorem posL_in {h w : Nat} {l : Nat × Nat} (hl : LOk h w l) {p : Nat} (hp : p < lenL h w l) : (posL l p).1 < h ∧ (posL l p).2 < w := by
  unfold posL
  unfold lenL at hp
  rcases hl with ⟨h1, h2⟩ | ⟨h1, h2⟩
  · rw [if_pos h1] at hp ⊢; exact ⟨h2, hp⟩
  · rw [if_neg (by omega)] at hp ⊢; exact ⟨hp, h2⟩
theorem posL_inj {l : Nat × Nat} {p q : Nat} (h : posL l p = posL l q) : p = q := by
  unfold posL at h
  by_cases h1 : l.1 = 0
  · rw [if_pos h1, if_pos h1] at h; exact (Prod.mk.inj h).2
  · rw [if_neg h1, if_neg h1] at h; exact (Prod.mk.inj h).1
def bitO (x : Option Int) : Prop := x = none ∨ x = some 0 ∨ x = some 1
theorem told_fold {h w : Nat} {v : View} (o : VOk h w v) {l : Nat × Nat} (hl : LOk h w l) {t : Sight} (ht : ∀ p, bitO (t.getD p none)) : ∀ k, k ≤ lenL h w l →
    VOk h w (((List.range k).filterMap (toldF (sightAt v l.1 l.2) t)).foldl (tellV l.1 l.2) v) ∧
    (∀ p, p < k → cellV (((List.range k).filterMap (toldF (sightAt v l.1 l.2) t)).foldl (tellV l.1 l.2) v) (posL l p).1 (posL l p).2 = t.getD p none) ∧
    (∀ i j, (∀ p, p < k → (i, j) ≠ posL l p) → cellV (((List.range k).filterMap (toldF (sightAt v l.1 l.2) t)).foldl (tellV l.1 l.2) v) i j = cellV v i j)
  | 0, _ => ⟨o, fun p hp => absurd hp (Nat.not_lt_zero _), fun i j _ => rfl⟩
  | k + 1, hk => by
    obtain ⟨a, b, c⟩ := told_fold o hl ht k (by omega)
    rw [List.range_succ, List.filterMap_append, List.foldl_append]
    generalize ((List.range k).filterMap (toldF (sightAt v l.1 l.2) t)).foldl (tellV l.1 l.2) v = v' at a b c
    obtain ⟨q1, q2⟩ := posL_in hl (p := k) (by omega)
    have hc : cellV v' (posL l k).1 (posL l k).2 = (sightAt v l.1 l.2).getD k none := by
      rw [sightAt_get o hl (by omega)]
      exact c _ _ fun p hp z => absurd (posL_inj z) (by omega)
    by_cases hs : (sightAt v l.1 l.2).getD k none = t.getD k none
    · have e : List.filterMap (toldF (sightAt v l.1 l.2) t) [k] = [] := by
        show List.filterMap _ (k :: []) = []
        rw [List.filterMap_cons_none (by unfold toldF; rw [if_pos hs])]
        rfl
      rw [e]
      refine ⟨a, fun p hp => ?_, fun i j hij => c i j fun p hp => hij p (by omega)⟩
      by_cases hpk : p = k
      · subst hpk; exact hc.trans hs
      · exact b p (by omega)
    · have e : List.filterMap (toldF (sightAt v l.1 l.2) t) [k] = [(k, t.getD k none)] := by
        show List.filterMap _ (k :: []) = _
        rw [List.filterMap_cons_some (b := (k, t.getD k none)) (by unfold toldF; rw [if_neg hs])]
        rfl
      rw [e]
      show VOk h w (tellV l.1 l.2 v' (k, t.getD k none)) ∧ _
      rw [tellV_eq]
      refine ⟨a.setC q1 (ht k), fun p hp => ?_, fun i j hij => ?_⟩
      · show cellV (tellV l.1 l.2 v' (k, t.getD k none)) _ _ = _
        rw [tellV_eq, cellV_set a q1 q2]
        by_cases hpk : p = k
        · subst hpk; rw [if_pos ⟨rfl, rfl⟩]
        · rw [if_neg (fun z => hpk (posL_inj (Prod.ext z.1 z.2)))]
          exact b p (by omega)
      · show cellV (tellV l.1 l.2 v' (k, t.getD k none)) _ _ = _
        rw [tellV_eq, cellV_set a q1 q2, if_neg (fun z => hij k (by omega) (Prod.ext z.1 z.2))]
        exact c i j fun p hp => hij p (by omega)
theorem cnt_le : ∀ {s t : Sight}, s.length = t.length → (∀ j, j < s.length → t.getD j none = none → s.getD j none = none) → t.countP (·.isNone) ≤ s.countP (·.isNone)
  | [], [], _, _ => Nat.le_refl _
  | [], _ :: _, h, _ => by simp at h
  | _ :: _, [], h, _ => by simp at h
  | x :: s, y :: t, h, g => by
    have ih := cnt_le (s := s) (t := t) (by simpa using h) fun j hj e => by
      have := g (j + 1) (by simp; omega) (by simpa using e)
      simpa using this
    have g0 := g 0 (by simp)
    rw [List.countP_cons, List.countP_cons]
    cases y with
    | some z => simp; omega
    | none =>
      have : x = none := by simpa using g0 rfl
      subst this
      simp; omega
theorem cnt_lt : ∀ {s t : Sight} {j : Nat}, s.length = t.length → (∀ j, j < s.length → t.getD j none = none → s.getD j none = none) → j < s.length → s.getD j none = none → t.getD j none ≠ none → t.countP (·.isNone) < s.countP (·.isNone)
  | [], _, j, _, _, hj, _, _ => by simp at hj
  | _ :: _, [], _, h, _, _, _, _ => by simp at h
  | x :: s, y :: t, 0, h, g, hj, h1, h2 => by
    have ih := cnt_le (s := s) (t := t) (by simpa using h) fun j hj e => by
      have := g (j + 1) (by simp; omega) (by simpa using e)
      simpa using this
    rw [List.countP_cons, List.countP_cons]
    have e1 : x = none := by simpa using h1
    subst e1
    cases y with
    | some z => simp; omega
    | none => exact absurd rfl h2
  | x :: s, y :: t, j + 1, h, g, hj, h1, h2 => by
    have ih := cnt_lt (s := s) (t := t) (j := j) (by simpa using h) (fun j hj e => by
      have := g (j + 1) (by simp; omega) (by simpa using e)
      simpa using this) (by simpa using hj) (by simpa using h1) (by simpa using h2)
    have g0 := g 0 (by simp)
    rw [List.countP_cons, List.countP_cons]
    cases y with
    | some z => simp; omega
    | none =>
      have : x = none := by simpa using g0 rfl
      subst this
      simp; omega
theorem unk_cons (s : Sight) (v : View) : unk (s :: v) = s.countP (·.isNone) + unk v := by unfold unk; rw [List.map_cons, List.sum_cons]
theorem unk_le_aux : ∀ {w : Nat} {v v' : View}, v.length = v'.length → (∀ s ∈ v, s.length = w) → (∀ s ∈ v', s.length = w) → (∀ i j, i < v.length → j < w → cellV v' i j = none → cellV v i j = none) → unk v' ≤ unk v
  | w, [], [], _, _, _, _ => Nat.le_refl _
  | w, [], _ :: _, h, _, _, _ => by simp at h
  | w, _ :: _, [], h, _, _, _ => by simp at h
  | w, s :: v, t :: v', h, h1, h2, g => by
    have ih := unk_le_aux (v := v) (v' := v') (w := w) (by simpa using h) (fun s hs => h1 s (List.mem_cons_of_mem _ hs)) (fun s hs => h2 s (List.mem_cons_of_mem _ hs)) fun i j hi hj e => by
      have := g (i + 1) j (by simp; omega) hj (by unfold cellV at e ⊢; simpa using e)
      unfold cellV at this ⊢
      simpa using this
    have l1 := h1 s List.mem_cons_self
    have l2 := h2 t List.mem_cons_self
    have h0 := cnt_le (s := s) (t := t) (by omega) fun j hj e => by
      have := g 0 j (by simp) (by omega) (by unfold cellV; simpa using e)
      unfold cellV at this
      simpa using this
    rw [unk_cons, unk_cons]
    omega
theorem unk_lt_aux : ∀ {w : Nat} {v v' : View} {i j : Nat}, v.length = v'.length → (∀ s ∈ v, s.length = w) → (∀ s ∈ v', s.length = w) → (∀ i j, i < v.length → j < w → cellV v' i j = none → cellV v i j = none) → i < v.length → j < w → cellV v i j = none → cellV v' i j ≠ none → unk v' < unk v
  | w, [], _, i, j, _, _, _, _, hi, _, _, _ => by simp at hi
  | w, _ :: _, [], i, j, h, _, _, _, _, _, _, _ => by simp at h
  | w, s :: v, t :: v', i, j, h, h1, h2, g, hi, hj, e1, e2 => by
    have gv : ∀ i j, i < v.length → j < w → cellV v' i j = none → cellV v i j = none := fun i j hi hj e => by
      have := g (i + 1) j (by simp; omega) hj (by unfold cellV at e ⊢; simpa using e)
      unfold cellV at this ⊢
      simpa using this
    have l1 := h1 s List.mem_cons_self
    have l2 := h2 t List.mem_cons_self
    have gs : ∀ j, j < s.length → t.getD j none = none → s.getD j none = none := fun j hj e => by
      have := g 0 j (by simp) (by omega) (by unfold cellV; simpa using e)
      unfold cellV at this
      simpa using this
    have r1 : ∀ s ∈ v, s.length = w := fun s hs => h1 s (List.mem_cons_of_mem _ hs)
    have r2 : ∀ s ∈ v', s.length = w := fun s hs => h2 s (List.mem_cons_of_mem _ hs)
    rw [unk_cons, unk_cons]
    cases i with
    | zero =>
      have a := cnt_lt (s := s) (t := t) (j := j) (by omega) gs (by omega) (by unfold cellV at e1; simpa using e1) (by unfold cellV at e2; simpa using e2)
      have b := unk_le_aux (v := v) (v' := v') (w := w) (by simpa using h) r1 r2 gv
      omega
    | succ i =>
      have a := cnt_le (s := s) (t := t) (by omega) gs
      have b := unk_lt_aux (v := v) (v' := v') (w := w) (i := i) (j := j) (by simpa using h) r1 r2 gv (by simpa using hi) hj (by unfold cellV at e1 ⊢; simpa using e1) (by unfold cellV at e2 ⊢; simpa using e2)
      omega
def LeV (h w : Nat) (v v' : View) : Prop := ∀ i j, i < h → j < w → ∀ z, cellV v i j = some z → cellV v' i j = some z
theorem LeV.refl {h w : Nat} (v : View) : LeV h w v v := fun _ _ _ _ _ e => e
theorem LeV.trans {h w : Nat} {a b c : View} (x : LeV h w a b) (y : LeV h w b c) : LeV h w a c := fun i j hi hj z e => y i j hi hj z (x i j hi hj z e)
theorem LeV.none {h w : Nat} {v v' : View} (x : LeV h w v v') {i j : Nat} (hi : i < h) (hj : j < w) (e : cellV v' i j = none) : cellV v i j = none := by
  cases q : cellV v i j with
  | none => rfl
  | some z => rw [x i j hi hj z q] at e; cases e
theorem unk_lt {h w : Nat} {v v' : View} (o : VOk h w v) (o' : VOk h w v') (x : LeV h w v v') {i j : Nat} (hi : i < h) (hj : j < w) (e1 : cellV v i j = none) (e2 : cellV v' i j ≠ none) : unk v' < unk v :=
  unk_lt_aux (w := w) (by rw [o.len, o'.len]) o.wid o'.wid (fun i j hi hj e => x.none (by rw [← o.len]; exact hi) hj e) (by rw [o.len]; exact hi) hj e1 e2
end Rp
namespace Rp
open PySem L2
def dO : Option Int → Dt
  | none => .non
  | some z => .int z
def dSight (s : Sight) : Dt := .lst (s.map dO)
theorem isD_dO {H : Hp} (x : Option Int) : IsD H (dO x) (vO x) := by
  cases x with
  | none => show IsD H .non .non; unfold IsD; rfl
  | some z => show IsD H (.int z) (.int z); unfold IsD; rfl
theorem isDs_sight {H : Hp} : ∀ (s : Sight), IsDs H (s.map dO) (sightV s)
  | [] => by show IsDs H [] []; unfold IsDs; rfl
  | x :: s => by
    show IsDs H (dO x :: s.map dO) (vO x :: sightV s)
    unfold IsDs
    exact ⟨vO x, sightV s, rfl, isD_dO x, isDs_sight s⟩
theorem isD_dO_inv {H : Hp} {x : Option Int} {v : V} (h : IsD H (dO x) v) : v = vO x := by
  cases x with
  | none => unfold dO IsD at h; exact h
  | some z => unfold dO IsD at h; exact h
theorem isDs_sight_inv {H : Hp} : ∀ {s : Sight} {ys : List V}, IsDs H (s.map dO) ys → ys = sightV s
  | [], ys, h => by
    have h' : IsDs H [] ys := h
    unfold IsDs at h'
    exact h'
  | x :: s, ys, h => by
    have h' : IsDs H (dO x :: s.map dO) ys := h
    unfold IsDs at h'
    obtain ⟨y, r, rfl, hy, hr⟩ := h'
    rw [isD_dO_inv hy, isDs_sight_inv hr]
    rfl
theorem isD_sight {H : Hp} {a : Addr} {s : Sight} (h : H a = some (.lst (sightV s))) : IsD H (dSight s) (.ref a) := by unfold dSight IsD; exact ⟨a, _, rfl, h, isDs_sight s⟩
theorem sight_inv {H : Hp} {s : Sight} {v : V} (h : IsD H (dSight s) v) : ∃ a, v = .ref a ∧ H a = some (.lst (sightV s)) := by
  unfold dSight IsD at h
  obtain ⟨a, ys, rfl, ha, hs⟩ := h
  rw [isDs_sight_inv hs] at ha
  exact ⟨a, rfl, ha⟩
theorem depth_dOs (s : Sight) : depthDs (s.map dO) ≤ 0 := by
  induction s with
  | nil => simp [depthDs]
  | cons x s ih => rw [List.map_cons]; unfold depthDs; cases x <;> simp [depthD, dO] <;> omega
theorem depth_sight1 (s : Sight) : depthD (dSight s) ≤ 1 := by
  unfold dSight
  rw [depth_l]
  have := depth_dOs s
  omega
def dView (v : View) : Dt := .lst (v.map dSight)
theorem depth_map {α : Type} {f : α → Dt} {n : Nat} (hf : ∀ x, depthD (f x) ≤ n) : ∀ xs : List α, depthDs (xs.map f) ≤ n
  | [] => by show depthDs [] ≤ n; unfold depthDs; exact Nat.zero_le _
  | x :: r => by
    show depthDs (f x :: r.map f) ≤ n
    unfold depthDs
    have h1 := hf x
    have h2 := depth_map hf r
    omega
theorem depth_view (v : View) : depthD (dView v) ≤ 2 := by unfold dView; rw [depth_l]; have := depth_map depth_sight1 v; omega
theorem view_inv {H : Hp} {v : View} {a : Addr} (h : IsD H (dView v) (.ref a)) : ∃ vs, H a = some (.lst vs) ∧ IsDs H (v.map dSight) vs := by
  unfold dView IsD at h
  obtain ⟨b, vs, e, hb, hs⟩ := h
  cases e
  exact ⟨vs, hb, hs⟩
theorem mk_view {H : Hp} {v : View} {a : Addr} {vs : List V} (h : H a = some (.lst vs)) (hs : IsDs H (v.map dSight) vs) : IsD H (dView v) (.ref a) := by
  unfold dView IsD
  exact ⟨a, vs, rfl, h, hs⟩
theorem map_get' {α : Type} {f : α → Dt} {H : Hp} {xs : List α} {vs : List V} {i : Nat} {v : V} (hs : IsDs H (xs.map f) vs) (e : vs[i]? = some v) : ∃ x, xs[i]? = some x ∧ IsD H (f x) v := by
  obtain ⟨d, e1, e2⟩ := hs.get' e
  rw [List.getElem?_map] at e1
  cases q : xs[i]? with
  | none => rw [q] at e1; cases e1
  | some x => rw [q] at e1; cases e1; exact ⟨x, rfl, e2⟩
theorem map_get2 {α : Type} {f : α → Dt} {H : Hp} {xs : List α} {vs : List V} {i : Nat} {x : α} (hs : IsDs H (xs.map f) vs) (e : xs[i]? = some x) : ∃ v, vs[i]? = some v ∧ IsD H (f x) v := by
  obtain ⟨v, e1, e2⟩ := hs.get (i := i) (d := f x) (by rw [List.getElem?_map, e]; rfl)
  exact ⟨v, e1, e2⟩
theorem map_len {α : Type} {f : α → Dt} {H : Hp} {xs : List α} {vs : List V} (hs : IsDs H (xs.map f) vs) : vs.length = xs.length := by rw [← hs.length, List.length_map]
def dCell (pc : Nat × Option Int) : Dt := .tup [.int (pc.1 : Nat), dO pc.2]
def dTold (cs : List (Nat × Option Int)) : Dt := .lst (cs.map dCell)
def dStp (p : Stp) : Dt := .tup [.str (kindT p.side), .int (p.num : Nat), dTold p.cells]
theorem isD_cell {H : Hp} {a : Addr} {p : Nat} {x : Option Int} (h : H a = some (.tup [.int (p : Nat), vO x])) : IsD H (dCell (p, x)) (.ref a) := by
  unfold dCell IsD
  refine ⟨a, _, rfl, h, ?_⟩
  unfold IsDs
  refine ⟨_, _, rfl, by unfold IsD; rfl, ?_⟩
  unfold IsDs
  exact ⟨_, _, rfl, isD_dO x, by unfold IsDs; rfl⟩
theorem cell_inv {H : Hp} {pc : Nat × Option Int} {v : V} (h : IsD H (dCell pc) v) : ∃ a, v = .ref a ∧ H a = some (.tup [.int (pc.1 : Nat), vO pc.2]) := by
  unfold dCell IsD at h
  obtain ⟨a, ys, rfl, ha, hs⟩ := h
  unfold IsDs at hs
  obtain ⟨y1, r1, rfl, h1, hs⟩ := hs
  unfold IsDs at hs
  obtain ⟨y2, r2, rfl, h2, hs⟩ := hs
  unfold IsDs at hs
  subst hs
  unfold IsD at h1
  subst h1
  rw [isD_dO_inv h2] at ha
  exact ⟨a, rfl, ha⟩
theorem isD_stp {H : Hp} {a l : Addr} {p : Stp} (h : H a = some (.tup [.str (kindT p.side), .int (p.num : Nat), .ref l])) (hl : IsD H (dTold p.cells) (.ref l)) : IsD H (dStp p) (.ref a) := by
  unfold dStp IsD
  refine ⟨a, _, rfl, h, ?_⟩
  unfold IsDs
  refine ⟨_, _, rfl, by unfold IsD; rfl, ?_⟩
  unfold IsDs
  refine ⟨_, _, rfl, by unfold IsD; rfl, ?_⟩
  unfold IsDs
  exact ⟨_, _, rfl, hl, by unfold IsDs; rfl⟩
theorem stp_inv {H : Hp} {p : Stp} {v : V} (h : IsD H (dStp p) v) : ∃ a l, v = .ref a ∧ H a = some (.tup [.str (kindT p.side), .int (p.num : Nat), .ref l]) ∧ IsD H (dTold p.cells) (.ref l) := by
  unfold dStp IsD at h
  obtain ⟨a, ys, rfl, ha, hs⟩ := h
  unfold IsDs at hs
  obtain ⟨y1, r1, rfl, h1, hs⟩ := hs
  unfold IsDs at hs
  obtain ⟨y2, r2, rfl, h2, hs⟩ := hs
  unfold IsDs at hs
  obtain ⟨y3, r3, rfl, h3, hs⟩ := hs
  unfold IsDs at hs
  subst hs
  unfold IsD at h1 h2
  subst h1 h2
  have h3' := h3
  unfold dTold IsD at h3
  obtain ⟨l, ys, rfl, _⟩ := h3
  exact ⟨a, l, rfl, ha, h3'⟩
theorem told_inv {H : Hp} {cs : List (Nat × Option Int)} {a : Addr} (h : IsD H (dTold cs) (.ref a)) : ∃ vs, H a = some (.lst vs) ∧ IsDs H (cs.map dCell) vs := by
  unfold dTold IsD at h
  obtain ⟨b, vs, e, hb, hs⟩ := h
  cases e
  exact ⟨vs, hb, hs⟩
theorem mk_told {H : Hp} {cs : List (Nat × Option Int)} {a : Addr} {vs : List V} (h : H a = some (.lst vs)) (hs : IsDs H (cs.map dCell) vs) : IsD H (dTold cs) (.ref a) := by
  unfold dTold IsD
  exact ⟨a, vs, rfl, h, hs⟩
def hide (M : List Addr) (H : Hp) : Hp := fun a => if a ∈ M then none else H a
def newer (H0 H : Hp) : Hp := fun a => match H0 a with | none => H a | some _ => none
theorem hide_same {M : List Addr} {H : Hp} : Same (hide M H) H := fun b o e => by
  unfold hide at e
  split at e
  · cases e
  · exact e
theorem hide_of {M : List Addr} {H : Hp} {b : Addr} {o : HO} (e : H b = some o) (h : b ∉ M) : hide M H b = some o := by unfold hide; rw [if_neg h]; exact e
theorem hide_mono {M : List Addr} {H H' : Hp} (k : KeptBut H H' M) : Same (hide M H) (hide M H') := fun b o e => by
  unfold hide at e ⊢
  split at e
  · cases e
  · rename_i h
    rw [if_neg h]
    exact k b o e h
theorem hide_up {M : List Addr} {H H' : Hp} (k : Same H H') : Same (hide M H) (hide M H') := hide_mono fun b o e _ => k b o e
theorem newer_same {H0 H : Hp} : Same (newer H0 H) H := fun b o e => by
  unfold newer at e
  split at e
  · exact e
  · cases e
theorem newer_of {H0 H : Hp} {b : Addr} {o : HO} (e : H b = some o) (h : H0 b = none) : newer H0 H b = some o := by unfold newer; rw [h]; exact e
theorem newer_mono {H0 H H' : Hp} (k : Same H H') : Same (newer H0 H) (newer H0 H') := fun b o e => by
  unfold newer at e ⊢
  split at e
  · rename_i h
    exact k b o e
  · cases e
theorem newer_hide {M : List Addr} {H0 H : Hp} (hm : ∀ a ∈ M, H0 a ≠ none) : Same (newer H0 H) (hide M H) := fun b o e => by
  unfold newer at e
  split at e
  · rename_i h
    exact hide_of e fun z => hm b z h
  · cases e
theorem newer_anti {H0 H1 H : Hp} (k : Same H0 H1) : Same (newer H1 H) (newer H0 H) := fun b o e => by
  unfold newer at e
  split at e
  · rename_i h
    exact newer_of e (k.free h)
  · cases e
theorem newer_both {M : List Addr} {H0 H1 H : Hp} (hd : ∀ a, H1 a = none → H0 a = none) (hm : ∀ a ∈ M, H1 a ≠ none) : Same (newer H1 H) (newer H0 (hide M H)) := fun b o e => by
  unfold newer at e
  split at e
  · rename_i h
    exact newer_of (hide_of e fun z => hm b z h) (hd b h)
  · cases e
mutual
theorem IsD.keep {H H' : Hp} (e : ∀ a xs, (H a = some (.lst xs) → H' a = some (.lst xs)) ∧ (H a = some (.tup xs) → H' a = some (.tup xs))) : ∀ {d : Dt} {v : V}, IsD H d v → IsD H' d v
  | .non, v, h => by unfold IsD at h ⊢; exact h
  | .bl _, v, h => by unfold IsD at h ⊢; exact h
  | .int _, v, h => by unfold IsD at h ⊢; exact h
  | .str _, v, h => by unfold IsD at h ⊢; exact h
  | .lst ds, v, h => by unfold IsD at h ⊢; obtain ⟨a, xs, h1, h2, h3⟩ := h; exact ⟨a, xs, h1, (e _ _).1 h2, IsDs.keep e h3⟩
  | .tup ds, v, h => by unfold IsD at h ⊢; obtain ⟨a, xs, h1, h2, h3⟩ := h; exact ⟨a, xs, h1, (e _ _).2 h2, IsDs.keep e h3⟩
theorem IsDs.keep {H H' : Hp} (e : ∀ a xs, (H a = some (.lst xs) → H' a = some (.lst xs)) ∧ (H a = some (.tup xs) → H' a = some (.tup xs))) : ∀ {ds : List Dt} {xs : List V}, IsDs H ds xs → IsDs H' ds xs
  | [], xs, h => by unfold IsDs at h ⊢; exact h
  | d :: ds, xs, h => by unfold IsDs at h ⊢; obtain ⟨x, r, h1, h2, h3⟩ := h; exact ⟨x, r, h1, IsD.keep e h2, IsDs.keep e h3⟩
end
structure OwnV (H0 H : Hp) (l : Addr) (as : List Addr) (xss : List (List V)) : Prop where
  same : Same H0 H
  at' : H l = some (.lst (as.map V.ref))
  len : as.length = xss.length
  row : ∀ (i : Nat) a xs, as[i]? = some a → xss[i]? = some xs → H a = some (.lst xs)
  nd : as.Nodup
  nl : l ∉ as
  new : ∀ a ∈ as, H0 a = none
  newl : H0 l = none
theorem OwnV.mono {H0 H H' : Hp} {l : Addr} {as : List Addr} {xss : List (List V)} (o : OwnV H0 H l as xss) (s : Same H H') : OwnV H0 H' l as xss := ⟨o.same.trans s, s _ _ o.at', o.len, fun i a xs e1 e2 => s _ _ (o.row i a xs e1 e2), o.nd, o.nl, o.new, o.newl⟩
theorem OwnV.setRow {H0 H : Hp} {l : Addr} {as : List Addr} {xss : List (List V)} (o : OwnV H0 H l as xss) {i : Nat} {a : Addr} (e : as[i]? = some a) (ys : List V) : OwnV H0 (upd H a (.lst ys)) l as (xss.set i ys) := by
  have hm := List.mem_of_getElem? e
  refine ⟨same_upd' o.same (o.new a hm), ?_, by rw [List.length_set]; exact o.len, fun j b xs e1 e2 => ?_, o.nd, o.nl, o.new, o.newl⟩
  · have nn : l ≠ a := fun z => o.nl (by rw [z]; exact hm)
    rw [upd_ne nn]
    exact o.at'
  · by_cases hj : j = i
    · subst hj
      rw [e] at e1
      cases e1
      rw [List.getElem?_set_self (by rw [← o.len]; exact (List.getElem?_eq_some_iff.mp e).1)] at e2
      cases e2
      exact upd_same
    · rw [List.getElem?_set_ne (Ne.symm hj)] at e2
      have nn : b ≠ a := fun z => hj (nodup_get o.nd (by rw [← z]; exact e1) e)
      rw [upd_ne nn]
      exact o.row j b xs e1 e2
theorem OwnV.isD {H0 H : Hp} {l : Addr} {as : List Addr} {v : View} (o : OwnV H0 H l as (v.map sightV)) : IsD H (dView v) (.ref l) := by
  refine mk_view o.at' (isDs_of_get (by have := o.len; simp at this ⊢; omega) fun i d x e1 e2 => ?_)
  rw [List.getElem?_map] at e1 e2
  cases q1 : v[i]? with
  | none => rw [q1] at e1; cases e1
  | some s =>
    cases q2 : as[i]? with
    | none => rw [q2] at e2; cases e2
    | some a =>
      rw [q1] at e1; rw [q2] at e2
      cases e1; cases e2
      exact isD_sight (o.row i a _ q2 (by rw [List.getElem?_map, q1]; rfl))
structure GrowV (H0 : Hp) (f : Nat → List V) (i : Nat) (as : List Addr) (H' : Hp) : Prop where
  same : Same H0 H'
  len : as.length = i
  row : ∀ (j : Nat) a, as[j]? = some a → H' a = some (.lst (f j))
  nd : as.Nodup
  new : ∀ a ∈ as, H0 a = none
theorem GrowV.zero {H0 : Hp} {f : Nat → List V} : GrowV H0 f 0 [] H0 := ⟨Same.refl _, rfl, fun j a e => by simp at e, List.nodup_nil, fun a h => by simp at h⟩
theorem GrowV.there {H0 : Hp} {f : Nat → List V} {i : Nat} {as : List Addr} {H' : Hp} (g : GrowV H0 f i as H') {b : Addr} (hb : H' b = none) : b ∉ as := fun z => by
  obtain ⟨j, hj, e⟩ := List.getElem_of_mem z
  have q := g.row j b (by rw [List.getElem?_eq_getElem hj, e])
  rw [hb] at q; cases q
theorem GrowV.next {H0 : Hp} {f : Nat → List V} {i : Nat} {as : List Addr} {H1 H2 : Hp} (g : GrowV H0 f i as H1) (s : Same H1 H2) {b : Addr} (hb : H1 b = none) (h : H2 b = some (.lst (f i))) : GrowV H0 f (i + 1) (as ++ [b]) H2 := by
  refine ⟨g.same.trans s, by rw [List.length_append, List.length_singleton, g.len], fun j a e => ?_, List.nodup_append.mpr ⟨g.nd, by simp, fun x hx y hy => by rw [List.mem_singleton.mp hy]; intro z; exact g.there hb (z ▸ hx)⟩, fun a ha => ?_⟩
  · by_cases hj : j < as.length
    · rw [List.getElem?_append_left hj] at e
      exact s _ _ (g.row j a e)
    · rw [List.getElem?_append_right (by omega)] at e
      have hj0 : j - as.length = 0 := by
        have := (List.getElem?_eq_some_iff.mp e).1
        simp at this
        omega
      rw [hj0] at e
      have e' : b = a := Option.some.inj e
      have e2 : j = i := by have := g.len; omega
      rw [← e', e2]
      exact h
  · rcases List.mem_append.mp ha with z | z
    · exact g.new a z
    · rw [List.mem_singleton.mp z]; exact g.same.free hb
theorem GrowV.own {H0 : Hp} {f : Nat → List V} {n : Nat} {as : List Addr} {H' : Hp} (g : GrowV H0 f n as H') {l : Addr} (hl : H' l = none) : OwnV H0 (upd H' l (.lst (as.map V.ref))) l as ((List.range n).map f) := by
  have s : Same H' (upd H' l (.lst (as.map V.ref))) := same_upd hl
  refine ⟨g.same.trans s, upd_same, by simp [g.len], fun i a xs e1 e2 => ?_, g.nd, g.there hl, g.new, g.same.free hl⟩
  have hi : i < n := by have := (List.getElem?_eq_some_iff.mp e2).1; rw [List.length_map, List.length_range] at this; exact this
  rw [List.getElem?_map, List.getElem?_range hi] at e2
  cases e2
  exact s _ _ (g.row i a e1)
def nflds (tb lv lf : Addr) : List (Str × V) := putF "found" (.ref lf) (putF "view" (.ref lv) (putF "board" (.ref tb) []))
theorem kBV : ¬ (("board" : Str) = "view") := by decide +kernel
theorem kBF : ¬ (("board" : Str) = "found") := by decide +kernel
theorem kVF : ¬ (("view" : Str) = "found") := by decide +kernel
theorem lk_found (tb lv lf : Addr) : (nflds tb lv lf).lookup ("found" : Str) = some (.ref lf) := by unfold nflds; rw [lookup_putF, if_pos rfl]
theorem lk_view (tb lv lf : Addr) : (nflds tb lv lf).lookup ("view" : Str) = some (.ref lv) := by unfold nflds; rw [lookup_putF, if_neg kVF, lookup_putF, if_pos rfl]
theorem lk_board (tb lv lf : Addr) : (nflds tb lv lf).lookup ("board" : Str) = some (.ref tb) := by unfold nflds; rw [lookup_putF, if_neg kBF, lookup_putF, if_neg kBV, lookup_putF, if_pos rfl]
theorem lk_non (tb lv lf : Addr) {m : Str} (h1 : ¬ m = "found") (h2 : ¬ m = "view") (h3 : ¬ m = "board") : (nflds tb lv lf).lookup m = none := by unfold nflds; rw [lookup_putF, if_neg h1, lookup_putF, if_neg h2, lookup_putF, if_neg h3]; rfl
abbrev mutL (c lv lf : Addr) (as : List Addr) : List Addr := c :: lv :: lf :: as
structure NP (C : Addr) (H0 H : Hp) (c tb lv lf : Addr) (as : List Addr) (b : Brd) (st : NSt) : Prop where
  ins : ∃ dx, H c = some (.ins C dx (nflds tb lv lf))
  vw : H lv = some (.lst (as.map V.ref))
  row : ∀ (i : Nat) a, as[i]? = some a → H a = some (.lst (sightV (st.1.getD i [])))
  len : as.length = st.1.length
  nd : as.Nodup
  dom : ∀ a, H a = none → H0 a = none
  fd : ∃ fs, H lf = some (.lst fs) ∧ IsDs (newer H0 (hide (mutL c lv lf as) H)) (st.2.map dStp) fs
  bd : IsD (hide (mutL c lv lf as) H) (dBoard b) (.ref tb)
  vf : lv ≠ lf
  va : lv ∉ as
  fa : lf ∉ as
section
variable {C : Addr} {H0 H H' : Hp} {c tb lv lf : Addr} {as : List Addr} {b : Brd} {st : NSt}
theorem NP.mono (p : NP C H0 H c tb lv lf as b st) (s : Same H H') : NP C H0 H' c tb lv lf as b st := by
  obtain ⟨dx, h1⟩ := p.ins
  obtain ⟨fs, h2, h3⟩ := p.fd
  exact ⟨⟨dx, s _ _ h1⟩, s _ _ p.vw, fun i a e => s _ _ (p.row i a e), p.len, p.nd, fun a e => p.dom a (s.free e), ⟨fs, s _ _ h2, IsDs.mono (newer_mono (hide_up s)) h3⟩, IsD.mono (hide_up s) p.bd, p.vf, p.va, p.fa⟩
theorem NP.rowAt (p : NP C H0 H c tb lv lf as b st) {i : Nat} (h : i < st.1.length) : ∃ a, as[i]? = some a ∧ H a = some (.lst (sightV (st.1.getD i []))) := by
  have h' : i < as.length := by rw [p.len]; exact h
  exact ⟨as[i], List.getElem?_eq_getElem h', p.row i _ (List.getElem?_eq_getElem h')⟩
theorem NP.live (p : NP C H0 H c tb lv lf as b st) : ∀ a ∈ mutL c lv lf as, H a ≠ none := fun a ha => by
  rcases List.mem_cons.mp ha with z | ha
  · obtain ⟨dx, h1⟩ := p.ins
    rw [z, h1]; simp
  rcases List.mem_cons.mp ha with z | ha
  · rw [z, p.vw]; simp
  rcases List.mem_cons.mp ha with z | ha
  · obtain ⟨fs, h2, _⟩ := p.fd
    rw [z, h2]; simp
  · obtain ⟨i, hi, e⟩ := List.getElem_of_mem ha
    rw [p.row i a (by rw [List.getElem?_eq_getElem hi, e])]; simp
theorem NP.tell (p : NP C H0 H c tb lv lf as b st) {i j : Nat} {a : Addr} {x : Option Int} (e : as[i]? = some a) :
    NP C H0 (upd H a (.lst (sightV ((st.1.getD i []).set j x)))) c tb lv lf as b (setC st.1 i j x, st.2) ∧ KeptBut H (upd H a (.lst (sightV ((st.1.getD i []).set j x)))) (mutL c lv lf as) := by
  have hm := List.mem_of_getElem? e
  have hM : a ∈ mutL c lv lf as := List.mem_cons_of_mem _ (List.mem_cons_of_mem _ (List.mem_cons_of_mem _ hm))
  have k : KeptBut H (upd H a (.lst (sightV ((st.1.getD i []).set j x)))) (mutL c lv lf as) := (KeptBut.refl H _).upd hM
  obtain ⟨dx, h1⟩ := p.ins
  obtain ⟨fs, h2, h3⟩ := p.fd
  have hra := p.row i a e
  have nca : c ≠ a := fun z => by rw [z, hra] at h1; cases h1
  have nva : lv ≠ a := fun z => p.va (by rw [z]; exact hm)
  have nfa : lf ≠ a := fun z => p.fa (by rw [z]; exact hm)
  refine ⟨⟨⟨dx, by rw [upd_ne nca]; exact h1⟩, by rw [upd_ne nva]; exact p.vw, fun k' a' e' => ?_, by unfold setC; rw [List.length_set]; exact p.len, p.nd, fun b' e' => p.dom b' (by
      by_cases q : b' = a
      · rw [q, upd_same] at e'; cases e'
      · rw [upd_ne q] at e'; exact e'), ⟨fs, by rw [upd_ne nfa]; exact h2, IsDs.mono (newer_mono (hide_mono k)) h3⟩, IsD.mono (hide_mono k) p.bd, p.vf, p.va, p.fa⟩, k⟩
  have hi : i < st.1.length := by rw [← p.len]; exact (List.getElem?_eq_some_iff.mp e).1
  by_cases hk : k' = i
  · subst hk
    rw [e] at e'
    cases e'
    rw [upd_same]
    unfold setC
    show _ = some (HO.lst (sightV ((st.1.set k' ((st.1.getD k' []).set j x)).getD k' [])))
    rw [getD_of (x := (st.1.getD k' []).set j x) (List.getElem?_set_self hi)]
  · have nn : a' ≠ a := fun z => hk (nodup_get p.nd (by rw [← z]; exact e') e)
    rw [upd_ne nn, p.row k' a' e']
    unfold setC
    show _ = some (HO.lst (sightV ((st.1.set i ((st.1.getD i []).set j x)).getD k' [])))
    rw [List.getD_eq_getElem?_getD, List.getD_eq_getElem?_getD, List.getElem?_set_ne (Ne.symm hk)]
theorem NP.found (p : NP C H0 H c tb lv lf as b st) {fs : List V} {t : Addr} {q : Stp} (hf : H lf = some (.lst fs)) (ht : IsD (newer H0 (hide (mutL c lv lf as) H)) (dStp q) (.ref t)) :
    NP C H0 (upd H lf (.lst (fs ++ [.ref t]))) c tb lv lf as b (st.1, st.2 ++ [q]) ∧ KeptBut H (upd H lf (.lst (fs ++ [.ref t]))) (mutL c lv lf as) := by
  have hM : lf ∈ mutL c lv lf as := List.mem_cons_of_mem _ (List.mem_cons_of_mem _ List.mem_cons_self)
  have k : KeptBut H (upd H lf (.lst (fs ++ [.ref t]))) (mutL c lv lf as) := (KeptBut.refl H _).upd hM
  obtain ⟨dx, h1⟩ := p.ins
  obtain ⟨fs', h2, h3⟩ := p.fd
  rw [hf] at h2
  cases h2
  have ncf : c ≠ lf := fun z => by rw [z, hf] at h1; cases h1
  refine ⟨⟨⟨dx, by rw [upd_ne ncf]; exact h1⟩, by rw [upd_ne p.vf]; exact p.vw, fun i a e => ?_, p.len, p.nd, fun b' e' => p.dom b' (by
      by_cases q : b' = lf
      · rw [q, upd_same] at e'; cases e'
      · rw [upd_ne q] at e'; exact e'), ⟨_, upd_same, ?_⟩, IsD.mono (hide_mono k) p.bd, p.vf, p.va, p.fa⟩, k⟩
  · have nn : a ≠ lf := fun z => p.fa (by rw [← z]; exact List.mem_of_getElem? e)
    rw [upd_ne nn]
    exact p.row i a e
  · rw [List.map_append]
    exact (IsDs.mono (newer_mono (hide_mono k)) h3).snoc (IsD.mono (newer_mono (hide_mono k)) ht)
end
end Rp
namespace K08
open PySem L2 Rp
def top (i : Nat) : Stmt := PySem.Challenge.pw_runpaint_k08_narrowed.main.body.getD i (.Pass ⟨0, 0, 0, 0⟩)
abbrev s_best : Stmt := top 9
abbrev s_told_by : Stmt := top 10
abbrev s_Counts___init__ : Stmt := inClass (top 11) 0
abbrev s_Counts_total : Stmt := inClass (top 11) 1
abbrev s_Counts_empty_ways : Stmt := inClass (top 11) 2
abbrev s_Counts_full_ways : Stmt := inClass (top 11) 3
abbrev s_Counts_has_room : Stmt := inClass (top 11) 4
abbrev s_Counts_place_behind : Stmt := inClass (top 11) 5
abbrev s_Counts_run_cells : Stmt := inClass (top 11) 6
abbrev s_empty_view : Stmt := top 13
abbrev s_narrowed : Stmt := top 14
abbrev s_steps : Stmt := top 15
abbrev s_Narrowing___init__ : Stmt := inClass (top 16) 0
abbrev s_Narrowing_narrow : Stmt := inClass (top 16) 1
abbrev s_Narrowing_go_round : Stmt := inClass (top 16) 2
abbrev s_Narrowing_go_through : Stmt := inClass (top 16) 3
abbrev s_Narrowing_sight_of : Stmt := inClass (top 16) 4
abbrev s_Narrowing_tell : Stmt := inClass (top 16) 5
abbrev s_cells_told : Stmt := top 17
abbrev s__law_cell_at : Stmt := top 19
abbrev s__law_whole : Stmt := top 20
abbrev s__law_mix : Stmt := top 21
abbrev s__law_runs : Stmt := top 22
abbrev s__law_every : Stmt := top 23
abbrev s__law_fitting : Stmt := top 24
abbrev s__law_best : Stmt := top 25
abbrev s__law_cells : Stmt := top 26
abbrev s__law_picture : Stmt := top 27
abbrev s__law_column : Stmt := top 28
abbrev s__law_board : Stmt := top 29
abbrev s__law_view : Stmt := top 30
abbrev s__law_sight : Stmt := top 31
abbrev s__law_told_by : Stmt := top 32
abbrev s__law_rounds : Stmt := top 33
abbrev s__law_view_is : Stmt := top 34
abbrev s__law_refused : Stmt := top 35
abbrev s__law_asked : Stmt := top 36
abbrev s__law_stepped : Stmt := top 37
abbrev s__law_steps : Stmt := top 38
abbrev s__law_any_board : Stmt := top 39
abbrev s_law : Stmt := top 40
section
variable {P : Program} {w : World} {K : PySem.W.Frag} {mg : Str → Option Value} {base : Heap}
inductive sp__law_cell_at (K : PySem.W.Frag) (vs : List V) (H : Hp) (Q : VK) (E_ : XK) : Prop
  | mk (a : Addr) (ns : List Int) (i : Nat) (z0 : vs = [.ref a, .int i]) (z1 : SqL K H a (ns.map V.int)) (z2 : Q (.int (cellZ ns i)) H) : sp__law_cell_at K vs H Q E_
theorem sc__law_cell_at : FnScope ["script", "k"] ["script", "k"] (defScope s__law_cell_at) := ⟨rfl, rfl, rfl, by decide +kernel, rfl, by decide +kernel, by decide +kernel⟩
theorem ok__law_cell_at {f : Addr} {fd : FuncData} (F : Fun K "_law_cell_at" "_law_cell_at" s__law_cell_at f fd) (B : Bt mg) : FnOk P w K mg base CX0 1 f fd ["script", "k"] (sp__law_cell_at K) := by
  refine F.ok sc__law_cell_at (fun vs H Q E h => ?_) (fun cdv A outer s H vs Q E hr h => ?_)
  · obtain ⟨a, ns, i, rfl, _⟩ := h
    rfl
  · obtain ⟨a, ns, i, rfl, hS, k⟩ := h
    refine ⟨_, (pss_cons (ps_if (pt_cmpR op_lt (pv 1) (pe_callB call_len_seq rfl B.len bt_len (pa_cons (pv 0) pa_nil)) (nomark _))
      (pss_one (ps_ret (pe_ix ix_list (pv 0) (pv 1) (fun _ _ => rfl))))
      pss_nil)
      (pss_one (ps_ret pe_int))), ?_⟩
    refine ⟨_, rfl, _, rfl, a, _, rfl, .inl hS, _, _, rfl, rfl, _, rfl, ?_⟩
    rw [List.length_map]
    refine ite2 (fun hc => ?_) (fun hc => ?_)
    · have hi : i < ns.length := by have := of_decide_eq_true hc; omega
      refine ⟨_, rfl, _, rfl, a, _, _, .int (cellZ ns i), rfl, rfl, hS, atI_nat ?_, k⟩
      unfold cellZ
      rw [List.getElem?_map, List.getElem?_eq_getElem hi, List.getD_eq_getElem?_getD, List.getElem?_eq_getElem hi]
      rfl
    · have hi : ns.length ≤ i := by have : ¬ (i : Int) < ns.length := fun z => hc (decide_eq_true z); omega
      have e : cellZ ns i = 0 := by
        unfold cellZ
        rw [List.getD_eq_getElem?_getD, List.getElem?_eq_none hi]
        rfl
      rw [e] at k
      exact k
inductive sp__law_whole (vs : List V) (H : Hp) (Q : VK) (E_ : XK) : Prop
  | mk (x : V) (z0 : vs = [x]) (z1 : ((∃ i, x = .int i ∧ Q (.bl true) H) ∨ (x = .non ∧ Q (.bl false) H) ∨ (∃ b, x = .bl b ∧ Q (.bl false) H))) : sp__law_whole  vs H Q E_
theorem sc__law_whole : FnScope ["x"] ["x"] (defScope s__law_whole) := ⟨rfl, rfl, rfl, by decide +kernel, rfl, by decide +kernel, by decide +kernel⟩
theorem ok__law_whole {f : Addr} {fd : FuncData} (F : Fun K "_law_whole" "_law_whole" s__law_whole f fd) (B : Bt mg) : FnOk P w K mg base CX0 1 f fd ["x"] sp__law_whole := by
  refine F.ok sc__law_whole (fun vs H Q E h => ?_) (fun cdv A outer s H vs Q E hr h => ?_)
  · obtain ⟨x, rfl, _⟩ := h
    rfl
  · obtain ⟨x, rfl, h⟩ := h
    refine ⟨_, (pss_one (ps_ret (pe_and (pe_callB call_isinst rfl B.isinstance bt_isinstance (pa_cons (pv 0) (pa_cons (pe_bltn (v := .ty "int") rfl B.int bt_int rfl) pa_nil))) (pe_one (pe_not (pe_callB call_isinst rfl B.isinstance bt_isinstance (pa_cons (pv 0) (pa_cons (pe_bltn (v := .ty "bool") rfl B.bool bt_bool rfl) pa_nil)))))))), ?_⟩
    rcases h with ⟨i, rfl, k⟩ | ⟨rfl, k⟩ | ⟨b, rfl, k⟩
    · refine ⟨_, rfl, _, _, _, true, rfl, fun _ z => z, .int i, rfl, _, rfl, iteT ?_⟩
      exact ⟨_, rfl, _, _, _, false, rfl, fun _ z => z, .int i, rfl, _, rfl, k⟩
    · refine ⟨_, rfl, _, _, _, false, rfl, fun _ z => z, .non, rfl, _, rfl, iteF k⟩
    · refine ⟨_, rfl, _, _, _, true, rfl, fun _ z => z, .bl b, rfl, _, rfl, iteT ?_⟩
      exact ⟨_, rfl, _, _, _, true, rfl, fun _ z => z, .bl b, rfl, _, rfl, k⟩
inductive sp__law_mix (vs : List V) (H : Hp) (Q : VK) (E_ : XK) : Prop
  | mk (c k : Int) (z0 : vs = [.int c, .int k]) (z1 : Q (.int (mixZ c k)) H) : sp__law_mix  vs H Q E_
theorem sc__law_mix : FnScope ["cell", "k", "mixed"] ["cell", "k"] (defScope s__law_mix) := ⟨rfl, rfl, rfl, by decide +kernel, rfl, by decide +kernel, by decide +kernel⟩
theorem ok__law_mix {f : Addr} {fd : FuncData} (F : Fun K "_law_mix" "_law_mix" s__law_mix f fd) : FnOk P w K mg base CX0 1 f fd ["cell", "k"] sp__law_mix := by
  refine F.ok sc__law_mix (fun vs H Q E h => ?_) (fun cdv A outer s H vs Q E hr h => ?_)
  · obtain ⟨c, k, rfl, _⟩ := h
    rfl
  · obtain ⟨c, kk, rfl, k⟩ := h
    refine ⟨_, (pss_cons (ps_set (i := 2) sc__law_mix.nd rfl (Or.inl rfl) (pe_op op_mod (pe_op op_add (pe_op op_add (pe_op op_mul (pv 0) pe_int) (pe_op op_mul pe_int (pv 1))) pe_int) pe_int))
      (pss_one (ps_ret (pe_op op_mod (pe_op op_add (pe_op op_add (pe_op op_mul (pv 2) (pv 2)) (pe_op op_mul pe_int (pv 2))) (pv 1)) pe_int)))), ?_⟩
    have hm := mixed_lt c kk
    refine ⟨_, rfl, _, _, rfl, rfl, .inr ⟨by decide, by decide⟩, _, rfl, _, _, rfl, rfl, .inl ⟨by decide, by decide⟩, _, _, rfl, rfl, _, _, rfl, rfl, _, _, rfl, rfl, (pz rfl), ?_⟩
    refine ⟨_, rfl, _, rfl, _, _, rfl, rfl, .inl ⟨by omega, by omega⟩, _, rfl, _, _, rfl, rfl, .inl ⟨by decide, by decide⟩, _, _, rfl, rfl, _, rfl, _, _, rfl, rfl, _, _, rfl, rfl, (pz rfl), k⟩
theorem sc__law_runs : FnScope ["cells", "found", "count", "cell"] ["cells"] (defScope s__law_runs) := ⟨rfl, rfl, rfl, by decide +kernel, rfl, by decide +kernel, by decide +kernel⟩
inductive sp__law_runs (vs : List V) (H : Hp) (Q : VK) (E_ : XK) : Prop
  | mk (a : Addr) (ns : List Int) (z0 : vs = [.ref a]) (z1 : H a = some (.lst (ns.map V.int))) (z2 : ns.length ≤ 999) (z3 : ∀ (t : Addr) (H' : Hp), Same H H' → H t = none → H' t = some (.tup ((runsZ ns).map V.int)) → Q (.ref t) H') : sp__law_runs  vs H Q E_
theorem ok__law_runs {f : Addr} {fd : FuncData} (F : Fun K "_law_runs" "_law_runs" s__law_runs f fd) (B : Bt mg) : FnOk P w K mg base CX0 1 f fd ["cells"] sp__law_runs := by
  refine F.ok sc__law_runs (fun vs H Q E h => ?_) (fun cdv A outer s H vs Q E hr h => ?_)
  · obtain ⟨a, ns, rfl, _⟩ := h
    rfl
  · obtain ⟨a, ns, rfl, hS, hn, k⟩ := h
    refine ⟨_, (pss_cons (ps_set (i := 1) sc__law_runs.nd rfl (Or.inl rfl) (pe_lst pa_nil))
      (pss_cons (ps_set (i := 2) sc__law_runs.nd rfl (Or.inl rfl) pe_int)
      (pss_cons (ps_for PassesOwn.never rfl (pi_list (pe_op op_cat (pv 0) (pe_lst (pa_cons pe_int pa_nil)))) (pg_name (i := 3) sc__law_runs.nd rfl (Or.inl rfl))
      (pss_one (ps_if (pt_cmpR op_eq (pv 3) pe_int (nomark _))
      (pss_one (ps_set (i := 2) sc__law_runs.nd rfl (Or.inl rfl) (pe_op op_add (pv 2) pe_int)))
      (pss_one (ps_if (pt_cmpR op_gt (pv 2) pe_int (nomark _))
      (pss_cons (ps_expr (pe_bm PySem.F.plainAttrs_list PySem.F.slot_list_append PySem.F.type_list_append mt_append (pv 1) (pa_cons (pv 2) pa_nil)))
      (pss_one (ps_set (i := 2) sc__law_runs.nd rfl (Or.inl rfl) pe_int)))
      pss_nil)))))
      (pss_one (ps_ret (pe_callTy call_tuple_of rfl B.tuple bt_tuple (pa_cons (pv 1) pa_nil))))))), ?_⟩
    refine ⟨Nat.zero_le _, fun l hl => ?_⟩
    have s1 : ∀ o, Same H (upd H l o) := fun o => same_upd hl
    refine ⟨_, rfl, (by show 1 ≤ sizeLine; decide), fun z hz => ?_⟩
    have nla : a ≠ l := ne_of_none hS hl
    have nza : a ≠ z := ne_of_none (s1 _ _ _ hS) hz
    have nzl : z ≠ l := fun e => by subst e; rw [upd_same] at hz; cases hz
    refine ⟨a, z, _, _, rfl, rfl, (by rw [upd_ne nza]; exact s1 _ _ _ hS), upd_same, (by rw [List.length_map]; exact Nat.le_of_lt (small1000 (by show ns.length + 1 ≤ 1000; omega))), fun c hc => ?_⟩
    have nHz : H z = none := (s1 _).free hz
    have nHc : H c = none := (s1 (.lst [])).free ((same_upd hz).free hc)
    have ncl : c ≠ l := fun e => by subst e; rw [upd_ne (Ne.symm nzl), upd_same] at hc; cases hc
    have ncz : c ≠ z := fun e => by subst e; rw [upd_same] at hc; cases hc
    have eN : ns.map V.int ++ [V.int 0] = (ns ++ [0]).map V.int := by rw [List.map_append]; rfl
    rw [eN]
    refine ⟨c, rfl, ⟨_, SqL.of upd_same⟩, for_list (K := K) (a := c) (xs := (ns ++ [0]).map V.int) (fun i σ H2 => ∃ v : Option V, σ = [some (.ref a), some (.ref l), some (.int (foldR ((ns ++ [0]).take i)).2), v] ∧ Same H H2 ∧ H2 c = some (.lst ((ns ++ [0]).map V.int)) ∧ H2 l = some (.lst ((foldR ((ns ++ [0]).take i)).1.map V.int)))
      ⟨none, rfl, same_upd' (same_upd' (s1 _) nHz) nHc, upd_same, by rw [upd_ne (Ne.symm ncl), upd_ne (Ne.symm nzl), upd_same]; rfl⟩ ?_ ?_ ?_⟩
    · rintro i σ H2 _ ⟨v, rfl, _, hc2, _⟩
      exact SqL.of hc2
    · rintro i x σ H2 hi ⟨v, rfl, s2, hc2, hl2⟩
      obtain ⟨z, hz, rfl⟩ := map_get hi
      have hlen : (foldR ((ns ++ [0]).take i)).1.length ≤ 1000 := Nat.le_trans (foldR_length _) (by rw [List.length_take, List.length_append, List.length_singleton]; omega)
      have hst := foldR_take hz
      refine ⟨_, rfl, rfl, _, rfl, ?_⟩
      refine ite2 (fun hc => ?_) (fun hc => ?_)
      · have hz1 : z = 1 := dec_int1.mp hc
        refine ⟨_, rfl, _, _, rfl, rfl, ?_⟩
        show ∃ v, _
        rw [hst]
        unfold stepR
        rw [if_pos hz1]
        exact ⟨_, rfl, s2, hc2, hl2⟩
      · have hz1 : z ≠ 1 := fun e => hc (dec_int1.mpr e)
        refine ⟨_, rfl, _, _, rfl, rfl, _, rfl, ?_⟩
        refine ite2 (fun hp => ?_) (fun hp => ?_)
        · have hp' := of_decide_eq_true hp
          refine ⟨_, rfl, .inl ⟨rfl, _, SqL.of hl2⟩, _, rfl, l, _, _, rfl, rfl, hl2, small1000 (by rw [List.length_map]; exact hlen), ?_⟩
          show ∃ v, _
          rw [hst]
          unfold stepR
          rw [if_neg hz1, if_pos hp']
          refine ⟨_, rfl, same_upd' s2 hl, by rw [upd_ne ncl]; exact hc2, ?_⟩
          rw [upd_same, List.map_append]
          rfl
        · have hp' : ¬ 0 < (foldR ((ns ++ [0]).take i)).2 := fun e => hp (decide_eq_true e)
          show ∃ v, _
          rw [hst]
          unfold stepR
          rw [if_neg hz1, if_neg hp']
          exact ⟨_, rfl, s2, hc2, hl2⟩
    · rintro σ H2 ⟨v, rfl, s2, hc2, hl2⟩
      rw [List.length_map, List.take_length, runs_zero] at hl2
      refine ⟨_, rfl, l, _, rfl, .inl ⟨SqL.of hl2, fun t ht => ?_⟩⟩
      exact k t _ (same_upd' s2 (s2.free ht)) (s2.free ht) upd_same
end
section
variable {P : Program} {w : World} {K : PySem.W.Frag} {mg : Str → Option Value} {base : Heap}
inductive sp_column (vs : List V) (H : Hp) (Q : VK) (E_ : XK) : Prop
  | mk (a : Addr) (xss : List (List Int)) (j : Nat) (z0 : vs = [.ref a, .int j]) (z1 : IsD H (dRows xss) (.ref a)) (z2 : (∀ xs ∈ xss, j < xs.length)) (z3 : xss.length ≤ 100) (z4 : ∀ l, H l = none → Q (.ref l) (upd H l (.lst ((colZ xss j).map V.int)))) : sp_column  vs H Q E_
theorem col_turn {xss : List (List Int)} {i j : Nat} {xs : List Int} (h : xss[i]? = some xs) : colZ (xss.take (i + 1)) j = colZ (xss.take i) j ++ [xs.getD j 0] := by
  unfold colZ
  rw [List.take_add_one, h, List.map_append]
  rfl
theorem sc__law_column : FnScope ["rows", "at"] ["rows", "at"] (defScope s__law_column) := ⟨rfl, rfl, rfl, by decide +kernel, rfl, by decide +kernel, by decide +kernel⟩
theorem ok__law_column {f : Addr} {fd : FuncData} (F : Fun K "_law_column" "_law_column" s__law_column f fd) (B : Bt mg) : FnOk P w K mg base CX0 1 f fd ["rows", "at"] sp_column := by
  refine F.ok sc__law_column (fun vs H Q E h => ?_) (fun cdv A outer s H vs Q E hr h => ?_)
  · obtain ⟨a, xss, j, rfl, _⟩ := h
    rfl
  · obtain ⟨a, xss, j, rfl, hd, hj, hn, k⟩ := h
    refine ⟨_, (pss_one (ps_ret (pe_comp ["row"] [1] ⟨rfl, rfl, rfl, rfl, rfl⟩ rfl (pi_list (pv 0)) (fun _ _ _ _ _ => (pg_name (i := 0) (show (["row", "at"] : List Str).Nodup by decide +kernel) rfl (Or.inl rfl))) (fun _ _ _ _ _ => pcb_elt (pe_ix (ix_listK K) (pv 0) (pv 1) (fun _ _ => rfl)))))), ?_⟩
    obtain ⟨vs, ha, hs⟩ := rows_inv hd
    have hvl := rows_len hs
    refine ⟨_, rfl, a, rfl, ⟨_, SqL.of ha⟩, comp_list (K := K) (a := a) (xs := vs) (fun i ys H' => H' = H ∧ ys = (colZ (xss.take i) j).map V.int) ⟨rfl, rfl⟩ ?_ ?_ ?_ ?_ ?_⟩
    · exact Nat.le_of_lt (small1000 (by omega))
    · rintro i ys H' ⟨_, rfl⟩
      simp [colZ, List.length_take]
      omega
    · rintro i ys H' _ ⟨rfl, _⟩
      exact SqL.of ha
    · rintro i x ys H' hi ⟨rfl, rfl⟩
      obtain ⟨xs, hx, hxd⟩ := rows_get hs hi
      obtain ⟨b, rfl, hb⟩ := row_inv hxd
      have hjx := hj xs (List.mem_of_getElem? hx)
      refine ⟨rfl, ?_⟩
      refine ⟨_, rfl, _, rfl, b, _, _, .int (xs.getD j 0), rfl, rfl, SqL.of hb, atI_nat ?_, rfl, ?_⟩
      · rw [List.getElem?_map, List.getElem?_eq_getElem hjx, getD_of (List.getElem?_eq_getElem hjx)]
        rfl
      · rw [col_turn hx, List.map_append]
        rfl
    · rintro ys H' ⟨rfl, rfl⟩ l hl
      rw [hvl, List.take_length]
      exact k l hl
inductive sp_board (vs : List V) (H : Hp) (Q : VK) (E_ : XK) : Prop
  | mk (a : Addr) (xss : List (List Int)) (wd : Nat) (z0 : vs = [.ref a]) (z1 : IsD H (dRows xss) (.ref a)) (z2 : 1 ≤ xss.length) (z3 : xss.length ≤ 100) (z4 : wd ≤ 100) (z5 : (∀ xs ∈ xss, xs.length = wd)) (z6 : ∀ (t : Addr) (H' : Hp), Same H H' → IsD H' (dBoard (boardZ xss wd)) (.ref t) → Q (.ref t) H') : sp_board  vs H Q E_
theorem sc__law_board : FnScope ["picture", "columns"] ["picture"] (defScope s__law_board) := ⟨rfl, rfl, rfl, by decide +kernel, rfl, by decide +kernel, by decide +kernel⟩
theorem ok__law_board {f : Addr} {fd : FuncData} (F : Fun K "_law_board" "_law_board" s__law_board f fd) (B : Bt mg) (c__law_column : Callee P w K mg base CX0 "_law_column" 1 ["rows", "at"] sp_column) (c__law_runs : Callee P w K mg base CX0 "_law_runs" 1 ["cells"] sp__law_runs) : FnOk P w K mg base CX0 3 f fd ["picture"] sp_board := by
  refine F.ok sc__law_board (fun vs H Q E h => ?_) (fun cdv A outer s H vs Q E hr h => ?_)
  · obtain ⟨a, xss, wd, rfl, _⟩ := h
    rfl
  · obtain ⟨a, xss, wd, rfl, hd, h1, hn, hw, hl, k⟩ := h
    refine ⟨_, (pss_cons (ps_setComp (i := 1) ["at"] [0] sc__law_board.nd rfl rfl ⟨rfl, rfl, rfl, rfl, rfl⟩ rfl (pi_range1 rfl B.range (pa_cons (pe_callB call_len_seq rfl B.len bt_len (pa_cons (pe_ix ix_list (pv 0) pe_int (fun _ _ => rfl)) pa_nil)) pa_nil)) (fun _ _ _ _ _ => (pg_name (i := 0) (show (["at", "picture"] : List Str).Nodup by decide +kernel) rfl (Or.inl rfl))) (fun _ _ _ _ _ => pcb_elt (pe_cal c__law_runs hr (pa_cons (pe_cal c__law_column hr (pa_cons (pv 1) (pa_cons (pv 0) pa_nil))) pa_nil))))
      (pss_one (ps_ret (pe_tup (pa_cons (pe_callTy call_tuple_of rfl B.tuple bt_tuple (pa_cons (pe_comp ["row"] [] ⟨rfl, rfl, rfl, rfl, rfl⟩ rfl (pi_list (pv 0)) (fun _ _ _ _ _ => (pg_name (i := 0) (show (["row"] : List Str).Nodup by decide +kernel) rfl (Or.inl rfl))) (fun _ _ _ _ _ => pcb_elt (pe_cal c__law_runs hr (pa_cons (pv 0) pa_nil)))) pa_nil)) (pa_cons (pe_callTy call_tuple_of rfl B.tuple bt_tuple (pa_cons (pv 1) pa_nil)) pa_nil)))))), ?_⟩
    obtain ⟨vs, ha, hs⟩ := rows_inv hd
    have hvl := rows_len hs
    obtain ⟨v0, hv0⟩ : ∃ v0, vs[0]? = some v0 := ⟨_, List.getElem?_eq_getElem (by omega)⟩
    obtain ⟨xs0, hx0, hd0⟩ := rows_get hs hv0
    obtain ⟨b0, rfl, hb0⟩ := row_inv hd0
    have hw0 : xs0.length = wd := hl xs0 (List.mem_of_getElem? hx0)
    have hw1 : ((xs0.map V.int).length : Int) = (wd : Int) := by rw [List.length_map, hw0]
    refine ⟨_, rfl, a, _, 0, .ref b0, rfl, rfl, SqL.of ha, atI_nat hv0, b0, _, rfl, .inl (SqL.of hb0), (wd : Int), (by rw [hw1]), by omega, by omega, comp_range (PvD H fun j => dTup (runsZ (colZ xss j))) (PvD.zero (Same.refl H)) ?_ ?_ ?_ ?_⟩
    · exact Nat.le_of_lt (small1000 (by omega))
    · exact fun i ys H' p => p.len
    · intro i ys H' hi p
      refine ⟨rfl, ?_⟩
      refine ⟨_, rfl, _, rfl, a, xss, i, (by rw [Int.zero_add]; rfl), IsD.mono p.1 hd, fun xs hx => by rw [hl xs hx]; omega, hn, fun l hl' => ?_⟩
      refine ⟨l, _, rfl, upd_same, (by unfold colZ; rw [List.length_map]; omega), fun t H2 s2 nt ht => p.next ((same_upd hl').trans s2) (isD_tup ht)⟩
    · intro ys H' p l hl'
      have s1 : Same H' (upd H' l (.lst ys)) := same_upd hl'
      have q := p.2
      rw [show ((wd : Int)).toNat = wd by omega] at q
      have q1 := IsDs.mono s1 q
      have ha1 := (p.1.trans s1) _ _ ha
      have hs1 := IsDs.mono (p.1.trans s1) hs
      refine ⟨_, rfl, a, rfl, ⟨_, SqL.of ha1⟩, comp_list (K := K) (a := a) (xs := vs) (PvD (upd H' l (.lst ys)) fun i => dTup (runsZ (xss.getD i []))) (PvD.zero (Same.refl _)) ?_ ?_ ?_ ?_ ?_⟩
      · exact Nat.le_of_lt (small1000 (by omega))
      · exact fun i ys H' p => p.len
      · exact fun i ys H' _ p => SqL.of (p.1 _ _ ha1)
      · intro i x zs H3 hi p3
        obtain ⟨xs, hx, hxd⟩ := rows_get hs1 hi
        obtain ⟨b, rfl, hb⟩ := row_inv hxd
        refine ⟨rfl, ?_⟩
        refine ⟨_, rfl, b, xs, rfl, p3.1 _ _ hb, (by rw [hl xs (List.mem_of_getElem? hx)]; omega), fun t H4 s4 nt ht => p3.next s4 ?_⟩
        rw [getD_of hx]
        exact isD_tup ht
      · intro zs H3 p3 m hm
        refine ⟨m, _, rfl, .inl ⟨SqL.of upd_same, fun t1 ht1 => ?_⟩⟩
        have s4 : Same H3 (upd H3 m (.lst zs)) := same_upd hm
        have s5 : Same (upd H3 m (.lst zs)) (upd (upd H3 m (.lst zs)) t1 (.tup zs)) := same_upd ht1
        have hl3 := s5 _ _ (s4 _ _ (p3.1 _ _ (upd_same (H := H') (a := l) (o := .lst ys))))
        refine ⟨_, rfl, l, _, rfl, .inl ⟨SqL.of hl3, fun t2 ht2 => ?_⟩⟩
        refine ⟨(by show 2 ≤ sizeLine; decide), fun t3 ht3 => ?_⟩
        have s6 := same_upd (o := .tup ys) ht2
        have s7 := same_upd (o := .tup [.ref t1, .ref t2]) ht3
        refine k t3 _ ((p.1.trans s1).trans (p3.1.trans (s4.trans (s5.trans (s6.trans s7))))) (mk_board upd_same ?_ ?_)
        · refine mk_tups (s7 _ _ (s6 _ _ upd_same)) ?_
          have z := p3.2
          rw [hvl, map_range (fun xs => dTup (runsZ xs)) []] at z
          show IsDs _ ((xss.map runsZ).map dTup) zs
          rw [List.map_map]
          exact IsDs.mono (s4.trans (s5.trans (s6.trans s7))) z
        · refine mk_tups (s7 _ _ upd_same) ?_
          show IsDs _ (((List.range wd).map fun j => runsZ (colZ xss j)).map dTup) ys
          rw [List.map_map]
          exact IsDs.mono (p3.1.trans (s4.trans (s5.trans (s6.trans s7)))) q1
end
section
variable {P : Program} {w : World} {K : PySem.W.Frag} {mg : Str → Option Value} {base : Heap}
inductive sp__law_picture (vs : List V) (H : Hp) (Q : VK) (E_ : XK) : Prop
  | mk (c : Int) (r wd : Nat) (z0 : vs = [.int c, .int r, .int wd]) (z1 : r ≤ 100) (z2 : wd ≤ 100) (z3 : ∀ (a : Addr) (H' : Hp), Same H H' → H a = none → IsD H' (dRows (picZ c r wd)) (.ref a) → Q (.ref a) H') : sp__law_picture  vs H Q E_
theorem sc__law_picture : FnScope ["cell", "rows", "columns", "dense", "found", "row", "line", "at", "drawn"] ["cell", "rows", "columns"] (defScope s__law_picture) := ⟨rfl, rfl, rfl, by decide +kernel, rfl, by decide +kernel, by decide +kernel⟩
theorem ok__law_picture {f : Addr} {fd : FuncData} (F : Fun K "_law_picture" "_law_picture" s__law_picture f fd) (B : Bt mg) (c__law_mix : Callee P w K mg base CX0 "_law_mix" 1 ["cell", "k"] sp__law_mix) : FnOk P w K mg base CX0 2 f fd ["cell", "rows", "columns"] sp__law_picture := by
  refine F.ok sc__law_picture (fun vs H Q E h => ?_) (fun cdv A outer s H vs Q E hr h => ?_)
  · obtain ⟨c, r, wd, rfl, _⟩ := h
    rfl
  · obtain ⟨c, r, wd, rfl, hr1, hw1, k⟩ := h
    refine ⟨_, (pss_cons (ps_set (i := 3) sc__law_picture.nd rfl (Or.inl rfl) (pe_op op_mod (pe_cal c__law_mix hr (pa_cons (pv 0) (pa_cons pe_int pa_nil))) pe_int))
      (pss_cons (ps_set (i := 4) sc__law_picture.nd rfl (Or.inl rfl) (pe_lst pa_nil))
      (pss_cons (ps_for PassesOwn.never rfl (pi_range1 rfl B.range (pa_cons (pv 1) pa_nil)) (pg_name (i := 5) sc__law_picture.nd rfl (Or.inl rfl))
      (pss_cons (ps_set (i := 6) sc__law_picture.nd rfl (Or.inl rfl) (pe_lst pa_nil))
      (pss_cons (ps_for PassesOwn.never rfl (pi_range1 rfl B.range (pa_cons (pv 2) pa_nil)) (pg_name (i := 7) sc__law_picture.nd rfl (Or.inl rfl))
      (pss_cons (ps_set (i := 8) sc__law_picture.nd rfl (Or.inl rfl) (pe_op op_fdiv (pe_cal c__law_mix hr (pa_cons (pv 0) (pa_cons (pe_op op_add (pe_op op_add pe_int (pe_op op_mul pe_int (pv 5))) (pv 7)) pa_nil))) pe_int))
      (pss_one (ps_expr (pe_bm PySem.F.plainAttrs_list PySem.F.slot_list_append PySem.F.type_list_append mt_append (pv 6) (pa_cons (pe_callTy call_int1 rfl B.int bt_int (pa_cons (pe_cmpR op_gt (pe_op op_mod (pv 8) pe_int) (pv 3) (nomark _)) pa_nil)) pa_nil))))))
      (pss_one (ps_expr (pe_bm PySem.F.plainAttrs_list PySem.F.slot_list_append PySem.F.type_list_append mt_append (pv 4) (pa_cons (pv 6) pa_nil)))))))
      (pss_one (ps_ret (pv 4)))))), ?_⟩
    refine ⟨_, rfl, _, _, rfl, _, _, rfl, rfl, pz rfl, ?_⟩
    refine ⟨Nat.zero_le _, fun l hl => ?_⟩
    refine ⟨_, rfl, _, rfl, by omega, by omega, for_range (lo := 0) (n := ((r : Int)).toNat) (fun i σ H2 => ∃ (o5 o6 o7 o8 : Option V) (vs : List V) (Hb : Hp), σ = [some (.int c), some (.int r), some (.int wd), some (.int (mixZ c 3 % 3)), some (.ref l), o5, o6, o7, o8] ∧
      Same H Hb ∧ Hb l = none ∧ IsDs Hb ((List.range i).map fun i => dRow (picRow c wd i)) vs ∧ H2 = upd Hb l (.lst vs)) ⟨none, none, none, none, [], H, rfl, Same.refl H, hl, (by show IsDs H [] []; unfold IsDs; rfl), rfl⟩ ?_ ?_⟩
    · rintro i σ H2 hi ⟨o5, o6, o7, o8, vs, Hb, rfl, sb, hbl, hds, rfl⟩
      have hvl : vs.length = i := by have := hds.length; rw [List.length_map, List.length_range] at this; omega
      refine ⟨Nat.zero_le _, fun m hm => ?_⟩
      have nml : m ≠ l := fun z => by rw [z, upd_same] at hm; cases hm
      have hbm : Hb m = none := by rw [upd_ne nml] at hm; exact hm
      refine ⟨_, rfl, _, rfl, by omega, by omega, for_range (lo := 0) (n := ((wd : Int)).toNat) (fun j σ H3 => ∃ (o7 o8 : Option V), σ = [some (.int c), some (.int r), some (.int wd), some (.int (mixZ c 3 % 3)), some (.ref l), some (.int (0 + (i : Int))), some (.ref m), o7, o8] ∧
        H3 = upd (upd Hb l (.lst vs)) m (.lst (((List.range j).map fun j => pixZ c i j).map V.int))) ⟨_, _, rfl, rfl⟩ ?_ ?_⟩
      · rintro j σ H3 hj ⟨o7, o8, rfl, rfl⟩
        refine ⟨_, rfl, _, rfl, _, _, rfl, rfl, .inl ⟨by decide, by decide⟩, _, _, rfl, rfl, _, rfl, _, _, rfl, rfl, _, _, rfl, _, _, rfl, rfl, ⟨by decide, by decide⟩, ?_⟩
        refine ⟨_, rfl, .inl ⟨rfl, _, SqL.of upd_same⟩, _, rfl, _, _, rfl, rfl, pz rfl, _, rfl, _, _, rfl, rfl, .inr ⟨_, rfl, m, _, _, rfl, rfl, upd_same, small1000 (by simp; omega), ?_⟩⟩
        refine ⟨_, _, rfl, ?_⟩
        rw [upd_upd, List.range_succ]
        simp [pixZ]
      · rintro σ H3 ⟨o7, o8, rfl, rfl⟩
        have hl3 : upd (upd Hb l (.lst vs)) m (.lst (((List.range ((wd : Int)).toNat).map fun j => pixZ c i j).map V.int)) l = some (.lst vs) := by rw [upd_ne (Ne.symm nml), upd_same]
        refine ⟨_, rfl, .inl ⟨rfl, _, SqL.of hl3⟩, _, rfl, l, _, _, rfl, rfl, hl3, small1000 (by omega), ?_⟩
        have s1 : Same Hb (upd Hb m (.lst ((picRow c wd i).map V.int))) := same_upd hbm
        refine ⟨_, _, _, _, vs ++ [.ref m], upd Hb m (.lst ((picRow c wd i).map V.int)), rfl, sb.trans s1, by rw [upd_ne (Ne.symm nml)]; exact hbl, ?_, ?_⟩
        · rw [List.range_succ, List.map_append]
          exact (IsDs.mono s1 hds).snoc (isD_row upd_same)
        · rw [upd_swap (Ne.symm nml)]
          rfl
    · rintro σ H2 ⟨o5, o6, o7, o8, vs, Hb, rfl, sb, hbl, hds, rfl⟩
      rw [Int.toNat_natCast] at hds
      refine ⟨_, rfl, k l _ (same_upd' sb hl) hl (mk_rows upd_same ?_)⟩
      unfold picZ
      rw [List.map_map]
      exact IsDs.mono (same_upd hbl) hds
end
section
variable {P : Program} {w : World} {K : PySem.W.Frag} {mg : Str → Option Value} {base : Heap} {C : Addr}
structure CT (K : PySem.W.Frag) (C : Addr) : Prop where
  cl : Cls K C
  nR : NoAttr K C "runs"
  nS : NoAttr K C "sight"
  nW : NoAttr K C "ways"
inductive sp_total (C : Addr) (vs : List V) (H : Hp) (Q : VK) (E_ : XK) : Prop
  | mk (c : Addr) (rs : List Nat) (s : Sight) (tbl : List (List Int)) (z0 : vs = [.ref c]) (z1 : CP C H c rs s tbl) (z2 : Q (.int (getT tbl 0 0)) H) : sp_total C vs H Q E_
theorem sc_Counts_total : FnScope ["self"] ["self"] (defScope s_Counts_total) := ⟨rfl, rfl, rfl, by decide +kernel, rfl, by decide +kernel, by decide +kernel⟩
theorem ok_Counts_total {f : Addr} {fd : FuncData} (F : Fun K "total" "Counts.total" s_Counts_total f fd) (T : CT K C) : FnOk P w K mg base CX0 1 f fd ["self"] (sp_total C) := by
  refine F.ok sc_Counts_total (fun vs H Q E h => ?_) (fun cdv A outer s H vs Q E hr h => ?_)
  · obtain ⟨c, rs, s, tbl, rfl, _⟩ := h
    rfl
  · obtain ⟨c, rs, sg, tbl, rfl, cp, k⟩ := h
    refine ⟨_, (pss_one (ps_ret (pe_ix (ix_listK K) (pe_ix (ix_listK K) (pe_fld (pv 0) rfl) pe_int (fun _ _ => rfl)) pe_int (fun _ _ => rfl)))), ?_⟩
    obtain ⟨dx, tr, ls, lw, hc, htr, hls, hlw⟩ := cp.ex
    have hl := cp.len
    obtain ⟨vs, b, hv, hb0, hb⟩ := tbl_get hlw (p := 0) (by omega)
    have hr0 := cp.row (i := 0) (by omega)
    exact ⟨_, rfl, c, C, dx, _, _, rfl, hc, T.cl, T.nW, lk_ways _ _ _, lw, _, _, .ref b, rfl, rfl, SqL.of hv, atI_nat hb0, b, _, _, _, rfl, rfl, SqL.of hb, atI_nat (row_get (d := 0) (by omega)), k⟩
inductive sp_empty (C : Addr) (vs : List V) (H : Hp) (Q : VK) (E_ : XK) : Prop
  | mk (c : Addr) (rs : List Nat) (s : Sight) (tbl : List (List Int)) (p d : Nat) (z0 : vs = [.ref c, .int p, .int d]) (z1 : CP C H c rs s tbl) (z2 : p < s.length) (z3 : d ≤ rs.length) (z4 : Q (.int (emptyT (getT tbl) s p d)) H) : sp_empty C vs H Q E_
theorem sc_Counts_empty_ways : FnScope ["self", "place", "done"] ["self", "place", "done"] (defScope s_Counts_empty_ways) := ⟨rfl, rfl, rfl, by decide +kernel, rfl, by decide +kernel, by decide +kernel⟩
theorem ok_Counts_empty_ways {f : Addr} {fd : FuncData} (F : Fun K "empty_ways" "Counts.empty_ways" s_Counts_empty_ways f fd) (T : CT K C) : FnOk P w K mg base CX0 1 f fd ["self", "place", "done"] (sp_empty C) := by
  refine F.ok sc_Counts_empty_ways (fun vs H Q E h => ?_) (fun cdv A outer s H vs Q E hr h => ?_)
  · obtain ⟨c, rs, s, tbl, p, d, rfl, _⟩ := h
    rfl
  · obtain ⟨c, rs, sg, tbl, p, d, rfl, cp, hp, hd, k⟩ := h
    refine ⟨_, (pss_cons (ps_if (pt_cmpR op_eq (pe_ix (ix_listK K) (pe_fld (pv 0) rfl) (pv 1) (fun _ _ => rfl)) pe_int (nomark _))
      (pss_one (ps_ret pe_int))
      pss_nil)
      (pss_one (ps_ret (pe_ix (ix_listK K) (pe_ix (ix_listK K) (pe_fld (pv 0) rfl) (pe_op op_add (pv 1) pe_int) (fun _ _ => rfl)) (pv 2) (fun _ _ => rfl))))), ?_⟩
    obtain ⟨dx, tr, ls, lw, hc, htr, hls, hlw⟩ := cp.ex
    have hl := cp.len
    refine ⟨_, rfl, c, C, dx, _, _, rfl, hc, T.cl, T.nS, lk_sight _ _ _, _, rfl, ls, _, _, _, rfl, rfl, SqL.of hls, atI_nat (sightV_get hp), vO_scal, _, rfl, ?_⟩
    have e0 : sg[p]? = some sg[p] := List.getElem?_eq_getElem hp
    unfold emptyT at k
    rw [e0] at k
    rw [vO_one]
    refine ite2 (fun hc1 => ?_) (fun hc1 => ?_)
    · rw [if_pos (by rw [of_decide_eq_true hc1])] at k
      exact k
    · rw [if_neg (fun z => hc1 (decide_eq_true (Option.some.inj z)))] at k
      obtain ⟨vs, b, hv, hb0, hb⟩ := tbl_get hlw (p := p + 1) (by omega)
      have hr1 := cp.row (i := p + 1) (by omega)
      exact ⟨_, rfl, c, C, dx, _, _, rfl, hc, T.cl, T.nW, lk_ways _ _ _, _, rfl, _, _, rfl, rfl, lw, _, _, .ref b, rfl, rfl, SqL.of hv, atI_nat hb0, _, rfl, b, _, _, _, rfl, rfl, SqL.of hb, atI_nat (row_get (d := d) (by omega)), k⟩
inductive sp_room (C : Addr) (vs : List V) (H : Hp) (Q : VK) (E_ : XK) : Prop
  | mk (c : Addr) (rs : List Nat) (s : Sight) (tbl : List (List Int)) (p k : Nat) (z0 : vs = [.ref c, .int p, .int k]) (z1 : CP C H c rs s tbl) (z2 : p < s.length) (z3 : ∀ H', Same H H' → Q (.bl (fitsB k (s.drop p))) H') : sp_room C vs H Q E_
theorem sc_Counts_has_room : FnScope ["self", "place", "length", "end"] ["self", "place", "length"] (defScope s_Counts_has_room) := ⟨rfl, rfl, rfl, by decide +kernel, rfl, by decide +kernel, by decide +kernel⟩
theorem ok_Counts_has_room {f : Addr} {fd : FuncData} (F : Fun K "has_room" "Counts.has_room" s_Counts_has_room f fd) (B : Bt mg) (T : CT K C) : FnOk P w K mg base CX0 1 f fd ["self", "place", "length"] (sp_room C) := by
  refine F.ok sc_Counts_has_room (fun vs H Q E h => ?_) (fun cdv A outer s H vs Q E hr h => ?_)
  · obtain ⟨c, rs, s, tbl, p, d, rfl, _⟩ := h
    rfl
  · obtain ⟨c, rs, sg, tbl, p, kk, rfl, cp, hp, k⟩ := h
    refine ⟨_, (pss_cons (ps_set (i := 3) sc_Counts_has_room.nd rfl (Or.inl rfl) (pe_op op_add (pv 1) (pv 2)))
      (pss_cons (ps_if (PW.pt (pw_or (pt_cmpR op_gt (pv 3) (pe_callB (call_lenK K) rfl B.len bt_len (pa_cons (pe_fld (pv 0) rfl) pa_nil)) (nomark _)) (pw_or1 (pt_cmpR op_in_seq pe_int (pe_slice (sl_listK K) (pe_fld (pv 0) rfl) (po_some (pv 1)) (po_some (pv 3))) rfl))))
      (pss_one (ps_ret pe_bl))
      pss_nil)
      (pss_one (ps_ret (pe_or (pe_cmpR op_eq (pv 3) (pe_callB (call_lenK K) rfl B.len bt_len (pa_cons (pe_fld (pv 0) rfl) pa_nil)) (nomark _)) (pe_one (pe_cmpR op_ne (pe_ix (ix_listK K) (pe_fld (pv 0) rfl) (pv 3) (fun _ _ => rfl)) pe_int (nomark _)))))))), ?_⟩
    obtain ⟨dx, tr, ls, lw, hc, htr, hls, hlw⟩ := cp.ex
    have hsl : (sightV sg).length = sg.length := by unfold sightV; rw [List.length_map]
    refine ⟨_, rfl, _, rfl, _, _, rfl, rfl, ?_⟩
    refine ⟨_, rfl, _, rfl, c, C, dx, _, _, rfl, hc, T.cl, T.nS, lk_sight _ _ _, ls, _, rfl, .inl (SqL.of hls), _, _, rfl, rfl, _, rfl, ?_⟩
    have hdl : (sg.drop p).length = sg.length - p := List.length_drop
    refine ite2 (fun hc1 => iteT ?_) (fun hc1 => ?_)
    · have h1 : ((sightV sg).length : Int) < (p : Int) + (kk : Int) := of_decide_eq_true hc1
      rw [hsl] at h1
      have e : fitsB kk (sg.drop p) = false := by
        unfold fitsB
        rw [decide_eq_false (by rw [hdl]; omega)]
        rfl
      have q := k H (Same.refl H)
      rw [e] at q
      exact q
    · have h1 : ¬ ((sightV sg).length : Int) < (p : Int) + (kk : Int) := fun z => hc1 (decide_eq_true z)
      rw [hsl] at h1
      have h2 : p + kk ≤ sg.length := by omega
      refine ⟨_, rfl, c, C, dx, _, _, rfl, hc, T.cl, T.nS, lk_sight _ _ _, _, rfl, _, rfl, _, rfl, _, rfl, ls, _, rfl, SqL.of hls, fun z hz => ?_⟩
      have s1 : Same H (upd H z (.lst (cutV (sightV sg) (some (p : Int)) (some ((p : Int) + (kk : Int)))))) := same_upd hz
      refine ⟨z, _, rfl, .inl (SqL.of upd_same), rfl, (by rw [cut_sight h2]; exact sight_flat _), _, rfl, ?_⟩
      rw [cut_sight h2] at s1 ⊢
      rw [show (if false = true then !inV (V.int 0) (sightV ((sg.drop p).take kk)) else inV (V.int 0) (sightV ((sg.drop p).take kk))) = inV (V.int 0) (sightV ((sg.drop p).take kk)) from rfl, sight_in0]
      cases hall : (((sg.drop p).take kk).all fun x => decide (x ≠ some 0)) with
      | false =>
        refine iteT ?_
        have e : fitsB kk (sg.drop p) = false := by
          unfold fitsB
          rw [hall, Bool.and_false, Bool.false_and]
        have q := k _ s1
        rw [e] at q
        exact q
      | true =>
        refine iteF ?_
        have hc2 := s1 _ _ hc
        have hls2 := s1 _ _ hls
        have e : fitsB kk (sg.drop p) = (decide (kk = sg.length - p) || decide ((sg.drop p)[kk]? ≠ some (some 1))) := by
          unfold fitsB
          rw [hall, decide_eq_true (show kk ≤ (sg.drop p).length by rw [hdl]; omega), hdl]
          rfl
        have q := k _ s1
        rw [e] at q
        refine ⟨_, rfl, _, rfl, c, C, dx, _, _, rfl, hc2, T.cl, T.nS, lk_sight _ _ _, ls, _, rfl, .inl (SqL.of hls2), rfl, _, rfl, ?_⟩
        rw [hsl]
        by_cases h3 : p + kk = sg.length
        · have e1 : decide (V.int ((p : Int) + (kk : Int)) = V.int (sg.length : Nat)) = true := dec_int1.mpr (by omega)
          rw [e1]
          rw [decide_eq_true (show kk = sg.length - p by omega)] at q
          exact iteT q
        · have e1 : decide (V.int ((p : Int) + (kk : Int)) = V.int (sg.length : Nat)) = false := decide_eq_false (fun z => h3 (by have := V.int.inj z; omega))
          rw [e1]
          rw [decide_eq_false (show ¬ kk = sg.length - p by omega), Bool.false_or] at q
          refine iteF ?_
          have h4 : p + kk < sg.length := by omega
          have e2 : (p : Int) + (kk : Int) = ((p + kk : Nat) : Int) := by omega
          have hg : atI (sightV sg) ((p : Int) + (kk : Int)) = some (vO sg[p + kk]) := by rw [e2]; exact atI_nat (sightV_get h4)
          refine ⟨_, rfl, c, C, dx, _, _, rfl, hc2, T.cl, T.nS, lk_sight _ _ _, _, rfl, ls, _, _, _, rfl, rfl, SqL.of hls2, hg, vO_scal, ?_⟩
          rw [vO_one]
          rw [List.getElem?_drop, List.getElem?_eq_getElem h4] at q
          have e3 : (!decide (sg[p + kk] = some 1)) = decide (some sg[p + kk] ≠ some (some (1 : Int))) := by
            by_cases h5 : sg[p + kk] = some 1
            · rw [h5]; rfl
            · have h6 : some sg[p + kk] ≠ some (some (1 : Int)) := fun z => h5 (Option.some.inj z)
              rw [decide_eq_false h5, decide_eq_true h6]; rfl
          rw [e3]
          exact q
inductive sp_behind (C : Addr) (vs : List V) (H : Hp) (Q : VK) (E_ : XK) : Prop
  | mk (c : Addr) (rs : List Nat) (s : Sight) (tbl : List (List Int)) (p d : Nat) (z0 : vs = [.ref c, .int p, .int d]) (z1 : CP C H c rs s tbl) (z2 : d < rs.length) (z3 : Q (.int (min (p + rs.getD d 0 + 1) s.length : Nat)) H) : sp_behind C vs H Q E_
theorem sc_Counts_place_behind : FnScope ["self", "place", "done"] ["self", "place", "done"] (defScope s_Counts_place_behind) := ⟨rfl, rfl, rfl, by decide +kernel, rfl, by decide +kernel, by decide +kernel⟩
theorem ok_Counts_place_behind {f : Addr} {fd : FuncData} (F : Fun K "place_behind" "Counts.place_behind" s_Counts_place_behind f fd) (B : Bt mg) (T : CT K C) : FnOk P w K mg base CX0 1 f fd ["self", "place", "done"] (sp_behind C) := by
  refine F.ok sc_Counts_place_behind (fun vs H Q E h => ?_) (fun cdv A outer s H vs Q E hr h => ?_)
  · obtain ⟨c, rs, s, tbl, p, d, rfl, _⟩ := h
    rfl
  · obtain ⟨c, rs, sg, tbl, p, d, rfl, cp, hd, k⟩ := h
    refine ⟨_, (pss_one (ps_ret (pe_callB (call_min2 rfl) rfl B.min bt_min (pa_cons (pe_op op_add (pe_op op_add (pv 1) (pe_ix (ix_tupK K) (pe_fld (pv 0) rfl) (pv 2) (fun _ _ => rfl))) pe_int) (pa_cons (pe_callB (call_lenK K) rfl B.len bt_len (pa_cons (pe_fld (pv 0) rfl) pa_nil)) pa_nil))))), ?_⟩
    obtain ⟨dx, tr, ls, lw, hc, htr, hls, hlw⟩ := cp.ex
    have hsl : (sightV sg).length = sg.length := by unfold sightV; rw [List.length_map]
    refine ⟨_, rfl, _, rfl, c, C, dx, _, _, rfl, hc, T.cl, T.nR, lk_runs _ _ _, _, rfl, tr, _, _, _, rfl, rfl, SqT.of htr, atI_nat (runsV_get hd), _, _, rfl, rfl, _, _, rfl, rfl, _, rfl, c, C, dx, _, _, rfl, hc, T.cl, T.nS, lk_sight _ _ _, ls, _, rfl, .inl (SqL.of hls), _, _, rfl, ?_⟩
    have e : (if ((sightV sg).length : Int) < (p : Int) + (rs.getD d 0 : Nat) + 1 then ((sightV sg).length : Int) else (p : Int) + (rs.getD d 0 : Nat) + 1) = (min (p + rs.getD d 0 + 1) sg.length : Nat) := by
      rw [hsl]
      split <;> omega
    rw [e]
    exact k
inductive sp_full (C : Addr) (vs : List V) (H : Hp) (Q : VK) (E_ : XK) : Prop
  | mk (c : Addr) (rs : List Nat) (s : Sight) (tbl : List (List Int)) (p d : Nat) (z0 : vs = [.ref c, .int p, .int d]) (z1 : CP C H c rs s tbl) (z2 : p < s.length) (z3 : d ≤ rs.length) (z4 : ∀ H', Same H H' → Q (.int (fullT (getT tbl) rs s p d)) H') : sp_full C vs H Q E_
theorem sc_Counts_full_ways : FnScope ["self", "place", "done"] ["self", "place", "done"] (defScope s_Counts_full_ways) := ⟨rfl, rfl, rfl, by decide +kernel, rfl, by decide +kernel, by decide +kernel⟩
theorem ok_Counts_full_ways {f : Addr} {fd : FuncData} (F : Fun K "full_ways" "Counts.full_ways" s_Counts_full_ways f fd) (B : Bt mg) (T : CT K C) (m_has_room : Method P w K mg base CX0 C "has_room" 1 ["self", "place", "length"] (sp_room C)) (m_place_behind : Method P w K mg base CX0 C "place_behind" 1 ["self", "place", "done"] (sp_behind C)) :
    FnOk P w K mg base CX0 2 f fd ["self", "place", "done"] (sp_full C) := by
  refine F.ok sc_Counts_full_ways (fun vs H Q E h => ?_) (fun cdv A outer s H vs Q E hr h => ?_)
  · obtain ⟨c, rs, s, tbl, p, d, rfl, _⟩ := h
    rfl
  · obtain ⟨c, rs, sg, tbl, p, d, rfl, cp, hp, hd, k⟩ := h
    refine ⟨_, (pss_cons (ps_if (PW.pt (pw_or (pt_cmpR op_eq (pv 2) (pe_callB (call_lenK K) rfl B.len bt_len (pa_cons (pe_fld (pv 0) rfl) pa_nil)) (nomark _)) (pw_or1 (pt_not (pt_val (pe_met m_has_room (pv 0) hr (pa_cons (pv 1) (pa_cons (pe_ix (ix_tupK K) (pe_fld (pv 0) rfl) (pv 2) (fun _ _ => rfl)) pa_nil))))))))
      (pss_one (ps_ret pe_int))
      pss_nil)
      (pss_one (ps_ret (pe_ix (ix_listK K) (pe_ix (ix_listK K) (pe_fld (pv 0) rfl) (pe_met m_place_behind (pv 0) hr (pa_cons (pv 1) (pa_cons (pv 2) pa_nil))) (fun _ _ => rfl)) (pe_op op_add (pv 2) pe_int) (fun _ _ => rfl))))), ?_⟩
    obtain ⟨dx, tr, ls, lw, hc, htr, hls, hlw⟩ := cp.ex
    have hl := cp.len
    have hrl : (runsV rs).length = rs.length := by unfold runsV; rw [List.length_map]
    refine ⟨_, rfl, _, rfl, c, C, dx, _, _, rfl, hc, T.cl, T.nR, lk_runs _ _ _, tr, _, rfl, .inr (SqT.of htr), rfl, _, rfl, ?_⟩
    rw [hrl]
    unfold fullT at k
    by_cases hdl : d = rs.length
    · rw [dec_int1.mpr (show ((d : Nat) : Int) = (rs.length : Nat) by omega)]
      refine iteT (iteT ?_)
      have q := k H (Same.refl H)
      rw [if_pos hdl] at q
      exact q
    · have e1 : decide (V.int (d : Nat) = V.int (rs.length : Nat)) = false := decide_eq_false (fun z => hdl (by have := V.int.inj z; omega))
      rw [e1]
      refine iteF ?_
      have hd' : d < rs.length := by omega
      refine ⟨_, rfl, c, dx, _, rfl, hc, lk_no _ _ _ (by decide +kernel) (by decide +kernel) (by decide +kernel), _, rfl, _, rfl, c, C, dx, _, _, rfl, hc, T.cl, T.nR, lk_runs _ _ _, _, rfl, tr, _, _, _, rfl, rfl, SqT.of htr, atI_nat (runsV_get hd'), c, rs, sg, tbl, p, _, rfl, cp, hp, fun H1 s1 => ⟨_, rfl, ?_⟩⟩
      have q := k H1 s1
      rw [if_neg hdl] at q
      cases hf : fitsB (rs.getD d 0) (sg.drop p) with
      | false =>
        rw [hf] at q
        exact iteT q
      | true =>
        rw [hf] at q
        refine iteF ?_
        have cp1 := cp.mono s1
        have hc1 := s1 _ _ hc
        have hlw1 := IsD.mono s1 hlw
        have hm : min (p + rs.getD d 0 + 1) sg.length ≤ sg.length := Nat.min_le_right _ _
        obtain ⟨vs, b, hv, hb0, hb⟩ := tbl_get hlw1 (p := min (p + rs.getD d 0 + 1) sg.length) (by omega)
        have hr1 := cp.row hm
        exact ⟨_, rfl, c, C, dx, _, _, rfl, hc1, T.cl, T.nW, lk_ways _ _ _, _, rfl, c, dx, _, rfl, hc1, lk_no _ _ _ (by decide +kernel) (by decide +kernel) (by decide +kernel), _, rfl, _, rfl, c, rs, sg, tbl, p, d, rfl, cp1, hd', lw, _, _, .ref b, rfl, rfl, SqL.of hv, atI_nat hb0, _, rfl, _, _, rfl, rfl, b, _, _, _, rfl, rfl, SqL.of hb, atI_nat (row_get (d := d + 1) (by omega)), q⟩
inductive sp_run_cells (C : Addr) (vs : List V) (H : Hp) (Q : VK) (E_ : XK) : Prop
  | mk (c : Addr) (rs : List Nat) (s : Sight) (tbl : List (List Int)) (p d : Nat) (z0 : vs = [.ref c, .int p, .int d]) (z1 : CP C H c rs s tbl) (z2 : d < rs.length) (z3 : rs.getD d 0 ≤ 500) (z4 : ∀ l H', Same H H' → H l = none → H' l = some (.lst ((runCells (rs.getD d 0) (s.length - p)).map V.int)) → Q (.ref l) H') : sp_run_cells C vs H Q E_
theorem sc_Counts_run_cells : FnScope ["self", "place", "done", "cells"] ["self", "place", "done"] (defScope s_Counts_run_cells) := ⟨rfl, rfl, rfl, by decide +kernel, rfl, by decide +kernel, by decide +kernel⟩
theorem ok_Counts_run_cells {f : Addr} {fd : FuncData} (F : Fun K "run_cells" "Counts.run_cells" s_Counts_run_cells f fd) (B : Bt mg) (T : CT K C) : FnOk P w K mg base CX0 1 f fd ["self", "place", "done"] (sp_run_cells C) := by
  refine F.ok sc_Counts_run_cells (fun vs H Q E h => ?_) (fun cdv A outer s H vs Q E hr h => ?_)
  · obtain ⟨c, rs, s, tbl, p, d, rfl, _⟩ := h
    rfl
  · obtain ⟨c, rs, sg, tbl, p, d, rfl, cp, hd, hk, k⟩ := h
    refine ⟨_, (pss_cons (ps_set (i := 3) sc_Counts_run_cells.nd rfl (Or.inl rfl) (pe_op op_rep (pe_lst (pa_cons pe_int pa_nil)) (pe_ix (ix_tupK K) (pe_fld (pv 0) rfl) (pv 2) (fun _ _ => rfl))))
      (pss_cons (ps_if (pt_cmpR op_lt (pe_op op_add (pv 1) (pe_callB (call_lenK K) rfl B.len bt_len (pa_cons (pv 3) pa_nil))) (pe_callB (call_lenK K) rfl B.len bt_len (pa_cons (pe_fld (pv 0) rfl) pa_nil)) (nomark _))
      (pss_one (ps_expr (pe_bm PySem.F.plainAttrs_list PySem.F.slot_list_append PySem.F.type_list_append mt_append (pv 3) (pa_cons pe_int pa_nil))))
      pss_nil)
      (pss_one (ps_ret (pv 3))))), ?_⟩
    obtain ⟨dx, tr, ls, lw, hc, htr, hls, hlw⟩ := cp.ex
    generalize hkk : rs.getD d 0 = kk at hk k
    have hrg := runsV_get hd
    rw [hkk] at hrg
    refine ⟨(by show 1 ≤ sizeLine; decide), fun l0 hl0 => ?_⟩
    have s0 : Same H (upd H l0 (.lst [V.int 1])) := same_upd hl0
    have hc0 := s0 _ _ hc
    refine ⟨_, rfl, c, C, dx, _, _, rfl, hc0, T.cl, T.nR, lk_runs _ _ _, _, rfl, tr, _, _, _, rfl, rfl, SqT.of (s0 _ _ htr), atI_nat hrg, l0, _, _, rfl, rfl, upd_same, by omega, by omega, (by show 1 * ((kk : Int)).toNat ≤ sizeLine; have := small1000 (n := kk) (by omega); rw [Int.toNat_natCast]; omega), ?_⟩
    have erep : (List.replicate ((kk : Int)).toNat [V.int 1]).flatten = (List.replicate kk (1 : Int)).map V.int := by
      rw [Int.toNat_natCast]
      simp
    intro l1 hl1
    rw [erep]
    have nl1 : H l1 = none := s0.free hl1
    have s1 : Same H (upd (upd H l0 (.lst [V.int 1])) l1 (.lst ((List.replicate kk (1 : Int)).map V.int))) := same_upd' s0 nl1
    have hc1 := s1 _ _ hc
    refine ⟨_, rfl, _, rfl, l1, _, rfl, .inl (SqL.of upd_same), _, _, rfl, rfl, _, rfl, c, C, dx, _, _, rfl, hc1, T.cl, T.nS, lk_sight _ _ _, ls, _, rfl, .inl (SqL.of (s1 _ _ hls)), _, _, rfl, rfl, _, rfl, ?_⟩
    have hsl : (sightV sg).length = sg.length := by unfold sightV; rw [List.length_map]
    have hrl : ((List.replicate kk (1 : Int)).map V.int).length = kk := by simp
    rw [hsl, hrl]
    refine ite2 (fun hc2 => ?_) (fun hc2 => ?_)
    · have h2 : (p : Int) + (kk : Nat) < (sg.length : Nat) := of_decide_eq_true hc2
      refine ⟨_, rfl, .inl ⟨rfl, _, SqL.of upd_same⟩, l1, _, _, rfl, rfl, upd_same, small1000 (by rw [hrl]; omega), ?_⟩
      rw [upd_upd]
      refine ⟨_, rfl, k l1 _ (same_upd' s0 nl1) nl1 ?_⟩
      rw [upd_same]
      unfold runCells
      rw [if_pos (by omega), List.map_append]
      rfl
    · have h2 : ¬ (p : Int) + (kk : Nat) < (sg.length : Nat) := fun z => hc2 (decide_eq_true z)
      refine ⟨_, rfl, k l1 _ s1 nl1 ?_⟩
      rw [upd_same]
      unfold runCells
      rw [if_neg (by omega), List.append_nil]
end
section
variable {P : Program} {w : World} {K : PySem.W.Frag} {mg : Str → Option Value} {base : Heap} {C : Addr}
inductive sp_init (C : Addr) (vs : List V) (H : Hp) (Q : VK) (E_ : XK) : Prop
  | mk (c dx tr ls : Addr) (rs : List Nat) (s : Sight) (z0 : vs = [.ref c, .ref tr, .ref ls]) (z1 : H c = some (.ins C dx [])) (z2 : H tr = some (.tup (runsV rs))) (z3 : H ls = some (.lst (sightV s))) (z4 : s.length ≤ 100) (z5 : rs.length ≤ 100) (z6 : ∀ H', (∀ b o, H b = some o → b ≠ c → H' b = some o) → CP C H' c rs s (wholeT rs s) → Q .non H') : sp_init C vs H Q E_
theorem sc_Counts___init__ : FnScope ["self", "runs", "sight", "place", "done"] ["self", "runs", "sight"] (defScope s_Counts___init__) := ⟨rfl, rfl, rfl, by decide +kernel, rfl, by decide +kernel, by decide +kernel⟩
theorem ok_Counts___init__ {f : Addr} {fd : FuncData} (F : Fun K "__init__" "Counts.__init__" s_Counts___init__ f fd) (B : Bt mg) (T : CT K C) (m_empty_ways : Method P w K mg base CX0 C "empty_ways" 1 ["self", "place", "done"] (sp_empty C)) (m_full_ways : Method P w K mg base CX0 C "full_ways" 2 ["self", "place", "done"] (sp_full C)) :
    FnOk P w K mg base CX0 3 f fd ["self", "runs", "sight"] (sp_init C) := by
  refine F.ok sc_Counts___init__ (fun vs H Q E h => ?_) (fun cdv A outer s H vs Q E hr h => ?_)
  · obtain ⟨c, dx, tr, ls, rs, s, rfl, _⟩ := h
    rfl
  · obtain ⟨c, dx, tr, ls, rs, sg, rfl, hc, htr, hls, hn, hrn, k⟩ := h
    refine ⟨_, (pss_cons (ps_fld (pv 0) (pe_callTy (call_tupleK K) rfl B.tuple bt_tuple (pa_cons (pv 1) pa_nil)) rfl)
      (pss_cons (ps_fld (pv 0) (pe_callTy (call_listK K) rfl B.list bt_list (pa_cons (pv 2) pa_nil)) rfl)
      (pss_cons (ps_fld (pv 0) (pe_comp ["place"] [1] ⟨rfl, rfl, rfl, rfl, rfl⟩ rfl (pi_range1 rfl B.range (pa_cons (pe_op op_add (pe_callB (call_lenK K) rfl B.len bt_len (pa_cons (pv 2) pa_nil)) pe_int) pa_nil)) (fun _ _ _ _ _ => (pg_name (i := 0) (show (["place", "runs"] : List Str).Nodup by decide +kernel) rfl (Or.inl rfl))) (fun _ _ _ _ _ => pcb_elt (pe_op op_rep (pe_lst (pa_cons pe_int pa_nil)) (pe_op op_add (pe_callB (call_lenK K) rfl B.len bt_len (pa_cons (pv 1) pa_nil)) pe_int)))) rfl)
      (pss_cons (ps_asg pe_int (pg_sub (pe_ix (ix_listK K) (pe_fld (pv 0) rfl) (pe_callB (call_lenK K) rfl B.len bt_len (pa_cons (pv 2) pa_nil)) (fun _ _ => rfl)) (pe_callB (call_lenK K) rfl B.len bt_len (pa_cons (pv 1) pa_nil)) set_list))
      (pss_one (ps_for PassesOwn.never rfl (pi_rangeD rfl B.range (pa_cons (pe_op op_sub (pe_callB (call_lenK K) rfl B.len bt_len (pa_cons (pv 2) pa_nil)) pe_int) (pa_cons (pe_un un_neg pe_int) (pa_cons (pe_un un_neg pe_int) pa_nil)))) (pg_name (i := 3) sc_Counts___init__.nd rfl (Or.inl rfl))
      (pss_one (ps_for PassesOwn.never rfl (pi_range1 rfl B.range (pa_cons (pe_op op_add (pe_callB (call_lenK K) rfl B.len bt_len (pa_cons (pv 1) pa_nil)) pe_int) pa_nil)) (pg_name (i := 4) sc_Counts___init__.nd rfl (Or.inl rfl))
      (pss_one (ps_asg (pe_op op_add (pe_met m_empty_ways (pv 0) hr (pa_cons (pv 3) (pa_cons (pv 4) pa_nil))) (pe_met m_full_ways (pv 0) hr (pa_cons (pv 3) (pa_cons (pv 4) pa_nil)))) (pg_sub (pe_ix (ix_listK K) (pe_fld (pv 0) rfl) (pv 3) (fun _ _ => rfl)) (pv 4) set_list))))))))))), ?_⟩
    have hsl : (sightV sg).length = sg.length := by unfold sightV; rw [List.length_map]
    have hrl : (runsV rs).length = rs.length := by unfold runsV; rw [List.length_map]
    have nct : tr ≠ c := ne_of htr hc (by intro z; cases z)
    have ncl : ls ≠ c := ne_of hls hc (by intro z; cases z)
    refine ⟨_, rfl, tr, _, rfl, .inr ⟨SqT.of htr, _, rfl, c, C, dx, [], rfl, hc, T.cl, T.nR, (by show 0 < 1000; decide), ?_⟩⟩
    have hls1 : ∀ o, (upd H c o) ls = some (.lst (sightV sg)) := fun o => by rw [upd_ne ncl]; exact hls
    refine ⟨_, rfl, ls, _, rfl, .inl (SqL.of (hls1 _)), fun l1 hl1 => ?_⟩
    have n1c : l1 ≠ c := fun z => by rw [z, upd_same] at hl1; cases hl1
    have nl1 : H l1 = none := by rw [upd_ne n1c] at hl1; exact hl1
    refine ⟨_, rfl, c, C, dx, _, rfl, (by rw [upd_ne (Ne.symm n1c), upd_same]), T.cl, T.nS, (by have := length_putF "runs" (V.ref tr) []; simp at this; omega), ?_⟩
    have hA : upd (upd (upd H c (.ins C dx (putF "runs" (.ref tr) []))) l1 (.lst (sightV sg))) c (.ins C dx (putF "sight" (.ref l1) (putF "runs" (.ref tr) []))) = upd (upd H l1 (.lst (sightV sg))) c (.ins C dx (putF "sight" (.ref l1) (putF "runs" (.ref tr) []))) := upd_swap (Ne.symm n1c)
    rw [hA]
    generalize hHA : upd (upd H l1 (.lst (sightV sg))) c (.ins C dx (putF "sight" (.ref l1) (putF "runs" (.ref tr) []))) = HA
    have kA : ∀ b o, H b = some o → b ≠ c → HA b = some o := fun b o e nb => by rw [← hHA, upd_ne nb, upd_ne (ne_of_none e nl1)]; exact e
    have hcA : HA c = some (.ins C dx (putF "sight" (.ref l1) (putF "runs" (.ref tr) []))) := by rw [← hHA]; exact upd_same
    have htrA := kA _ _ htr nct
    have hlsA := kA _ _ hls ncl
    have hl1A : HA l1 = some (.lst (sightV sg)) := by rw [← hHA, upd_ne n1c, upd_same]
    have nA : ∀ b, HA b = none → H b = none := fun b e => by
      cases q : H b with
      | none => rfl
      | some o =>
        by_cases hb : b = c
        · rw [hb, hcA] at e; cases e
        · rw [kA b o q hb] at e; cases e
    have e1 : ((sightV sg).length : Int) + 1 = ((sg.length + 1 : Nat) : Int) := by rw [hsl]; omega
    refine ⟨_, rfl, ls, _, rfl, .inl (SqL.of hlsA), _, _, rfl, rfl, ((sg.length + 1 : Nat) : Int), (by rw [← e1]), by omega, by omega, comp_range (fun i ys H' => ∃ as, ys = as.map V.ref ∧ Grow HA (fun _ => List.replicate (rs.length + 1) 0) i as H') ⟨[], rfl, Grow.zero⟩ ?_ ?_ ?_ ?_⟩
    · exact Nat.le_of_lt (small1000 (by omega))
    · rintro i ys H' ⟨as, rfl, g⟩
      rw [List.length_map, g.len]
      omega
    · rintro i ys H' hi ⟨as, rfl, g⟩
      refine ⟨rfl, ?_⟩
      refine ⟨(by show 1 ≤ sizeLine; decide), fun z hz => ?_⟩
      have s0 : Same H' (upd H' z (.lst [V.int 0])) := same_upd hz
      have e2 : ((runsV rs).length : Int) + 1 = ((rs.length + 1 : Nat) : Int) := by rw [hrl]; omega
      refine ⟨_, rfl, tr, _, rfl, .inr (SqT.of (s0 _ _ (g.same _ _ htrA))), _, _, rfl, rfl, z, ((rs.length + 1 : Nat) : Int), _, rfl, (by rw [← e2]), upd_same, by omega, by omega, (by show 1 * ((rs.length + 1 : Nat) : Int).toNat ≤ sizeLine; have := small1000 (n := rs.length + 1) (by omega); rw [Int.toNat_natCast]; omega), fun b hb => ?_⟩
      refine ⟨as ++ [b], by rw [List.map_append]; rfl, g.next (s0.trans (same_upd hb)) (s0.free hb) ?_⟩
      rw [upd_same, Int.toNat_natCast]
      simp
    rintro ys HB ⟨as, rfl, g⟩ lw hlw
    rw [Int.toNat_natCast] at g
    have nas : ∀ b o, HA b = some o → b ∉ as := fun b o e z => by rw [g.new b z] at e; cases e
    have nlwas : lw ∉ as := g.there hlw
    have nlw : HA lw = none := g.same.free hlw
    have nlwc : lw ≠ c := fun z => by rw [z, hcA] at nlw; cases nlw
    have hcB := g.same _ _ hcA
    refine ⟨_, rfl, c, C, dx, _, rfl, (by rw [upd_ne (Ne.symm nlwc)]; exact hcB), T.cl, T.nW, (by have h1 := length_putF "sight" (V.ref l1) (putF "runs" (V.ref tr) []); have h2 := length_putF "runs" (V.ref tr) []; simp at h2; omega), ?_⟩
    generalize hHb : upd (upd HB lw (.lst (as.map V.ref))) c (.ins C dx (putF "ways" (.ref lw) (putF "sight" (.ref l1) (putF "runs" (.ref tr) [])))) = Hb
    have kB : ∀ b o, HA b = some o → b ≠ c → Hb b = some o := fun b o e nb => by
      have nb2 : b ≠ lw := ne_of_none e nlw
      rw [← hHb, upd_ne nb, upd_ne nb2]; exact g.same _ _ e
    have hcb : Hb c = some (.ins C dx (cflds tr l1 lw)) := by rw [← hHb]; exact upd_same
    have htrb := kB _ _ htrA nct
    have hlsb := kB _ _ hlsA ncl
    have hl1b := kB _ _ hl1A n1c
    have hlwb : Hb lw = some (.lst (as.map V.ref)) := by rw [← hHb, upd_ne nlwc, upd_same]
    have hrows : RowsAt Hb as ((List.range (sg.length + 1)).map fun _ => List.replicate (rs.length + 1) 0) := by
      refine ⟨by rw [List.length_map, List.length_range]; exact g.len, fun i a xs q1 q2 => ?_⟩
      have q := g.rows.2 i a xs q1 q2
      have ha := List.mem_of_getElem? q1
      have na : a ≠ c := fun z => nas c _ hcA (by rw [← z]; exact ha)
      have na2 : a ≠ lw := fun z => nlwas (by rw [← z]; exact ha)
      rw [← hHb, upd_ne na, upd_ne na2]
      exact q
    have ncas : c ∉ as := nas c _ hcA
    have ntas : tr ∉ as := nas tr _ htrA
    have nl1as : l1 ∉ as := nas l1 _ hl1A
    have nlsas : ls ∉ as := nas ls _ hlsA
    generalize ht0 : ((List.range (sg.length + 1)).map fun _ => List.replicate (rs.length + 1) (0 : Int)) = tbl0 at hrows
    have htl0 : tbl0.length = sg.length + 1 := by rw [← ht0]; simp
    have htw0 : ∀ row ∈ tbl0, row.length = rs.length + 1 := fun row hrow => by
      rw [← ht0] at hrow
      obtain ⟨_, _, rfl⟩ := List.mem_map.mp hrow
      simp
    have hg0 : ∀ p d, p ≤ sg.length → d ≤ rs.length → getT tbl0 p d = 0 := fun p d hp hd => by
      unfold getT
      rw [← ht0, getD_of (x := List.replicate (rs.length + 1) (0 : Int)) (by rw [List.getElem?_map, List.getElem?_range (by omega)]; rfl), List.getD_eq_getElem?_getD, List.getElem?_replicate, if_pos (by omega)]
      rfl
    have hasl : as.length = sg.length + 1 := g.len
    obtain ⟨an, han⟩ : ∃ an, as[sg.length]? = some an := ⟨_, List.getElem?_eq_getElem (by omega)⟩
    have hrowget : ∀ {i : Nat} {a : Addr} {H' : Hp} {tbl : List (List Int)}, RowsAt H' as tbl → as[i]? = some a → H' a = some (.lst ((tbl.getD i []).map V.int)) := fun {i a H' tbl} r e => by
      have hi : i < tbl.length := by rw [← r.1]; exact (List.getElem?_eq_some_iff.mp e).1
      rw [getD_of (List.getElem?_eq_getElem hi)]
      exact r.2 i a _ e (List.getElem?_eq_getElem hi)
    have hwidget : ∀ {i : Nat} {tbl : List (List Int)}, tbl.length = sg.length + 1 → (∀ row ∈ tbl, row.length = rs.length + 1) → i ≤ sg.length → (tbl.getD i []).length = rs.length + 1 := fun {i tbl} h1 h2 h3 => by
      have hi : i < tbl.length := by omega
      rw [getD_of (List.getElem?_eq_getElem hi)]
      exact h2 _ (List.getElem_mem hi)
    have hvget : ∀ {i : Nat} {a : Addr}, as[i]? = some a → (as.map V.ref)[i]? = some (.ref a) := fun e => by rw [List.getElem?_map, e]; rfl
    have hix0 : atI (as.map V.ref) ((sightV sg).length : Nat) = some (.ref an) := by rw [hsl]; exact atI_nat (hvget han)
    have hrow0 := hrowget hrows han
    refine ⟨_, rfl, c, C, dx, _, _, rfl, hcb, T.cl, T.nW, lk_ways _ _ _, _, rfl, ls, _, rfl, .inl (SqL.of hlsb), lw, _, _, .ref an, rfl, rfl, SqL.of hlwb, hix0, _, rfl, tr, _, rfl, .inr (SqT.of htrb), an, _, _, rs.length, rfl, rfl, hrow0, ?_, ?_⟩
    · rw [List.length_map, hwidget htl0 htw0 (Nat.le_refl _), hrl]
      unfold ixN
      rw [if_pos (by omega), if_pos (by omega)]
      rfl
    have hmem_an := List.mem_of_getElem? han
    have hrows1 := hrows.set g.nd han ((tbl0.getD sg.length []).set rs.length 1)
    rw [List.map_set] at hrows1
    generalize hH1 : upd Hb an (.lst (((tbl0.getD sg.length []).map V.int).set rs.length (V.int 1))) = H1 at hrows1 ⊢
    have kb1 : KeptBut Hb H1 as := by rw [← hH1]; exact (KeptBut.refl Hb as).upd hmem_an
    generalize ht1 : tbl0.set sg.length ((tbl0.getD sg.length []).set rs.length 1) = tbl1 at hrows1
    have htl1 : tbl1.length = sg.length + 1 := by rw [← ht1, List.length_set]; exact htl0
    have htw1 : ∀ row ∈ tbl1, row.length = rs.length + 1 := by rw [← ht1]; exact set_wid (by omega) htw0
    have hg1 : ∀ p d, sg.length ≤ p → p ≤ sg.length → d ≤ rs.length → getT tbl1 p d = wayT rs sg p d := fun p d h1 h2 h3 => by
      have hp : p = sg.length := by omega
      subst hp
      rw [← ht1, getT_set (by omega) (by rw [hwidget htl0 htw0 (Nat.le_refl _)]; omega), wayT_end rs sg h3]
      by_cases hd : d = rs.length
      · rw [if_pos ⟨rfl, hd⟩, if_pos hd]
      · rw [if_neg (fun z => hd z.2), if_neg hd]
        exact hg0 _ d (Nat.le_refl _) h3
    have e3 : ((sightV sg).length : Int) - 1 = (sg.length : Int) - 1 := by rw [hsl]
    refine ⟨_, rfl, ls, _, rfl, .inl (SqL.of (kb1 _ _ hlsb nlsas)), _, _, rfl, rfl, _, rfl, _, rfl, (sg.length : Int) - 1, -1, (by rw [← e3]), ⟨by omega, by omega, by omega, by omega⟩, for_downL (hi := (sg.length : Int) - 1) (n := ((sg.length : Int) - 1 - (-1)).toNat) (fun i σ H2 => ∃ (o3 o4 : Option V) (tbl : List (List Int)), σ = [some (.ref c), some (.ref tr), some (.ref ls), o3, o4] ∧
      KeptBut Hb H2 as ∧ RowsAt H2 as tbl ∧ tbl.length = sg.length + 1 ∧ (∀ row ∈ tbl, row.length = rs.length + 1) ∧ ∀ p d, sg.length - i ≤ p → p ≤ sg.length → d ≤ rs.length → getT tbl p d = wayT rs sg p d) ⟨none, none, tbl1, rfl, kb1, hrows1, htl1, htw1, fun p d h1 => hg1 p d (by omega)⟩ ?_ ?_⟩
    · intro P1 m1
      rintro i σ H2 hi ⟨o3, o4, tbl, rfl, kb, hrw, htl, htw, hgt⟩
      have hi' : i < sg.length := by omega
      obtain ⟨p, hp⟩ : ∃ p : Nat, (sg.length : Int) - 1 - (i : Nat) = p := ⟨sg.length - 1 - i, by omega⟩
      have hpl : p < sg.length := by omega
      have hpe : sg.length - i = p + 1 := by omega
      show gName 3 (V.int ((sg.length : Int) - 1 - (i : Nat))) _ _ _
      rw [hp]
      have e4 : ((runsV rs).length : Int) + 1 = ((rs.length + 1 : Nat) : Int) := by rw [hrl]; omega
      obtain ⟨ap, hap⟩ : ∃ ap, as[p]? = some ap := ⟨_, List.getElem?_eq_getElem (by omega)⟩
      have hapm := List.mem_of_getElem? hap
      refine ⟨_, rfl, tr, _, rfl, .inr (SqT.of (kb _ _ htrb ntas)), _, _, rfl, rfl, ((rs.length + 1 : Nat) : Int), (by rw [← e4]), by omega, by omega, for_rangeL (lo := 0) (n := ((rs.length + 1 : Nat) : Int).toNat) (fun j σ H3 => ∃ (o4 : Option V) (tbl : List (List Int)), σ = [some (.ref c), some (.ref tr), some (.ref ls), some (.int p), o4] ∧
        KeptBut Hb H3 as ∧ RowsAt H3 as tbl ∧ tbl.length = sg.length + 1 ∧ (∀ row ∈ tbl, row.length = rs.length + 1) ∧ (∀ p' d, p + 1 ≤ p' → p' ≤ sg.length → d ≤ rs.length → getT tbl p' d = wayT rs sg p' d) ∧ ∀ d, d < j → d ≤ rs.length → getT tbl p d = wayT rs sg p d)
        ⟨_, tbl, rfl, kb, hrw, htl, htw, fun p' d h1 => hgt p' d (by omega), fun d h => by omega⟩ ?_ ?_⟩
      · intro P2 m2
        rintro j σ H3 hj ⟨o4, tb, rfl, kb3, hrw3, htl3, htw3, hgA, hgB⟩
        have hj' : j ≤ rs.length := by omega
        have ej : (0 : Int) + (j : Nat) = (j : Nat) := Int.zero_add _
        rw [ej]
        have hc3 := kb3 _ _ hcb ncas
        have hlw3 := kb3 _ _ hlwb nlwas
        have cp3 : CP C H3 c rs sg tb := ⟨⟨dx, tr, l1, lw, hc3, kb3 _ _ htrb ntas, kb3 _ _ hl1b nl1as, hrw3.isD hlw3⟩, htl3, htw3⟩
        refine ⟨_, rfl, c, dx, _, rfl, hc3, lk_no _ _ _ (by decide +kernel) (by decide +kernel) (by decide +kernel), _, rfl, _, rfl, c, rs, sg, tb, p, j, rfl, cp3, hpl, hj', ?_⟩
        refine ⟨_, rfl, c, dx, _, rfl, hc3, lk_no _ _ _ (by decide +kernel) (by decide +kernel) (by decide +kernel), _, rfl, _, rfl, c, rs, sg, tb, p, j, rfl, cp3, hpl, hj', fun H4 s4 => ?_⟩
        have ev : emptyT (getT tb) sg p j + fullT (getT tb) rs sg p j = wayT rs sg p j := by
          rw [wayT_step rs sg hpl hj', emptyT_congr (hgA (p + 1) j (Nat.le_refl _) (by omega) hj'), fullT_congr hj' hpl hgA]
        refine ⟨_, _, rfl, rfl, ?_⟩
        show gSub _ _ _ (V.int (emptyT (getT tb) sg p j + fullT (getT tb) rs sg p j)) _ _ _
        rw [ev]
        have hrw4 := hrw3.mono s4
        have kb4 := kb3.same s4
        have hrow4 := hrowget hrw4 hap
        refine ⟨_, rfl, c, C, dx, _, _, rfl, s4 _ _ hc3, T.cl, T.nW, lk_ways _ _ _, _, rfl, lw, _, _, .ref ap, rfl, rfl, SqL.of (s4 _ _ hlw3), atI_nat (hvget hap), _, rfl, ap, _, _, j, rfl, rfl, hrow4, ?_, ?_⟩
        · rw [List.length_map, hwidget htl3 htw3 (by omega)]
          unfold ixN
          rw [if_pos (by omega), if_pos (by omega)]
          rfl
        have hrw5 := hrw4.set g.nd hap ((tb.getD p []).set j (wayT rs sg p j))
        rw [List.map_set] at hrw5
        refine m2 _ _ _ ⟨_, tb.set p ((tb.getD p []).set j (wayT rs sg p j)), rfl, kb4.upd hapm, hrw5, by rw [List.length_set]; exact htl3, set_wid (by omega) htw3, fun p' d h1 h2 h3 => ?_, fun d h1 h2 => ?_⟩
        · rw [getT_set (by omega) (by rw [hwidget htl3 htw3 (by omega)]; omega), if_neg (by omega)]
          exact hgA p' d h1 h2 h3
        · rw [getT_set (by omega) (by rw [hwidget htl3 htw3 (by omega)]; omega)]
          by_cases hd : d = j
          · rw [if_pos ⟨rfl, hd⟩, hd]
          · rw [if_neg (fun z => hd z.2)]
            exact hgB d (by omega) h2
      · rintro σ H3 ⟨o4, tb, rfl, kb3, hrw3, htl3, htw3, hgA, hgB⟩
        refine m1 _ _ _ ⟨_, _, tb, rfl, kb3, hrw3, htl3, htw3, fun p' d h1 h2 h3 => ?_⟩
        by_cases hpp : p' = p
        · rw [hpp]
          exact hgB d (by omega) h3
        · exact hgA p' d (by omega) h2 h3
    · rintro σ H2 ⟨o3, o4, tbl, rfl, kb, hrw, htl, htw, hgt⟩
      have ew : tbl = wholeT rs sg := whole_ext htl htw fun p d h1 h2 => hgt p d (by omega) h1 h2
      subst ew
      refine k H2 (fun b o e nb => ?_) ⟨⟨dx, tr, l1, lw, kb _ _ hcb ncas, kb _ _ htrb ntas, kb _ _ hl1b nl1as, hrw.isD (kb _ _ hlwb nlwas)⟩, htl, htw⟩
      have eA := kA b o e nb
      exact kb _ _ (kB b o eA nb) (nas b o eA)
end
section
variable {P : Program} {w : World} {K : PySem.W.Frag} {mg : Str → Option Value} {base : Heap} {C : Addr}
theorem mk_counts {H : Hp} {tr ls x dx : Addr} {rs : List Nat} {s : Sight} {Q : VK} {E : XK} (htr : H tr = some (.tup (runsV rs))) (hls : H ls = some (.lst (sightV s))) (hn : s.length ≤ 100) (hr : rs.length ≤ 100) (hx : H x = none) (hdx : H dx = none)
    (k : ∀ H', Same H H' → CP C H' x rs s (wholeT rs s) → Q .non H') : sp_init C [.ref x, .ref tr, .ref ls] (upd (upd H dx (.own x)) x (.ins C dx [])) Q E := by
  have sm : Same H (upd (upd H dx (.own x)) x (.ins C dx [])) := same_upd' (same_upd hdx) hx
  exact ⟨x, dx, tr, ls, rs, s, rfl, upd_same, sm _ _ htr, sm _ _ hls, hn, hr, fun H' h1 cp => k H' (fun b o e => h1 b o (sm _ _ e) (fun z => by rw [z, hx] at e; cases e)) cp⟩
theorem cp_noattr {H : Hp} {c : Addr} {rs : List Nat} {s : Sight} {tbl : List (List Int)} (cp : CP C H c rs s tbl) {m : Str} (h1 : ¬ m = "ways") (h2 : ¬ m = "sight") (h3 : ¬ m = "runs") : ∃ dx fs, H c = some (.ins C dx fs) ∧ fs.lookup m = none := by
  obtain ⟨dx, tr, ls, lw, hc, _⟩ := cp.ex
  exact ⟨dx, _, hc, lk_no _ _ _ h1 h2 h3⟩
inductive sp_layings (vs : List V) (H : Hp) (Q : VK) (E_ : XK) : Prop
  | mk (tr ls : Addr) (rs : List Nat) (s : Sight) (z0 : vs = [.ref tr, .ref ls]) (z1 : H tr = some (.tup (runsV rs))) (z2 : H ls = some (.lst (sightV s))) (z3 : s.length ≤ 100) (z4 : rs.length ≤ 100) (z5 : ∀ H', Same H H' → Q (.int (waysN rs s : Nat)) H') : sp_layings  vs H Q E_
theorem total_whole (rs : List Nat) (s : Sight) : getT (wholeT rs s) 0 0 = (waysN rs s : Nat) := by
  rw [getT_whole rs s (Nat.zero_le _) (Nat.zero_le _)]
  rfl
end
section
variable {P : Program} {w : World} {K : PySem.W.Frag} {mg : Str → Option Value} {base : Heap} {C : Addr}
def keepF (x : Option Int) (z : Int) : Bool := decide (x = none) || decide (x = some z)
theorem keepsB_zip : ∀ (s : Sight) (c : List Int), keepsB s c = (List.zipWith keepF s c).all id
  | [], _ => by simp [keepsB]
  | _ :: _, [] => by simp [keepsB]
  | x :: s, z :: c => by
    rw [List.zipWith_cons_cons, List.all_cons, ← keepsB_zip s c]
    rfl
theorem vO_eq {x : Option Int} {z : Int} : decide (vO x = V.int z) = decide (x = some z) := by
  cases x with
  | none => rfl
  | some i =>
    by_cases h : i = z
    · subst h; simp [vO]
    · show decide (V.int i = V.int z) = _
      rw [decide_eq_false (fun q => h (V.int.inj q)), decide_eq_false (fun q => h (Option.some.inj q))]
theorem vO_non {x : Option Int} : decide (vO x = V.non) = decide (x = none) := by cases x <;> rfl
theorem runsV_I (rs : List Nat) : runsV rs = (runsI rs).map V.int := by
  unfold runsV runsI
  rw [List.map_map]
  rfl
theorem eqDs_ints : ∀ (a b : List Int), eqDs (a.map Dt.int) (b.map Dt.int) = decide (a = b)
  | [], [] => by simp [eqDs]
  | [], _ :: _ => by simp [eqDs]
  | _ :: _, [] => by simp [eqDs]
  | x :: a, y :: b => by
    rw [List.map_cons, List.map_cons]
    unfold eqDs
    rw [eqDs_ints a b, eqD_flat rfl rfl]
    show ((x == y) && decide (a = b)) = _
    by_cases h : x = y
    · subst h
      simp
    · have : (x == y) = false := beq_eq_false_iff_ne.mpr h
      rw [this, Bool.false_and]
      exact (decide_eq_false (fun z => h (List.cons.inj z).1)).symm
theorem eqD_tup (a b : List Int) : eqD (dTup a) (dTup b) = decide (a = b) := by unfold dTup; rw [eqD_tt, eqDs_ints]
theorem eqD_row (a b : List Int) : eqD (dRow a) (dRow b) = decide (a = b) := by unfold dRow; rw [eqD_ll, eqDs_ints]
end
section
theorem runsR_pos : ∀ (ns : List Int) (acc : Int), 0 ≤ acc → ∀ x ∈ runsR acc ns, 1 ≤ x ∧ x ≤ acc + ns.length
  | [], acc, h, x, hx => by
    unfold runsR at hx
    split at hx
    · rename_i q
      have : x = acc := by simpa using hx
      simp
      omega
    · simp at hx
  | z :: r, acc, h, x, hx => by
    unfold runsR at hx
    rw [List.length_cons]
    split at hx
    · have := runsR_pos r (acc + 1) (by omega) x hx
      omega
    · split at hx
      · rcases List.mem_cons.mp hx with e | e
        · omega
        · have := runsR_pos r 0 (by omega) x e
          omega
      · have := runsR_pos r 0 (by omega) x hx
        omega
theorem runs_nat {xs : List Int} {n : Nat} (h : ∀ x ∈ xs, 1 ≤ x ∧ x ≤ (n : Int)) : ∃ rs : List Nat, xs = runsI rs ∧ ∀ k ∈ rs, 1 ≤ k ∧ k ≤ n := by
  refine ⟨xs.map Int.toNat, ?_, fun k hk => ?_⟩
  · unfold runsI
    rw [List.map_map]
    conv => lhs; rw [← List.map_id xs]
    refine List.map_congr_left fun x hx => ?_
    have := h x hx
    show x = ((x.toNat : Nat) : Int)
    omega
  · obtain ⟨x, hx, rfl⟩ := List.mem_map.mp hk
    have := h x hx
    omega
theorem drawn_runs (c : List Int) {n : Nat} (hc : c.length ≤ n) : ∃ rs : List Nat, runsZ c = runsI rs ∧ (∀ k ∈ rs, 1 ≤ k ∧ k ≤ n) ∧ rs.length ≤ c.length + 1 := by
  obtain ⟨rs, e, h⟩ := runs_nat (xs := runsZ c) (n := n) fun x hx => by
    rw [runsZ_R] at hx
    have := runsR_pos c 0 (by omega) x hx
    omega
  refine ⟨rs, e, h, ?_⟩
  have := runsZ_length c
  rw [e] at this
  simpa [runsI] using this
end
section
variable {P : Program} {w : World} {K : PySem.W.Frag} {mg : Str → Option Value} {base : Heap} {C : Addr}
def Pvo (H0 : Hp) (f : Nat → List Int) (i : Nat) (ys : List V) (H' : Hp) : Prop := Same H0 H' ∧ ∃ as : List Addr, ys = as.map V.ref ∧ as.length = i ∧ (∀ (j : Nat) b, as[j]? = some b → H' b = some (.lst ((f j).map V.int))) ∧ as.Nodup ∧ ∀ b ∈ as, H0 b = none ∧ H' b ≠ none
theorem Pvo.zero {H0 : Hp} {f : Nat → List Int} : Pvo H0 f 0 [] H0 := ⟨Same.refl _, [], rfl, rfl, fun j b e => by simp at e, List.nodup_nil, fun b hb => by simp at hb⟩
theorem Pvo.len {H0 H' : Hp} {f : Nat → List Int} {i : Nat} {ys : List V} (p : Pvo H0 f i ys H') : ys.length = i := by
  obtain ⟨_, as, rfl, h, _⟩ := p
  rw [List.length_map, h]
theorem Same.some' {H H' : Hp} (s : Same H H') {b : Addr} (h : H b ≠ none) : H' b ≠ none := by
  cases q : H b with
  | none => exact absurd q h
  | some o => rw [s _ _ q]; exact fun z => by cases z
theorem Pvo.next {H0 H1 H2 : Hp} {f : Nat → List Int} {i : Nat} {ys : List V} {b : Addr} (p : Pvo H0 f i ys H1) (s : Same H1 H2) (hn : H1 b = none) (hb : H2 b = some (.lst ((f i).map V.int))) : Pvo H0 f (i + 1) (ys ++ [.ref b]) H2 := by
  obtain ⟨s0, as, rfl, hl, hrow, hnd, hnew⟩ := p
  have nb : b ∉ as := fun z => (hnew b z).2 hn
  refine ⟨s0.trans s, as ++ [b], by rw [List.map_append]; rfl, by rw [List.length_append, List.length_singleton, hl], fun j c e => ?_, ?_, fun c hc => ?_⟩
  · by_cases hj : j < as.length
    · rw [List.getElem?_append_left hj] at e
      exact s _ _ (hrow j c e)
    · rw [List.getElem?_append_right (by omega)] at e
      have hj0 : j - as.length = 0 := by
        have := (List.getElem?_eq_some_iff.mp e).1
        simp at this
        omega
      rw [hj0] at e
      have e' : b = c := Option.some.inj e
      subst e'
      have : j = i := by omega
      rw [this]
      exact hb
  · exact List.nodup_append.mpr ⟨hnd, by simp, fun x hx y hy => by rw [List.mem_singleton.mp hy]; intro z; exact nb (z ▸ hx)⟩
  · rcases List.mem_append.mp hc with z | z
    · exact ⟨(hnew c z).1, Same.some' s (hnew c z).2⟩
    · rw [List.mem_singleton.mp z]
      exact ⟨s0.free hn, by rw [hb]; exact fun q => by cases q⟩
inductive sp__law_every (vs : List V) (H : Hp) (Q : VK) (E_ : XK) : Prop
  | mk (n : Nat) (z0 : vs = [.int n]) (z1 : n ≤ 8) (z2 : ∀ (l : Addr) (as : List Addr) (H' : Hp), Own H H' l as (allBits n) → Q (.ref l) H') : sp__law_every  vs H Q E_
theorem sc__law_every : FnScope ["size", "found", "turn", "longer"] ["size"] (defScope s__law_every) := ⟨rfl, rfl, rfl, by decide +kernel, rfl, by decide +kernel, by decide +kernel⟩
theorem ok__law_every {f : Addr} {fd : FuncData} (F : Fun K "_law_every" "_law_every" s__law_every f fd) (B : Bt mg) : FnOk P w K mg base CX0 1 f fd ["size"] sp__law_every := by
  refine F.ok sc__law_every (fun vs H Q E h => ?_) (fun cdv A outer s H vs Q E hr h => ?_)
  · obtain ⟨n, rfl, _⟩ := h
    rfl
  · obtain ⟨n, rfl, hn, k⟩ := h
    refine ⟨_, (pss_cons (ps_set (i := 1) sc__law_every.nd rfl (Or.inl rfl) (pe_lst (pa_cons (pe_lst pa_nil) pa_nil)))
      (pss_cons (ps_for PassesOwn.never rfl (pi_range1 rfl B.range (pa_cons (pv 0) pa_nil)) (pg_name (i := 2) sc__law_every.nd rfl (Or.inl rfl))
      (pss_cons (ps_setComp (i := 3) ["row"] [] sc__law_every.nd rfl rfl ⟨rfl, rfl, rfl, rfl, rfl⟩ rfl (pi_listK K (pv 1)) (fun _ _ _ _ _ => (pg_name (i := 0) (show (["row"] : List Str).Nodup by decide +kernel) rfl (Or.inl rfl))) (fun _ _ _ _ _ => pcb_elt (pe_op op_cat (pe_lst (pa_cons pe_int pa_nil)) (pv 0))))
      (pss_cons (ps_expr (pe_bm PySem.F.plainAttrs_list PySem.F.slot_list_extend PySem.F.type_list_extend mt_extend (pv 3) (pa_cons (pe_comp ["row"] [] ⟨rfl, rfl, rfl, rfl, rfl⟩ rfl (pi_listK K (pv 1)) (fun _ _ _ _ _ => (pg_name (i := 0) (show (["row"] : List Str).Nodup by decide +kernel) rfl (Or.inl rfl))) (fun _ _ _ _ _ => pcb_elt (pe_op op_cat (pe_lst (pa_cons pe_int pa_nil)) (pv 0)))) pa_nil)))
      (pss_one (ps_set (i := 1) sc__law_every.nd rfl (Or.inl rfl) (pv 3))))))
      (pss_one (ps_ret (pv 1))))), ?_⟩
    refine ⟨Nat.zero_le _, fun e0 he0 => ?_⟩
    refine ⟨by show 1 ≤ sizeLine; decide, fun l0 hl0 => ?_⟩
    have n0 : e0 ≠ l0 := fun z => by rw [← z, upd_same] at hl0; cases hl0
    have hO0 : Own H (upd (upd H e0 (.lst [])) l0 (.lst [.ref e0])) l0 [e0] (allBits 0) := by
      refine ⟨(same_upd he0).trans (same_upd hl0), upd_same, rfl, fun i a xs e1 e2 => ?_, by simp, by simp; exact Ne.symm n0, fun a ha => by rw [List.mem_singleton.mp ha]; exact he0, (same_upd he0).free hl0⟩
      match i, e1, e2 with
      | 0, e1, e2 =>
        cases e1
        cases e2
        rw [upd_ne n0, upd_same]
        rfl
    refine ⟨_, rfl, _, rfl, by omega, by omega, for_range (lo := 0) (n := ((n : Int)).toNat) (fun i σ H4 => ∃ (l : Addr) (as : List Addr) (o2 o3 : Option V), σ = [some (.int n), some (.ref l), o2, o3] ∧ Own H H4 l as (allBits i)) ⟨l0, [e0], none, none, rfl, hO0⟩ ?_ ?_⟩
    · rintro i σ H4 hi ⟨l, as, o2, o3, rfl, O⟩
      have hal := O.len
      rw [allBits_len] at hal
      have h2i : 2 ^ i ≤ 128 := by
        have : i ≤ 7 := by omega
        calc 2 ^ i ≤ 2 ^ 7 := Nat.pow_le_pow_right (by decide) this
          _ = 128 := rfl
      have hvl : (as.map V.ref).length = 2 ^ i := by rw [List.length_map, hal]
      have hrowl : ∀ (j : Nat) xs, (allBits i)[j]? = some xs → xs.length = i := fun j xs e => ((mem_allBits i xs).mp (List.mem_of_getElem? e)).1
      have turn : ∀ (b : Int) (H0 H1 : Hp) (j : Nat) (x : V) (ys : List V), Same H4 H0 → (as.map V.ref)[j]? = some x → Pvo H0 (fun j => b :: (allBits i).getD j []) j ys H1 →
          ∃ a, x = .ref a ∧ ∃ xs, (allBits i)[j]? = some xs ∧ H1 a = some (.lst (xs.map V.int)) := fun b H0 H1 j x ys s0 hx p => by
        rw [List.getElem?_map] at hx
        cases q : as[j]? with
        | none => rw [q] at hx; cases hx
        | some a =>
          rw [q] at hx
          cases hx
          have hj : j < (allBits i).length := by rw [← O.len]; exact (List.getElem?_eq_some_iff.mp q).1
          refine ⟨a, rfl, _, List.getElem?_eq_getElem hj, ?_⟩
          exact p.1 _ _ (s0 _ _ (O.row j a _ q (List.getElem?_eq_getElem hj)))
      have hl4 := O.at'
      refine ⟨_, rfl, l, rfl, ⟨_, SqL.of hl4⟩, comp_list (K := K) (a := l) (xs := as.map V.ref) (Pvo H4 fun j => 0 :: (allBits i).getD j []) Pvo.zero ?_ ?_ ?_ ?_ ?_⟩
      · exact Nat.le_of_lt (small1000 (by omega))
      · exact fun i ys H' p => Nat.le_of_eq p.len
      · exact fun i ys H' _ p => SqL.of (p.1 _ _ hl4)
      · intro j x ys H' hj p
        obtain ⟨a, rfl, xs, hxs, ha⟩ := turn 0 H4 H' j x ys (Same.refl _) hj p
        refine ⟨rfl, ?_⟩
        refine ⟨by show 1 ≤ sizeLine; decide, fun z hz => ?_⟩
        have sz : Same H' (upd H' z (.lst [.int 0])) := same_upd hz
        refine ⟨_, rfl, z, a, _, _, rfl, rfl, upd_same, sz _ _ ha, (by have := hrowl j xs hxs; have := small1000 (n := 9) (by omega); rw [List.length_map]; show 1 + xs.length ≤ _; omega), fun q hq => ?_⟩
        have hqn : H' q = none := sz.free hq
        refine p.next (sz.trans (same_upd hq)) hqn ?_
        rw [upd_same, getD_of hxs]
        rfl
      · intro ys1 H5 p5 l3 hl3
        have hl3n := p5.1.free hl3
        have p6 : Pvo H4 (fun j => 0 :: (allBits i).getD j []) (2 ^ i) ys1 (upd H5 l3 (.lst ys1)) := by
          obtain ⟨s0, as1, e, hl, hrow, hnd, hnew⟩ := p5
          rw [hvl] at hl
          exact ⟨s0.trans (same_upd hl3), as1, e, hl, fun j b e => same_upd hl3 _ _ (hrow j b e), hnd, fun b hb => ⟨(hnew b hb).1, Same.some' (same_upd hl3) (hnew b hb).2⟩⟩
        have hn3 : ∀ as1 : List Addr, ys1 = as1.map V.ref → l3 ∉ as1 := fun as1 e z => by
          obtain ⟨s0, as2, e2, hl, hrow, hnd, hnew⟩ := p5
          have : as1 = as2 := by
            rw [e] at e2
            exact List.map_inj_right (fun a b h => by cases h; rfl) |>.mp e2
          rw [this] at z
          exact (hnew l3 z).2 hl3
        have hl3v : (upd H5 l3 (.lst ys1)) l3 = some (.lst ys1) := upd_same
        generalize upd H5 l3 (.lst ys1) = H6 at p6 hl3v ⊢
        have s46 := p6.1
        refine ⟨_, rfl, .inl ⟨rfl, _, SqL.of hl3v⟩, _, rfl, l, rfl, ⟨_, SqL.of (s46 _ _ hl4)⟩, comp_list (K := K) (a := l) (xs := as.map V.ref) (Pvo H6 fun j => 1 :: (allBits i).getD j []) Pvo.zero ?_ ?_ ?_ ?_ ?_⟩
        · exact Nat.le_of_lt (small1000 (by omega))
        · exact fun i ys H' p => Nat.le_of_eq p.len
        · exact fun i ys H' _ p => SqL.of (p.1 _ _ (s46 _ _ hl4))
        · intro j x ys H' hj p
          obtain ⟨a, rfl, xs, hxs, ha⟩ := turn 1 H6 H' j x ys s46 hj p
          refine ⟨rfl, ?_⟩
          refine ⟨by show 1 ≤ sizeLine; decide, fun z hz => ?_⟩
          have sz : Same H' (upd H' z (.lst [.int 1])) := same_upd hz
          refine ⟨_, rfl, z, a, _, _, rfl, rfl, upd_same, sz _ _ ha, (by have := hrowl j xs hxs; have := small1000 (n := 9) (by omega); rw [List.length_map]; show 1 + xs.length ≤ _; omega), fun q hq => ?_⟩
          have hqn : H' q = none := sz.free hq
          refine p.next (sz.trans (same_upd hq)) hqn ?_
          rw [upd_same, getD_of hxs]
          rfl
        · intro ys2 H7 p7 l4 hl4'
          have p8 := p7
          obtain ⟨s67, as2, e2, hl2, hrow2, hnd2, hnew2⟩ := p7
          obtain ⟨_, as1, e1, hl1, hrow1, hnd1, hnew1⟩ := p6
          have hn3' := hn3 as1 e1
          have h3H7 : H7 l3 = some (.lst ys1) := s67 _ _ hl3v
          have n34 : l3 ≠ l4 := fun z => by rw [← z, h3H7] at hl4'; cases hl4'
          have h38 : (upd H7 l4 (.lst ys2)) l3 = some (.lst ys1) := by rw [upd_ne n34]; exact h3H7
          refine ⟨l3, l4, _, _, rfl, rfl, h38, upd_same, (by have := small1000 (n := 300) (by omega); rw [e1, e2, List.length_map, List.length_map, hl1, hl2, hvl]; omega), ?_⟩
          refine ⟨_, rfl, l3, as1 ++ as2, _, _, rfl, ?_⟩
          have s8 : Same H7 (upd H7 l4 (.lst ys2)) := same_upd hl4'
          have h3in : ∀ b ∈ as2, b ≠ l3 := fun b hb z => by
            have := (hnew2 b hb).1
            rw [z, hl3v] at this
            cases this
          have h1in : ∀ b ∈ as1, b ≠ l3 := fun b hb z => hn3' (z ▸ hb)
          have sAll : Same H4 (upd (upd H7 l4 (.lst ys2)) l3 (.lst (ys1 ++ ys2))) := same_upd' ((s46.trans s67).trans s8) hl3n
          refine ⟨O.same.trans sAll, by rw [upd_same, e1, e2, List.map_append], ?_, fun j a xs q1 q2 => ?_, ?_, ?_, fun a ha => ?_, O.same.free hl3n⟩
          · rw [List.length_append, hl1, hl2, hvl, allBits_len, Nat.pow_succ]; omega
          · unfold allBits at q2
            by_cases hj : j < as1.length
            · rw [List.getElem?_append_left hj] at q1
              rw [List.getElem?_append_left (by rw [List.length_map, allBits_len, ← hl1]; exact hj), List.getElem?_map] at q2
              rw [upd_ne (h1in a (List.mem_of_getElem? q1)), s8 _ _ (s67 _ _ (hrow1 j a q1))]
              cases q : (allBits i)[j]? with
              | none => rw [q] at q2; cases q2
              | some ws => rw [q] at q2; cases q2; show some (HO.lst ((0 :: (allBits i).getD j []).map V.int)) = _; rw [getD_of q]
            · rw [List.getElem?_append_right (by omega)] at q1
              rw [List.getElem?_append_right (by rw [List.length_map, allBits_len, ← hl1]; omega), List.getElem?_map, List.length_map, allBits_len, ← hl1] at q2
              rw [upd_ne (h3in a (List.mem_of_getElem? q1)), s8 _ _ (hrow2 _ a q1)]
              cases q : (allBits i)[j - as1.length]? with
              | none => rw [q] at q2; cases q2
              | some ws => rw [q] at q2; cases q2; show some (HO.lst ((1 :: (allBits i).getD (j - as1.length) []).map V.int)) = _; rw [getD_of q]
          · refine List.nodup_append.mpr ⟨hnd1, hnd2, fun x hx y hy z => ?_⟩
            have h1 := (hnew2 y hy).1
            have h2 := (hnew1 x hx).2
            rw [z] at h2
            exact h2 h1
          · intro z
            rcases List.mem_append.mp z with z | z
            · exact hn3' z
            · exact h3in l3 z rfl
          · rcases List.mem_append.mp ha with z | z
            · exact O.same.free (hnew1 a z).1
            · exact O.same.free (s46.free (hnew2 a z).1)
    · rintro σ H4 ⟨l, as, o2, o3, rfl, O⟩
      have e : ((n : Int)).toNat = n := by omega
      rw [e] at O
      exact ⟨_, rfl, k l as H4 O⟩
end
section
variable {P : Program} {w : World} {K : PySem.W.Frag} {mg : Str → Option Value} {base : Heap} {C : Addr}
inductive sp__law_fitting (vs : List V) (H : Hp) (Q : VK) (E_ : XK) : Prop
  | mk (tr ls : Addr) (rs : List Nat) (s : Sight) (z0 : vs = [.ref tr, .ref ls]) (z1 : H tr = some (.tup (runsV rs))) (z2 : H ls = some (.lst (sightV s))) (z3 : s.length ≤ 8) (z4 : (∀ k ∈ rs, 1 ≤ k)) (z5 : sightP s) (z6 : ∀ (l : Addr) (as : List Addr) (H' : Hp), Own H H' l as (layL rs s) → Q (.ref l) H') : sp__law_fitting  vs H Q E_
def wrongL (s : Sight) (c : List Int) (i : Nat) : List Nat := (List.range i).filter fun j => !(keepF (s.getD j none) (c.getD j 0))
theorem wrong_nil {s : Sight} {c : List Int} (h : c.length = s.length) : decide (wrongL s c s.length = []) = keepsB s c := by
  rw [keepsB_zip]
  unfold wrongL
  rw [Bool.eq_iff_iff, decide_eq_true_eq, List.filter_eq_nil_iff, List.all_eq_true]
  constructor
  · intro q x hx
    obtain ⟨i, hi, rfl⟩ := List.mem_iff_getElem.mp hx
    rw [List.length_zipWith] at hi
    have := q i (List.mem_range.mpr (by omega))
    rw [List.getElem_zipWith]
    rw [getD_of (List.getElem?_eq_getElem (by omega)), getD_of (List.getElem?_eq_getElem (by omega))] at this
    simpa using this
  · intro q i hi
    have hi := List.mem_range.mp hi
    have h2 : i < (List.zipWith keepF s c).length := by rw [List.length_zipWith]; omega
    have := q _ (List.getElem_mem h2)
    rw [List.getElem_zipWith] at this
    rw [getD_of (List.getElem?_eq_getElem (by omega)), getD_of (List.getElem?_eq_getElem (by omega))]
    simpa using this
theorem keepF_V {x : Option Int} {z : Int} : (!decide (vO x = V.non) && !decide (vO x = V.int z)) = !(keepF x z) := by
  unfold keepF
  rw [vO_non, vO_eq]
  cases decide (x = none) <;> cases decide (x = some z) <;> rfl
theorem own_app {H0 H : Hp} {l : Addr} {as : List Addr} {xss : List (List Int)} {b : Addr} {xs : List Int} (O : Own H0 H l as xss) (hb : H b = some (.lst (xs.map V.int))) (hn : b ∉ as) (hl : b ≠ l) (h0 : H0 b = none) : Own H0 (upd H l (.lst (as.map V.ref ++ [.ref b]))) l (as ++ [b]) (xss ++ [xs]) := by
  refine ⟨same_upd' O.same O.newl, by rw [upd_same, List.map_append]; rfl, by rw [List.length_append, List.length_append, O.len]; rfl, fun i a ys e1 e2 => ?_, ?_, ?_, fun a ha => ?_, O.newl⟩
  · by_cases hi : i < as.length
    · rw [List.getElem?_append_left hi] at e1
      rw [List.getElem?_append_left (by rw [← O.len]; exact hi)] at e2
      have : a ≠ l := fun z => O.nl (by rw [← z]; exact List.mem_of_getElem? e1)
      rw [upd_ne this]
      exact O.row i a ys e1 e2
    · rw [List.getElem?_append_right (by omega)] at e1
      rw [List.getElem?_append_right (by rw [← O.len]; omega), ← O.len] at e2
      have h0 : i - as.length = 0 := by
        have := (List.getElem?_eq_some_iff.mp e1).1
        simp at this
        omega
      rw [h0] at e1 e2
      cases e1
      cases e2
      rw [upd_ne hl]
      exact hb
  · exact List.nodup_append.mpr ⟨O.nd, by simp, fun x hx y hy => by rw [List.mem_singleton.mp hy]; intro z; exact hn (z ▸ hx)⟩
  · intro z
    rcases List.mem_append.mp z with q | q
    · exact O.nl q
    · exact hl (List.mem_singleton.mp q).symm
  · rcases List.mem_append.mp ha with q | q
    · exact O.new a q
    · rw [List.mem_singleton.mp q]; exact h0
theorem sc__law_fitting : FnScope ["runs", "sight", "found", "cells", "wrong"] ["runs", "sight"] (defScope s__law_fitting) := ⟨rfl, rfl, rfl, by decide +kernel, rfl, by decide +kernel, by decide +kernel⟩
theorem ok__law_fitting {f : Addr} {fd : FuncData} (F : Fun K "_law_fitting" "_law_fitting" s__law_fitting f fd) (B : Bt mg) (c__law_every : Callee P w K mg base CX0 "_law_every" 1 ["size"] sp__law_every) (c__law_runs : Callee P w K mg base CX0 "_law_runs" 1 ["cells"] sp__law_runs) : FnOk P w K mg base CX0 2 f fd ["runs", "sight"] sp__law_fitting := by
  refine F.ok sc__law_fitting (fun vs H Q E h => ?_) (fun cdv A outer s H vs Q E hr h => ?_)
  · obtain ⟨tr, ls, rs, s, rfl, _⟩ := h
    rfl
  · obtain ⟨tr, ls, rs, sg, rfl, htr, hls, hn, hrk, hsp, k⟩ := h
    have hu := units20 hr
    refine ⟨_, (pss_cons (ps_set (i := 2) sc__law_fitting.nd rfl (Or.inl rfl) (pe_lst pa_nil))
      (pss_cons (ps_for PassesOwn.never rfl (pi_listK K (pe_cal c__law_every hr (pa_cons (pe_callB (call_lenK K) rfl B.len bt_len (pa_cons (pv 1) pa_nil)) pa_nil))) (pg_name (i := 3) sc__law_fitting.nd rfl (Or.inr rfl))
      (pss_cons (ps_setComp (i := 4) ["at"] [1, 3] sc__law_fitting.nd rfl rfl ⟨rfl, rfl, rfl, rfl, rfl⟩ rfl (pi_range1 rfl B.range (pa_cons (pe_callB (call_lenK K) rfl B.len bt_len (pa_cons (pv 1) pa_nil)) pa_nil)) (fun _ _ _ _ _ => (pg_name (i := 0) (show (["at", "sight", "cells"] : List Str).Nodup by decide +kernel) rfl (Or.inl rfl))) (fun _ _ _ _ _ => pcb_if (PW.pt (pw_and (pt_cmpR op_notN (pe_ix (ix_listK K) (pv 1) (pv 0) (fun _ _ => rfl)) pe_non (nomark _)) (pw_and1 (pt_cmpR op_ne (pe_ix (ix_listK K) (pv 1) (pv 0) (fun _ _ => rfl)) (pe_ix (ix_listK K) (pv 2) (pv 0) (fun _ _ => rfl)) (nomark _))))) (pv 0)))
      (pss_one (ps_if (PW.pt (pw_and (pt_cmpR (op_eqD hu) (pv 4) (pe_lst pa_nil) (nomark _)) (pw_and1 (pt_cmpR (op_eqD hu) (pe_cal c__law_runs hr (pa_cons (pv 3) pa_nil)) (pv 0) (nomark _)))))
      (pss_one (ps_expr (pe_bm PySem.F.plainAttrs_list PySem.F.slot_list_append PySem.F.type_list_append mt_append (pv 2) (pa_cons (pv 3) pa_nil))))
      pss_nil))))
      (pss_one (ps_ret (pv 2))))), ?_⟩
    have hsl : (sightV sg).length = sg.length := by unfold sightV; rw [List.length_map]
    refine ⟨Nat.zero_le _, fun lf hlf => ?_⟩
    have s1 : Same H (upd H lf (.lst [])) := same_upd hlf
    have hf1 : (upd H lf (.lst [])) lf = some (.lst []) := upd_same
    have hO1 : Own H (upd H lf (.lst [])) lf [] [] := ⟨s1, hf1, rfl, fun i a xs e1 e2 => by simp at e1, List.nodup_nil, by simp, fun a ha => by simp at ha, hlf⟩
    generalize upd H lf (.lst []) = H1 at s1 hf1 hO1 ⊢
    refine ⟨_, rfl, ls, _, rfl, .inl (SqL.of (s1 _ _ hls)), sg.length, (by rw [hsl]; rfl), hn, fun le ae H2 OE => ?_⟩
    have hael := OE.len
    rw [allBits_len] at hael
    have h2n : 2 ^ sg.length ≤ 256 := by
      calc 2 ^ sg.length ≤ 2 ^ 8 := Nat.pow_le_pow_right (by decide) hn
        _ = 256 := rfl
    have hle := OE.at'
    refine ⟨le, rfl, ⟨_, SqL.of hle⟩, for_list (K := K) (a := le) (xs := ae.map V.ref) (fun i σ H3 => ∃ (as : List Addr) (o3 o4 : Option V), σ = [some (.ref tr), some (.ref ls), some (.ref lf), o3, o4] ∧ Own H H3 lf as (((allBits sg.length).take i).filter (fitB rs sg)) ∧ (∀ a ∈ as, a ∈ ae.take i) ∧ (∀ x o, H2 x = some o → x ≠ lf → H3 x = some o))
      ⟨[], none, none, rfl, ?_, by simp, fun x o h _ => h⟩ ?_ ?_ ?_⟩
    · obtain ⟨q1, q2, q3, q4, q5, q6, q7, q8⟩ := hO1
      exact ⟨q1.trans OE.same, OE.same _ _ q2, q3, fun i a xs e1 e2 => by simp at e1, q5, q6, q7, q8⟩
    · rintro i σ H3 _ ⟨as, o3, o4, rfl, O, hsub, hkeep⟩
      exact SqL.of (hkeep _ _ hle (fun z => by have := OE.newl; rw [z, hf1] at this; cases this))
    · rintro i x σ H3 hi ⟨as, o3, o4, rfl, O, hsub, hkeep⟩
      rw [List.getElem?_map] at hi
      obtain ⟨b, hb, rfl⟩ : ∃ b, ae[i]? = some b ∧ x = .ref b := by
        cases q : ae[i]? with
        | none => rw [q] at hi; cases hi
        | some b => rw [q] at hi; cases hi; exact ⟨b, rfl, rfl⟩
      have hil : i < (allBits sg.length).length := by rw [← OE.len]; exact (List.getElem?_eq_some_iff.mp hb).1
      obtain ⟨c, hc⟩ : ∃ c, (allBits sg.length)[i]? = some c := ⟨_, List.getElem?_eq_getElem hil⟩
      obtain ⟨hcl, hcb⟩ := (mem_allBits _ c).mp (List.mem_of_getElem? hc)
      have hbn : b ≠ lf := fun z => by have := OE.new b (List.mem_of_getElem? hb); rw [z, hf1] at this; cases this
      have hb3 : H3 b = some (.lst (c.map V.int)) := hkeep _ _ (OE.row i b c hb hc) hbn
      have hls3 := O.same _ _ hls
      have htr3 := O.same _ _ htr
      refine ⟨_, rfl, ls, _, rfl, .inl (SqL.of hls3), (sg.length : Int), (by rw [hsl]), by omega, by omega, comp_range (fun j ys H4 => H4 = H3 ∧ ys = (wrongL sg c j).map fun q : Nat => V.int (q : Nat)) ⟨rfl, rfl⟩ ?_ ?_ ?_ ?_⟩
      · exact Nat.le_of_lt (small1000 (by omega))
      · rintro j ys H4 ⟨_, rfl⟩
        rw [List.length_map]
        unfold wrongL
        refine Nat.le_trans (List.length_filter_le _ _) ?_
        rw [List.length_range]
        exact Nat.le_refl _
      · rintro j ys H4 hj ⟨rfl, rfl⟩
        have e0 : (0 : Int) + (j : Nat) = (j : Nat) := Int.zero_add _
        rw [e0]
        have hj' : j < sg.length := by omega
        have hcg : (c.map V.int)[j]? = some (.int (c.getD j 0)) := by
          rw [List.getElem?_map, List.getElem?_eq_getElem (by omega), getD_of (List.getElem?_eq_getElem (by omega : j < c.length))]
          rfl
        have hsg : sg[j] = sg.getD j none := (getD_of (List.getElem?_eq_getElem hj')).symm
        refine ⟨rfl, ?_⟩
        refine ⟨_, rfl, _, rfl, ls, _, _, vO sg[j], rfl, rfl, SqL.of hls3, atI_nat (sightV_get hj'), rfl, _, rfl, ?_⟩
        have hstep : wrongL sg c (j + 1) = wrongL sg c j ++ (if (!(keepF (sg.getD j none) (c.getD j 0))) = true then [j] else []) := by
          unfold wrongL
          rw [List.range_succ, List.filter_append]
          congr 1
          rw [List.filter_cons]
          split <;> rfl
        rw [hsg]
        have hkf := keepF_V (x := sg.getD j none) (z := c.getD j 0)
        cases q1 : decide (vO (sg.getD j none) = V.non) with
        | true =>
          refine iteF (iteF ⟨rfl, ?_⟩)
          rw [q1] at hkf
          rw [hstep, ← hkf]
          simp
        | false =>
          refine iteT ⟨_, rfl, _, rfl, ls, _, _, vO sg[j], rfl, rfl, SqL.of hls3, atI_nat (sightV_get hj'), _, rfl, _, rfl, b, _, _, .int (c.getD j 0), rfl, rfl, SqL.of hb3, atI_nat hcg, vO_scal, _, rfl, ?_⟩
          rw [hsg]
          cases q2 : decide (vO (sg.getD j none) = V.int (c.getD j 0)) with
          | true =>
            refine iteF ⟨rfl, ?_⟩
            rw [q1, q2] at hkf
            rw [hstep, ← hkf]
            simp
          | false =>
            refine iteT ⟨_, rfl, rfl, ?_⟩
            rw [q1, q2] at hkf
            rw [hstep, ← hkf]
            simp
      · rintro ys H4 ⟨rfl, rfl⟩ lw hlw
        have hnn : ((sg.length : Int)).toNat = sg.length := by omega
        rw [hnn]
        have s4 : Same H4 (upd H4 lw (.lst ((wrongL sg c sg.length).map fun q : Nat => V.int (q : Nat)))) := same_upd hlw
        have hw4 : (upd H4 lw (.lst ((wrongL sg c sg.length).map fun q : Nat => V.int (q : Nat)))) lw = some (.lst (((wrongL sg c sg.length).map fun q : Nat => ((q : Nat) : Int)).map V.int)) := by rw [upd_same, List.map_map]; rfl
        generalize upd H4 lw (.lst ((wrongL sg c sg.length).map fun q : Nat => V.int (q : Nat))) = H5 at s4 hw4 ⊢
        have O5 : ∀ {H6 : Hp}, Same H4 H6 → Own H H6 lf as (((allBits sg.length).take i).filter (fitB rs sg)) := fun {H6} s => ⟨O.same.trans s, s _ _ O.at', O.len, fun i a xs e1 e2 => s _ _ (O.row i a xs e1 e2), O.nd, O.nl, O.new, O.newl⟩
        have hstep : ((allBits sg.length).take (i + 1)).filter (fitB rs sg) = ((allBits sg.length).take i).filter (fitB rs sg) ++ (if fitB rs sg c = true then [c] else []) := by
          rw [List.take_add_one, hc, List.filter_append]
          congr 1
          show List.filter _ [c] = _
          rw [List.filter_cons]
          split <;> rfl
        have hsub' : ∀ a ∈ as, a ∈ ae.take (i + 1) := fun a ha => by rw [List.take_add_one]; exact List.mem_append_left _ (hsub a ha)
        have no : ∀ {H6 : Hp} {o4' : Option V}, Same H4 H6 → fitB rs sg c = false → ∃ (as' : List Addr) (o3' o4'' : Option V), ([some (.ref tr), some (.ref ls), some (.ref lf), some (.ref b), o4'] : St) = [some (.ref tr), some (.ref ls), some (.ref lf), o3', o4''] ∧ Own H H6 lf as' (((allBits sg.length).take (i + 1)).filter (fitB rs sg)) ∧ (∀ a ∈ as', a ∈ ae.take (i + 1)) ∧ (∀ x o, H2 x = some o → x ≠ lf → H6 x = some o) := fun {H6 o4'} s hfit => by
          refine ⟨as, _, _, rfl, ?_, hsub', fun x o h hx => s _ _ (hkeep x o h hx)⟩
          rw [hstep, hfit]
          simp only [Bool.false_eq_true, if_false, List.append_nil]
          exact O5 s
        refine ⟨_, rfl, Nat.zero_le _, fun e0 he0 => ?_⟩
        have s5 : Same H5 (upd H5 e0 (.lst [])) := same_upd he0
        refine ⟨dRow ((wrongL sg c sg.length).map fun q : Nat => ((q : Nat) : Int)), dRow [], isD_row (s5 _ _ hw4), isD_row (by rw [upd_same]; rfl), rfl, rfl, Nat.le_trans (depth_row _) (by decide), _, rfl, ?_⟩
        generalize upd H5 e0 (.lst []) = H6 at s5 ⊢
        have s46 := s4.trans s5
        have hwe : eqD (dRow ((wrongL sg c sg.length).map fun q : Nat => ((q : Nat) : Int))) (dRow []) = keepsB sg c := by
          rw [eqD_row, ← wrong_nil hcl]
          congr 1
          exact propext List.map_eq_nil_iff
        rw [hwe]
        cases hkb : keepsB sg c with
        | false =>
          refine iteF (iteF (no s46 ?_))
          unfold fitB
          rw [hkb]
          rfl
        | true =>
          refine iteT ⟨_, rfl, b, c, rfl, s46 _ _ hb3, by omega, fun t H7 s7 nt ht => ?_⟩
          have s47 := s46.trans s7
          refine ⟨_, rfl, dTup (runsZ c), dTup (runsI rs), isD_tup ht, isD_tup (by rw [← runsV_I]; exact s47 _ _ htr3), rfl, rfl, Nat.le_trans (depth_tup _) (by decide), _, rfl, ?_⟩
          rw [eqD_tup]
          by_cases hrz : runsZ c = runsI rs
          · rw [decide_eq_true hrz]
            have hfit : fitB rs sg c = true := by unfold fitB; rw [hkb, decide_eq_true hrz]; rfl
            have O7 := O5 s47
            have hasl : as.length ≤ 256 := by
              rw [O.len]
              refine Nat.le_trans (List.length_filter_le _ _) ?_
              rw [List.length_take, allBits_len]
              omega
            refine iteT ⟨_, rfl, .inl ⟨rfl, _, SqL.of O7.at'⟩, _, rfl, lf, _, _, rfl, rfl, O7.at', small1000 (by rw [List.length_map]; omega), ?_⟩
            have hbas : b ∉ as := fun z => by
              have hz := hsub b z
              obtain ⟨j, hj, e⟩ := List.mem_iff_getElem.mp hz
              rw [List.length_take] at hj
              rw [List.getElem_take] at e
              have : j = i := nodup_get OE.nd (by rw [List.getElem?_eq_getElem (by omega), e]) hb
              omega
            have hb0 : H b = none := s1.free (OE.new b (List.mem_of_getElem? hb))
            refine ⟨as ++ [b], _, _, rfl, ?_, fun a ha => ?_, fun x o h hx => ?_⟩
            · rw [hstep, hfit]
              exact own_app O7 (s47 _ _ hb3) hbas hbn hb0
            · rcases List.mem_append.mp ha with z | z
              · exact hsub' a z
              · rw [List.mem_singleton.mp z, List.take_add_one, hb]
                exact List.mem_append_right _ (List.mem_singleton.mpr rfl)
            · rw [upd_ne hx]
              exact s47 _ _ (hkeep x o h hx)
          · rw [decide_eq_false hrz]
            refine iteF (no s47 ?_)
            unfold fitB
            rw [decide_eq_false hrz, Bool.and_false]
    · rintro σ H3 ⟨as, o3, o4, rfl, O, hsub, hkeep⟩
      have e : (ae.map V.ref).length = (allBits sg.length).length := by rw [List.length_map, OE.len]
      rw [e, List.take_length, fit_lay hrk hsp] at O
      exact ⟨_, rfl, k lf as H3 O⟩
end
section
variable {P : Program} {w : World} {K : PySem.W.Frag} {mg : Str → Option Value} {base : Heap} {C : Addr}
inductive sp__law_cells (vs : List V) (H : Hp) (Q : VK) (E_ : XK) : Prop
  | mk (f d : Addr) (s : Sight) (z0 : vs = [.ref f, .ref d]) (z1 : H f = some (.lst (sightV s))) (z2 : H d = some (.lst (sightV s))) (z3 : s.length ≤ 100) (z4 : Q (.bl true) H) : sp__law_cells  vs H Q E_
theorem sc__law_cells : FnScope ["found", "due", "k"] ["found", "due"] (defScope s__law_cells) := ⟨rfl, rfl, rfl, by decide +kernel, rfl, by decide +kernel, by decide +kernel⟩
theorem ok__law_cells {f : Addr} {fd : FuncData} (F : Fun K "_law_cells" "_law_cells" s__law_cells f fd) (B : Bt mg) (c__law_whole : Callee P w K mg base CX0 "_law_whole" 1 ["x"] sp__law_whole) : FnOk P w K mg base CX0 2 f fd ["found", "due"] sp__law_cells := by
  refine F.ok sc__law_cells (fun vs H Q E h => ?_) (fun cdv A outer s H vs Q E hr h => ?_)
  · obtain ⟨f, d, s, rfl, _⟩ := h
    rfl
  · obtain ⟨fa, da, sg, rfl, hf, hd, hn, k⟩ := h
    refine ⟨_, (pss_cons (ps_if (PW.pt (pw_or (pt_not (pt_val (pe_callB (call_isinstK K) rfl B.isinstance bt_isinstance (pa_cons (pv 0) (pa_cons (pe_bltn (v := .ty "list") rfl B.list bt_list rfl) pa_nil))))) (pw_or1 (pt_cmpR op_ne (pe_callB (call_lenK K) rfl B.len bt_len (pa_cons (pv 0) pa_nil)) (pe_callB (call_lenK K) rfl B.len bt_len (pa_cons (pv 1) pa_nil)) (nomark _)))))
      (pss_one (ps_ret pe_bl))
      pss_nil)
      (pss_cons (ps_for PassesOwn.never rfl (pi_range1 rfl B.range (pa_cons (pe_callB (call_lenK K) rfl B.len bt_len (pa_cons (pv 1) pa_nil)) pa_nil)) (pg_name (i := 2) sc__law_cells.nd rfl (Or.inl rfl))
      (pss_one (ps_if (pt_cmpR op_isN (pe_ix (ix_listK K) (pv 1) (pv 2) (fun _ _ => rfl)) pe_non (nomark _))
      (pss_one (ps_if (pt_cmpR op_notN (pe_ix (ix_listK K) (pv 0) (pv 2) (fun _ _ => rfl)) pe_non (nomark _))
      (pss_one (ps_ret pe_bl))
      pss_nil))
      (pss_one (ps_if (PW.pt (pw_or (pt_not (pt_val (pe_cal c__law_whole hr (pa_cons (pe_ix (ix_listK K) (pv 0) (pv 2) (fun _ _ => rfl)) pa_nil)))) (pw_or1 (pt_cmpR op_ne (pe_ix (ix_listK K) (pv 0) (pv 2) (fun _ _ => rfl)) (pe_ix (ix_listK K) (pv 1) (pv 2) (fun _ _ => rfl)) (nomark _)))))
      (pss_one (ps_ret pe_bl))
      pss_nil)))))
      (pss_one (ps_ret pe_bl)))), ?_⟩
    have hsl : (sightV sg).length = sg.length := by unfold sightV; rw [List.length_map]
    refine ⟨_, rfl, _, _, _, true, rfl, fun _ z => z, .lst hf, rfl, _, rfl, iteF ?_⟩
    refine ⟨_, rfl, fa, _, rfl, .inl (SqL.of hf), _, rfl, da, _, rfl, .inl (SqL.of hd), rfl, _, rfl, iteNS rfl ?_⟩
    refine ⟨_, rfl, da, _, rfl, .inl (SqL.of hd), (sg.length : Int), (by rw [hsl]), by omega, by omega, for_range (lo := 0) (n := ((sg.length : Int)).toNat) (fun i σ H4 => H4 = H ∧ ∃ o2, σ = [some (.ref fa), some (.ref da), o2]) ⟨rfl, none, rfl⟩ ?_ ?_⟩
    · rintro i σ H4 hi ⟨rfl, o2, rfl⟩
      have e0 : (0 : Int) + (i : Nat) = (i : Nat) := Int.zero_add _
      rw [e0]
      have hi' : i < sg.length := by omega
      have hg := sightV_get hi'
      generalize sg[i] = x at hg
      refine ⟨_, rfl, _, rfl, da, _, _, vO x, rfl, rfl, SqL.of hd, atI_nat hg, rfl, _, rfl, ?_⟩
      cases x with
      | none =>
        refine iteT ⟨_, rfl, _, rfl, fa, _, _, vO none, rfl, rfl, SqL.of hf, atI_nat hg, rfl, _, rfl, iteF ?_⟩
        exact ⟨rfl, _, rfl⟩
      | some z =>
        refine iteF ⟨_, rfl, _, rfl, fa, _, _, vO (some z), rfl, rfl, SqL.of hf, atI_nat hg, vO (some z), rfl, .inl ⟨z, rfl, _, rfl, iteF ?_⟩⟩
        refine ⟨_, rfl, _, rfl, fa, _, _, vO (some z), rfl, rfl, SqL.of hf, atI_nat hg, _, rfl, _, rfl, da, _, _, vO (some z), rfl, rfl, SqL.of hd, atI_nat hg, rfl, _, rfl, iteNS rfl ?_⟩
        exact ⟨rfl, _, rfl⟩
    · rintro σ H4 ⟨rfl, o2, rfl⟩
      exact k
end
section
variable {P : Program} {w : World} {K : PySem.W.Frag} {mg : Str → Option Value} {base : Heap} {C : Addr}
theorem FnOk.calm {k : Nat} {f : Addr} {fd : FuncData} {ps : List Str} {sp : Sp} (F : FnOk P w K mg base (CXe P w) k f fd ps sp) : FnOk P w K mg base CX0 k f fd ps (fun vs H Q _ => sp vs H Q fun _ _ _ => False) := by
  refine ⟨fun vs H Q E q => F.len vs H Q _ q, fun A outer s H args us vs Q E hr he hb hv hs => codeAny_mono (F.run A outer s H args us vs Q (fun _ _ _ => False) hr he hb hv hs) fun r s' hq => ?_⟩
  cases r with
  | ok v => cases v <;> exact hq
  | error e =>
    obtain ⟨_, _, _, _, _, _, _, h⟩ := hq
    exact h.elim
def sp_told_by : Sp := fun vs H Q _ => ∃ a b : Bool, vs = [.bl a, .bl b] ∧ Q (vO (toldO a b)) H
theorem sc_told_by : FnScope ["some_empty", "some_full"] ["some_empty", "some_full"] (defScope s_told_by) := ⟨rfl, rfl, rfl, by decide +kernel, rfl, by decide +kernel, by decide +kernel⟩
theorem ok_told_by {f : Addr} {fd : FuncData} (F : Fun K "told_by" "told_by" s_told_by f fd) : FnOk P w K mg base CX0 1 f fd ["some_empty", "some_full"] sp_told_by := by
  refine F.ok sc_told_by (fun vs H Q E h => ?_) (fun cdv A outer s H vs Q E hr h => ?_)
  · obtain ⟨a, b, rfl, _⟩ := h
    rfl
  · obtain ⟨a, b, rfl, k⟩ := h
    refine ⟨_, (pss_cons (ps_if (PW.pt (pw_and (pt_val (pv 0)) (pw_and1 (pt_val (pv 1)))))
      (pss_one (ps_ret pe_non))
      pss_nil)
      (pss_one (ps_ret (pe_ifExp (pt_val (pv 1)) pe_int pe_int)))), ?_⟩
    cases a with
    | true =>
      refine ⟨_, rfl, _, rfl, iteT ⟨_, rfl, _, rfl, ?_⟩⟩
      cases b with
      | true => exact iteT k
      | false => exact iteF ⟨_, rfl, _, rfl, iteF k⟩
    | false =>
      refine ⟨_, rfl, _, rfl, iteF (iteF ⟨_, rfl, _, rfl, ?_⟩)⟩
      cases b with
      | true => exact iteT k
      | false => exact iteF k
def blV (f : Nat → Bool) (n : Nat) : List V := (List.range n).map fun i => V.bl (f i)
theorem blV_len (f : Nat → Bool) (n : Nat) : (blV f n).length = n := by unfold blV; simp
theorem blV_get {f : Nat → Bool} {n i : Nat} (h : i < n) : (blV f n)[i]? = some (.bl (f i)) := by unfold blV; rw [List.getElem?_map, List.getElem?_range h]; rfl
def orAt (f : Nat → Bool) (i : Nat) : Nat → Bool := fun j => f j || decide (j = i)
theorem blV_set (f : Nat → Bool) (n i : Nat) : (blV f n).set i (V.bl true) = blV (orAt f i) n := by
  apply List.ext_getElem?
  intro j
  by_cases hj : j < n
  · rw [blV_get hj]
    by_cases hi : i = j
    · subst hi
      rw [List.getElem?_set_self (by rw [blV_len]; exact hj)]
      unfold orAt
      rw [decide_eq_true rfl, Bool.or_true]
    · rw [List.getElem?_set_ne hi, blV_get hj]
      unfold orAt
      rw [decide_eq_false (fun z => hi z.symm), Bool.or_false]
  · rw [List.getElem?_eq_none (by rw [List.length_set, blV_len]; omega), List.getElem?_eq_none (by rw [blV_len]; omega)]
theorem blV_rep (n : Nat) : (List.replicate n [V.bl false]).flatten = blV (fun _ => false) n := by
  unfold blV
  apply List.ext_getElem?
  intro j
  by_cases hj : j < n <;> simp [hj]
def orAt2 (R : Nat → Nat → Bool) (p e : Nat) : Nat → Nat → Bool := fun q d => R q d || decide (q = p ∧ d = e)
structure BH (H1 H2 : Hp) (le lf lr : Addr) (as : List Addr) (n m : Nat) (R : Nat → Nat → Bool) (Em Fu : Nat → Bool) : Prop where
  same : Same H1 H2
  e : H2 le = some (.lst (blV Em n))
  f : H2 lf = some (.lst (blV Fu n))
  t : H2 lr = some (.lst (as.map V.ref))
  row : ∀ (i : Nat) a, as[i]? = some a → H2 a = some (.lst (blV (R i) m))
  len : as.length = n + 1
  nd : as.Nodup
  fe : H1 le = none
  ff : H1 lf = none
  fr : H1 lr = none
  fa : ∀ a ∈ as, H1 a = none
  ef : le ≠ lf
  er : le ≠ lr
  fr' : lf ≠ lr
  ea : le ∉ as
  fa' : lf ∉ as
  ra : lr ∉ as
theorem BH.mono {H1 H2 H3 : Hp} {le lf lr : Addr} {as : List Addr} {n m : Nat} {R : Nat → Nat → Bool} {Em Fu : Nat → Bool} (h : BH H1 H2 le lf lr as n m R Em Fu) (s : Same H2 H3) : BH H1 H3 le lf lr as n m R Em Fu :=
  ⟨h.same.trans s, s _ _ h.e, s _ _ h.f, s _ _ h.t, fun i a e => s _ _ (h.row i a e), h.len, h.nd, h.fe, h.ff, h.fr, h.fa, h.ef, h.er, h.fr', h.ea, h.fa', h.ra⟩
theorem BH.setE {H1 H2 : Hp} {le lf lr : Addr} {as : List Addr} {n m : Nat} {R : Nat → Nat → Bool} {Em Fu : Nat → Bool} (h : BH H1 H2 le lf lr as n m R Em Fu) (i : Nat) : BH H1 (upd H2 le (.lst ((blV Em n).set i (V.bl true)))) le lf lr as n m R (orAt Em i) Fu :=
  ⟨same_upd' h.same h.fe, by rw [upd_same, blV_set], by rw [upd_ne (Ne.symm h.ef)]; exact h.f, by rw [upd_ne (Ne.symm h.er)]; exact h.t, fun j a e => by rw [upd_ne (fun z => h.ea (by rw [← z]; exact List.mem_of_getElem? e))]; exact h.row j a e, h.len, h.nd, h.fe, h.ff, h.fr, h.fa, h.ef, h.er, h.fr', h.ea, h.fa', h.ra⟩
theorem BH.setF {H1 H2 : Hp} {le lf lr : Addr} {as : List Addr} {n m : Nat} {R : Nat → Nat → Bool} {Em Fu : Nat → Bool} (h : BH H1 H2 le lf lr as n m R Em Fu) (i : Nat) : BH H1 (upd H2 lf (.lst ((blV Fu n).set i (V.bl true)))) le lf lr as n m R Em (orAt Fu i) :=
  ⟨same_upd' h.same h.ff, by rw [upd_ne h.ef]; exact h.e, by rw [upd_same, blV_set], by rw [upd_ne (Ne.symm h.fr')]; exact h.t, fun j a e => by rw [upd_ne (fun z => h.fa' (by rw [← z]; exact List.mem_of_getElem? e))]; exact h.row j a e, h.len, h.nd, h.fe, h.ff, h.fr, h.fa, h.ef, h.er, h.fr', h.ea, h.fa', h.ra⟩
theorem BH.setR {H1 H2 : Hp} {le lf lr a : Addr} {as : List Addr} {n m i : Nat} {R : Nat → Nat → Bool} {Em Fu : Nat → Bool} (h : BH H1 H2 le lf lr as n m R Em Fu) (ha : as[i]? = some a) (d : Nat) : BH H1 (upd H2 a (.lst ((blV (R i) m).set d (V.bl true)))) le lf lr as n m (orAt2 R i d) Em Fu := by
  have hm := List.mem_of_getElem? ha
  refine ⟨same_upd' h.same (h.fa a hm), by rw [upd_ne (fun z : le = a => h.ea (by rw [z]; exact hm))]; exact h.e, by rw [upd_ne (fun z : lf = a => h.fa' (by rw [z]; exact hm))]; exact h.f, by rw [upd_ne (fun z : lr = a => h.ra (by rw [z]; exact hm))]; exact h.t, fun j b e => ?_, h.len, h.nd, h.fe, h.ff, h.fr, h.fa, h.ef, h.er, h.fr', h.ea, h.fa', h.ra⟩
  by_cases hj : j = i
  · subst hj
    rw [ha] at e
    cases e
    rw [upd_same, blV_set]
    congr 3
    funext d'
    unfold orAt orAt2
    congr 1
    simp
  · have nn : b ≠ a := fun z => hj (nodup_get h.nd (by rw [← z]; exact e) ha)
    rw [upd_ne nn, h.row j b e]
    congr 3
    funext d'
    unfold orAt2
    rw [decide_eq_false (fun z => hj z.1), Bool.or_false]
theorem ixN_nat {n i : Nat} (h : i < n) : ixN n (i : Nat) = some i := by
  unfold ixN
  rw [if_pos (by omega), if_pos (by omega)]
  rfl
inductive sp_best (CN : Addr) (vs : List V) (H : Hp) (Q : VK) (E : XK) : Prop
  | mk (tr ls : Addr) (rs : List Nat) (s : Sight) (z0 : vs = [.ref tr, .ref ls]) (z1 : H tr = some (.tup (runsV rs))) (z2 : H ls = some (.lst (sightV s))) (z3 : s.length ≤ 100) (z4 : rs.length ≤ 100) (z5 : (∀ k ∈ rs, k ≤ 500)) (z6 : (layL rs s = [] → ∀ H', Same H H' → E (.ref CN) none H') ∧ (layL rs s ≠ [] → ∀ l H', Same H H' → H l = none → H' l = some (.lst (sightV (bestS rs s))) → Q (.ref l) H')) : sp_best CN vs H Q E
theorem sc_best : FnScope ["runs", "sight", "counts", "empty", "full", "reached", "place", "done", "step", "cell"] ["runs", "sight"] (defScope s_best) := ⟨rfl, rfl, rfl, by decide +kernel, rfl, by decide +kernel, by decide +kernel⟩
theorem ok_best {f CN : Addr} {fd : FuncData} (F : Fun K "best" "best" s_best f fd) (B : Bt mg) (Z : Bz mg) (mk_Counts : Maker P w K mg base CX0 "Counts" C 3 ["self", "runs", "sight"] (sp_init C)) (m_total : Method P w K mg base CX0 C "total" 1 ["self"] (sp_total C))
    (m_empty_ways : Method P w K mg base CX0 C "empty_ways" 1 ["self", "place", "done"] (sp_empty C)) (m_full_ways : Method P w K mg base CX0 C "full_ways" 2 ["self", "place", "done"] (sp_full C)) (m_run_cells : Method P w K mg base CX0 C "run_cells" 1 ["self", "place", "done"] (sp_run_cells C)) (m_place_behind : Method P w K mg base CX0 C "place_behind" 1 ["self", "place", "done"] (sp_behind C))
    (c_told_by : Callee P w K mg base CX0 "told_by" 1 ["some_empty", "some_full"] sp_told_by) (hm : mg "NoLaying" = some (.ref CN)) (hX : ExcC K CN) : FnOk P w K mg base (CXe P w) 5 f fd ["runs", "sight"] (sp_best CN) := by
  refine F.okX sc_best (fun vs H Q E h => ?_) (fun cdv A outer s H vs Q E hr h => ?_)
  · obtain ⟨tr, ls, rs, s, rfl, _⟩ := h
    rfl
  · obtain ⟨tr, ls, rs, sg, rfl, htr, hls, hn, hrn, hrk, kE, kQ⟩ := h
    refine ⟨_, (pss_cons (ps_set (i := 2) sc_best.nd rfl (Or.inl rfl) (pe_mak mk_Counts hr (pa_cons (pv 0) (pa_cons (pv 1) pa_nil))))
      (pss_cons (ps_if (pt_cmpR op_eq (pe_met0 m_total (pv 2) hr) pe_int (nomark _))
      (pss_one (ps_raise hm hX.ex hX.be (pa_cons pe_str pa_nil)))
      pss_nil)
      (pss_cons (ps_set (i := 3) sc_best.nd rfl (Or.inr rfl) (pe_op op_rep (pe_lst (pa_cons pe_bl pa_nil)) (pe_callB (call_lenK K) rfl B.len bt_len (pa_cons (pv 1) pa_nil))))
      (pss_cons (ps_set (i := 4) sc_best.nd rfl (Or.inr rfl) (pe_op op_rep (pe_lst (pa_cons pe_bl pa_nil)) (pe_callB (call_lenK K) rfl B.len bt_len (pa_cons (pv 1) pa_nil))))
      (pss_cons (ps_setComp (i := 5) ["place"] [0] sc_best.nd rfl rfl ⟨rfl, rfl, rfl, rfl, rfl⟩ rfl (pi_range1 rfl B.range (pa_cons (pe_op op_add (pe_callB (call_lenK K) rfl B.len bt_len (pa_cons (pv 1) pa_nil)) pe_int) pa_nil)) (fun _ _ _ _ _ => (pg_name (i := 0) (show (["place", "runs"] : List Str).Nodup by decide +kernel) rfl (Or.inl rfl))) (fun _ _ _ _ _ => pcb_elt (pe_op op_rep (pe_lst (pa_cons pe_bl pa_nil)) (pe_op op_add (pe_callB (call_lenK K) rfl B.len bt_len (pa_cons (pv 1) pa_nil)) pe_int))))
      (pss_cons (ps_asg pe_bl (pg_sub (pe_ix (ix_listK K) (pv 5) pe_int (fun _ _ => rfl)) pe_int set_list))
      (pss_cons (ps_for PassesOwn.leaving rfl (pi_range1 rfl B.range (pa_cons (pe_callB (call_lenK K) rfl B.len bt_len (pa_cons (pv 1) pa_nil)) pa_nil)) (pg_name (i := 6) sc_best.nd rfl (Or.inl rfl))
      (pss_one (ps_for PassesOwn.leaving rfl (pi_range1 rfl B.range (pa_cons (pe_op op_add (pe_callB (call_lenK K) rfl B.len bt_len (pa_cons (pv 0) pa_nil)) pe_int) pa_nil)) (pg_name (i := 7) sc_best.nd rfl (Or.inl rfl))
      (pss_join (ps_if (PW.pt (pw_and (pt_val (pe_ix (ix_listK K) (pe_ix (ix_listK K) (pv 5) (pv 6) (fun _ _ => rfl)) (pv 7) (fun _ _ => rfl))) (pw_and1 (pt_cmpR op_gt (pe_met m_empty_ways (pv 2) hr (pa_cons (pv 6) (pa_cons (pv 7) pa_nil))) pe_int (nomark _)))))
      (pss_cons (ps_asg pe_bl (pg_sub (pv 3) (pv 6) set_list))
      (pss_one (ps_asg pe_bl (pg_sub (pe_ix (ix_listK K) (pv 5) (pe_op op_add (pv 6) pe_int) (fun _ _ => rfl)) (pv 7) set_list))))
      pss_nil)
      (pss_one (ps_if (PW.pt (pw_and (pt_val (pe_ix (ix_listK K) (pe_ix (ix_listK K) (pv 5) (pv 6) (fun _ _ => rfl)) (pv 7) (fun _ _ => rfl))) (pw_and1 (pt_cmpR op_gt (pe_met m_full_ways (pv 2) hr (pa_cons (pv 6) (pa_cons (pv 7) pa_nil))) pe_int (nomark _)))))
      (pss_cons (ps_for PassesOwn.leaving rfl (pi_enumK K rfl Z.enumerate (pa_cons (pe_met m_run_cells (pv 2) hr (pa_cons (pv 6) (pa_cons (pv 7) pa_nil))) pa_nil)) (pg_tupK K 2 rfl (pgs_cons (pg_name (i := 8) sc_best.nd rfl (Or.inl rfl)) (pgs_cons (pg_name (i := 9) sc_best.nd rfl (Or.inl rfl)) pgs_nil)))
      (pss_one (ps_if (pt_cmpR op_eq (pv 9) pe_int (nomark _))
      (pss_one (ps_asg pe_bl (pg_sub (pv 4) (pe_op op_add (pv 6) (pv 8)) set_list)))
      (pss_one (ps_asg pe_bl (pg_sub (pv 3) (pe_op op_add (pv 6) (pv 8)) set_list))))))
      (pss_one (ps_asg pe_bl (pg_sub (pe_ix (ix_listK K) (pv 5) (pe_met m_place_behind (pv 2) hr (pa_cons (pv 6) (pa_cons (pv 7) pa_nil))) (fun _ _ => rfl)) (pe_op op_add (pv 7) pe_int) set_list))))
      pss_nil))))))
      (pss_one (ps_ret (pe_comp ["place"] [3, 4] ⟨rfl, rfl, rfl, rfl, rfl⟩ rfl (pi_range1 rfl B.range (pa_cons (pe_callB (call_lenK K) rfl B.len bt_len (pa_cons (pv 1) pa_nil)) pa_nil)) (fun _ _ _ _ _ => (pg_name (i := 0) (show (["place", "empty", "full"] : List Str).Nodup by decide +kernel) rfl (Or.inl rfl))) (fun _ _ _ _ _ => pcb_elt (pe_cal c_told_by hr (pa_cons (pe_ix (ix_listK K) (pv 1) (pv 0) (fun _ _ => rfl)) (pa_cons (pe_ix (ix_listK K) (pv 2) (pv 0) (fun _ _ => rfl)) pa_nil)))))))))))))), ?_⟩
    have hsl : (sightV sg).length = sg.length := by unfold sightV; rw [List.length_map]
    have hrl : (runsV rs).length = rs.length := by unfold runsV; rw [List.length_map]
    refine ⟨_, rfl, _, rfl, fun c dx0 hc0 hdx0 _ => mk_counts htr hls hn hrn hc0 hdx0 fun H1 s1 cp => ⟨rfl, ?_⟩⟩
    obtain ⟨dx, fs, h1, h2⟩ := cp_noattr cp (m := "total") (by decide +kernel) (by decide +kernel) (by decide +kernel)
    refine ⟨_, rfl, c, dx, fs, rfl, h1, h2, c, rs, sg, _, rfl, cp, ?_⟩
    rw [total_whole]
    refine ⟨rfl, _, rfl, ?_⟩
    by_cases hz : layL rs sg = []
    · have e0 : waysN rs sg = 0 := by unfold waysN; rw [hz]; rfl
      rw [e0]
      exact iteT ⟨by show 1 ≤ 10; decide, kE hz H1 s1⟩
    have hw0 : waysN rs sg ≠ 0 := fun z => hz (List.length_eq_zero_iff.mp z)
    refine ite2 (fun q => ?_) (fun _ => ?_)
    · have := dec_int1.mp q
      omega
    have hls1 := s1 _ _ hls
    have htr1 := s1 _ _ htr
    have sz1 : 1 * ((sg.length : Int)).toNat ≤ sizeLine := by have := small1000 (n := sg.length) (by omega); rw [Int.toNat_natCast]; omega
    refine ⟨by show 1 ≤ sizeLine; decide, fun z1 hz1 => ?_⟩
    have t1 : Same H1 (upd H1 z1 (.lst [.bl false])) := same_upd hz1
    refine ⟨_, rfl, ls, _, rfl, .inl (SqL.of (t1 _ _ hls1)), z1, (sg.length : Int), _, rfl, (by rw [hsl]), upd_same, by omega, by omega, sz1, fun le hle => ?_⟩
    have fe : H1 le = none := t1.free hle
    have t2 : Same H1 (upd (upd H1 z1 (.lst [.bl false])) le (.lst (List.replicate ((sg.length : Int)).toNat [V.bl false]).flatten)) := t1.trans (same_upd hle)
    have he2 : (upd (upd H1 z1 (.lst [.bl false])) le (.lst (List.replicate ((sg.length : Int)).toNat [V.bl false]).flatten)) le = some (.lst (blV (fun _ => false) sg.length)) := by rw [upd_same, Int.toNat_natCast, blV_rep]
    generalize upd (upd H1 z1 (.lst [V.bl false])) le (.lst (List.replicate ((sg.length : Int)).toNat [V.bl false]).flatten) = H2 at t2 he2 ⊢
    refine ⟨by show 1 ≤ sizeLine; decide, fun z2 hz2 => ?_⟩
    have t3 : Same H2 (upd H2 z2 (.lst [.bl false])) := same_upd hz2
    refine ⟨_, rfl, ls, _, rfl, .inl (SqL.of (t3 _ _ (t2 _ _ hls1))), z2, (sg.length : Int), _, rfl, (by rw [hsl]), upd_same, by omega, by omega, sz1, fun lf hlf => ?_⟩
    have ff2 : H2 lf = none := t3.free hlf
    have ff : H1 lf = none := t2.free ff2
    have nef : le ≠ lf := ne_of_none he2 ff2
    have t4 : Same H2 (upd (upd H2 z2 (.lst [.bl false])) lf (.lst (List.replicate ((sg.length : Int)).toNat [V.bl false]).flatten)) := t3.trans (same_upd hlf)
    have hf4 : (upd (upd H2 z2 (.lst [.bl false])) lf (.lst (List.replicate ((sg.length : Int)).toNat [V.bl false]).flatten)) lf = some (.lst (blV (fun _ => false) sg.length)) := by rw [upd_same, Int.toNat_natCast, blV_rep]
    generalize upd (upd H2 z2 (.lst [V.bl false])) lf (.lst (List.replicate ((sg.length : Int)).toNat [V.bl false]).flatten) = H4 at t4 hf4 ⊢
    have he4 := t4 _ _ he2
    have t14 := t2.trans t4
    have e1 : ((sightV sg).length : Int) + 1 = ((sg.length + 1 : Nat) : Int) := by rw [hsl]; omega
    have e2 : ((runsV rs).length : Int) + 1 = ((rs.length + 1 : Nat) : Int) := by rw [hrl]; omega
    have sz2 : 1 * (((rs.length + 1 : Nat) : Int)).toNat ≤ sizeLine := by have := small1000 (n := rs.length + 1) (by omega); rw [Int.toNat_natCast]; omega
    refine ⟨_, rfl, ls, _, rfl, .inl (SqL.of (t14 _ _ hls1)), _, _, rfl, rfl, ((sg.length + 1 : Nat) : Int), (by rw [← e1]), by omega, by omega, comp_range (fun i ys H' => Same H4 H' ∧ ∃ as : List Addr, ys = as.map V.ref ∧ as.length = i ∧ (∀ (j : Nat) b, as[j]? = some b → H' b = some (.lst (blV (fun _ => false) (rs.length + 1)))) ∧ as.Nodup ∧ ∀ b ∈ as, H4 b = none ∧ H' b ≠ none) ⟨Same.refl _, [], rfl, rfl, fun j b e => by simp at e, List.nodup_nil, fun b hb => by simp at hb⟩ ?_ ?_ ?_ ?_⟩
    · exact Nat.le_of_lt (small1000 (by omega))
    · rintro i ys H' ⟨_, as, rfl, hl, _⟩
      rw [List.length_map]
      omega
    · rintro i ys H' hi ⟨sm, as, rfl, hl, hrow, hnd, hnew⟩
      refine ⟨rfl, ?_⟩
      refine ⟨by show 1 ≤ sizeLine; decide, fun z3 hz3 => ?_⟩
      have t5 : Same H' (upd H' z3 (.lst [.bl false])) := same_upd hz3
      refine ⟨_, rfl, tr, _, rfl, .inr (SqT.of (t5 _ _ (sm _ _ (t14 _ _ htr1)))), _, _, rfl, rfl, z3, ((rs.length + 1 : Nat) : Int), _, rfl, (by rw [← e2]), upd_same, by omega, by omega, sz2, fun b hb => ?_⟩
      have t6 := t5.trans (same_upd (o := HO.lst (List.replicate (((rs.length + 1 : Nat) : Int)).toNat [V.bl false]).flatten) hb)
      have hbn : H' b = none := t5.free hb
      have nb : b ∉ as := fun z => (hnew b z).2 hbn
      refine ⟨sm.trans t6, as ++ [b], by rw [List.map_append]; rfl, by rw [List.length_append, List.length_singleton, hl], fun j c' e => ?_, ?_, fun c' hc' => ?_⟩
      · by_cases hj : j < as.length
        · rw [List.getElem?_append_left hj] at e
          exact t6 _ _ (hrow j c' e)
        · rw [List.getElem?_append_right (by omega)] at e
          have hj0 : j - as.length = 0 := by
            have := (List.getElem?_eq_some_iff.mp e).1
            simp at this
            omega
          rw [hj0] at e
          have e' : b = c' := Option.some.inj e
          subst e'
          rw [upd_same, Int.toNat_natCast, blV_rep]
      · exact List.nodup_append.mpr ⟨hnd, by simp, fun x hx y hy => by rw [List.mem_singleton.mp hy]; intro z; exact nb (z ▸ hx)⟩
      · rcases List.mem_append.mp hc' with z | z
        · refine ⟨(hnew c' z).1, fun q => (hnew c' z).2 (t6.free q)⟩
        · rw [List.mem_singleton.mp z]
          exact ⟨sm.free hbn, by rw [upd_same]; exact fun q => by cases q⟩
    rintro ys H5 ⟨t5, as, rfl, hal, hrow, hnd, hnew⟩ lr hlr
    have hal' : as.length = sg.length + 1 := by omega
    have fr5 : H4 lr = none := t5.free hlr
    have t6 : Same H5 (upd H5 lr (.lst (as.map V.ref))) := same_upd hlr
    have bh0 : BH H1 (upd H5 lr (.lst (as.map V.ref))) le lf lr as sg.length (rs.length + 1) (fun _ _ => false) (fun _ => false) (fun _ => false) :=
      ⟨t14.trans (t5.trans t6), t6 _ _ (t5 _ _ he4), t6 _ _ (t5 _ _ hf4), upd_same, fun i a e => t6 _ _ (hrow i a e), hal', hnd, fe, ff, t14.free fr5, fun a ha => t14.free (hnew a ha).1, nef, ne_of_none he4 fr5, ne_of_none hf4 fr5, fun z => (by have := (hnew le z).1; rw [he4] at this; cases this), fun z => (by have := (hnew lf z).1; rw [hf4] at this; cases this), fun z => (hnew lr z).2 hlr⟩
    generalize upd H5 lr (.lst (as.map V.ref)) = H6 at bh0 ⊢
    have rowAt : ∀ i, i < sg.length + 1 → ∃ a, as[i]? = some a := fun i hi => ⟨_, List.getElem?_eq_getElem (by omega)⟩
    have refAt : ∀ {i : Nat} {a : Addr}, as[i]? = some a → (as.map V.ref)[i]? = some (.ref a) := fun {i a} h => by rw [List.getElem?_map, h]; rfl
    obtain ⟨a0, ha0⟩ := rowAt 0 (by omega)
    refine ⟨_, rfl, lr, _, 0, .ref a0, rfl, rfl, SqL.of bh0.t, atI_nat (refAt ha0), a0, _, 0, 0, rfl, rfl, bh0.row 0 a0 ha0, (by rw [blV_len]; exact ixN_nat (i := 0) (by omega)), ?_⟩
    have bh1 := bh0.setR ha0 0
    have bi1 : BInv rs sg 0 0 false (orAt2 (fun _ _ => false) 0 0) (fun _ => false) (fun _ => false) := BInv.init (fun q d => by unfold orAt2; simp) (fun _ => rfl) fun _ => rfl
    generalize upd H6 a0 (.lst ((blV ((fun _ _ => false : Nat → Nat → Bool) 0) (rs.length + 1)).set 0 (V.bl true))) = H7 at bh1 ⊢
    refine ⟨_, rfl, ls, _, rfl, .inl (SqL.of (bh1.same _ _ hls1)), (sg.length : Int), (by rw [hsl]), by omega, by omega, for_rangeL (lo := 0) (n := ((sg.length : Int)).toNat) (fun p σ H8 => ∃ (R : Nat → Nat → Bool) (Em Fu : Nat → Bool) (o6 o7 o8 o9 : Option V), σ = [some (.ref tr), some (.ref ls), some (.ref c), some (.ref le), some (.ref lf), some (.ref lr), o6, o7, o8, o9] ∧ BH H1 H8 le lf lr as sg.length (rs.length + 1) R Em Fu ∧ BInv rs sg p 0 false R Em Fu)
      ⟨_, _, _, none, none, none, none, rfl, bh1, bi1⟩ ?_ ?_⟩
    · intro P1 m1
      rintro p σ H8 hp ⟨R, Em, Fu, o6, o7, o8, o9, rfl, bh, bi⟩
      have e0 : (0 : Int) + (p : Nat) = (p : Nat) := Int.zero_add _
      rw [e0]
      have hp' : p < sg.length := by omega
      refine ⟨_, rfl, tr, _, rfl, .inr (SqT.of (bh.same _ _ htr1)), _, _, rfl, rfl, ((rs.length + 1 : Nat) : Int), (by rw [← e2]), by omega, by omega, for_rangeL (lo := 0) (n := (((rs.length + 1 : Nat) : Int)).toNat) (fun e σ H9 => ∃ (R : Nat → Nat → Bool) (Em Fu : Nat → Bool) (o7 o8 o9 : Option V), σ = [some (.ref tr), some (.ref ls), some (.ref c), some (.ref le), some (.ref lf), some (.ref lr), some (.int p), o7, o8, o9] ∧ BH H1 H9 le lf lr as sg.length (rs.length + 1) R Em Fu ∧ BInv rs sg p e false R Em Fu)
        ⟨R, Em, Fu, o7, o8, o9, rfl, bh, bi⟩ ?_ ?_⟩
      rotate_left
      · rintro σ H9 ⟨R, Em, Fu, o7, o8, o9, rfl, bh, bi⟩
        refine m1 _ _ _ ⟨R, Em, Fu, _, o7, o8, o9, rfl, bh, ?_⟩
        have : (((rs.length + 1 : Nat) : Int)).toNat = rs.length + 1 := by omega
        rw [this] at bi
        exact bi.next
      intro P2 m2
      rintro e σ H9 he ⟨R, Em, Fu, o7, o8, o9, rfl, bh, bi⟩
      have e0 : (0 : Int) + (e : Nat) = (e : Nat) := Int.zero_add _
      rw [e0]
      have he' : e ≤ rs.length := by omega
      obtain ⟨ap, hap⟩ := rowAt p (by omega)
      obtain ⟨ap1, hap1⟩ := rowAt (p + 1) (by omega)
      have cp9 := cp.mono bh.same
      refine joinL (fun σ' H' => ∃ (R : Nat → Nat → Bool) (Em Fu : Nat → Bool), σ' = [some (.ref tr), some (.ref ls), some (.ref c), some (.ref le), some (.ref lf), some (.ref lr), some (.int p), some (.int e), o8, o9] ∧ BH H1 H' le lf lr as sg.length (rs.length + 1) R Em Fu ∧ BInv rs sg p e true R Em Fu) (fun J mJ => ?_) ?_
      · refine ⟨_, rfl, _, rfl, lr, _, _, .ref ap, rfl, rfl, SqL.of bh.t, atI_nat (refAt hap), _, rfl, ap, _, _, .bl (R p e), rfl, rfl, SqL.of (bh.row p ap hap), atI_nat (blV_get (by omega)), _, rfl, ?_⟩
        cases hR : R p e with
        | false =>
          refine iteF (iteF (mJ _ _ ⟨R, Em, Fu, rfl, bh, bi.noE hp' fun z => ?_⟩))
          rw [hR] at z
          cases z
        | true =>
          obtain ⟨dx2, fs2, h3, h4⟩ := cp_noattr cp9 (m := "empty_ways") (by decide +kernel) (by decide +kernel) (by decide +kernel)
          refine iteT ⟨_, rfl, c, dx2, fs2, rfl, h3, h4, _, rfl, _, rfl, c, rs, sg, _, p, e, rfl, cp9, hp', he', ?_⟩
          have ee : emptyT (getT (wholeT rs sg)) sg p e = emptyT (wayT rs sg) sg p e := emptyT_congr (getT_whole rs sg (by omega) he')
          rw [ee, emptyT_nat rs sg hp']
          refine ⟨_, _, rfl, rfl, _, rfl, ?_⟩
          by_cases hE : layE (rs.drop e) (sg.drop p) = []
          · rw [hE]
            exact iteF (mJ _ _ ⟨R, Em, Fu, rfl, bh, bi.noE hp' fun _ => hE⟩)
          · have hpos : (0 : Int) < ((layE (rs.drop e) (sg.drop p)).length : Nat) := by
              have : (layE (rs.drop e) (sg.drop p)).length ≠ 0 := fun z => hE (List.length_eq_zero_iff.mp z)
              omega
            rw [decide_eq_true hpos]
            refine iteT ⟨_, rfl, _, rfl, le, _, _, p, rfl, rfl, bh.e, (by rw [blV_len]; exact ixN_nat hp'), ?_⟩
            have bhE := bh.setE p
            generalize upd H9 le (.lst ((blV Em sg.length).set p (V.bl true))) = H10 at bhE ⊢
            have e3 : ((p : Nat) : Int) + 1 = ((p + 1 : Nat) : Int) := by omega
            refine ⟨_, rfl, _, rfl, _, _, rfl, rfl, lr, _, _, .ref ap1, rfl, rfl, SqL.of bhE.t, (by show atI _ (((p : Nat) : Int) + 1) = _; rw [e3]; exact atI_nat (refAt hap1)), _, rfl, ap1, _, _, e, rfl, rfl, bhE.row _ ap1 hap1, (by rw [blV_len]; exact ixN_nat (by omega)), ?_⟩
            exact mJ _ _ ⟨_, _, _, rfl, bhE.setR hap1 e, bi.yesE hp' he' hR hE (fun q d => rfl) fun i => rfl⟩
      · rintro σ' H10 ⟨R, Em, Fu, rfl, bh, bi⟩
        have cp10 := cp.mono bh.same
        refine ⟨_, rfl, _, rfl, lr, _, _, .ref ap, rfl, rfl, SqL.of bh.t, atI_nat (refAt hap), _, rfl, ap, _, _, .bl (R p e), rfl, rfl, SqL.of (bh.row p ap hap), atI_nat (blV_get (by omega)), _, rfl, ?_⟩
        cases hR : R p e with
        | false =>
          refine iteF (iteF (m2 _ _ _ ⟨R, Em, Fu, _, _, _, rfl, bh, bi.noF fun z => ?_⟩))
          rw [hR] at z
          cases z
        | true =>
          obtain ⟨dx2, fs2, h3, h4⟩ := cp_noattr cp10 (m := "full_ways") (by decide +kernel) (by decide +kernel) (by decide +kernel)
          refine iteT ⟨_, rfl, c, dx2, fs2, rfl, h3, h4, _, rfl, _, rfl, c, rs, sg, _, p, e, rfl, cp10, hp', he', fun H11 t11 => ?_⟩
          have ee : fullT (getT (wholeT rs sg)) rs sg p e = fullT (wayT rs sg) rs sg p e := fullT_congr he' hp' fun p' d' _ h2 h3 => getT_whole rs sg h2 h3
          rw [ee, fullT_nat rs sg hp' he']
          have bh := bh.mono t11
          refine ⟨_, _, rfl, rfl, _, rfl, ?_⟩
          by_cases hF : layF (rs.drop e) (sg.drop p) = []
          · rw [hF]
            exact iteF (m2 _ _ _ ⟨R, Em, Fu, _, _, _, rfl, bh, bi.noF fun _ => hF⟩)
          · have hpos : (0 : Int) < ((layF (rs.drop e) (sg.drop p)).length : Nat) := by
              have : (layF (rs.drop e) (sg.drop p)).length ≠ 0 := fun z => hF (List.length_eq_zero_iff.mp z)
              omega
            rw [decide_eq_true hpos]
            have hel : e < rs.length := by
              by_cases q : e < rs.length
              · exact q
              · exact absurd (by rw [List.drop_eq_nil_of_le (by omega : rs.length ≤ e)]; rfl) hF
            have cp11 := cp10.mono t11
            obtain ⟨dx3, fs3, h5, h6⟩ := cp_noattr cp11 (m := "run_cells") (by decide +kernel) (by decide +kernel) (by decide +kernel)
            have hk500 : rs.getD e 0 ≤ 500 := by
              rw [List.getD_eq_getElem?_getD, List.getElem?_eq_getElem hel]
              exact hrk _ (List.getElem_mem hel)
            generalize hk : rs.getD e 0 = kk at hk500
            refine iteT ⟨_, rfl, c, dx3, fs3, rfl, h5, h6, _, rfl, _, rfl, c, rs, sg, _, p, e, rfl, cp11, hel, (by rw [hk]; exact hk500), fun lc H12 t12 nlc hlc => ?_⟩
            rw [hk] at hlc
            have bh := bh.mono t12
            have hfit : kk ≤ sg.length - p := by
              obtain ⟨c0, hc0⟩ := List.exists_mem_of_ne_nil _ hF
              obtain ⟨k', rs', c', e1, e2, _⟩ := layF_bits hc0
              rw [drop_at hel] at e1
              injection e1 with e1 _
              have := (fitsB_iff.mp e2).1
              rw [List.length_drop, ← e1] at this
              rw [← hk, List.getD_eq_getElem?_getD, List.getElem?_eq_getElem hel]
              exact this
            have hcl := runCells_len hfit
            have hlc0 : lc ≠ le := fun z => by rw [z, (t11 _ _ (show H10 le = some _ from by have := ‹BH H1 H10 le lf lr as sg.length (rs.length + 1) R Em Fu›.e; exact this))] at nlc; cases nlc
            have hlc1 : lc ≠ lf := fun z => by rw [z, (t11 _ _ (show H10 lf = some _ from by have := ‹BH H1 H10 le lf lr as sg.length (rs.length + 1) R Em Fu›.f; exact this))] at nlc; cases nlc
            refine ⟨lc, rfl, ⟨_, SqL.of hlc⟩, for_enumL (K := K) (a := lc) (xs := (runCells kk (sg.length - p)).map V.int) (fun j σ H13 => ∃ (Em' Fu' : Nat → Bool) (o8 o9 : Option V), σ = [some (.ref tr), some (.ref ls), some (.ref c), some (.ref le), some (.ref lf), some (.ref lr), some (.int p), some (.int e), o8, o9] ∧ BH H1 H13 le lf lr as sg.length (rs.length + 1) R Em' Fu' ∧ H13 lc = some (.lst ((runCells kk (sg.length - p)).map V.int)) ∧
              (∀ i, Em' i = true ↔ Em i = true ∨ ∃ j', j' < j ∧ i = p + j' ∧ (runCells kk (sg.length - p))[j']? = some 0) ∧ (∀ i, Fu' i = true ↔ Fu i = true ∨ ∃ j', j' < j ∧ i = p + j' ∧ (runCells kk (sg.length - p))[j']? = some 1))
              ⟨Em, Fu, o8, o9, rfl, bh, hlc, fun i => ⟨.inl, fun z => z.elim id fun ⟨j', h, _⟩ => absurd h (Nat.not_lt_zero _)⟩, fun i => ⟨.inl, fun z => z.elim id fun ⟨j', h, _⟩ => absurd h (Nat.not_lt_zero _)⟩⟩ ?_ ?_ ?_⟩
            · rintro j σ H13 _ ⟨Em', Fu', o8, o9, rfl, _, h, _⟩
              exact SqL.of h
            · intro P3 m3
              rintro j x σ H13 q hj ⟨Em', Fu', o8, o9, rfl, bh, hlc3, hE3, hF3⟩ hq
              obtain ⟨z, hz, rfl⟩ := map_get hj
              have hjl : j < (runCells kk (sg.length - p)).length := (List.getElem?_eq_some_iff.mp hz).1
              have hpj : p + j < sg.length := by omega
              have e4 : ((p : Nat) : Int) + (j : Nat) = ((p + j : Nat) : Int) := by omega
              have tq : Same H13 (upd H13 q (.tup [.int j, .int z])) := same_upd hq
              have hzb : z = 0 ∨ z = 1 := runCells_bits kk (sg.length - p) z (List.mem_of_getElem? hz)
              have bh := bh.mono tq
              have hlc3 := tq _ _ hlc3
              refine ⟨q, _, rfl, SqT.of upd_same, rfl, _, _, rfl, _, _, rfl, rfl, ?_⟩
              generalize upd H13 q (.tup [V.int j, V.int z]) = H14 at bh hlc3 ⊢
              refine ⟨_, rfl, rfl, _, rfl, ?_⟩
              refine ite2 (fun hc1 => ?_) (fun hc1 => ?_)
              · have hz1 : z = 1 := dec_int1.mp hc1
                subst hz1
                refine ⟨_, rfl, _, rfl, _, rfl, _, _, rfl, rfl, lf, _, _, p + j, rfl, rfl, bh.f, (by rw [blV_len]; show ixN _ (((p : Nat) : Int) + (j : Nat)) = _; rw [e4]; exact ixN_nat hpj), ?_⟩
                refine m3 _ _ _ ⟨Em', _, _, _, rfl, bh.setF (p + j), by rw [upd_ne hlc1]; exact hlc3, fun i => ?_, fun i => ?_⟩
                · rw [hE3]
                  constructor
                  · rintro (z | ⟨j', h1, h2, h3⟩)
                    · exact .inl z
                    · exact .inr ⟨j', by omega, h2, h3⟩
                  · rintro (z | ⟨j', h1, h2, h3⟩)
                    · exact .inl z
                    · by_cases hjj : j' = j
                      · rw [hjj, hz] at h3; cases h3
                      · exact .inr ⟨j', by omega, h2, h3⟩
                · unfold orAt
                  rw [Bool.or_eq_true, decide_eq_true_eq, hF3]
                  constructor
                  · rintro ((z | ⟨j', h1, h2, h3⟩) | z)
                    · exact .inl z
                    · exact .inr ⟨j', by omega, h2, h3⟩
                    · exact .inr ⟨j, by omega, z, hz⟩
                  · rintro (z | ⟨j', h1, h2, h3⟩)
                    · exact .inl (.inl z)
                    · by_cases hjj : j' = j
                      · exact .inr (by rw [h2, hjj])
                      · exact .inl (.inr ⟨j', by omega, h2, h3⟩)
              · have hz0 : z = 0 := hzb.resolve_right fun z => hc1 (dec_int1.mpr z)
                subst hz0
                refine ⟨_, rfl, _, rfl, _, rfl, _, _, rfl, rfl, le, _, _, p + j, rfl, rfl, bh.e, (by rw [blV_len]; show ixN _ (((p : Nat) : Int) + (j : Nat)) = _; rw [e4]; exact ixN_nat hpj), ?_⟩
                refine m3 _ _ _ ⟨_, Fu', _, _, rfl, bh.setE (p + j), by rw [upd_ne hlc0]; exact hlc3, fun i => ?_, fun i => ?_⟩
                · unfold orAt
                  rw [Bool.or_eq_true, decide_eq_true_eq, hE3]
                  constructor
                  · rintro ((z | ⟨j', h1, h2, h3⟩) | z)
                    · exact .inl z
                    · exact .inr ⟨j', by omega, h2, h3⟩
                    · exact .inr ⟨j, by omega, z, hz⟩
                  · rintro (z | ⟨j', h1, h2, h3⟩)
                    · exact .inl (.inl z)
                    · by_cases hjj : j' = j
                      · exact .inr (by rw [h2, hjj])
                      · exact .inl (.inr ⟨j', by omega, h2, h3⟩)
                · rw [hF3]
                  constructor
                  · rintro (z | ⟨j', h1, h2, h3⟩)
                    · exact .inl z
                    · exact .inr ⟨j', by omega, h2, h3⟩
                  · rintro (z | ⟨j', h1, h2, h3⟩)
                    · exact .inl z
                    · by_cases hjj : j' = j
                      · rw [hjj, hz] at h3; cases h3
                      · exact .inr ⟨j', by omega, h2, h3⟩
            · rintro σ H13 ⟨Em', Fu', o8, o9, rfl, bh, hlc3, hE3, hF3⟩
              rw [List.length_map] at hE3 hF3
              have cp13 := cp.mono bh.same
              obtain ⟨dx4, fs4, h7, h8⟩ := cp_noattr cp13 (m := "place_behind") (by decide +kernel) (by decide +kernel) (by decide +kernel)
              obtain ⟨ab, hab⟩ := rowAt (min (p + kk + 1) sg.length) (by omega)
              have e5 : ((e : Nat) : Int) + 1 = ((e + 1 : Nat) : Int) := by omega
              refine ⟨_, rfl, _, rfl, c, dx4, fs4, rfl, h7, h8, _, rfl, _, rfl, c, rs, sg, _, p, e, rfl, cp13, hel, ?_⟩
              rw [hk]
              refine ⟨lr, _, _, .ref ab, rfl, rfl, SqL.of bh.t, atI_nat (refAt hab), _, rfl, _, _, rfl, rfl, ab, _, _, e + 1, rfl, rfl, bh.row _ ab hab, (by rw [blV_len]; show ixN _ (((e : Nat) : Int) + 1) = _; rw [e5]; exact ixN_nat (by omega)), ?_⟩
              refine m2 _ _ _ ⟨_, Em', Fu', _, _, _, rfl, bh.setR hab (e + 1), bi.yesF hp' hel hk hR hF (fun q d => rfl) (fun i => ?_) fun i => ?_⟩
              · rw [hE3]
                constructor
                · rintro (z | ⟨j', h1, h2, h3⟩)
                  · exact .inl z
                  · exact .inr ⟨j', h2, h3⟩
                · rintro (z | ⟨j', h2, h3⟩)
                  · exact .inl z
                  · exact .inr ⟨j', (List.getElem?_eq_some_iff.mp h3).1, h2, h3⟩
              · rw [hF3]
                constructor
                · rintro (z | ⟨j', h1, h2, h3⟩)
                  · exact .inl z
                  · exact .inr ⟨j', h2, h3⟩
                · rintro (z | ⟨j', h2, h3⟩)
                  · exact .inl z
                  · exact .inr ⟨j', (List.getElem?_eq_some_iff.mp h3).1, h2, h3⟩
    · rintro σ H8 ⟨R, Em, Fu, o6, o7, o8, o9, rfl, bh, bi⟩
      have en : ((sg.length : Int)).toNat = sg.length := by omega
      rw [en] at bi
      refine ⟨_, rfl, ls, _, rfl, .inl (SqL.of (bh.same _ _ hls1)), (sg.length : Int), (by rw [hsl]), by omega, by omega, comp_range (fun i ys H' => H' = H8 ∧ ys = ((List.range i).map (bestO rs sg)).map vO) ⟨rfl, rfl⟩ ?_ ?_ ?_ ?_⟩
      · exact Nat.le_of_lt (small1000 (by omega))
      · rintro i ys H' ⟨_, rfl⟩
        simp
      · rintro i ys H' hi ⟨rfl, rfl⟩
        have e0 : (0 : Int) + (i : Nat) = (i : Nat) := Int.zero_add _
        rw [e0]
        have hi' : i < sg.length := by omega
        obtain ⟨d1, d2⟩ := bi.done hi'
        refine ⟨rfl, ?_⟩
        refine ⟨_, rfl, _, rfl, le, _, _, .bl (Em i), rfl, rfl, SqL.of bh.e, atI_nat (blV_get hi'), _, rfl, _, rfl, lf, _, _, .bl (Fu i), rfl, rfl, SqL.of bh.f, atI_nat (blV_get hi'), Em i, Fu i, rfl, rfl, ?_⟩
        rw [List.range_succ, List.map_append, List.map_append, d1, d2]
        rfl
      · rintro ys H' ⟨rfl, rfl⟩ l hl
        rw [en]
        refine kQ hz l _ (s1.trans (bh.same.trans (same_upd hl))) (s1.free (bh.same.free hl)) ?_
        rw [upd_same]
        rfl
end
section
variable {P : Program} {w : World} {K : PySem.W.Frag} {mg : Str → Option Value} {base : Heap} {C : Addr}
structure Errs (K : PySem.W.Frag) (mg : Str → Option Value) (PE NL NN TM BR W NO : Addr) : Prop where
  pe : mg "PaintError" = some (.ref PE)
  nl : mg "NoLaying" = some (.ref NL)
  nn : mg "NoNumber" = some (.ref NN)
  tm : mg "TooMany" = some (.ref TM)
  br : mg "BadRun" = some (.ref BR)
  wd : mg "Wide" = some (.ref W)
  no : mg "NoNote" = some (.ref NO)
  ve : mg "ValueError" = none
  pex : ExcC K PE
structure Marks (K : PySem.W.Frag) (PE NL NN TM BR W NO C : Addr) (b0 b1 b2 b3 b4 b5 : Bool) : Prop where
  ex : ExcC K C
  sub : PySem.W.mroIn K C (.ref PE) = some true
  m0 : PySem.W.kitOne K (.ref C) (.ref NL) = some b0
  m1 : PySem.W.kitOne K (.ref C) (.ref NN) = some b1
  m2 : PySem.W.kitOne K (.ref C) (.ref TM) = some b2
  m3 : PySem.W.kitOne K (.ref C) (.ref BR) = some b3
  m4 : PySem.W.kitOne K (.ref C) (.ref W) = some b4
  m5 : PySem.W.kitOne K (.ref C) (.ref NO) = some b5
  m6 : PySem.W.kitOne K (.ref C) (.type "ValueError") = some true
theorem kit_self : PySem.W.kitOne K (.ref C) (.ref C) = some true := by unfold PySem.W.kitOne; rw [if_pos (by simp)]
theorem kit_no {D : Addr} (h1 : PySem.W.mroIn K C (.ref C) = some true) (h2 : PySem.W.mroIn K C (.ref D) = some false) (h3 : PySem.W.isClsIn K D = true) (h4 : PySem.W.typeIn K (.ref D) = some (.type "type")) : PySem.W.kitOne K (.ref C) (.ref D) = some false := by
  have hne : C ≠ D := fun z => by rw [z] at h1 h2; rw [h1] at h2; cases h2
  unfold PySem.W.kitOne
  rw [if_neg (by simp; exact hne)]
  unfold PySem.W.kitCls
  unfold PySem.W.isClsIn at h3
  show (if ((PySem.W.clsIn K D).isSome && PySem.W.typeIn K (.ref D) == some (.type "type")) = true then PySem.W.subIn K (.ref C) (.ref D) else none) = some false
  rw [h3, h4, if_pos (by decide)]
  exact h2
theorem kit_val (h : PySem.W.mroIn K C (.type "ValueError") = some true) : PySem.W.kitOne K (.ref C) (.type "ValueError") = some true := by
  unfold PySem.W.kitOne
  rw [if_neg (by simp)]
  show (if PySem.W.kitMeta "ValueError" = true then PySem.W.subIn K (.ref C) (.type "ValueError") else none) = some true
  rw [if_pos (by decide +kernel)]
  exact h
theorem bt_ValueError : bootBuiltins "ValueError" = some (.type "ValueError") := by decide +kernel
end
section
variable {P : Program} {w : World} {K : PySem.W.Frag} {mg : Str → Option Value} {base : Heap} {C : Addr}
def marksL (n : Nat) : List Bool := [decide (0 = n), decide (1 = n), decide (2 = n), decide (3 = n), decide (4 = n), decide (5 = n), true]
end
section
variable {P : Program} {w : World} {K : PySem.W.Frag} {mg : Str → Option Value} {base : Heap} {C : Addr}
theorem isDs_bls {H : Hp} : ∀ (bs : List Bool), IsDs H (bs.map Dt.bl) (bs.map V.bl)
  | [] => by unfold IsDs; rfl
  | b :: bs => by
    rw [List.map_cons, List.map_cons]
    unfold IsDs
    exact ⟨V.bl b, bs.map V.bl, rfl, by unfold IsD; rfl, isDs_bls bs⟩
theorem isD_bls {H : Hp} {a : Addr} {bs : List Bool} (h : H a = some (.lst (bs.map V.bl))) : IsD H (.lst (bs.map Dt.bl)) (.ref a) := by unfold IsD; exact ⟨a, _, rfl, h, isDs_bls bs⟩
theorem depth_bls (bs : List Bool) : depthD (.lst (bs.map Dt.bl)) ≤ 20 := by
  rw [depth_l]
  have : depthDs (bs.map Dt.bl) ≤ 0 := by
    induction bs with
    | nil => simp [depthDs]
    | cons b bs ih => rw [List.map_cons]; unfold depthDs; simp [depthD]; omega
  omega
inductive sp__law_refused (vs : List V) (H : Hp) (Q : VK) (E_ : XK) : Prop
  | mk (m : Addr) (n : Nat) (z0 : vs = [.ref m, .int n]) (z1 : H m = some (.lst ((marksL n).map V.bl))) (z2 : ∀ H', Same H H' → Q (.bl true) H') : sp__law_refused  vs H Q E_
theorem sc__law_refused : FnScope ["marks", "which"] ["marks", "which"] (defScope s__law_refused) := ⟨rfl, rfl, rfl, by decide +kernel, rfl, by decide +kernel, by decide +kernel⟩
theorem ok__law_refused {f : Addr} {fd : FuncData} (F : Fun K "_law_refused" "_law_refused" s__law_refused f fd) (B : Bt mg) : FnOk P w K mg base CX0 1 f fd ["marks", "which"] sp__law_refused := by
  refine F.ok sc__law_refused (fun vs H Q E h => ?_) (fun cdv A outer s H vs Q E hr h => ?_)
  · obtain ⟨m, n, rfl, _⟩ := h
    rfl
  · obtain ⟨m, n, rfl, hm, k⟩ := h
    have hu := units20 hr
    refine ⟨_, (pss_one (ps_ret (pe_cmpR (op_eqD hu) (pv 0) (pe_op op_cat (pe_comp ["k"] [1] ⟨rfl, rfl, rfl, rfl, rfl⟩ rfl (pi_range1 rfl B.range (pa_cons pe_int pa_nil)) (fun _ _ _ _ _ => (pg_name (i := 0) (show (["k", "which"] : List Str).Nodup by decide +kernel) rfl (Or.inl rfl))) (fun _ _ _ _ _ => pcb_elt (pe_cmpR op_eq (pv 0) (pv 1) (nomark _)))) (pe_lst (pa_cons pe_bl pa_nil))) (nomark _)))), ?_⟩
    refine ⟨_, rfl, 6, rfl, by decide, by decide, comp_range (fun i ys H' => H' = H ∧ ys = ((List.range i).map fun k => decide (k = n)).map V.bl) ⟨rfl, rfl⟩ ?_ ?_ ?_ ?_⟩
    · exact Nat.le_of_lt (small1000 (by decide))
    · rintro i ys H' ⟨_, rfl⟩
      simp
    · rintro i ys H' hi ⟨rfl, rfl⟩
      refine ⟨rfl, ?_⟩
      refine ⟨_, rfl, _, rfl, rfl, rfl, ?_⟩
      rw [List.range_succ, List.map_append, List.map_append]
      have e : decide (V.int ((0 : Int) + (i : Nat)) = V.int (n : Nat)) = decide (i = n) := by
        by_cases h : i = n
        · rw [decide_eq_true h, dec_int1.mpr (by omega)]
        · rw [decide_eq_false h, decide_eq_false (fun z => h (by have := V.int.inj z; omega))]
      rw [e]
      rfl
    · rintro ys H' ⟨rfl, rfl⟩ l hl
      have s1 : Same H' (upd H' l (.lst (((List.range (6 : Int).toNat).map fun k => decide (k = n)).map V.bl))) := same_upd hl
      refine ⟨by show 1 ≤ sizeLine; decide, fun l2 hl2 => ?_⟩
      have n12 : l ≠ l2 := fun z => by rw [z, upd_same] at hl2; cases hl2
      have s2 := s1.trans (same_upd (o := HO.lst [V.bl true]) hl2)
      refine ⟨l, l2, _, _, rfl, rfl, (by rw [upd_ne n12, upd_same]), upd_same, by show 7 ≤ sizeLine; decide, fun l3 hl3 => ?_⟩
      have s3 := s2.trans (same_upd (o := HO.lst ((((List.range (6 : Int).toNat).map fun k => decide (k = n)).map V.bl) ++ [V.bl true])) hl3)
      refine ⟨.lst ((marksL n).map Dt.bl), .lst ((marksL n).map Dt.bl), isD_bls (s3 _ _ hm), isD_bls (by rw [upd_same]; rfl), rfl, rfl, depth_bls _, ?_⟩
      rw [eqD_refl]
      exact k _ s3
end
section
variable {P : Program} {w : World} {K : PySem.W.Frag} {mg : Str → Option Value} {base : Heap} {C : Addr}
theorem best_all {rs : List Nat} {s : Sight} {i : Nat} {M : Int} (hne : layL rs s ≠ []) (hM : M = 0 ∨ M = 1) (h : ∀ c ∈ layL rs s, c[i]? = some M) : bestO rs s i = some M := by
  obtain ⟨c, hc⟩ := List.exists_mem_of_ne_nil _ hne
  have h1 : hasB rs s i M = true := hasB_iff.mpr ⟨c, hc, h c hc⟩
  have h2 : ∀ M', M' ≠ M → hasB rs s i M' = false := fun M' hn => by
    cases q : hasB rs s i M' with
    | false => rfl
    | true =>
      obtain ⟨c', hc', e⟩ := hasB_iff.mp q
      rw [h c' hc'] at e
      exact absurd (Option.some.inj e).symm hn
  unfold bestO toldO
  rcases hM with rfl | rfl
  · rw [h1, h2 1 (by decide)]; rfl
  · rw [h1, h2 0 (by decide)]; rfl
theorem best_both {rs : List Nat} {s : Sight} {i : Nat} (h0 : ∃ c ∈ layL rs s, c[i]? = some 0) (h1 : ∃ c ∈ layL rs s, c[i]? = some 1) : bestO rs s i = none := by
  unfold bestO toldO
  rw [hasB_iff.mpr h0, hasB_iff.mpr h1]
  rfl
def bt (rs : List Nat) (s : Sight) (i : Nat) : Sight := (List.range s.length).map fun j => if j < i then bestO rs s j else s.getD j none
theorem btl_len (rs : List Nat) (s : Sight) (i : Nat) : (bt rs s i).length = s.length := by unfold bt; simp
theorem bt_get {rs : List Nat} {s : Sight} {i j : Nat} (h : j < s.length) : (bt rs s i)[j]? = some (if j < i then bestO rs s j else s.getD j none) := by unfold bt; rw [List.getElem?_map, List.getElem?_range h]; rfl
theorem bt_zero (rs : List Nat) (s : Sight) : bt rs s 0 = s := by
  apply List.ext_getElem?
  intro j
  by_cases h : j < s.length
  · rw [bt_get h, if_neg (Nat.not_lt_zero _), List.getElem?_eq_getElem h, getD_of (List.getElem?_eq_getElem h)]
  · rw [List.getElem?_eq_none (by rw [btl_len]; omega), List.getElem?_eq_none (by omega)]
theorem bt_all (rs : List Nat) (s : Sight) : bt rs s s.length = bestS rs s := by
  unfold bt bestS
  apply List.map_congr_left
  intro j hj
  rw [if_pos (List.mem_range.mp hj)]
theorem bt_step {rs : List Nat} {s : Sight} {i : Nat} (x : Option Int) (h : i < s.length) (hx : bestO rs s i = x) : (bt rs s i).set i x = bt rs s (i + 1) := by
  apply List.ext_getElem?
  intro j
  by_cases hj : j < s.length
  · rw [bt_get hj]
    by_cases hi : i = j
    · subst hi
      rw [List.getElem?_set_self (by rw [btl_len]; exact h), if_pos (by omega), hx]
    · rw [List.getElem?_set_ne hi, bt_get hj]
      by_cases h2 : j < i
      · rw [if_pos h2, if_pos (by omega)]
      · rw [if_neg h2, if_neg (by omega)]
  · rw [List.getElem?_eq_none (by rw [List.length_set, btl_len]; omega), List.getElem?_eq_none (by rw [btl_len]; omega)]
theorem set_same {s : Sight} {i : Nat} {x : Option Int} (h : s[i]? = some x) : s.set i x = s := by
  apply List.ext_getElem?
  intro j
  by_cases hi : i = j
  · subst hi
    rw [List.getElem?_set_self (List.getElem?_eq_some_iff.mp h).1, h]
  · rw [List.getElem?_set_ne hi]
theorem sightV_set (s : Sight) (i : Nat) (x : Option Int) : (sightV s).set i (vO x) = sightV (s.set i x) := by unfold sightV; rw [List.map_set]
inductive sp__law_best (vs : List V) (H : Hp) (Q : VK) (E_ : XK) : Prop
  | mk (tr ls : Addr) (rs : List Nat) (s : Sight) (z0 : vs = [.ref tr, .ref ls]) (z1 : H tr = some (.tup (runsV rs))) (z2 : H ls = some (.lst (sightV s))) (z3 : s.length ≤ 8) (z4 : (∀ k ∈ rs, 1 ≤ k)) (z5 : sightP s) (z6 : (layL rs s = [] → ∀ H', Same H H' → Q .non H') ∧ (layL rs s ≠ [] → ∀ l H', Same H H' → H l = none → H' l = some (.lst (sightV (bestS rs s))) → Q (.ref l) H')) : sp__law_best  vs H Q E_
theorem sc__law_best : FnScope ["runs", "sight", "rows", "found", "at", "cells"] ["runs", "sight"] (defScope s__law_best) := ⟨rfl, rfl, rfl, by decide +kernel, rfl, by decide +kernel, by decide +kernel⟩
theorem ok__law_best {f : Addr} {fd : FuncData} (F : Fun K "_law_best" "_law_best" s__law_best f fd) (B : Bt mg) (c__law_fitting : Callee P w K mg base CX0 "_law_fitting" 2 ["runs", "sight"] sp__law_fitting) : FnOk P w K mg base CX0 3 f fd ["runs", "sight"] sp__law_best := by
  refine F.ok sc__law_best (fun vs H Q E h => ?_) (fun cdv A outer s H vs Q E hr h => ?_)
  · obtain ⟨tr, ls, rs, s, rfl, _⟩ := h
    rfl
  · obtain ⟨tr, ls, rs, sg, rfl, htr, hls, hn, hrk, hsp, kN, kQ⟩ := h
    have hu := units20 hr
    refine ⟨_, (pss_cons (ps_set (i := 2) sc__law_best.nd rfl (Or.inl rfl) (pe_cal c__law_fitting hr (pa_cons (pv 0) (pa_cons (pv 1) pa_nil))))
      (pss_cons (ps_if (pt_cmpR (op_eqD hu) (pv 2) (pe_lst pa_nil) (nomark _))
      (pss_one (ps_ret pe_non))
      pss_nil)
      (pss_cons (ps_set (i := 3) sc__law_best.nd rfl (Or.inl rfl) (pe_callTy (call_listK K) rfl B.list bt_list (pa_cons (pv 1) pa_nil)))
      (pss_cons (ps_for PassesOwn.never rfl (pi_range1 rfl B.range (pa_cons (pe_callB (call_lenK K) rfl B.len bt_len (pa_cons (pv 1) pa_nil)) pa_nil)) (pg_name (i := 4) sc__law_best.nd rfl (Or.inr rfl))
      (pss_cons (ps_setComp (i := 5) ["row"] [4] sc__law_best.nd rfl rfl ⟨rfl, rfl, rfl, rfl, rfl⟩ rfl (pi_listK K (pv 2)) (fun _ _ _ _ _ => (pg_name (i := 0) (show (["row", "at"] : List Str).Nodup by decide +kernel) rfl (Or.inl rfl))) (fun _ _ _ _ _ => pcb_elt (pe_ix (ix_listK K) (pv 0) (pv 1) (fun _ _ => rfl))))
      (pss_one (ps_if (pt_cmpR op_eq (pe_callB (call_minLK K rfl) rfl B.min bt_min (pa_cons (pv 5) pa_nil)) (pe_callB (call_maxLK K rfl) rfl B.max bt_max (pa_cons (pv 5) pa_nil)) (nomark _))
      (pss_one (ps_asg (pe_ix (ix_listK K) (pv 5) pe_int (fun _ _ => rfl)) (pg_sub (pv 3) (pv 4) set_list)))
      pss_nil))))
      (pss_one (ps_ret (pv 3))))))), ?_⟩
    have hsl : (sightV sg).length = sg.length := by unfold sightV; rw [List.length_map]
    refine ⟨_, rfl, _, rfl, tr, ls, rs, sg, rfl, htr, hls, hn, hrk, hsp, fun lr as H1 O => ?_⟩
    have s1 := O.same
    refine ⟨_, rfl, Nat.zero_le _, fun e0 he0 => ?_⟩
    have s2 : Same H1 (upd H1 e0 (.lst [])) := same_upd he0
    refine ⟨dRows (layL rs sg), dRows [], IsD.mono s2 O.isD, (by unfold dRows IsD; exact ⟨e0, [], rfl, upd_same, by show IsDs _ [] []; unfold IsDs; rfl⟩), rfl, rfl, Nat.le_trans (depth_rows _) (by decide), _, rfl, ?_⟩
    have hlr : (upd H1 e0 (.lst [])) lr = some (.lst (as.map V.ref)) := s2 _ _ O.at'
    have hrow : ∀ (i : Nat) a xs, as[i]? = some a → (layL rs sg)[i]? = some xs → (upd H1 e0 (.lst [])) a = some (.lst (xs.map V.int)) := fun i a xs e1 e2 => s2 _ _ (O.row i a xs e1 e2)
    generalize upd H1 e0 (.lst []) = H2 at s2 hlr hrow ⊢
    have hal := O.len
    have s02 := s1.trans s2
    by_cases hz : layL rs sg = []
    · have : eqD (dRows (layL rs sg)) (dRows []) = true := by rw [hz]; exact eqD_refl _
      rw [this]
      exact iteT (kN hz H2 s02)
    have hneq : eqD (dRows (layL rs sg)) (dRows []) = false := by
      unfold dRows
      rw [eqD_ll]
      cases q : layL rs sg with
      | nil => exact absurd q hz
      | cons a b => rfl
    rw [hneq]
    refine iteF ⟨_, rfl, ls, _, rfl, .inl (SqL.of (s02 _ _ hls)), fun lf hlf => ?_⟩
    have flf : H lf = none := s02.free hlf
    have hll : (layL rs sg).length ≤ 256 := by
      rw [← fit_lay hrk hsp]
      refine Nat.le_trans (List.length_filter_le _ _) ?_
      rw [allBits_len]
      calc 2 ^ sg.length ≤ 2 ^ 8 := Nat.pow_le_pow_right (by decide) hn
        _ = 256 := rfl
    have s3 : Same H2 (upd H2 lf (.lst (sightV sg))) := same_upd hlf
    have hlen : ∀ c ∈ layL rs sg, c.length = sg.length := fun c hc => (lay_sound hrk hsp hc).1
    refine ⟨_, rfl, ls, _, rfl, .inl (SqL.of (s3 _ _ (s02 _ _ hls))), (sg.length : Int), (by rw [hsl]), by omega, by omega, for_range (lo := 0) (n := ((sg.length : Int)).toNat) (fun i σ H4 => ∃ (o4 o5 : Option V), σ = [some (.ref tr), some (.ref ls), some (.ref lr), some (.ref lf), o4, o5] ∧ Same H2 H4 ∧ H4 lf = some (.lst (sightV (bt rs sg i))))
      ⟨none, none, rfl, s3, by rw [upd_same, bt_zero]⟩ ?_ ?_⟩
    · rintro i σ H4 hi ⟨o4, o5, rfl, s4, hlf4⟩
      have e0i : (0 : Int) + (i : Nat) = (i : Nat) := Int.zero_add _
      rw [e0i]
      have hi' : i < sg.length := by omega
      have hcol : ∀ (j : Nat) (c : List Int), (layL rs sg)[j]? = some c → c[i]? = some (c.getD i 0) := fun j c e => by
        have hcl := hlen c (List.mem_of_getElem? e)
        rw [List.getElem?_eq_getElem (by omega), getD_of (List.getElem?_eq_getElem (by omega : i < c.length))]
      refine ⟨_, rfl, lr, rfl, ⟨_, SqL.of (s4 _ _ hlr)⟩, comp_list (K := K) (a := lr) (xs := as.map V.ref) (fun j ys H5 => H5 = H4 ∧ ys = (((layL rs sg).take j).map fun c => c.getD i 0).map V.int) ⟨rfl, rfl⟩ ?_ ?_ ?_ ?_ ?_⟩
      · exact Nat.le_of_lt (small1000 (by rw [List.length_map]; omega))
      · rintro j ys H5 ⟨_, rfl⟩
        rw [List.length_map, List.length_map, List.length_take]
        omega
      · rintro j ys H5 _ ⟨rfl, _⟩
        exact SqL.of (s4 _ _ hlr)
      · rintro j x ys H5 hj ⟨rfl, rfl⟩
        rw [List.getElem?_map] at hj
        obtain ⟨b, hb, rfl⟩ : ∃ b, as[j]? = some b ∧ x = .ref b := by
          cases q : as[j]? with
          | none => rw [q] at hj; cases hj
          | some b => rw [q] at hj; cases hj; exact ⟨b, rfl, rfl⟩
        have hjl : j < (layL rs sg).length := by rw [← hal]; exact (List.getElem?_eq_some_iff.mp hb).1
        obtain ⟨c, hc⟩ : ∃ c, (layL rs sg)[j]? = some c := ⟨_, List.getElem?_eq_getElem hjl⟩
        have hcg : (c.map V.int)[i]? = some (.int (c.getD i 0)) := by rw [List.getElem?_map, hcol j c hc]; rfl
        refine ⟨rfl, ?_⟩
        refine ⟨_, rfl, _, rfl, b, _, _, .int (c.getD i 0), rfl, rfl, SqL.of (s4 _ _ (hrow j b c hb hc)), atI_nat hcg, rfl, ?_⟩
        rw [List.take_add_one, hc, List.map_append, List.map_append]
        rfl
      · rintro ys H5 ⟨rfl, rfl⟩ lc hlc
        rw [List.length_map, hal, List.take_length]
        have s5 : Same H5 (upd H5 lc (.lst (((layL rs sg).map fun c => c.getD i 0).map V.int))) := same_upd hlc
        have hlc5 : (upd H5 lc (.lst (((layL rs sg).map fun c => c.getD i 0).map V.int))) lc = some (.lst (((layL rs sg).map fun c => c.getD i 0).map V.int)) := upd_same
        generalize upd H5 lc (.lst (((layL rs sg).map fun c => c.getD i 0).map V.int)) = H6 at s5 hlc5 ⊢
        have hpos : 0 < ((layL rs sg).map fun c => c.getD i 0).length := by
          rw [List.length_map]
          have : (layL rs sg).length ≠ 0 := fun z => hz (List.length_eq_zero_iff.mp z)
          omega
        have memC : ∀ c ∈ layL rs sg, c[i]? = some (c.getD i 0) ∧ (c.getD i 0 = 0 ∨ c.getD i 0 = 1) ∧ (sg.getD i none = none ∨ sg.getD i none = some (c.getD i 0)) := fun c hc => by
          obtain ⟨j, hj, e⟩ := List.mem_iff_getElem.mp hc
          have h1 := hcol j c (by rw [List.getElem?_eq_getElem hj, e])
          refine ⟨h1, lay_bits _ rs sg c rfl hc _ (List.mem_of_getElem? h1), ?_⟩
          have hk := (lay_sound hrk hsp hc).2.2
          rw [keepsB_zip, List.all_eq_true] at hk
          have hcl := hlen c hc
          have h2 : i < (List.zipWith keepF sg c).length := by rw [List.length_zipWith]; omega
          have h3 := hk _ (List.getElem_mem h2)
          rw [List.getElem_zipWith] at h3
          have h4 : keepF (sg.getD i none) (c.getD i 0) = true := by
            rw [getD_of (List.getElem?_eq_getElem hi'), getD_of (List.getElem?_eq_getElem (by omega : i < c.length))]
            exact h3
          unfold keepF at h4
          rw [Bool.or_eq_true, decide_eq_true_eq, decide_eq_true_eq] at h4
          exact h4
        refine ⟨_, rfl, lc, _, rfl, SqL.of hlc5, hpos, fun m1 hm1 hm2 => ⟨_, rfl, lc, _, rfl, SqL.of hlc5, hpos, fun m2 hx1 hx2 => ⟨rfl, _, rfl, ?_⟩⟩⟩
        have ne : lf ≠ lc := ne_of_none hlf4 hlc
        refine ite2 (fun hc1 => ?_) (fun hc1 => ?_)
        · have hmm : m1 = m2 := V.int.inj (of_decide_eq_true hc1)
          subst hmm
          have hall : ∀ c ∈ layL rs sg, c[i]? = some m1 := fun c hc => by
            have h1 := (memC c hc).1
            have h2 : c.getD i 0 ∈ (layL rs sg).map fun c => c.getD i 0 := List.mem_map.mpr ⟨c, hc, rfl⟩
            have h3 := hm2 _ h2
            have h4 := hx2 _ h2
            rw [h1, show c.getD i 0 = m1 by omega]
          obtain ⟨c0, r0, hq0⟩ : ∃ c0 r0, layL rs sg = c0 :: r0 := by
            cases q : layL rs sg with
            | nil => exact absurd q hz
            | cons a b => exact ⟨a, b, rfl⟩
          have hc0 : c0 ∈ layL rs sg := by rw [hq0]; exact List.mem_cons_self ..
          have hbit : m1 = 0 ∨ m1 = 1 := by
            have h1 := (memC c0 hc0).1
            rw [hall c0 hc0] at h1
            rw [Option.some.inj h1]
            exact (memC c0 hc0).2.1
          have hg0 : (((layL rs sg).map fun c => c.getD i 0).map V.int)[0]? = some (.int m1) := by
            rw [hq0]
            show some (V.int (c0.getD i 0)) = _
            have h1 := (memC c0 hc0).1
            rw [hall c0 hc0] at h1
            rw [← Option.some.inj h1]
          refine ⟨_, rfl, lc, _, 0, .int m1, rfl, rfl, SqL.of hlc5, atI_nat hg0, _, rfl, _, rfl, lf, _, _, i, rfl, rfl, s5 _ _ hlf4, (by rw [show (sightV (bt rs sg i)).length = sg.length by unfold sightV; rw [List.length_map, btl_len]]; exact ixN_nat hi'), ?_⟩
          refine ⟨_, _, rfl, same_upd' (s4.trans s5) hlf, ?_⟩
          rw [upd_same]
          have : (sightV (bt rs sg i)).set i (V.int m1) = sightV (bt rs sg (i + 1)) := by
            rw [show V.int m1 = vO (some m1) from rfl, sightV_set, bt_step (some m1) hi' (best_all hz hbit hall)]
          rw [this]
        · have hmm : m1 ≠ m2 := fun z => hc1 (decide_eq_true (by rw [z]))
          obtain ⟨c1, hc1m, e1⟩ := List.mem_map.mp hm1
          obtain ⟨c2, hc2m, e2⟩ := List.mem_map.mp hx1
          have q1 := memC c1 hc1m
          have q2 := memC c2 hc2m
          rw [show c1.getD i 0 = m1 from e1] at q1
          rw [show c2.getD i 0 = m2 from e2] at q2
          have hnone : sg.getD i none = none := by
            rcases q1.2.2 with z | z
            · exact z
            · rcases q2.2.2 with z' | z'
              · exact z'
              · rw [z] at z'
                exact absurd (Option.some.inj z') hmm
          have hb : bestO rs sg i = none := by
            rcases q1.2.1 with z | z
            · rcases q2.2.1 with z' | z'
              · exact absurd (z.trans z'.symm) hmm
              · exact best_both ⟨c1, hc1m, by rw [q1.1, z]⟩ ⟨c2, hc2m, by rw [q2.1, z']⟩
            · rcases q2.2.1 with z' | z'
              · exact best_both ⟨c2, hc2m, by rw [q2.1, z']⟩ ⟨c1, hc1m, by rw [q1.1, z]⟩
              · exact absurd (z.trans z'.symm) hmm
          refine ⟨_, _, rfl, s4.trans s5, ?_⟩
          rw [s5 _ _ hlf4, ← bt_step none hi' hb, set_same]
          rw [bt_get hi', if_neg (Nat.lt_irrefl _), hnone]
    · rintro σ H4 ⟨o4, o5, rfl, s4, hlf4⟩
      have en : ((sg.length : Int)).toNat = sg.length := by omega
      rw [en, bt_all] at hlf4
      exact ⟨_, rfl, kQ hz lf H4 (s02.trans s4) flf hlf4⟩
end
section
theorem sight_snoc (s : Sight) (x : Option Int) : sightV s ++ [vO x] = sightV (s ++ [x]) := by unfold sightV; rw [List.map_append]; rfl
theorem sightP_snoc {s : Sight} {x : Option Int} (h : sightP s) (hx : x = none ∨ x = some 0 ∨ x = some 1) : sightP (s ++ [x]) := fun y hy => by
  rcases List.mem_append.mp hy with q | q
  · exact h y q
  · rw [List.mem_singleton.mp q]; exact hx
end
section
theorem keeps_iff {s : Sight} {c : List Int} (h : c.length = s.length) : keepsB s c = true ↔ ∀ i, i < s.length → s.getD i none = none ∨ s.getD i none = some (c.getD i 0) := by
  rw [keepsB_zip, List.all_eq_true]
  constructor
  · intro q i hi
    have h2 : i < (List.zipWith keepF s c).length := by rw [List.length_zipWith]; omega
    have h3 := q _ (List.getElem_mem h2)
    rw [List.getElem_zipWith] at h3
    have h4 : keepF (s.getD i none) (c.getD i 0) = true := by
      rw [getD_of (List.getElem?_eq_getElem hi), getD_of (List.getElem?_eq_getElem (by omega : i < c.length))]
      exact h3
    unfold keepF at h4
    rw [Bool.or_eq_true, decide_eq_true_eq, decide_eq_true_eq] at h4
    exact h4
  · intro q x hx
    obtain ⟨i, hi, rfl⟩ := List.mem_iff_getElem.mp hx
    rw [List.length_zipWith] at hi
    rw [List.getElem_zipWith]
    have := q i (by omega)
    rw [getD_of (List.getElem?_eq_getElem (by omega : i < s.length)), getD_of (List.getElem?_eq_getElem (by omega : i < c.length))] at this
    show keepF s[i] c[i] = true
    unfold keepF
    rw [Bool.or_eq_true, decide_eq_true_eq, decide_eq_true_eq]
    exact this
theorem lay_iff {rs : List Nat} {s : Sight} {c : List Int} (hr : ∀ k ∈ rs, 1 ≤ k) (hs : sightP s) : c ∈ layL rs s ↔ bitsP c ∧ c.length = s.length ∧ runsZ c = runsI rs ∧ ∀ i, i < s.length → s.getD i none = none ∨ s.getD i none = some (c.getD i 0) := by
  constructor
  · intro h
    have hb := lay_bits _ rs s c rfl h
    obtain ⟨h1, h2, h3⟩ := (mem_lay _ rs s c rfl hr hs hb).mp h
    exact ⟨hb, h1, h2, (keeps_iff h1).mp h3⟩
  · rintro ⟨hb, h1, h2, h3⟩
    exact (mem_lay _ rs s c rfl hr hs hb).mpr ⟨h1, h2, (keeps_iff h1).mpr h3⟩
theorem lay_at {rs : List Nat} {s : Sight} {c : List Int} {i : Nat} (hr : ∀ k ∈ rs, 1 ≤ k) (hs : sightP s) (hc : c ∈ layL rs s) (hi : i < s.length) : c[i]? = some (c.getD i 0) ∧ (c.getD i 0 = 0 ∨ c.getD i 0 = 1) := by
  obtain ⟨hb, h1, _⟩ := (lay_iff hr hs).mp hc
  have h2 : c[i]? = some (c.getD i 0) := by rw [List.getElem?_eq_getElem (by omega), getD_of (List.getElem?_eq_getElem (by omega : i < c.length))]
  exact ⟨h2, hb _ (List.mem_of_getElem? h2)⟩
theorem best_told {rs : List Nat} {s : Sight} {i : Nat} {z : Int} (hr : ∀ k ∈ rs, 1 ≤ k) (hs : sightP s) (hne : layL rs s ≠ []) (hi : i < s.length) (h : s.getD i none = some z) : bestO rs s i = some z := by
  have all : ∀ c ∈ layL rs s, c.getD i 0 = z := fun c hc => by
    rcases ((lay_iff hr hs).mp hc).2.2.2 i hi with q | q
    · rw [h] at q; cases q
    · rw [h] at q; exact (Option.some.inj q).symm
  obtain ⟨c0, hc0⟩ := List.exists_mem_of_ne_nil _ hne
  refine best_all hne ?_ fun c hc => ?_
  · rw [← all c0 hc0]; exact (lay_at hr hs hc0 hi).2
  · rw [(lay_at hr hs hc hi).1, all c hc]
theorem bestS_get {rs : List Nat} {s : Sight} {i : Nat} (hi : i < s.length) : (bestS rs s).getD i none = bestO rs s i := by
  refine getD_of ?_
  unfold bestS
  rw [List.getElem?_map, List.getElem?_range hi]
  rfl
theorem best_len (rs : List Nat) (s : Sight) : (bestS rs s).length = s.length := by unfold bestS; simp
theorem best_P (rs : List Nat) (s : Sight) : sightP (bestS rs s) := fun x hx => by
  unfold bestS at hx
  obtain ⟨i, _, rfl⟩ := List.mem_map.mp hx
  unfold bestO toldO
  cases hasB rs s i 0 <;> cases hasB rs s i 1 <;> simp
end
section
structure BOk (h w : Nat) (b : Brd) : Prop where
  rows : b.1.length = h
  cols : b.2.length = w
  r1 : ∀ xs ∈ b.1, (∀ x ∈ xs, 1 ≤ x ∧ x ≤ 500) ∧ xs.length ≤ 100
  r2 : ∀ xs ∈ b.2, (∀ x ∈ xs, 1 ≤ x ∧ x ≤ 500) ∧ xs.length ≤ 100
theorem runsV_nat {xs : List Int} (h : ∀ x ∈ xs, 1 ≤ x ∧ x ≤ 500) : xs.map V.int = runsV (natR xs) := by
  unfold runsV natR
  rw [List.map_map]
  apply List.map_congr_left
  intro x hx
  have := h x hx
  show V.int x = V.int ((x.toNat : Nat) : Int)
  rw [Int.toNat_of_nonneg (by omega)]
theorem natR_ok {xs : List Int} (h : ∀ x ∈ xs, 1 ≤ x ∧ x ≤ 500) : ∀ k ∈ natR xs, 1 ≤ k ∧ k ≤ 500 := fun k hk => by
  obtain ⟨x, hx, rfl⟩ := List.mem_map.mp hk
  have := h x hx
  omega
theorem BOk.at' {h w : Nat} {b : Brd} (o : BOk h w b) {l : Nat × Nat} (hl : LOk h w l) : ∃ xs, (if l.1 = 0 then b.1 else b.2)[l.2]? = some xs ∧ runsAt b l.1 l.2 = natR xs ∧ (∀ x ∈ xs, 1 ≤ x ∧ x ≤ 500) ∧ xs.length ≤ 100 := by
  have e1 := o.rows
  have e2 := o.cols
  unfold runsAt
  rcases hl with ⟨h1, h2⟩ | ⟨h1, h2⟩
  · rw [if_pos h1]
    have h3 : l.2 < b.1.length := by omega
    refine ⟨_, List.getElem?_eq_getElem h3, by rw [getD_of (List.getElem?_eq_getElem h3)], o.r1 _ (List.getElem_mem h3)⟩
  · rw [if_neg (by omega)]
    have h3 : l.2 < b.2.length := by omega
    refine ⟨_, List.getElem?_eq_getElem h3, by rw [getD_of (List.getElem?_eq_getElem h3)], o.r2 _ (List.getElem_mem h3)⟩
theorem BOk.pos {h w : Nat} {b : Brd} (o : BOk h w b) {l : Nat × Nat} (hl : LOk h w l) : ∀ k ∈ runsAt b l.1 l.2, 1 ≤ k := by
  obtain ⟨xs, _, e, hx, _⟩ := o.at' hl
  rw [e]
  exact fun k hk => (natR_ok hx k hk).1
theorem best_bit (rs : List Nat) (s : Sight) (p : Nat) : bitO ((bestS rs s).getD p none) := by
  by_cases h : p < (bestS rs s).length
  · rw [getD_of (List.getElem?_eq_getElem h)]
    exact best_P rs s _ (List.getElem_mem h)
  · rw [List.getD_eq_getElem?_getD, List.getElem?_eq_none (by omega)]
    exact .inl rfl
theorem told_mem {s t : Sight} {pc : Nat × Option Int} (h : pc ∈ toldL s t) : pc.1 < s.length ∧ pc.2 = t.getD pc.1 none ∧ s.getD pc.1 none ≠ pc.2 := by
  unfold toldL at h
  obtain ⟨p, hp, e⟩ := List.mem_filterMap.mp h
  unfold toldF at e
  split at e
  · cases e
  · rename_i q
    cases e
    exact ⟨List.mem_range.mp hp, rfl, q⟩
structure StepOk (h w : Nat) (b : Brd) (l : Nat × Nat) (v v' : View) : Prop where
  ok : VOk h w v'
  on : ∀ p, p < lenL h w l → cellV v' (posL l p).1 (posL l p).2 = bestO (runsAt b l.1 l.2) (sightAt v l.1 l.2) p
  off : ∀ i j, (∀ p, p < lenL h w l → (i, j) ≠ posL l p) → cellV v' i j = cellV v i j
  le : LeV h w v v'
  lt : toldAt b l v ≠ [] → unk v' < unk v
  eq : toldAt b l v = [] → v' = v
theorem step_ok {h w : Nat} {b : Brd} {l : Nat × Nat} {v : View} (o : VOk h w v) (ob : BOk h w b) (hl : LOk h w l) (hne : layAt b l v ≠ []) : StepOk h w b l v ((toldAt b l v).foldl (tellV l.1 l.2) v) := by
  have hlen := sightAt_len o hl
  have hP := sightAt_P o hl
  have hr := ob.pos hl
  obtain ⟨a1, a2, a3⟩ := told_fold o hl (t := bestS (runsAt b l.1 l.2) (sightAt v l.1 l.2)) (best_bit _ _) (lenL h w l) (Nat.le_refl _)
  have e : (List.range (lenL h w l)).filterMap (toldF (sightAt v l.1 l.2) (bestS (runsAt b l.1 l.2) (sightAt v l.1 l.2))) = toldAt b l v := by unfold toldAt toldL; rw [hlen]
  rw [e] at a1 a2 a3
  have on : ∀ p, p < lenL h w l → cellV ((toldAt b l v).foldl (tellV l.1 l.2) v) (posL l p).1 (posL l p).2 = bestO (runsAt b l.1 l.2) (sightAt v l.1 l.2) p := fun p hp => by rw [a2 p hp, bestS_get (by omega)]
  have le : LeV h w v ((toldAt b l v).foldl (tellV l.1 l.2) v) := fun i j hi hj z ez => by
    by_cases hq : ∃ p, p < lenL h w l ∧ (i, j) = posL l p
    · obtain ⟨p, hp, hpe⟩ := hq
      have e1 : i = (posL l p).1 := congrArg Prod.fst hpe
      have e2 : j = (posL l p).2 := congrArg Prod.snd hpe
      rw [e1, e2] at ez ⊢
      rw [on p hp]
      refine best_told hr hP hne (by omega) ?_
      rw [sightAt_get o hl hp]
      exact ez
    · rw [a3 i j fun p hp z => hq ⟨p, hp, z⟩]
      exact ez
  refine ⟨a1, on, a3, le, fun ht => ?_, fun ht => by rw [ht]; rfl⟩
  obtain ⟨⟨p, x⟩, hm⟩ := List.exists_mem_of_ne_nil _ ht
  obtain ⟨h1, h2, h3⟩ := told_mem hm
  replace h1 : p < (sightAt v l.1 l.2).length := h1
  replace h2 : x = (bestS (runsAt b l.1 l.2) (sightAt v l.1 l.2)).getD p none := h2
  replace h3 : (sightAt v l.1 l.2).getD p none ≠ x := h3
  rw [bestS_get h1] at h2
  have hs : (sightAt v l.1 l.2).getD p none = none := by
    cases q : (sightAt v l.1 l.2).getD p none with
    | none => rfl
    | some z => exact absurd (by rw [h2, q, best_told hr hP hne h1 q]) h3
  obtain ⟨q1, q2⟩ := posL_in hl (p := p) (by omega)
  refine unk_lt o a1 le q1 q2 ?_ ?_
  · rw [← sightAt_get o hl (by omega)]; exact hs
  · rw [on p (by omega), ← h2]
    intro z
    rw [z] at h3
    exact h3 hs
theorem stepV_some {b : Brd} {l : Nat × Nat} {st st' : NSt} (h : stepV b l st = some st') : layAt b l st.1 ≠ [] ∧ st' = ((toldAt b l st.1).foldl (tellV l.1 l.2) st.1, if toldAt b l st.1 = [] then st.2 else st.2 ++ [⟨l.1, l.2, toldAt b l st.1⟩]) := by
  unfold stepV at h
  split at h
  · cases h
  · rename_i q
    cases h
    exact ⟨q, rfl⟩
theorem stepV_size {h w : Nat} {b : Brd} {l : Nat × Nat} {st st' : NSt} (o : VOk h w st.1) (ob : BOk h w b) (hl : LOk h w l) (e : stepV b l st = some st') : VOk h w st'.1 ∧ LeV h w st.1 st'.1 ∧ st.2.length ≤ st'.2.length ∧ st'.2.length + unk st'.1 ≤ st.2.length + unk st.1 ∧ (st'.2.length = st.2.length → st' = st) := by
  obtain ⟨hne, rfl⟩ := stepV_some e
  have S := step_ok o ob hl hne
  refine ⟨S.ok, S.le, ?_, ?_, ?_⟩
  · show st.2.length ≤ (if toldAt b l st.1 = [] then st.2 else st.2 ++ [⟨l.1, l.2, toldAt b l st.1⟩]).length
    split
    · exact Nat.le_refl _
    · rw [List.length_append]; omega
  · show (if toldAt b l st.1 = [] then st.2 else st.2 ++ [⟨l.1, l.2, toldAt b l st.1⟩]).length + unk ((toldAt b l st.1).foldl (tellV l.1 l.2) st.1) ≤ _
    split
    · rename_i q
      rw [S.eq q]
      exact Nat.le_refl _
    · rename_i q
      have := S.lt q
      rw [List.length_append]
      simp
      omega
  · intro hq
    replace hq : (if toldAt b l st.1 = [] then st.2 else st.2 ++ [⟨l.1, l.2, toldAt b l st.1⟩]).length = st.2.length := hq
    by_cases q : toldAt b l st.1 = []
    · rw [if_pos q, S.eq q]
    · rw [if_neg q, List.length_append] at hq
      simp at hq
theorem goV_size {h w : Nat} {b : Brd} (ob : BOk h w b) : ∀ {ls : List (Nat × Nat)} {st st' : NSt}, VOk h w st.1 → (∀ l ∈ ls, LOk h w l) → goV b ls st = some st' → VOk h w st'.1 ∧ LeV h w st.1 st'.1 ∧ st.2.length ≤ st'.2.length ∧ st'.2.length + unk st'.1 ≤ st.2.length + unk st.1 ∧ (st'.2.length = st.2.length → st' = st)
  | [], st, st', o, _, e => by
    cases (show some st = some st' from e)
    exact ⟨o, LeV.refl _, Nat.le_refl _, Nat.le_refl _, fun _ => rfl⟩
  | l :: ls, st, st', o, hl, e => by
    replace e : (stepV b l st).bind (goV b ls) = some st' := e
    cases q : stepV b l st with
    | none => rw [q] at e; cases e
    | some st1 =>
      rw [q] at e
      obtain ⟨a1, a2, a3, a4, a5⟩ := stepV_size o ob (hl l List.mem_cons_self) q
      obtain ⟨b1, b2, b3, b4, b5⟩ := goV_size ob (ls := ls) (st := st1) (st' := st') a1 (fun l hl' => hl l (List.mem_cons_of_mem _ hl')) e
      refine ⟨b1, a2.trans b2, by omega, by omega, fun hq => ?_⟩
      rw [b5 (by omega), a5 (by omega)]
theorem lines_ok {h w : Nat} {b : Brd} (ob : BOk h w b) : ∀ l ∈ linesB b, LOk h w l := fun l hl => by
  unfold linesB at hl
  rcases List.mem_append.mp hl with z | z
  · obtain ⟨i, hi, rfl⟩ := List.mem_map.mp z
    exact .inl ⟨rfl, by rw [← ob.rows]; exact List.mem_range.mp hi⟩
  · obtain ⟨i, hi, rfl⟩ := List.mem_map.mp z
    exact .inr ⟨rfl, by rw [← ob.cols]; exact List.mem_range.mp hi⟩
theorem roundV_size {h w : Nat} {b : Brd} (ob : BOk h w b) {st st' : NSt} (o : VOk h w st.1) (e : roundV b st = some st') : VOk h w st'.1 ∧ LeV h w st.1 st'.1 ∧ st.2.length ≤ st'.2.length ∧ st'.2.length + unk st'.1 ≤ st.2.length + unk st.1 ∧ (st'.2.length = st.2.length → st' = st) :=
  goV_size ob o (lines_ok ob) e
end
section
variable {P : Program} {w : World} {K : PySem.W.Frag} {mg : Str → Option Value} {base : Heap} {C : Addr}
structure NT (K : PySem.W.Frag) (C : Addr) : Prop where
  cl : Cls K C
  nB : NoAttr K C "board"
  nV : NoAttr K C "view"
  nF : NoAttr K C "found"
theorem vO_ne {x y : Option Int} : decide (vO x = vO y) = decide (x = y) := by
  by_cases h : x = y
  · rw [decide_eq_true h, decide_eq_true (by rw [h])]
  · rw [decide_eq_false h, decide_eq_false]
    intro z
    apply h
    cases x <;> cases y
    · rfl
    · cases z
    · cases z
    · exact congrArg some (V.int.inj z)
theorem vO_scal2 {x y : Option Int} : scal (vO x) (vO y) = true := by cases x <;> cases y <;> rfl
theorem sightV_getD {s : Sight} {p : Nat} (h : p < s.length) : (sightV s)[p]? = some (vO (s.getD p none)) := by rw [sightV_get h, getD_of (List.getElem?_eq_getElem h)]
theorem sightV_len (s : Sight) : (sightV s).length = s.length := by unfold sightV; rw [List.length_map]
inductive sp_cells_told (vs : List V) (H : Hp) (Q : VK) (E_ : XK) : Prop
  | mk (ls lb : Addr) (s t : Sight) (z0 : vs = [.ref ls, .ref lb]) (z1 : H ls = some (.lst (sightV s))) (z2 : H lb = some (.lst (sightV t))) (z3 : s.length = t.length) (z4 : s.length ≤ 100) (z5 : ∀ l H', Same H H' → H l = none → IsD (newer H H') (dTold (toldL s t)) (.ref l) → Q (.ref l) H') : sp_cells_told  vs H Q E_
theorem sc_cells_told : FnScope ["sight", "better"] ["sight", "better"] (defScope s_cells_told) := ⟨rfl, rfl, rfl, by decide +kernel, rfl, by decide +kernel, by decide +kernel⟩
theorem ok_cells_told {f : Addr} {fd : FuncData} (F : Fun K "cells_told" "cells_told" s_cells_told f fd) (B : Bt mg) : FnOk P w K mg base CX0 1 f fd ["sight", "better"] sp_cells_told := by
  refine F.ok sc_cells_told (fun vs H Q E h => ?_) (fun cdv A outer s H vs Q E hr h => ?_)
  · obtain ⟨ls, lb, s, t, rfl, _⟩ := h
    rfl
  · obtain ⟨ls, lb, s, t, rfl, hls, hlb, hst, hn, k⟩ := h
    refine ⟨_, (pss_one (ps_ret (pe_comp ["place"] [1, 0] ⟨rfl, rfl, rfl, rfl, rfl⟩ rfl (pi_range1 rfl B.range (pa_cons (pe_callB (call_lenK K) rfl B.len bt_len (pa_cons (pv 0) pa_nil)) pa_nil)) (fun _ _ _ _ _ => (pg_name (i := 0) (show (["place", "better", "sight"] : List Str).Nodup by decide +kernel) rfl (Or.inl rfl))) (fun _ _ _ _ _ => pcb_if (pt_cmpR op_ne (pe_ix (ix_listK K) (pv 2) (pv 0) (fun _ _ => rfl)) (pe_ix (ix_listK K) (pv 1) (pv 0) (fun _ _ => rfl)) (nomark _)) (pe_tup (pa_cons (pv 0) (pa_cons (pe_ix (ix_listK K) (pv 1) (pv 0) (fun _ _ => rfl)) pa_nil))))))), ?_⟩
    have hsl := sightV_len s
    refine ⟨_, rfl, ls, _, rfl, .inl (SqL.of hls), ((sightV s).length : Nat), rfl, by omega, by omega, comp_range (fun i ys H' => ys.length ≤ i ∧ Same H H' ∧ IsDs (newer H H') (((List.range i).filterMap (toldF s t)).map dCell) ys) ⟨Nat.le_refl _, Same.refl _, by show IsDs _ [] []; unfold IsDs; rfl⟩ ?_ ?_ ?_ ?_⟩
    · exact Nat.le_of_lt (small1000 (by omega))
    · rintro i ys H' ⟨h, _⟩
      exact h
    · rintro i ys H' hi ⟨hl, sm, hd⟩
      have hi' : i < s.length := by omega
      refine ⟨rfl, ?_⟩
      have e0 : (0 : Int) + (i : Int) = ((i : Nat) : Int) := by omega
      refine ⟨_, rfl, _, rfl, ls, _, _, _, rfl, rfl, SqL.of (sm _ _ hls), (by rw [e0]; exact atI_nat (sightV_getD hi')), _, rfl, _, rfl, lb, _, _, _, rfl, rfl, SqL.of (sm _ _ hlb), (by rw [e0]; exact atI_nat (sightV_getD (by omega))), vO_scal2, _, rfl, ?_⟩
      rw [List.range_succ, List.filterMap_append, vO_ne]
      by_cases hq : s.getD i none = t.getD i none
      · have e : List.filterMap (toldF s t) [i] = [] := by
          rw [List.filterMap_cons_none (by unfold toldF; rw [if_pos hq])]
          rfl
        rw [decide_eq_true hq]
        refine iteF ?_
        rw [e, List.append_nil]
        exact ⟨by omega, sm, hd⟩
      · have e : List.filterMap (toldF s t) [i] = [(i, t.getD i none)] := by
          rw [List.filterMap_cons_some (b := (i, t.getD i none)) (by unfold toldF; rw [if_neg hq])]
          rfl
        rw [decide_eq_false hq]
        refine iteT ⟨_, rfl, _, rfl, _, rfl, lb, _, _, _, rfl, rfl, SqL.of (sm _ _ hlb), (by rw [e0]; exact atI_nat (sightV_getD (by omega))), by show 2 ≤ sizeLine; decide, fun a ha => ?_⟩
        rw [e, List.map_append]
        have s2 : Same H' (upd H' a (.tup [.int (0 + (i : Int)), vO (t.getD i none)])) := same_upd ha
        refine ⟨by rw [List.length_append]; simp; omega, sm.trans s2, (IsDs.mono (newer_mono s2) hd).snoc (isD_cell (newer_of ?_ (sm.free ha)))⟩
        rw [upd_same, e0]
    · rintro ys H' ⟨hl, sm, hd⟩ l hl'
      rw [Int.toNat_natCast, hsl] at hd
      have s2 : Same H' (upd H' l (.lst ys)) := same_upd hl'
      exact k l _ (sm.trans s2) (sm.free hl') (mk_told (newer_of upd_same (sm.free hl')) (IsDs.mono (newer_mono s2) hd))
inductive sp_sight_of (C : Addr) (vs : List V) (H : Hp) (Q : VK) (E_ : XK) : Prop
  | mk (H0 : Hp) (c tb lv lf : Addr) (as : List Addr) (b : Brd) (st : NSt) (h wd : Nat) (l : Nat × Nat) (z0 : vs = [.ref c, .str (kindT l.1), .int (l.2 : Nat)]) (z1 : NP C H0 H c tb lv lf as b st) (z2 : VOk h wd st.1) (z3 : h ≤ 100) (z4 : LOk h wd l) (z5 : ∀ a H', Same H H' → H' a = some (.lst (sightV (sightAt st.1 l.1 l.2))) → Q (.ref a) H') : sp_sight_of C vs H Q E_
theorem sc_Narrowing_sight_of : FnScope ["self", "kind", "number"] ["self", "kind", "number"] (defScope s_Narrowing_sight_of) := ⟨rfl, rfl, rfl, by decide +kernel, rfl, by decide +kernel, by decide +kernel⟩
theorem ok_Narrowing_sight_of {f : Addr} {fd : FuncData} (F : Fun K "sight_of" "Narrowing.sight_of" s_Narrowing_sight_of f fd) (T : NT K C) : FnOk P w K mg base CX0 1 f fd ["self", "kind", "number"] (sp_sight_of C) := by
  refine F.ok sc_Narrowing_sight_of (fun vs H Q E h => ?_) (fun cdv A outer s H vs Q E hr h => ?_)
  · obtain ⟨H0, c, tb, lv, lf, as, b, st, h, wd, l, rfl, _⟩ := h
    rfl
  · obtain ⟨H0, c, tb, lv, lf, as, b, st, h, wd, ⟨sd, n⟩, rfl, np, vo, hh, hl, k⟩ := h
    refine ⟨_, (pss_cons (ps_if (pt_cmpR op_eq (pv 1) pe_str (nomark _))
      (pss_one (ps_ret (pe_ix (ix_listK K) (pe_fld (pv 0) rfl) (pv 2) (fun _ _ => rfl))))
      pss_nil)
      (pss_one (ps_ret (pe_comp ["sight"] [2] ⟨rfl, rfl, rfl, rfl, rfl⟩ rfl (pi_listK K (pe_fld (pv 0) rfl)) (fun _ _ _ _ _ => (pg_name (i := 0) (show (["sight", "number"] : List Str).Nodup by decide +kernel) rfl (Or.inl rfl))) (fun _ _ _ _ _ => pcb_elt (pe_ix (ix_listK K) (pv 0) (pv 1) (fun _ _ => rfl))))))), ?_⟩
    obtain ⟨dx, hc⟩ := np.ins
    have hvl := vo.len
    refine ⟨_, rfl, rfl, _, rfl, ?_⟩
    rcases hl with ⟨h1, h2⟩ | ⟨h1, h2⟩
    · replace h1 : sd = 0 := h1
      replace h2 : n < h := h2
      subst h1
      refine iteT ?_
      obtain ⟨a, ha, hra⟩ := np.rowAt (i := n) (by omega)
      exact ⟨_, rfl, c, C, dx, _, _, rfl, hc, T.cl, T.nV, lk_view _ _ _, _, rfl, lv, _, _, .ref a, rfl, rfl, SqL.of np.vw, atI_nat (by rw [List.getElem?_map, ha]; rfl), k a H (Same.refl _) hra⟩
    · replace h1 : sd = 1 := h1
      replace h2 : n < wd := h2
      subst h1
      refine iteF ?_
      refine ⟨_, rfl, c, C, dx, _, _, rfl, hc, T.cl, T.nV, lk_view _ _ _, lv, rfl, ⟨_, SqL.of np.vw⟩, comp_list (K := K) (a := lv) (xs := as.map V.ref) (fun j ys H3 => H3 = H ∧ ys = (st.1.take j).map fun s => vO (s.getD n none)) ⟨rfl, rfl⟩ ?_ ?_ ?_ ?_ ?_⟩
      · rw [List.length_map, np.len]
        exact Nat.le_of_lt (small1000 (by omega))
      · rintro j ys H3 ⟨_, rfl⟩
        rw [List.length_map, List.length_take]
        omega
      · rintro j ys H3 _ ⟨rfl, _⟩
        exact SqL.of np.vw
      · rintro j y ys H3 hj ⟨rfl, rfl⟩
        rw [List.getElem?_map] at hj
        cases q : as[j]? with
        | none => rw [q] at hj; cases hj
        | some a =>
          rw [q] at hj
          cases hj
          have hjl : j < st.1.length := by rw [← np.len]; exact (List.getElem?_eq_some_iff.mp q).1
          have hw := (vo.row (i := j) (by omega)).1
          refine ⟨rfl, ?_⟩
          refine ⟨_, rfl, _, rfl, a, _, _, _, rfl, rfl, SqL.of (np.row j a q), atI_nat (sightV_getD (by omega)), ?_⟩
          refine ⟨rfl, ?_⟩
          rw [List.take_add_one, List.getElem?_eq_getElem hjl, List.map_append, getD_of (List.getElem?_eq_getElem hjl)]
          rfl
      · rintro ys H3 ⟨rfl, rfl⟩ l hl'
        rw [List.length_map, np.len, List.take_length]
        refine k l _ (same_upd hl') ?_
        rw [upd_same]
        unfold sightAt sightV
        rw [if_neg (show ¬ (1 : Nat) = 0 by decide), List.map_map]
        rfl
inductive sp_tell (C : Addr) (vs : List V) (H : Hp) (Q : VK) (E_ : XK) : Prop
  | mk (H0 : Hp) (c tb lv lf : Addr) (as : List Addr) (b : Brd) (st : NSt) (h wd : Nat) (l : Nat × Nat) (pc : Nat × Option Int) (z0 : vs = [.ref c, .str (kindT l.1), .int (l.2 : Nat), .int (pc.1 : Nat), vO pc.2]) (z1 : NP C H0 H c tb lv lf as b st) (z2 : VOk h wd st.1) (z3 : LOk h wd l) (z4 : pc.1 < lenL h wd l) (z5 : ∀ H', KeptBut H H' (mutL c lv lf as) → NP C H0 H' c tb lv lf as b (tellV l.1 l.2 st.1 pc, st.2) → Q .non H') : sp_tell C vs H Q E_
theorem sc_Narrowing_tell : FnScope ["self", "kind", "number", "place", "cell"] ["self", "kind", "number", "place", "cell"] (defScope s_Narrowing_tell) := ⟨rfl, rfl, rfl, by decide +kernel, rfl, by decide +kernel, by decide +kernel⟩
theorem ixN_nat' {n i : Nat} (h : i < n) : ixN n ((i : Nat) : Int) = some i := ixN_nat h
theorem ok_Narrowing_tell {f : Addr} {fd : FuncData} (F : Fun K "tell" "Narrowing.tell" s_Narrowing_tell f fd) (T : NT K C) : FnOk P w K mg base CX0 1 f fd ["self", "kind", "number", "place", "cell"] (sp_tell C) := by
  refine F.ok sc_Narrowing_tell (fun vs H Q E h => ?_) (fun cdv A outer s H vs Q E hr h => ?_)
  · obtain ⟨H0, c, tb, lv, lf, as, b, st, h, wd, l, pc, rfl, _⟩ := h
    rfl
  · obtain ⟨H0, c, tb, lv, lf, as, b, st, h, wd, ⟨sd, n⟩, ⟨p, x⟩, rfl, np, vo, hl, hp, k⟩ := h
    refine ⟨_, (pss_one (ps_if (pt_cmpR op_eq (pv 1) pe_str (nomark _))
      (pss_one (ps_asg (pv 4) (pg_sub (pe_ix (ix_listK K) (pe_fld (pv 0) rfl) (pv 2) (fun _ _ => rfl)) (pv 3) set_list)))
      (pss_one (ps_asg (pv 4) (pg_sub (pe_ix (ix_listK K) (pe_fld (pv 0) rfl) (pv 3) (fun _ _ => rfl)) (pv 2) set_list))))), ?_⟩
    obtain ⟨dx, hc⟩ := np.ins
    have hvl := vo.len
    refine ⟨_, rfl, rfl, _, rfl, ?_⟩
    unfold lenL at hp
    have setV : ∀ (s : Sight) (j : Nat), (sightV s).set j (vO x) = sightV (s.set j x) := fun s j => by unfold sightV; rw [List.map_set]
    rcases hl with ⟨h1, h2⟩ | ⟨h1, h2⟩
    · replace h1 : sd = 0 := h1
      replace h2 : n < h := h2
      subst h1
      replace hp : p < wd := hp
      refine iteT ?_
      obtain ⟨a, ha, hra⟩ := np.rowAt (i := n) (by omega)
      have hw := (vo.row h2).1
      obtain ⟨n1, k1⟩ := np.tell (j := p) (x := x) ha
      refine ⟨_, rfl, _, rfl, c, C, dx, _, _, rfl, hc, T.cl, T.nV, lk_view _ _ _, _, rfl, lv, _, _, .ref a, rfl, rfl, SqL.of np.vw, atI_nat (by rw [List.getElem?_map, ha]; rfl), _, rfl, a, _, _, p, rfl, rfl, hra, ixN_nat' (by rw [sightV_len]; omega), ?_⟩
      rw [setV]
      exact k _ k1 n1
    · replace h1 : sd = 1 := h1
      replace h2 : n < wd := h2
      subst h1
      replace hp : p < h := hp
      refine iteF ?_
      obtain ⟨a, ha, hra⟩ := np.rowAt (i := p) (by omega)
      have hw := (vo.row hp).1
      obtain ⟨n1, k1⟩ := np.tell (j := n) (x := x) ha
      refine ⟨_, rfl, _, rfl, c, C, dx, _, _, rfl, hc, T.cl, T.nV, lk_view _ _ _, _, rfl, lv, _, _, .ref a, rfl, rfl, SqL.of np.vw, atI_nat (by rw [List.getElem?_map, ha]; rfl), _, rfl, a, _, _, n, rfl, rfl, hra, ixN_nat' (by rw [sightV_len]; omega), ?_⟩
      rw [setV]
      exact k _ k1 n1
end
section
variable {P : Program} {w : World} {K : PySem.W.Frag} {mg : Str → Option Value} {base : Heap} {C : Addr}
inductive sp_ninit (C : Addr) (vs : List V) (H : Hp) (Q : VK) (E_ : XK) : Prop
  | mk (c dx tb lw : Addr) (b : Brd) (v : View) (z0 : vs = [.ref c, .ref tb, .ref lw]) (z1 : H c = some (.ins C dx [])) (z2 : IsD H (dBoard b) (.ref tb)) (z3 : IsD H (dView v) (.ref lw)) (z4 : v.length ≤ 100) (z5 : ∀ H' lv lf as, (∀ a o, H a = some o → a ≠ c → H' a = some o) → (∀ a ∈ lv :: lf :: as, H a = none) → NP C H H' c tb lv lf as b (v, []) → Q .non H') : sp_ninit C vs H Q E_
theorem sc_Narrowing___init__ : FnScope ["self", "board", "view"] ["self", "board", "view"] (defScope s_Narrowing___init__) := ⟨rfl, rfl, rfl, by decide +kernel, rfl, by decide +kernel, by decide +kernel⟩
theorem ok_Narrowing___init__ {f : Addr} {fd : FuncData} (F : Fun K "__init__" "Narrowing.__init__" s_Narrowing___init__ f fd) (B : Bt mg) (T : NT K C) : FnOk P w K mg base CX0 1 f fd ["self", "board", "view"] (sp_ninit C) := by
  refine F.ok sc_Narrowing___init__ (fun vs H Q E h => ?_) (fun cdv A outer s H vs Q E hr h => ?_)
  · obtain ⟨c, dx, tb, lw, b, v, rfl, _⟩ := h
    rfl
  · obtain ⟨c, dx, tb, lw, b, v, rfl, hc, hb, hv, hn, k⟩ := h
    refine ⟨_, (pss_cons (ps_fld (pv 0) (pv 1) rfl)
      (pss_cons (ps_fld (pv 0) (pe_comp ["sight"] [] ⟨rfl, rfl, rfl, rfl, rfl⟩ rfl (pi_listK K (pv 2)) (fun _ _ _ _ _ => (pg_name (i := 0) (show (["sight"] : List Str).Nodup by decide +kernel) rfl (Or.inl rfl))) (fun _ _ _ _ _ => pcb_elt (pe_callTy (call_listK K) rfl B.list bt_list (pa_cons (pv 0) pa_nil)))) rfl)
      (pss_one (ps_fld (pv 0) (pe_lst pa_nil) rfl)))), ?_⟩
    refine ⟨_, rfl, _, rfl, c, C, dx, [], rfl, hc, T.cl, T.nB, (by show 0 < 1000; decide), ?_⟩
    have k1 : ∀ a o, H a = some o → a ≠ c → (upd H c (.ins C dx (putF "board" (.ref tb) []))) a = some o := fun a o e n => by rw [upd_ne n]; exact e
    have hc1 : (upd H c (.ins C dx (putF "board" (.ref tb) []))) c = some (.ins C dx (putF "board" (.ref tb) [])) := upd_same
    have f1 : ∀ a, (upd H c (.ins C dx (putF "board" (.ref tb) []))) a = none → H a = none := fun a e => by
      by_cases q : a = c
      · rw [q, hc1] at e; cases e
      · rw [upd_ne q] at e; exact e
    generalize upd H c (.ins C dx (putF "board" (.ref tb) [])) = H1 at k1 hc1 f1 ⊢
    have kd : ∀ a xs, (H a = some (.lst xs) → H1 a = some (.lst xs)) ∧ (H a = some (.tup xs) → H1 a = some (.tup xs)) := fun a xs => ⟨fun e => k1 _ _ e (fun z => by rw [z, hc] at e; cases e), fun e => k1 _ _ e (fun z => by rw [z, hc] at e; cases e)⟩
    obtain ⟨vs, hlw, hvs⟩ := view_inv (IsD.keep kd hv)
    have hvl := map_len hvs
    refine ⟨_, rfl, lw, rfl, ⟨_, SqL.of hlw⟩, comp_list (K := K) (a := lw) (xs := vs) (fun j ys H3 => ∃ as, ys = as.map V.ref ∧ GrowV H1 (fun j => sightV (v.getD j [])) j as H3) ⟨[], rfl, GrowV.zero⟩ ?_ ?_ ?_ ?_ ?_⟩
    · exact Nat.le_of_lt (small1000 (by omega))
    · rintro j ys H3 ⟨as, rfl, g⟩
      rw [List.length_map, g.len]
      omega
    · rintro j ys H3 _ ⟨as, rfl, g⟩
      exact SqL.of (g.same _ _ hlw)
    · rintro j y ys H3 hj ⟨as, rfl, g⟩
      obtain ⟨s, hs, hd⟩ := map_get' hvs hj
      obtain ⟨a, rfl, ha⟩ := sight_inv hd
      refine ⟨rfl, ?_⟩
      refine ⟨_, rfl, a, _, rfl, .inl (SqL.of (g.same _ _ ha)), fun l1 hl1 => ?_⟩
      exact ⟨as ++ [l1], by rw [List.map_append]; rfl, g.next (same_upd hl1) hl1 (by rw [upd_same, getD_of hs])⟩
    · rintro ys H3 ⟨as, rfl, g⟩ lv hlv
      rw [hvl] at g
      have hc3 := g.same _ _ hc1
      have ncv : lv ≠ c := fun z => by rw [z, hc3] at hlv; cases hlv
      have l1 := length_putF "board" (V.ref tb) []
      have l2 := length_putF "view" (V.ref lv) (putF "board" (V.ref tb) [])
      have l0 : ([] : List (Str × V)).length = 0 := rfl
      refine ⟨_, rfl, c, C, dx, _, rfl, (by rw [upd_ne (Ne.symm ncv)]; exact hc3), T.cl, T.nV, (by omega), ?_⟩
      have nvas : lv ∉ as := g.there hlv
      have ncas : c ∉ as := fun z => by rw [g.new c z] at hc1; cases hc1
      have k4 : ∀ a o, H3 a = some o → a ≠ c → (upd (upd H3 lv (.lst (as.map V.ref))) c (.ins C dx (putF "view" (.ref lv) (putF "board" (.ref tb) [])))) a = some o := fun a o e n => by rw [upd_ne n, upd_ne (ne_of_none e hlv)]; exact e
      have hc4 : (upd (upd H3 lv (.lst (as.map V.ref))) c (.ins C dx (putF "view" (.ref lv) (putF "board" (.ref tb) [])))) c = some (.ins C dx (putF "view" (.ref lv) (putF "board" (.ref tb) []))) := upd_same
      have hv4 : (upd (upd H3 lv (.lst (as.map V.ref))) c (.ins C dx (putF "view" (.ref lv) (putF "board" (.ref tb) [])))) lv = some (.lst (as.map V.ref)) := by rw [upd_ne ncv, upd_same]
      have f4 : ∀ a, (upd (upd H3 lv (.lst (as.map V.ref))) c (.ins C dx (putF "view" (.ref lv) (putF "board" (.ref tb) [])))) a = none → H3 a = none := fun a e => by
        cases q : H3 a with
        | none => rfl
        | some o =>
          by_cases hac : a = c
          · rw [hac, hc4] at e; cases e
          · rw [k4 a o q hac] at e; cases e
      generalize upd (upd H3 lv (.lst (as.map V.ref))) c (.ins C dx (putF "view" (.ref lv) (putF "board" (.ref tb) []))) = H4 at k4 hc4 hv4 f4 ⊢
      refine ⟨by show 0 ≤ sizeLine; decide, fun lf hlf => ?_⟩
      have ncf : lf ≠ c := fun z => by rw [z, hc4] at hlf; cases hlf
      have nvf : lv ≠ lf := fun z => by rw [← z, hv4] at hlf; cases hlf
      have hlf3 := f4 lf hlf
      have nfas : lf ∉ as := g.there hlf3
      refine ⟨_, rfl, c, C, dx, _, rfl, (by rw [upd_ne (Ne.symm ncf)]; exact hc4), T.cl, T.nF, (by omega), ?_⟩
      have k5 : ∀ a o, H4 a = some o → a ≠ c → (upd (upd H4 lf (.lst [])) c (.ins C dx (nflds tb lv lf))) a = some o := fun a o e n => by rw [upd_ne n, upd_ne (ne_of_none e hlf)]; exact e
      have kk : ∀ a o, H a = some o → a ≠ c → (upd (upd H4 lf (.lst [])) c (.ins C dx (nflds tb lv lf))) a = some o := fun a o e n => k5 _ _ (k4 _ _ (g.same _ _ (k1 _ _ e n)) n) n
      have nw : ∀ a ∈ lv :: lf :: as, H a = none := fun a ha => by
        rcases List.mem_cons.mp ha with z | ha
        · rw [z]; exact f1 _ (g.same.free hlv)
        rcases List.mem_cons.mp ha with z | ha
        · rw [z]; exact f1 _ (g.same.free hlf3)
        · exact f1 _ (g.new a ha)
      refine k _ lv lf as kk nw ⟨⟨dx, upd_same⟩, ?_, fun i a e => ?_, ?_, g.nd, fun a e => ?_, ⟨[], ?_, by show IsDs _ [] []; unfold IsDs; rfl⟩, ?_, nvf, nvas, nfas⟩
      · exact k5 _ _ hv4 ncv
      · have ha := List.mem_of_getElem? e
        have na : a ≠ c := fun z => ncas (by rw [← z]; exact ha)
        exact k5 _ _ (k4 _ _ (g.row i a e) na) na
      · rw [g.len]
      · cases q : H a with
        | none => rfl
        | some o =>
          by_cases hac : a = c
          · rw [hac, upd_same] at e; cases e
          · cases (kk a o q hac).symm.trans e
      · rw [upd_ne ncf, upd_same]
      · refine IsD.keep (fun a xs => ?_) hb
        have nin : ∀ o, H a = some o → a ≠ c → a ∉ mutL c lv lf as := fun o e n z => by
          rcases List.mem_cons.mp z with z | z
          · exact n z
          · rw [nw a z] at e; cases e
        have nc : ∀ o, H a = some o → (∀ dx', o ≠ .ins C dx' []) → a ≠ c := fun o e n z => by
          rw [z, hc] at e
          cases e
          exact n _ rfl
        refine ⟨fun e => ?_, fun e => ?_⟩
        · have n := nc _ e (fun _ z => by cases z)
          exact hide_of (kk _ _ e n) (nin _ e n)
        · have n := nc _ e (fun _ z => by cases z)
          exact hide_of (kk _ _ e n) (nin _ e n)
end
section
variable {P : Program} {w : World} {K : PySem.W.Frag} {mg : Str → Option Value} {base : Heap} {C : Addr}
theorem np_no {H0 H : Hp} {c tb lv lf : Addr} {as : List Addr} {b : Brd} {st : NSt} (p : NP C H0 H c tb lv lf as b st) {m : Str} (h1 : ¬ m = "found") (h2 : ¬ m = "view") (h3 : ¬ m = "board") : ∃ dx fs, H c = some (.ins C dx fs) ∧ fs.lookup m = none := by
  obtain ⟨dx, h⟩ := p.ins
  exact ⟨dx, _, h, lk_non _ _ _ h1 h2 h3⟩
theorem _root_.Rp.KeptBut.trans {H H1 H2 : Hp} {as : List Addr} (k : KeptBut H H1 as) (k2 : KeptBut H1 H2 as) : KeptBut H H2 as := fun b o h n => k2 _ _ (k b o h n) n
theorem _root_.Rp.KeptBut.of {H H1 : Hp} {as : List Addr} (s : Same H H1) : KeptBut H H1 as := fun b o h _ => s b o h
inductive sp_go_through (C CN : Addr) (vs : List V) (H : Hp) (Q : VK) (E : XK) : Prop
  | mk (H0 : Hp) (c tb lv lf tr : Addr) (as : List Addr) (b : Brd) (st : NSt) (h wd : Nat) (l : Nat × Nat) (z0 : vs = [.ref c, .str (kindT l.1), .int (l.2 : Nat), .ref tr]) (z1 : NP C H0 H c tb lv lf as b st) (z2 : VOk h wd st.1) (z3 : BOk h wd b) (z4 : h ≤ 100) (z5 : wd ≤ 100) (z6 : LOk h wd l) (z7 : H tr = some (.tup (runsV (runsAt b l.1 l.2)))) (z8 : st.2.length + unk st.1 ≤ 20000) (z9 : (stepV b l st = none → ∀ H', KeptBut H H' (mutL c lv lf as) → E (.ref CN) none H') ∧ (∀ st', stepV b l st = some st' → ∀ H', KeptBut H H' (mutL c lv lf as) → NP C H0 H' c tb lv lf as b st' → Q .non H')) : sp_go_through C CN vs H Q E
theorem sc_Narrowing_go_through : FnScope ["self", "kind", "number", "runs", "sight", "told", "place", "cell"] ["self", "kind", "number", "runs"] (defScope s_Narrowing_go_through) := ⟨rfl, rfl, rfl, by decide +kernel, rfl, by decide +kernel, by decide +kernel⟩
theorem ok_Narrowing_go_through {f CN : Addr} {fd : FuncData} (F : Fun K "go_through" "Narrowing.go_through" s_Narrowing_go_through f fd) (B : Bt mg) (T : NT K C) (m_sight_of : Method P w K mg base CX0 C "sight_of" 1 ["self", "kind", "number"] (sp_sight_of C)) (m_tell : Method P w K mg base CX0 C "tell" 1 ["self", "kind", "number", "place", "cell"] (sp_tell C))
    (c_cells_told : Callee P w K mg base CX0 "cells_told" 1 ["sight", "better"] sp_cells_told) (c_best : Callee P w K mg base (CXe P w) "best" 5 ["runs", "sight"] (sp_best CN)) : FnOk P w K mg base (CXe P w) 6 f fd ["self", "kind", "number", "runs"] (sp_go_through C CN) := by
  refine F.okX sc_Narrowing_go_through (fun vs H Q E h => ?_) (fun cdv A outer s H vs Q E hr h => ?_)
  · obtain ⟨H0, c, tb, lv, lf, tr, as, b, st, h, wd, l, rfl, _⟩ := h
    rfl
  · obtain ⟨H0, c, tb, lv, lf, tr, as, b, st, h, wd, ⟨sd, n⟩, rfl, np, vo, bo, hh, hwd, hl, htr, hsz, kE, kQ⟩ := h
    refine ⟨_, (pss_cons (ps_set (i := 4) sc_Narrowing_go_through.nd rfl (Or.inl rfl) (pe_met m_sight_of (pv 0) hr (pa_cons (pv 1) (pa_cons (pv 2) pa_nil))))
      (pss_cons (ps_set (i := 5) sc_Narrowing_go_through.nd rfl (Or.inl rfl) (pe_cal c_cells_told hr (pa_cons (pv 4) (pa_cons (pe_calX c_best hr takes_fn (pa_cons (pv 3) (pa_cons (pv 4) pa_nil))) pa_nil))))
      (pss_cons (ps_for PassesOwn.leaving rfl (pi_listK K (pv 5)) (pg_tupK K 2 rfl (pgs_cons (pg_name (i := 6) sc_Narrowing_go_through.nd rfl (Or.inl rfl)) (pgs_cons (pg_name (i := 7) sc_Narrowing_go_through.nd rfl (Or.inl rfl)) pgs_nil)))
      (pss_one (ps_expr (pe_met m_tell (pv 0) hr (pa_cons (pv 1) (pa_cons (pv 2) (pa_cons (pv 6) (pa_cons (pv 7) pa_nil))))))))
      (pss_one (ps_if (pt_cmpR op_gt (pe_callB (call_lenK K) rfl B.len bt_len (pa_cons (pv 5) pa_nil)) pe_int (nomark _))
      (pss_one (ps_expr (pe_bm PySem.F.plainAttrs_list PySem.F.slot_list_append PySem.F.type_list_append mt_append (pe_fld (pv 0) rfl) (pa_cons (pe_tup (pa_cons (pv 1) (pa_cons (pv 2) (pa_cons (pv 5) pa_nil)))) pa_nil))))
      pss_nil))))), ?_⟩
    have hlen := sightAt_len vo hl
    have hP := sightAt_P vo hl
    have hll : lenL h wd (sd, n) ≤ 100 := by unfold lenL; split <;> omega
    obtain ⟨xs, _, eR, hx, hxl⟩ := bo.at' hl
    obtain ⟨dx, fs0, hc, hnof⟩ := np_no np (m := "sight_of") (by decide +kernel) (by decide +kernel) (by decide +kernel)
    refine ⟨_, rfl, c, dx, fs0, rfl, hc, hnof, _, rfl, _, rfl, H0, c, tb, lv, lf, as, b, st, h, wd, (sd, n), rfl, np, vo, hh, hl, fun a H1 s1 ha => ?_⟩
    have n1 := np.mono s1
    refine ⟨_, rfl, _, rfl, _, rfl, tr, a, runsAt b sd n, sightAt st.1 sd n, rfl, s1 _ _ htr, ha, (by show (sightAt st.1 (sd, n).1 (sd, n).2).length ≤ 100; omega), (by rw [show runsAt b sd n = natR xs from eR]; unfold natR; rw [List.length_map]; omega), (by rw [show runsAt b sd n = natR xs from eR]; exact fun k hk => (natR_ok hx k hk).2), fun hno H2 s2 => ?_, fun hne lb H2 s2 hlb hb2 => ?_⟩
    · refine kE ?_ H2 (KeptBut.of (s1.trans s2))
      unfold stepV layAt
      rw [if_pos hno]
    have S := step_ok vo bo hl hne
    have hst : stepV b (sd, n) st = some ((toldAt b (sd, n) st.1).foldl (tellV sd n) st.1, if toldAt b (sd, n) st.1 = [] then st.2 else st.2 ++ [⟨sd, n, toldAt b (sd, n) st.1⟩]) := by
      unfold stepV
      rw [if_neg (show ¬ layAt b (sd, n) st.1 = [] from hne)]
    have bl : (bestS (runsAt b sd n) (sightAt st.1 sd n)).length = (sightAt st.1 sd n).length := best_len _ _
    refine ⟨a, lb, sightAt st.1 sd n, bestS (runsAt b sd n) (sightAt st.1 sd n), rfl, s2 _ _ ha, hb2, bl.symm, (by show (sightAt st.1 (sd, n).1 (sd, n).2).length ≤ 100; omega), fun lt H3 s3 hlt hd => ?_⟩
    have hcs : toldL (sightAt st.1 sd n) (bestS (runsAt b sd n) (sightAt st.1 sd n)) = toldAt b (sd, n) st.1 := rfl
    rw [hcs] at hd
    have hmem : ∀ pc ∈ toldAt b (sd, n) st.1, pc.1 < lenL h wd (sd, n) ∧ bitO pc.2 := fun pc hpc => by
      obtain ⟨q1, q2, _⟩ := told_mem hpc
      refine ⟨by rw [← hlen]; exact q1, ?_⟩
      rw [q2]
      exact best_bit _ _ _
    generalize hcc : toldAt b (sd, n) st.1 = cs at hd hst S hmem
    have n3 := (n1.mono s2).mono s3
    have hM2 : ∀ x ∈ mutL c lv lf as, H2 x ≠ none := (n1.mono s2).live
    have nlt : lt ∉ mutL c lv lf as := fun z => hM2 lt z hlt
    have hdn : IsD (newer H0 (hide (mutL c lv lf as) H3)) (dTold cs) (.ref lt) := IsD.mono (newer_both (n1.mono s2).dom hM2) hd
    have hdh : IsD (hide (mutL c lv lf as) H3) (dTold cs) (.ref lt) := IsD.mono newer_same hdn
    obtain ⟨us, hus, hds⟩ := told_inv hdh
    have hus3 : H3 lt = some (.lst us) := hide_same _ _ hus
    have hul := map_len hds
    refine ⟨_, rfl, lt, rfl, ⟨_, SqL.of hus3⟩, for_list (K := K) (a := lt) (xs := us) (fun i σ H4 => ∃ (o6 o7 : Option V), σ = [some (.ref c), some (.str (kindT sd)), some (.int (n : Nat)), some (.ref tr), some (.ref a), some (.ref lt), o6, o7] ∧ KeptBut H3 H4 (mutL c lv lf as) ∧ VOk h wd ((cs.take i).foldl (tellV sd n) st.1) ∧ NP C H0 H4 c tb lv lf as b ((cs.take i).foldl (tellV sd n) st.1, st.2)) ⟨none, none, rfl, KeptBut.refl _ _, vo, n3⟩ ?_ ?_ ?_⟩
    · rintro i σ H4 _ ⟨o6, o7, rfl, k4, _, _⟩
      exact SqL.of (k4 _ _ hus3 nlt)
    · rintro i u σ H4 hi ⟨o6, o7, rfl, k4, v4, n4⟩
      obtain ⟨pc, hpc, hpd⟩ := map_get' hds hi
      obtain ⟨q, rfl, hq⟩ := cell_inv hpd
      have hq4 : H4 q = some (.tup [.int (pc.1 : Nat), vO pc.2]) := hide_same _ _ (hide_mono k4 _ _ hq)
      obtain ⟨m1, m2⟩ := hmem pc (List.mem_of_getElem? hpc)
      refine ⟨q, _, rfl, SqT.of hq4, rfl, _, _, rfl, _, _, rfl, rfl, ?_⟩
      obtain ⟨dx, fs0, hc, hno⟩ := np_no n4 (m := "tell") (by decide +kernel) (by decide +kernel) (by decide +kernel)
      refine ⟨_, rfl, c, dx, fs0, rfl, hc, hno, _, rfl, _, rfl, _, rfl, _, rfl, H0, c, tb, lv, lf, as, b, _, h, wd, (sd, n), pc, rfl, n4, v4, hl, m1, fun H5 k5 n5 => ?_⟩
      have e5 : (cs.take (i + 1)).foldl (tellV sd n) st.1 = tellV sd n ((cs.take i).foldl (tellV sd n) st.1) pc := by rw [List.take_add_one, hpc, List.foldl_append]; rfl
      refine ⟨_, _, rfl, k4.trans k5, ?_, ?_⟩
      · rw [e5]
        have := tellV_eq (sd, n) ((cs.take i).foldl (tellV sd n) st.1) pc
        rw [show tellV sd n ((cs.take i).foldl (tellV sd n) st.1) pc = _ from this]
        exact v4.setC (posL_in hl m1).1 m2
      · rw [e5]
        exact n5
    · rintro σ H4 ⟨o6, o7, rfl, k4, v4, n4⟩
      rw [hul, List.take_length] at v4 n4
      have hus4 := k4 _ _ hus3 nlt
      refine ⟨_, rfl, lt, _, rfl, .inl (SqL.of hus4), _, _, rfl, rfl, _, rfl, ?_⟩
      have k04 : KeptBut H H4 (mutL c lv lf as) := (KeptBut.of ((s1.trans s2).trans s3)).trans k4
      by_cases h0 : cs = []
      · rw [decide_eq_false (by rw [hul, h0]; simp)]
        refine iteF (kQ _ hst H4 k04 ?_)
        rw [if_pos h0]
        exact n4
      · have hpos : 0 < us.length := by rw [hul]; exact List.length_pos_iff.mpr h0
        rw [decide_eq_true (by omega)]
        obtain ⟨dx, hc4⟩ := n4.ins
        obtain ⟨fs, hlf4, hfs⟩ := n4.fd
        have hfl : fs.length = st.2.length := map_len hfs
        have hunk := S.lt (by rw [hcc]; exact h0)
        refine iteT ⟨_, rfl, c, C, dx, _, _, rfl, hc4, T.cl, T.nF, lk_found _ _ _, .inl ⟨rfl, _, SqL.of hlf4⟩, _, rfl, _, rfl, _, rfl, (by show 3 ≤ sizeLine; decide), fun t ht => ?_⟩
        have s5 : Same H4 (upd H4 t (.tup [.str (kindT sd), .int (n : Nat), .ref lt])) := same_upd ht
        have n5 := n4.mono s5
        have ht5 : (upd H4 t (.tup [.str (kindT sd), .int (n : Nat), .ref lt])) t = some (.tup [.str (kindT sd), .int (n : Nat), .ref lt]) := upd_same
        generalize upd H4 t (.tup [.str (kindT sd), .int (n : Nat), .ref lt]) = H5 at s5 n5 ht5 ⊢
        have ntM : t ∉ mutL c lv lf as := fun z => n4.live t z ht
        have hd5 : IsD (newer H0 (hide (mutL c lv lf as) H5)) (dStp ⟨sd, n, cs⟩) (.ref t) := isD_stp (p := ⟨sd, n, cs⟩) (newer_of (hide_of ht5 ntM) (n4.dom t ht)) (IsD.mono (newer_mono (hide_mono (k4.trans (KeptBut.of s5)))) hdn)
        obtain ⟨n6, k6⟩ := n5.found (s5 _ _ hlf4) hd5
        have hbig : 20000 < sizeLine := by decide
        refine ⟨lf, _, _, rfl, rfl, s5 _ _ hlf4, (by omega), ?_⟩
        refine kQ _ hst _ (k04.trans ((KeptBut.of s5).trans k6)) ?_
        rw [if_neg h0]
        exact n6
end
section
variable {P : Program} {w : World} {K : PySem.W.Frag} {mg : Str → Option Value} {base : Heap} {C : Addr}
theorem lines_row {b : Brd} {i : Nat} (h : i < b.1.length) : (linesB b).drop i = (0, i) :: (linesB b).drop (i + 1) := by
  have e : (linesB b)[i]? = some (0, i) := by
    unfold linesB
    rw [List.getElem?_append_left (by simpa using h), List.getElem?_map, List.getElem?_range h]
    rfl
  obtain ⟨hl, e'⟩ := List.getElem?_eq_some_iff.mp e
  rw [List.drop_eq_getElem_cons hl, e']
theorem lines_col {b : Brd} {j : Nat} (h : j < b.2.length) : (linesB b).drop (b.1.length + j) = (1, j) :: (linesB b).drop (b.1.length + (j + 1)) := by
  have e : (linesB b)[b.1.length + j]? = some (1, j) := by
    unfold linesB
    rw [List.getElem?_append_right (by simp), List.length_map, List.length_range, Nat.add_sub_cancel_left, List.getElem?_map, List.getElem?_range h]
    rfl
  obtain ⟨hl, e'⟩ := List.getElem?_eq_some_iff.mp e
  rw [List.drop_eq_getElem_cons hl, e']
  rfl
theorem lines_end (b : Brd) : (linesB b).drop (b.1.length + b.2.length) = [] := by
  apply List.drop_eq_nil_of_le
  unfold linesB
  simp
theorem board_at {H : Hp} {b : Brd} {tb : Addr} (hb : IsD H (dBoard b) (.ref tb)) : ∃ r cc vr vc, H tb = some (.tup [.ref r, .ref cc]) ∧ H r = some (.tup vr) ∧ H cc = some (.tup vc) ∧ vr.length = b.1.length ∧ vc.length = b.2.length ∧
    (∀ (i : Nat) v, vr[i]? = some v → ∃ t xs, v = .ref t ∧ b.1[i]? = some xs ∧ H t = some (.tup (xs.map V.int))) ∧ ∀ (i : Nat) v, vc[i]? = some v → ∃ t xs, v = .ref t ∧ b.2[i]? = some xs ∧ H t = some (.tup (xs.map V.int)) := by
  obtain ⟨r, cc, ha, h1, h2⟩ := board_inv hb
  obtain ⟨vr, hr, hrs⟩ := tups_inv h1
  obtain ⟨vc, hc, hcs⟩ := tups_inv h2
  refine ⟨r, cc, vr, vc, ha, hr, hc, rows_len hrs, rows_len hcs, fun i v e => ?_, fun i v e => ?_⟩
  · obtain ⟨xs, hxs, hd⟩ := rows_get hrs e
    obtain ⟨t, rfl, ht⟩ := tup_inv hd
    exact ⟨t, xs, rfl, hxs, ht⟩
  · obtain ⟨xs, hxs, hd⟩ := rows_get hcs e
    obtain ⟨t, rfl, ht⟩ := tup_inv hd
    exact ⟨t, xs, rfl, hxs, ht⟩
inductive sp_go_round (C CN : Addr) (vs : List V) (H : Hp) (Q : VK) (E : XK) : Prop
  | mk (H0 : Hp) (c tb lv lf : Addr) (as : List Addr) (b : Brd) (st : NSt) (h wd : Nat) (z0 : vs = [.ref c]) (z1 : NP C H0 H c tb lv lf as b st) (z2 : VOk h wd st.1) (z3 : BOk h wd b) (z4 : h ≤ 100) (z5 : wd ≤ 100) (z6 : st.2.length + unk st.1 ≤ 20000) (z7 : (roundV b st = none → ∀ H', KeptBut H H' (mutL c lv lf as) → E (.ref CN) none H') ∧ (∀ st', roundV b st = some st' → ∀ H', KeptBut H H' (mutL c lv lf as) → NP C H0 H' c tb lv lf as b st' → Q .non H')) : sp_go_round C CN vs H Q E
theorem sc_Narrowing_go_round : FnScope ["self", "number", "runs"] ["self"] (defScope s_Narrowing_go_round) := ⟨rfl, rfl, rfl, by decide +kernel, rfl, by decide +kernel, by decide +kernel⟩
theorem ok_Narrowing_go_round {f CN : Addr} {fd : FuncData} (F : Fun K "go_round" "Narrowing.go_round" s_Narrowing_go_round f fd) (Z : Bz mg) (T : NT K C) (m_go_through : Method P w K mg base (CXe P w) C "go_through" 6 ["self", "kind", "number", "runs"] (sp_go_through C CN)) : FnOk P w K mg base (CXe P w) 7 f fd ["self"] (sp_go_round C CN) := by
  refine F.okX sc_Narrowing_go_round (fun vs H Q E h => ?_) (fun cdv A outer s H vs Q E hr h => ?_)
  · obtain ⟨H0, c, tb, lv, lf, as, b, st, h, wd, rfl, _⟩ := h
    rfl
  · obtain ⟨H0, c, tb, lv, lf, as, b, st, h, wd, rfl, np, vo, bo, hh, hwd, hsz, kE, kQ⟩ := h
    refine ⟨_, (pss_cons (ps_for PassesOwn.leaving rfl (pi_enumTK K rfl Z.enumerate (pa_cons (pe_ix (ix_tupK K) (pe_fld (pv 0) rfl) pe_int (fun _ _ => rfl)) pa_nil)) (pg_tupK K 2 rfl (pgs_cons (pg_name (i := 1) sc_Narrowing_go_round.nd rfl (Or.inl rfl)) (pgs_cons (pg_name (i := 2) sc_Narrowing_go_round.nd rfl (Or.inl rfl)) pgs_nil)))
      (pss_one (ps_expr (pe_metX m_go_through (pv 0) hr takes_fn (pa_cons pe_str (pa_cons (pv 1) (pa_cons (pv 2) pa_nil)))))))
      (pss_one (ps_for PassesOwn.leaving rfl (pi_enumTK K rfl Z.enumerate (pa_cons (pe_ix (ix_tupK K) (pe_fld (pv 0) rfl) pe_int (fun _ _ => rfl)) pa_nil)) (pg_tupK K 2 rfl (pgs_cons (pg_name (i := 1) sc_Narrowing_go_round.nd rfl (Or.inl rfl)) (pgs_cons (pg_name (i := 2) sc_Narrowing_go_round.nd rfl (Or.inl rfl)) pgs_nil)))
      (pss_one (ps_expr (pe_metX m_go_through (pv 0) hr takes_fn (pa_cons pe_str (pa_cons (pv 1) (pa_cons (pv 2) pa_nil))))))))), ?_⟩
    obtain ⟨r, cc, vr, vc, htb, hr0, hc0, lr, lc, gr, gc⟩ := board_at np.bd
    obtain ⟨dx, hc⟩ := np.ins
    have e1 := bo.rows
    have e2 := bo.cols
    refine ⟨_, rfl, c, C, dx, _, _, rfl, hc, T.cl, T.nB, lk_board _ _ _, tb, _, _, .ref r, rfl, rfl, SqT.of (hide_same _ _ htb), rfl, r, rfl, ⟨_, SqT.of (hide_same _ _ hr0)⟩, for_enumT (K := K) (a := r) (xs := vr) (fun i σ H4 => ∃ (o1 o2 : Option V) (st1 : NSt), σ = [some (.ref c), o1, o2] ∧ KeptBut H H4 (mutL c lv lf as) ∧ VOk h wd st1.1 ∧ NP C H0 H4 c tb lv lf as b st1 ∧ st1.2.length + unk st1.1 ≤ 20000 ∧ goV b ((linesB b).drop i) st1 = roundV b st) ⟨none, none, st, rfl, KeptBut.refl _ _, vo, np, hsz, rfl⟩ ?_ ?_ ?_⟩
    · rintro i σ H4 _ ⟨o1, o2, st1, rfl, k4, _⟩
      exact SqT.of (hide_same _ _ (hide_mono k4 _ _ hr0))
    · rintro i x σ H4 p hi ⟨o1, o2, st1, rfl, k4, v4, n4, z4, g4⟩ hp
      obtain ⟨t, xs, rfl, hxs, ht⟩ := gr i x hi
      have hib : i < b.1.length := (List.getElem?_eq_some_iff.mp hxs).1
      have sp : Same H4 (upd H4 p (.tup [.int i, .ref t])) := same_upd hp
      have hl : LOk h wd (0, i) := .inl ⟨rfl, by show i < h; omega⟩
      refine ⟨p, _, rfl, SqT.of upd_same, rfl, _, _, rfl, _, _, rfl, rfl, ?_⟩
      have n5 := n4.mono sp
      have ht5 := sp _ _ (hide_same _ _ (hide_mono k4 _ _ ht))
      generalize upd H4 p (.tup [.int i, .ref t]) = H5 at sp n5 ht5 ⊢
      obtain ⟨dx, fs0, hc5, hno⟩ := np_no n5 (m := "go_through") (by decide +kernel) (by decide +kernel) (by decide +kernel)
      rw [lines_row hib] at g4
      obtain ⟨ys, hys, eR, hx, _⟩ := bo.at' hl
      have hys' : b.1[i]? = some ys := hys
      rw [hxs] at hys'
      cases hys'
      rw [runsV_nat hx] at ht5
      refine ⟨_, rfl, c, dx, fs0, rfl, hc5, hno, _, rfl, _, rfl, H0, c, tb, lv, lf, t, as, b, st1, h, wd, (0, i), rfl, n5, v4, bo, hh, hwd, hl, (by rw [eR]; exact ht5), z4, fun hno' H6 k6 => ?_, fun st2 hst H6 k6 n6 => ?_⟩
      · refine kE ?_ H6 (k4.trans ((KeptBut.of sp).trans k6))
        rw [← g4]
        show (stepV b (0, i) st1).bind _ = none
        rw [hno']
        rfl
      · obtain ⟨a1, a2, a3, a4, a5⟩ := stepV_size v4 bo hl hst
        refine ⟨_, _, st2, rfl, k4.trans ((KeptBut.of sp).trans k6), a1, n6, by omega, ?_⟩
        rw [← g4]
        show _ = (stepV b (0, i) st1).bind _
        rw [hst]
        rfl
    · rintro σ H4 ⟨o1, o2, st1, rfl, k4, v4, n4, z4, g4⟩
      rw [lr] at g4
      obtain ⟨dx, hc4⟩ := n4.ins
      refine ⟨_, rfl, c, C, dx, _, _, rfl, hc4, T.cl, T.nB, lk_board _ _ _, tb, _, _, .ref cc, rfl, rfl, SqT.of (hide_same _ _ (hide_mono k4 _ _ htb)), rfl, cc, rfl, ⟨_, SqT.of (hide_same _ _ (hide_mono k4 _ _ hc0))⟩, for_enumT (K := K) (a := cc) (xs := vc) (fun i σ H4 => ∃ (o1 o2 : Option V) (st1 : NSt), σ = [some (.ref c), o1, o2] ∧ KeptBut H H4 (mutL c lv lf as) ∧ VOk h wd st1.1 ∧ NP C H0 H4 c tb lv lf as b st1 ∧ st1.2.length + unk st1.1 ≤ 20000 ∧ goV b ((linesB b).drop (b.1.length + i)) st1 = roundV b st) ⟨o1, o2, st1, rfl, k4, v4, n4, z4, g4⟩ ?_ ?_ ?_⟩
      · rintro i σ H4 _ ⟨o1, o2, st1, rfl, k4, _⟩
        exact SqT.of (hide_same _ _ (hide_mono k4 _ _ hc0))
      · rintro i x σ H4 p hi ⟨o1, o2, st1, rfl, k4, v4, n4, z4, g4⟩ hp
        obtain ⟨t, xs, rfl, hxs, ht⟩ := gc i x hi
        have hib : i < b.2.length := (List.getElem?_eq_some_iff.mp hxs).1
        have sp : Same H4 (upd H4 p (.tup [.int i, .ref t])) := same_upd hp
        have hl : LOk h wd (1, i) := .inr ⟨rfl, by show i < wd; omega⟩
        refine ⟨p, _, rfl, SqT.of upd_same, rfl, _, _, rfl, _, _, rfl, rfl, ?_⟩
        have n5 := n4.mono sp
        have ht5 := sp _ _ (hide_same _ _ (hide_mono k4 _ _ ht))
        generalize upd H4 p (.tup [.int i, .ref t]) = H5 at sp n5 ht5 ⊢
        obtain ⟨dx, fs0, hc5, hno⟩ := np_no n5 (m := "go_through") (by decide +kernel) (by decide +kernel) (by decide +kernel)
        rw [lines_col hib] at g4
        obtain ⟨ys, hys, eR, hx, _⟩ := bo.at' hl
        have hys' : b.2[i]? = some ys := hys
        rw [hxs] at hys'
        cases hys'
        rw [runsV_nat hx] at ht5
        refine ⟨_, rfl, c, dx, fs0, rfl, hc5, hno, _, rfl, _, rfl, H0, c, tb, lv, lf, t, as, b, st1, h, wd, (1, i), rfl, n5, v4, bo, hh, hwd, hl, (by rw [eR]; exact ht5), z4, fun hno' H6 k6 => ?_, fun st2 hst H6 k6 n6 => ?_⟩
        · refine kE ?_ H6 (k4.trans ((KeptBut.of sp).trans k6))
          rw [← g4]
          show (stepV b (1, i) st1).bind _ = none
          rw [hno']
          rfl
        · obtain ⟨a1, a2, a3, a4, a5⟩ := stepV_size v4 bo hl hst
          refine ⟨_, _, st2, rfl, k4.trans ((KeptBut.of sp).trans k6), a1, n6, by omega, ?_⟩
          rw [← g4]
          show _ = (stepV b (1, i) st1).bind _
          rw [hst]
          rfl
      · rintro σ H4 ⟨o1, o2, st1, rfl, k4, v4, n4, z4, g4⟩
        rw [lc, lines_end] at g4
        exact kQ st1 g4.symm H4 k4 n4
inductive sp_narrow (C CN : Addr) (vs : List V) (H : Hp) (Q : VK) (E : XK) : Prop
  | mk (H0 : Hp) (c tb lv lf : Addr) (as : List Addr) (b : Brd) (st : NSt) (h wd N : Nat) (z0 : vs = [.ref c]) (z1 : NP C H0 H c tb lv lf as b st) (z2 : VOk h wd st.1) (z3 : BOk h wd b) (z4 : h ≤ 100) (z5 : wd ≤ 100) (z6 : st.2.length + unk st.1 ≤ 20000) (z7 : unk st.1 < N) (z8 : (loopV b N st = none → ∀ H', KeptBut H H' (mutL c lv lf as) → E (.ref CN) none H') ∧ (∀ st', loopV b N st = some st' → ∀ H', KeptBut H H' (mutL c lv lf as) → NP C H0 H' c tb lv lf as b st' → Q .non H')) : sp_narrow C CN vs H Q E
theorem sc_Narrowing_narrow : FnScope ["self", "former"] ["self"] (defScope s_Narrowing_narrow) := ⟨rfl, rfl, rfl, by decide +kernel, rfl, by decide +kernel, by decide +kernel⟩
theorem ok_Narrowing_narrow {f CN : Addr} {fd : FuncData} (F : Fun K "narrow" "Narrowing.narrow" s_Narrowing_narrow f fd) (B : Bt mg) (T : NT K C) (m_go_round : Method P w K mg base (CXe P w) C "go_round" 7 ["self"] (sp_go_round C CN)) : FnOk P w K mg base (CXe P w) 8 f fd ["self"] (sp_narrow C CN) := by
  refine F.okX sc_Narrowing_narrow (fun vs H Q E h => ?_) (fun cdv A outer s H vs Q E hr h => ?_)
  · obtain ⟨H0, c, tb, lv, lf, as, b, st, h, wd, N, rfl, _⟩ := h
    rfl
  · obtain ⟨H0, c, tb, lv, lf, as, b, st, h, wd, N, rfl, np, vo, bo, hh, hwd, hsz, hN, kE, kQ⟩ := h
    refine ⟨_, (pss_cons (ps_set (i := 1) sc_Narrowing_narrow.nd rfl (Or.inl rfl) (pe_un un_neg pe_int))
      (pss_one (ps_while PassesOwn.leaving (pt_cmpR op_gt (pe_callB (call_lenK K) rfl B.len bt_len (pa_cons (pe_fld (pv 0) rfl) pa_nil)) (pv 1) (nomark _))
      (pss_cons (ps_set (i := 1) sc_Narrowing_narrow.nd rfl (Or.inl rfl) (pe_callB (call_lenK K) rfl B.len bt_len (pa_cons (pe_fld (pv 0) rfl) pa_nil)))
      (pss_one (ps_expr (pe_met0X m_go_round (pv 0) hr takes_fn))))))), ?_⟩
    refine ⟨_, rfl, fun m σ H4 => ∃ (fo : Int) (st1 : NSt), σ = [some (.ref c), some (.int fo)] ∧ KeptBut H H4 (mutL c lv lf as) ∧ VOk h wd st1.1 ∧ NP C H0 H4 c tb lv lf as b st1 ∧ st1.2.length + unk st1.1 ≤ 20000 ∧ ((fo < st1.2.length ∧ m = unk st1.1 + 1 ∧ ∃ n, unk st1.1 < n ∧ loopV b n st1 = loopV b N st) ∨ (fo = st1.2.length ∧ m = 0 ∧ loopV b N st = some st1)), ⟨_, -1, st, rfl, KeptBut.refl _ _, vo, np, hsz, .inl ⟨by omega, rfl, N, hN, rfl⟩⟩, ?_⟩
    rintro m σ H4 ⟨fo, st1, rfl, k4, v4, n4, z4, hcase⟩
    obtain ⟨dx, hc4⟩ := n4.ins
    obtain ⟨fs, hlf, hfs⟩ := n4.fd
    have hfl : fs.length = st1.2.length := map_len hfs
    refine ⟨_, rfl, c, C, dx, _, _, rfl, hc4, T.cl, T.nF, lk_found _ _ _, lf, _, rfl, .inl (SqL.of hlf), _, rfl, _, _, rfl, rfl, _, rfl, ?_⟩
    rcases hcase with ⟨h1, rfl, n, hn, hlp⟩ | ⟨h1, rfl, hlp⟩
    · rw [decide_eq_true (by omega)]
      refine iteT ⟨fun σ' H' => ∃ m', m' < unk st1.1 + 1 ∧ ∃ (fo : Int) (st1 : NSt), σ' = [some (.ref c), some (.int fo)] ∧ KeptBut H H' (mutL c lv lf as) ∧ VOk h wd st1.1 ∧ NP C H0 H' c tb lv lf as b st1 ∧ st1.2.length + unk st1.1 ≤ 20000 ∧ ((fo < st1.2.length ∧ m' = unk st1.1 + 1 ∧ ∃ n, unk st1.1 < n ∧ loopV b n st1 = loopV b N st) ∨ (fo = st1.2.length ∧ m' = 0 ∧ loopV b N st = some st1)), fun σ' H' q => q, ?_⟩
      refine ⟨_, rfl, c, C, dx, _, _, rfl, hc4, T.cl, T.nF, lk_found _ _ _, lf, _, rfl, .inl (SqL.of hlf), ?_⟩
      obtain ⟨dx, fs0, hc5, hno⟩ := np_no n4 (m := "go_round") (by decide +kernel) (by decide +kernel) (by decide +kernel)
      obtain ⟨n', rfl⟩ : ∃ n', n = n' + 1 := ⟨n - 1, by omega⟩
      refine ⟨_, rfl, c, dx, fs0, rfl, hc5, hno, H0, c, tb, lv, lf, as, b, st1, h, wd, rfl, n4, v4, bo, hh, hwd, z4, fun hr0 H6 k6 => ?_, fun st2 hst H6 k6 n6 => ?_⟩
      · refine kE ?_ H6 (k4.trans k6)
        rw [← hlp]
        show (roundV b st1).bind _ = none
        rw [hr0]
        rfl
      · obtain ⟨a1, a2, a3, a4, a5⟩ := roundV_size bo v4 hst
        have hlp' : loopV b N st = if st1.2.length < st2.2.length then loopV b n' st2 else some st2 := by
          rw [← hlp]
          show (roundV b st1).bind _ = _
          rw [hst]
          rfl
        by_cases hg : st1.2.length < st2.2.length
        · rw [if_pos hg] at hlp'
          exact ⟨unk st2.1 + 1, by omega, _, st2, rfl, k4.trans k6, a1, n6, by omega, .inl ⟨by omega, rfl, n', by omega, hlp'.symm⟩⟩
        · rw [if_neg hg] at hlp'
          exact ⟨0, by omega, _, st2, rfl, k4.trans k6, a1, n6, by omega, .inr ⟨by omega, rfl, hlp'⟩⟩
    · rw [decide_eq_false (by omega)]
      exact iteF (kQ st1 hlp H4 k4 n4)
theorem mk_narrowing {H : Hp} {tb lw x dx : Addr} {b : Brd} {v : View} {Q : VK} {E : XK} (hb : IsD H (dBoard b) (.ref tb)) (hv : IsD H (dView v) (.ref lw)) (hn : v.length ≤ 100) (hx : H x = none) (hdx : H dx = none)
    (k : ∀ H0 H' lv lf as, Same H H0 → Same H H' → (∀ a ∈ mutL x lv lf as, H a = none) → NP C H0 H' x tb lv lf as b (v, []) → Q .non H') : sp_ninit C [.ref x, .ref tb, .ref lw] (upd (upd H dx (.own x)) x (.ins C dx [])) Q E := by
  have sm : Same H (upd (upd H dx (.own x)) x (.ins C dx [])) := same_upd' (same_upd hdx) hx
  refine ⟨x, dx, tb, lw, b, v, rfl, upd_same, IsD.mono sm hb, IsD.mono sm hv, hn, fun H' lv lf as h1 h2 np => k _ H' lv lf as sm (fun a o e => h1 a o (sm _ _ e) (fun z => by rw [z, hx] at e; cases e)) (fun a ha => ?_) np⟩
  rcases List.mem_cons.mp ha with z | z
  · rw [z]; exact hx
  · exact sm.free (h2 a z)
theorem kept_same {H H1 H2 : Hp} {M : List Addr} (s : Same H H1) (hm : ∀ a ∈ M, H a = none) (k : KeptBut H1 H2 M) : Same H H2 := fun a o e => k a o (s _ _ e) fun z => by rw [hm a z] at e; cases e
theorem np_own {H0 H H' : Hp} {c tb lv lf : Addr} {as : List Addr} {b : Brd} {st : NSt} (s : Same H H') (hm : ∀ a ∈ mutL c lv lf as, H a = none) (n : NP C H0 H' c tb lv lf as b st) : OwnV H H' lv as (st.1.map sightV) := by
  refine ⟨s, n.vw, by rw [List.length_map]; exact n.len, fun i a xs e1 e2 => ?_, n.nd, n.va, fun a ha => hm a (List.mem_cons_of_mem _ (List.mem_cons_of_mem _ (List.mem_cons_of_mem _ ha))), hm lv (List.mem_cons_of_mem _ List.mem_cons_self)⟩
  rw [List.getElem?_map] at e2
  cases q : st.1[i]? with
  | none => rw [q] at e2; cases e2
  | some t =>
    rw [q] at e2
    cases e2
    rw [n.row i a e1, getD_of q]
inductive sp_narrowed (CN : Addr) (vs : List V) (H : Hp) (Q : VK) (E : XK) : Prop
  | mk (tb lw : Addr) (b : Brd) (v : View) (h wd : Nat) (z0 : vs = [.ref tb, .ref lw]) (z1 : IsD H (dBoard b) (.ref tb)) (z2 : IsD H (dView v) (.ref lw)) (z3 : VOk h wd v) (z4 : BOk h wd b) (z5 : h ≤ 100) (z6 : wd ≤ 100) (z7 : unk v ≤ 20000) (z8 : (narrowV b v = none → ∀ H', Same H H' → E (.ref CN) none H') ∧ (∀ st, narrowV b v = some st → ∀ lv as H', OwnV H H' lv as (st.1.map sightV) → Q (.ref lv) H')) : sp_narrowed CN vs H Q E
theorem sc_narrowed : FnScope ["board", "view", "narrowing"] ["board", "view"] (defScope s_narrowed) := ⟨rfl, rfl, rfl, by decide +kernel, rfl, by decide +kernel, by decide +kernel⟩
theorem ok_narrowed {f CN : Addr} {fd : FuncData} (F : Fun K "narrowed" "narrowed" s_narrowed f fd) (T : NT K C) (mk_Narrowing : Maker P w K mg base CX0 "Narrowing" C 1 ["self", "board", "view"] (sp_ninit C)) (m_narrow : Method P w K mg base (CXe P w) C "narrow" 8 ["self"] (sp_narrow C CN)) : FnOk P w K mg base (CXe P w) 9 f fd ["board", "view"] (sp_narrowed CN) := by
  refine F.okX sc_narrowed (fun vs H Q E h => ?_) (fun cdv A outer s H vs Q E hr h => ?_)
  · obtain ⟨tb, lw, b, v, h, wd, rfl, _⟩ := h
    rfl
  · obtain ⟨tb, lw, b, v, h, wd, rfl, hb, hv, vo, bo, hh, hwd, hu, kE, kQ⟩ := h
    refine ⟨_, (pss_cons (ps_set (i := 2) sc_narrowed.nd rfl (Or.inl rfl) (pe_mak mk_Narrowing hr (pa_cons (pv 0) (pa_cons (pv 1) pa_nil))))
      (pss_cons (ps_expr (pe_met0X m_narrow (pv 2) hr takes_fn))
      (pss_one (ps_ret (pe_fld (pv 2) rfl))))), ?_⟩
    refine ⟨_, rfl, _, rfl, fun c dx0 hc0 hdx0 _ => mk_narrowing hb hv (by rw [vo.len]; exact hh) hc0 hdx0 fun H0 H1 lv lf as s0 s1 hm np => ⟨rfl, ?_⟩⟩
    obtain ⟨dx, fs0, hc1, hno⟩ := np_no np (m := "narrow") (by decide +kernel) (by decide +kernel) (by decide +kernel)
    refine ⟨_, rfl, c, dx, fs0, rfl, hc1, hno, H0, c, tb, lv, lf, as, b, (v, []), h, wd, unk v + 1, rfl, np, vo, bo, hh, hwd, (by show 0 + unk v ≤ 20000; omega), (by show unk v < unk v + 1; omega), fun e H2 k2 => kE e H2 (kept_same s1 hm k2), fun st e H2 k2 n2 => ?_⟩
    obtain ⟨dx, hc2⟩ := n2.ins
    exact ⟨_, rfl, c, C, dx, _, _, rfl, hc2, T.cl, T.nV, lk_view _ _ _, kQ st e lv as H2 (np_own (kept_same s1 hm k2) hm n2)⟩
end
section
variable {P : Program} {w : World} {K : PySem.W.Frag} {mg : Str → Option Value} {base : Heap} {C : Addr}
def dStps (ss : List Stp) : Dt := .lst (ss.map dStp)
inductive sp_steps (CN : Addr) (vs : List V) (H : Hp) (Q : VK) (E : XK) : Prop
  | mk (tb lw : Addr) (b : Brd) (v : View) (h wd : Nat) (z0 : vs = [.ref tb, .ref lw]) (z1 : IsD H (dBoard b) (.ref tb)) (z2 : IsD H (dView v) (.ref lw)) (z3 : VOk h wd v) (z4 : BOk h wd b) (z5 : h ≤ 100) (z6 : wd ≤ 100) (z7 : unk v ≤ 20000) (z8 : (narrowV b v = none → ∀ H', Same H H' → E (.ref CN) none H') ∧ (∀ st, narrowV b v = some st → ∀ lf fs H', Same H H' → H lf = none → H' lf = some (.lst fs) → IsDs (newer H H') (st.2.map dStp) fs → Q (.ref lf) H')) : sp_steps CN vs H Q E
theorem sc_steps : FnScope ["board", "view", "narrowing"] ["board", "view"] (defScope s_steps) := ⟨rfl, rfl, rfl, by decide +kernel, rfl, by decide +kernel, by decide +kernel⟩
theorem ok_steps {f CN : Addr} {fd : FuncData} (F : Fun K "steps" "steps" s_steps f fd) (T : NT K C) (mk_Narrowing : Maker P w K mg base CX0 "Narrowing" C 1 ["self", "board", "view"] (sp_ninit C)) (m_narrow : Method P w K mg base (CXe P w) C "narrow" 8 ["self"] (sp_narrow C CN)) : FnOk P w K mg base (CXe P w) 9 f fd ["board", "view"] (sp_steps CN) := by
  refine F.okX sc_steps (fun vs H Q E h => ?_) (fun cdv A outer s H vs Q E hr h => ?_)
  · obtain ⟨tb, lw, b, v, h, wd, rfl, _⟩ := h
    rfl
  · obtain ⟨tb, lw, b, v, h, wd, rfl, hb, hv, vo, bo, hh, hwd, hu, kE, kQ⟩ := h
    refine ⟨_, (pss_cons (ps_set (i := 2) sc_steps.nd rfl (Or.inl rfl) (pe_mak mk_Narrowing hr (pa_cons (pv 0) (pa_cons (pv 1) pa_nil))))
      (pss_cons (ps_expr (pe_met0X m_narrow (pv 2) hr takes_fn))
      (pss_one (ps_ret (pe_fld (pv 2) rfl))))), ?_⟩
    refine ⟨_, rfl, _, rfl, fun c dx0 hc0 hdx0 _ => mk_narrowing hb hv (by rw [vo.len]; exact hh) hc0 hdx0 fun H0 H1 lv lf as s0 s1 hm np => ⟨rfl, ?_⟩⟩
    obtain ⟨dx, fs0, hc1, hno⟩ := np_no np (m := "narrow") (by decide +kernel) (by decide +kernel) (by decide +kernel)
    refine ⟨_, rfl, c, dx, fs0, rfl, hc1, hno, H0, c, tb, lv, lf, as, b, (v, []), h, wd, unk v + 1, rfl, np, vo, bo, hh, hwd, (by show 0 + unk v ≤ 20000; omega), (by show unk v < unk v + 1; omega), fun e H2 k2 => kE e H2 (kept_same s1 hm k2), fun st e H2 k2 n2 => ?_⟩
    obtain ⟨dx, hc2⟩ := n2.ins
    obtain ⟨fs, hlf, hfs⟩ := n2.fd
    exact ⟨_, rfl, c, C, dx, _, _, rfl, hc2, T.cl, T.nF, lk_found _ _ _, kQ st e lf fs H2 (kept_same s1 hm k2) (hm lf (List.mem_cons_of_mem _ (List.mem_cons_of_mem _ List.mem_cons_self))) hlf (IsDs.mono (newer_mono hide_same) (IsDs.mono (newer_anti s0) hfs))⟩
end
section
structure POk (h w : Nat) (pic : List (List Int)) : Prop where
  len : pic.length = h
  wid : ∀ xs ∈ pic, xs.length = w
  bit : ∀ xs ∈ pic, bitsP xs
def lineP (pic : List (List Int)) (l : Nat × Nat) : List Int := if l.1 = 0 then pic.getD l.2 [] else colZ pic l.2
def pixP (pic : List (List Int)) (i j : Nat) : Int := (pic.getD i []).getD j 0
theorem POk.row {h w : Nat} {pic : List (List Int)} (o : POk h w pic) {i : Nat} (hi : i < h) : pic[i]? = some (pic.getD i []) ∧ (pic.getD i []).length = w ∧ bitsP (pic.getD i []) := by
  have h1 : i < pic.length := by rw [o.len]; exact hi
  rw [getD_of (List.getElem?_eq_getElem h1)]
  exact ⟨List.getElem?_eq_getElem h1, o.wid _ (List.getElem_mem h1), o.bit _ (List.getElem_mem h1)⟩
theorem runsZ_ok {c : List Int} (hc : c.length ≤ 99) : (∀ x ∈ runsZ c, 1 ≤ x ∧ x ≤ 500) ∧ (runsZ c).length ≤ 100 := by
  obtain ⟨rs, e, h1, h2⟩ := drawn_runs c hc
  rw [e]
  refine ⟨fun x hx => ?_, by unfold runsI; rw [List.length_map]; omega⟩
  unfold runsI at hx
  obtain ⟨k, hk, rfl⟩ := List.mem_map.mp hx
  have := h1 k hk
  omega
theorem boardZ_ok {h w : Nat} {pic : List (List Int)} (o : POk h w pic) (hh : h ≤ 99) (hw : w ≤ 99) : BOk h w (boardZ pic w) := by
  unfold boardZ
  refine ⟨by rw [List.length_map]; exact o.len, by rw [List.length_map, List.length_range], fun xs hx => ?_, fun xs hx => ?_⟩
  · obtain ⟨c, hc, rfl⟩ := List.mem_map.mp hx
    exact runsZ_ok (by rw [o.wid c hc]; exact hw)
  · obtain ⟨j, hj, rfl⟩ := List.mem_map.mp hx
    exact runsZ_ok (by unfold colZ; rw [List.length_map, o.len]; exact hh)
end
section
variable {P : Program} {w : World} {K : PySem.W.Frag} {mg : Str → Option Value} {base : Heap} {C : Addr}
theorem isDs_set {H : Hp} {ds : List Dt} {xs : List V} {i : Nat} {d : Dt} {v : V} (h : IsDs H ds xs) (hd : IsD H d v) : IsDs H (ds.set i d) (xs.set i v) := by
  have hl := h.length
  refine isDs_of_get (by rw [List.length_set, List.length_set]; exact hl) fun j d' x' e1 e2 => ?_
  by_cases hj : j = i
  · subst hj
    have h1 : j < ds.length := by have := (List.getElem?_eq_some_iff.mp e1).1; rwa [List.length_set] at this
    rw [List.getElem?_set_self h1] at e1
    rw [List.getElem?_set_self (by omega)] at e2
    cases e1; cases e2
    exact hd
  · rw [List.getElem?_set_ne (Ne.symm hj)] at e1 e2
    obtain ⟨x, q1, q2⟩ := h.get e1
    rw [q1] at e2
    cases e2
    exact q2
def GoodRs (xss : List (List Int)) : Prop := ∀ xs ∈ xss, (∀ x ∈ xs, 1 ≤ x ∧ x ≤ 500) ∧ xs.length ≤ 100
theorem good_set {xss : List (List Int)} {i : Nat} {ys : List Int} (h : GoodRs xss) (hy : (∀ x ∈ ys, 1 ≤ x ∧ x ≤ 500) ∧ ys.length ≤ 100) : GoodRs (xss.set i ys) := fun xs hx => by
  rcases set_mem hx with z | z
  · rw [z]; exact hy
  · exact h xs z
inductive sp__law_any_board (vs : List V) (H : Hp) (Q : VK) (E_ : XK) : Prop
  | mk (c : Int) (tb : Addr) (b : Brd) (h wd : Nat) (z0 : vs = [.int c, .ref tb]) (z1 : IsD H (dBoard b) (.ref tb)) (z2 : BOk h wd b) (z3 : 1 ≤ h) (z4 : h ≤ 100) (z5 : 1 ≤ wd) (z6 : wd ≤ 100) (z7 : ∀ (t : Addr) (b' : Brd) (H' : Hp), Same H H' → IsD H' (dBoard b') (.ref t) → BOk h wd b' → Q (.ref t) H') : sp__law_any_board  vs H Q E_
theorem sc__law_any_board : FnScope ["cell", "board", "rows", "columns", "k", "at", "other", "kept", "size"] ["cell", "board"] (defScope s__law_any_board) := ⟨rfl, rfl, rfl, by decide +kernel, rfl, by decide +kernel, by decide +kernel⟩
theorem ok__law_any_board {f : Addr} {fd : FuncData} (F : Fun K "_law_any_board" "_law_any_board" s__law_any_board f fd) (B : Bt mg) (c__law_mix : Callee P w K mg base CX0 "_law_mix" 1 ["cell", "k"] sp__law_mix) : FnOk P w K mg base CX0 2 f fd ["cell", "board"] sp__law_any_board := by
  refine F.ok sc__law_any_board (fun vs H Q E h => ?_) (fun cdv A outer s H vs Q E hr h => ?_)
  · obtain ⟨c, tb, b, h, wd, rfl, _⟩ := h
    rfl
  · obtain ⟨c, tb, b, h, wd, rfl, hb, bo, h1, h2, w1, w2, k⟩ := h
    refine ⟨_, (pss_cons (ps_set (i := 2) sc__law_any_board.nd rfl (Or.inl rfl) (pe_callTy (call_listK K) rfl B.list bt_list (pa_cons (pe_ix (ix_tupK K) (pv 1) pe_int (fun _ _ => rfl)) pa_nil)))
      (pss_cons (ps_set (i := 3) sc__law_any_board.nd rfl (Or.inl rfl) (pe_callTy (call_listK K) rfl B.list bt_list (pa_cons (pe_ix (ix_tupK K) (pv 1) pe_int (fun _ _ => rfl)) pa_nil)))
      (pss_cons (ps_for PassesOwn.never rfl (pi_range1 rfl B.range (pa_cons (pe_op op_mod (pe_cal c__law_mix hr (pa_cons (pv 0) (pa_cons pe_int pa_nil))) pe_int) pa_nil)) (pg_name (i := 4) sc__law_any_board.nd rfl (Or.inl rfl))
      (pss_cons (ps_set (i := 5) sc__law_any_board.nd rfl (Or.inl rfl) (pe_op op_mod (pe_cal c__law_mix hr (pa_cons (pv 0) (pa_cons (pe_op op_add pe_int (pv 4)) pa_nil))) (pe_callB (call_lenK K) rfl B.len bt_len (pa_cons (pv 2) pa_nil))))
      (pss_cons (ps_set (i := 6) sc__law_any_board.nd rfl (Or.inl rfl) (pe_op op_mod (pe_cal c__law_mix hr (pa_cons (pv 0) (pa_cons (pe_op op_add pe_int (pv 4)) pa_nil))) (pe_callB (call_lenK K) rfl B.len bt_len (pa_cons (pv 2) pa_nil))))
      (pss_cons (ps_set (i := 7) sc__law_any_board.nd rfl (Or.inl rfl) (pe_ix (ix_listK K) (pv 2) (pv 5) (fun _ _ => rfl)))
      (pss_cons (ps_asg (pe_ix (ix_listK K) (pv 2) (pv 6) (fun _ _ => rfl)) (pg_sub (pv 2) (pv 5) set_list))
      (pss_one (ps_asg (pv 7) (pg_sub (pv 2) (pv 6) set_list))))))))
      (pss_join (ps_if (pt_cmpR op_eq (pe_op op_mod (pe_cal c__law_mix hr (pa_cons (pv 0) (pa_cons pe_int pa_nil))) pe_int) pe_int (nomark _))
      (pss_cons (ps_set (i := 5) sc__law_any_board.nd rfl (Or.inl rfl) (pe_op op_mod (pe_cal c__law_mix hr (pa_cons (pv 0) (pa_cons pe_int pa_nil))) (pe_callB (call_lenK K) rfl B.len bt_len (pa_cons (pv 3) pa_nil))))
      (pss_cons (ps_set (i := 8) sc__law_any_board.nd rfl (Or.inl rfl) (pe_op op_add pe_int (pe_op op_mod (pe_cal c__law_mix hr (pa_cons (pv 0) (pa_cons pe_int pa_nil))) (pe_callB (call_lenK K) rfl B.len bt_len (pa_cons (pv 2) pa_nil)))))
      (pss_one (ps_asg (pe_tup (pa_cons (pv 8) pa_nil)) (pg_sub (pv 3) (pv 5) set_list)))))
      pss_nil)
      (pss_one (ps_ret (pe_tup (pa_cons (pe_callTy (call_tupleK K) rfl B.tuple bt_tuple (pa_cons (pv 2) pa_nil)) (pa_cons (pe_callTy (call_tupleK K) rfl B.tuple bt_tuple (pa_cons (pv 3) pa_nil)) pa_nil))))))))), ?_⟩
    obtain ⟨ra, ca, ha, hra, hca⟩ := board_inv hb
    obtain ⟨vs, hvs, hvd⟩ := tups_inv hra
    obtain ⟨us, hus, hud⟩ := tups_inv hca
    have e1 := bo.rows
    have e2 := bo.cols
    refine ⟨_, rfl, tb, _, _, .ref ra, rfl, rfl, SqT.of ha, rfl, ra, _, rfl, .inr (SqT.of hvs), fun lr hlr => ?_⟩
    have s1 : Same H (upd H lr (.lst vs)) := same_upd hlr
    have hlr1 : (upd H lr (.lst vs)) lr = some (.lst vs) := upd_same
    generalize upd H lr (.lst vs) = H1 at s1 hlr1 ⊢
    refine ⟨_, rfl, tb, _, _, .ref ca, rfl, rfl, SqT.of (s1 _ _ ha), rfl, ca, _, rfl, .inr (SqT.of (s1 _ _ hus)), fun lc hlc => ?_⟩
    have s2 : Same H1 (upd H1 lc (.lst us)) := same_upd hlc
    have hlc2 : (upd H1 lc (.lst us)) lc = some (.lst us) := upd_same
    generalize upd H1 lc (.lst us) = H2 at s2 hlc2 ⊢
    have nrc : lr ≠ lc := fun z => by rw [← z, hlr1] at hlc; cases hlc
    have nlc : H lc = none := s1.free hlc
    have toH : Same H (hide [lr, lc] H2) := fun a o e => hide_of (s2 _ _ (s1 _ _ e)) (fun z => by
      rcases List.mem_cons.mp z with z | z
      · rw [z, hlr] at e; cases e
      · rw [List.mem_singleton.mp z, nlc] at e; cases e)
    have g1 : GoodRs b.1 := bo.r1
    have g2 : GoodRs b.2 := bo.r2
    obtain ⟨m3, hm3⟩ : ∃ m3 : Nat, mixZ c 11 % 3 = m3 := ⟨(mixZ c 11 % 3).toNat, by omega⟩
    have hm3' : m3 ≤ 2 := by omega
    refine ⟨_, rfl, _, _, rfl, _, _, rfl, rfl, pz rfl, (m3 : Nat), (by show [V.int (mixZ c 11 % 3)] = _; rw [hm3]), by omega, by omega, for_rangeL (lo := 0) (n := ((m3 : Nat) : Int).toNat) (fun i σ H3 => ∃ (o4 o5 o6 o7 : Option V) (ws : List V) (xss : List (List Int)), σ = [some (.int c), some (.ref tb), some (.ref lr), some (.ref lc), o4, o5, o6, o7, none] ∧ Same H H3 ∧ H3 lr = some (.lst ws) ∧ H3 lc = some (.lst us) ∧ IsDs (hide [lr, lc] H3) (xss.map dTup) ws ∧ IsDs (hide [lr, lc] H3) (b.2.map dTup) us ∧ GoodRs xss ∧ xss.length = h)
      ⟨none, none, none, none, vs, b.1, rfl, s1.trans s2, s2 _ _ hlr1, hlc2, IsDs.mono toH hvd, IsDs.mono toH hud, g1, e1⟩ ?_ ?_⟩
    · intro P1 m1
      rintro i σ H3 hi ⟨o4, o5, o6, o7, ws, xss, rfl, s3, hlr3, hlc3, hd3, hu3, g3, l3⟩
      have hwl := rows_len hd3
      obtain ⟨p, hp⟩ : ∃ p : Nat, mixZ c (12 + (0 + (i : Int))) % ((ws.length : Nat) : Int) = p := ⟨(mixZ c (12 + (0 + (i : Int))) % ((ws.length : Nat) : Int)).toNat, by have := Int.emod_nonneg (mixZ c (12 + (0 + (i : Int)))) (b := ((ws.length : Nat) : Int)) (by omega); omega⟩
      have hpl : p < ws.length := by have := Int.emod_lt_of_pos (mixZ c (12 + (0 + (i : Int)))) (b := ((ws.length : Nat) : Int)) (by omega); omega
      obtain ⟨q, hq⟩ : ∃ q : Nat, mixZ c (22 + (0 + (i : Int))) % ((ws.length : Nat) : Int) = q := ⟨(mixZ c (22 + (0 + (i : Int))) % ((ws.length : Nat) : Int)).toNat, by have := Int.emod_nonneg (mixZ c (22 + (0 + (i : Int)))) (b := ((ws.length : Nat) : Int)) (by omega); omega⟩
      have hql : q < ws.length := by have := Int.emod_lt_of_pos (mixZ c (22 + (0 + (i : Int)))) (b := ((ws.length : Nat) : Int)) (by omega); omega
      refine ⟨_, rfl, _, rfl, _, _, rfl, rfl, _, _, rfl, _, rfl, lr, _, rfl, .inl (SqL.of hlr3), _, _, rfl, rfl, by omega, ?_⟩
      show gName 5 (V.int (mixZ c (12 + (0 + (i : Int))) % ((ws.length : Nat) : Int))) _ _ _
      rw [hp]
      refine ⟨_, rfl, _, rfl, _, _, rfl, rfl, _, _, rfl, _, rfl, lr, _, rfl, .inl (SqL.of hlr3), _, _, rfl, rfl, by omega, ?_⟩
      show gName 6 (V.int (mixZ c (22 + (0 + (i : Int))) % ((ws.length : Nat) : Int))) _ _ _
      rw [hq]
      obtain ⟨xp, hxp, dxp⟩ := rows_get hd3 (List.getElem?_eq_getElem hpl)
      obtain ⟨xq, hxq, dxq⟩ := rows_get hd3 (List.getElem?_eq_getElem hql)
      refine ⟨_, rfl, _, rfl, lr, _, _, ws[p], rfl, rfl, SqL.of hlr3, atI_nat (List.getElem?_eq_getElem hpl), ?_⟩
      refine ⟨_, rfl, _, rfl, lr, _, _, ws[q], rfl, rfl, SqL.of hlr3, atI_nat (List.getElem?_eq_getElem hql), _, rfl, _, rfl, lr, _, _, p, rfl, rfl, hlr3, ixN_nat hpl, ?_⟩
      refine ⟨_, rfl, _, rfl, _, rfl, lr, _, _, q, rfl, rfl, upd_same, ixN_nat (by rw [List.length_set]; exact hql), ?_⟩
      rw [upd_upd]
      have kk : KeptBut H3 (upd H3 lr (.lst ((ws.set p ws[q]).set q ws[p]))) [lr, lc] := (KeptBut.refl H3 _).upd List.mem_cons_self
      refine m1 _ _ _ ⟨_, _, _, _, (ws.set p ws[q]).set q ws[p], (xss.set p xq).set q xp, rfl, same_upd' s3 hlr, upd_same, by rw [upd_ne (Ne.symm nrc)]; exact hlc3, ?_, IsDs.mono (hide_mono kk) hu3, good_set (good_set g3 (g3 _ (List.mem_of_getElem? hxq))) (g3 _ (List.mem_of_getElem? hxp)), by rw [List.length_set, List.length_set]; exact l3⟩
      rw [List.map_set, List.map_set]
      exact IsDs.mono (hide_mono kk) (isDs_set (isDs_set hd3 dxq) dxp)
    rintro σ H3 ⟨o4, o5, o6, o7, ws, xss, rfl, s3, hlr3, hlc3, hd3, hu3, g3, l3⟩
    have hwl := rows_len hd3
    have hul := rows_len hu3
    refine joinL (fun σ' H4 => ∃ (o4 o5 o6 o7 o8 : Option V) (us' : List V) (yss : List (List Int)), σ' = [some (.int c), some (.ref tb), some (.ref lr), some (.ref lc), o4, o5, o6, o7, o8] ∧ Same H H4 ∧ H4 lr = some (.lst ws) ∧ H4 lc = some (.lst us') ∧ IsDs (hide [lr, lc] H4) (xss.map dTup) ws ∧ IsDs (hide [lr, lc] H4) (yss.map dTup) us' ∧ GoodRs yss ∧ yss.length = wd) (fun J mJ => ?_) ?_
    · refine ⟨_, rfl, _, _, rfl, _, _, rfl, rfl, pz rfl, rfl, _, rfl, ?_⟩
      refine ite2 (fun _ => ?_) (fun _ => ?_)
      · obtain ⟨p, hp⟩ : ∃ p : Nat, mixZ c 32 % ((us.length : Nat) : Int) = p := ⟨(mixZ c 32 % ((us.length : Nat) : Int)).toNat, by have := Int.emod_nonneg (mixZ c 32) (b := ((us.length : Nat) : Int)) (by omega); omega⟩
        have hpl : p < us.length := by have := Int.emod_lt_of_pos (mixZ c 32) (b := ((us.length : Nat) : Int)) (by omega); omega
        obtain ⟨q, hq⟩ : ∃ q : Nat, mixZ c 33 % ((ws.length : Nat) : Int) = q := ⟨(mixZ c 33 % ((ws.length : Nat) : Int)).toNat, by have := Int.emod_nonneg (mixZ c 33) (b := ((ws.length : Nat) : Int)) (by omega); omega⟩
        have hql : q < ws.length := by have := Int.emod_lt_of_pos (mixZ c 33) (b := ((ws.length : Nat) : Int)) (by omega); omega
        refine ⟨_, rfl, _, _, rfl, _, rfl, lc, _, rfl, .inl (SqL.of hlc3), _, _, rfl, rfl, by omega, ?_⟩
        show gName 5 (V.int (mixZ c 32 % ((us.length : Nat) : Int))) _ _ _
        rw [hp]
        refine ⟨_, rfl, _, _, rfl, _, rfl, lr, _, rfl, .inl (SqL.of hlr3), _, _, rfl, rfl, by omega, _, _, rfl, rfl, ?_⟩
        show gName 8 (V.int (1 + mixZ c 33 % ((ws.length : Nat) : Int))) _ _ _
        rw [hq]
        refine ⟨_, rfl, by show 1 ≤ sizeLine; decide, fun t ht => ?_⟩
        have s4 : Same H3 (upd H3 t (.tup [.int (1 + (q : Int))])) := same_upd ht
        have ht4 : (upd H3 t (.tup [.int (1 + (q : Int))])) t = some (.tup ([1 + (q : Int)].map V.int)) := upd_same
        generalize upd H3 t (.tup [V.int (1 + (q : Int))]) = H4 at s4 ht4 ⊢
        have ntl : t ∉ [lr, lc] := fun z => by
          rcases List.mem_cons.mp z with z | z
          · rw [z, hlr3] at ht; cases ht
          · rw [List.mem_singleton.mp z, hlc3] at ht; cases ht
        refine ⟨_, rfl, _, rfl, lc, _, _, p, rfl, rfl, s4 _ _ hlc3, ixN_nat hpl, ?_⟩
        have kk : KeptBut H4 (upd H4 lc (.lst (us.set p (.ref t)))) [lr, lc] := (KeptBut.refl H4 _).upd (List.mem_cons_of_mem _ List.mem_cons_self)
        refine mJ _ _ ⟨_, _, _, _, _, us.set p (.ref t), b.2.set p [1 + (q : Int)], rfl, same_upd' (s3.trans s4) nlc, by rw [upd_ne nrc]; exact s4 _ _ hlr3, upd_same, IsDs.mono (hide_mono kk) (IsDs.mono (hide_up s4) hd3), ?_, good_set g2 ⟨fun x hx => ?_, by simp⟩, by rw [List.length_set]; exact e2⟩
        · rw [List.map_set]
          exact IsDs.mono (hide_mono kk) (isDs_set (IsDs.mono (hide_up s4) hu3) (isD_tup (hide_of ht4 ntl)))
        · rw [List.mem_singleton.mp hx]
          omega
      · exact mJ _ _ ⟨_, _, _, _, _, us, b.2, rfl, s3, hlr3, hlc3, hd3, hu3, g2, e2⟩
    · rintro σ' H4 ⟨o4, o5, o6, o7, o8, us', yss, rfl, s4, hlr4, hlc4, hd4, hu4, g4, l4⟩
      refine ⟨_, rfl, lr, _, rfl, .inl ⟨SqL.of hlr4, fun t1 ht1 => ?_⟩⟩
      have s5 : Same H4 (upd H4 t1 (.tup ws)) := same_upd ht1
      have ht1' : (upd H4 t1 (.tup ws)) t1 = some (.tup ws) := upd_same
      generalize upd H4 t1 (.tup ws) = H5 at s5 ht1' ⊢
      refine ⟨_, rfl, lc, _, rfl, .inl ⟨SqL.of (s5 _ _ hlc4), fun t2 ht2 => ?_⟩⟩
      have s6 : Same H5 (upd H5 t2 (.tup us')) := same_upd ht2
      have ht2' : (upd H5 t2 (.tup us')) t2 = some (.tup us') := upd_same
      generalize upd H5 t2 (.tup us') = H6 at s6 ht2' ⊢
      refine ⟨by show 2 ≤ sizeLine; decide, fun t ht => ?_⟩
      have s7 : Same H6 (upd H6 t (.tup [.ref t1, .ref t2])) := same_upd ht
      have s47 : Same (hide [lr, lc] H4) (upd H6 t (.tup [.ref t1, .ref t2])) := fun a o e => s7 _ _ (s6 _ _ (s5 _ _ (hide_same _ _ e)))
      exact k t (xss, yss) _ (s4.trans (s5.trans (s6.trans s7))) (mk_board upd_same (mk_tups (s7 _ _ (s6 _ _ ht1')) (IsDs.mono s47 hd4)) (mk_tups (s7 _ _ ht2') (IsDs.mono s47 hu4))) ⟨l3, l4, g3, g4⟩
end
section
variable {P : Program} {w : World} {K : PySem.W.Frag} {mg : Str → Option Value} {base : Heap} {C : Addr}
theorem pix_bit {h w : Nat} {pic : List (List Int)} (po : POk h w pic) {i j : Nat} (hi : i < h) (hj : j < w) : pixP pic i j = 0 ∨ pixP pic i j = 1 := by
  have q1 := (po.row hi).2.2
  have q2 : j < (pic.getD i []).length := by rw [(po.row hi).2.1]; exact hj
  unfold pixP
  rw [getD_of (List.getElem?_eq_getElem q2)]
  exact q1 _ (List.getElem_mem q2)
theorem kept_upd {H : Hp} {l : Addr} {o : HO} : KeptBut H (upd H l o) [l] := (KeptBut.refl H _).upd List.mem_cons_self
theorem _root_.Rp.VOk.snoc {i w : Nat} {v : View} {sg : Sight} (o : VOk i w v) (h1 : sg.length = w) (h2 : sightP sg) : VOk (i + 1) w (v ++ [sg]) := ⟨by rw [List.length_append, o.len]; rfl, fun s hs => by
  rcases List.mem_append.mp hs with z | z
  · exact o.wid s z
  · rw [List.mem_singleton.mp z]; exact h1, fun s hs => by
  rcases List.mem_append.mp hs with z | z
  · exact o.bit s z
  · rw [List.mem_singleton.mp z]; exact h2⟩
inductive sp__law_view (vs : List V) (H : Hp) (Q : VK) (E_ : XK) : Prop
  | mk (c : Int) (pa : Addr) (pic : List (List Int)) (h wd : Nat) (z0 : vs = [.int c, .ref pa]) (z1 : IsD H (dRows pic) (.ref pa)) (z2 : POk h wd pic) (z3 : 1 ≤ h) (z4 : h ≤ 100) (z5 : wd ≤ 100) (z6 : ∀ (lv : Addr) (v : View) (H' : Hp), Same H H' → H lv = none → VOk h wd v → IsD H' (dView v) (.ref lv) → Q (.ref lv) H') : sp__law_view  vs H Q E_
theorem sc__law_view : FnScope ["cell", "picture", "view", "row", "sight", "at", "told"] ["cell", "picture"] (defScope s__law_view) := ⟨rfl, rfl, rfl, by decide +kernel, rfl, by decide +kernel, by decide +kernel⟩
theorem ok__law_view {f : Addr} {fd : FuncData} (F : Fun K "_law_view" "_law_view" s__law_view f fd) (B : Bt mg) (c__law_mix : Callee P w K mg base CX0 "_law_mix" 1 ["cell", "k"] sp__law_mix) : FnOk P w K mg base CX0 2 f fd ["cell", "picture"] sp__law_view := by
  refine F.ok sc__law_view (fun vs H Q E h => ?_) (fun cdv A outer s H vs Q E hr h => ?_)
  · obtain ⟨c, pa, pic, h, wd, rfl, _⟩ := h
    rfl
  · obtain ⟨c, pa, pic, h, wd, rfl, hpa, po, h1, h2, w2, k⟩ := h
    refine ⟨_, (pss_cons (ps_set (i := 2) sc__law_view.nd rfl (Or.inl rfl) (pe_lst pa_nil))
      (pss_cons (ps_for PassesOwn.never rfl (pi_range1 rfl B.range (pa_cons (pe_callB (call_lenK K) rfl B.len bt_len (pa_cons (pv 1) pa_nil)) pa_nil)) (pg_name (i := 3) sc__law_view.nd rfl (Or.inl rfl))
      (pss_cons (ps_set (i := 4) sc__law_view.nd rfl (Or.inl rfl) (pe_lst pa_nil))
      (pss_cons (ps_for PassesOwn.never rfl (pi_range1 rfl B.range (pa_cons (pe_callB (call_lenK K) rfl B.len bt_len (pa_cons (pe_ix (ix_listK K) (pv 1) pe_int (fun _ _ => rfl)) pa_nil)) pa_nil)) (pg_name (i := 5) sc__law_view.nd rfl (Or.inl rfl))
      (pss_cons (ps_set (i := 6) sc__law_view.nd rfl (Or.inl rfl) pe_non)
      (pss_join (ps_if (pt_cmpR op_eq (pe_op op_mod (pe_op op_fdiv (pe_cal c__law_mix hr (pa_cons (pv 0) (pa_cons (pe_op op_add (pe_op op_add pe_int (pe_op op_mul pe_int (pv 3))) (pv 5)) pa_nil))) pe_int) pe_int) pe_int (nomark _))
      (pss_one (ps_set (i := 6) sc__law_view.nd rfl (Or.inl rfl) (pe_ix (ix_listK K) (pe_ix (ix_listK K) (pv 1) (pv 3) (fun _ _ => rfl)) (pv 5) (fun _ _ => rfl))))
      pss_nil)
      (pss_join (ps_if (pt_cmpR op_eq (pe_op op_mod (pe_op op_fdiv (pe_cal c__law_mix hr (pa_cons (pv 0) (pa_cons (pe_op op_add (pe_op op_add pe_int (pe_op op_mul pe_int (pv 3))) (pv 5)) pa_nil))) pe_int) pe_int) pe_int (nomark _))
      (pss_one (ps_set (i := 6) sc__law_view.nd rfl (Or.inl rfl) (pe_op op_sub pe_int (pe_ix (ix_listK K) (pe_ix (ix_listK K) (pv 1) (pv 3) (fun _ _ => rfl)) (pv 5) (fun _ _ => rfl)))))
      pss_nil)
      (pss_one (ps_expr (pe_bm PySem.F.plainAttrs_list PySem.F.slot_list_append PySem.F.type_list_append mt_append (pv 4) (pa_cons (pv 6) pa_nil))))))))
      (pss_one (ps_expr (pe_bm PySem.F.plainAttrs_list PySem.F.slot_list_append PySem.F.type_list_append mt_append (pv 2) (pa_cons (pv 4) pa_nil)))))))
      (pss_one (ps_ret (pv 2))))), ?_⟩
    obtain ⟨ps, hps, hpr⟩ := rows_inv hpa
    have hpsl := rows_len hpr
    have hpl := po.len
    have rowP : ∀ {i : Nat}, i < h → ∃ ra, ps[i]? = some (.ref ra) ∧ H ra = some (.lst ((pic.getD i []).map V.int)) := fun {i} hi => by
      obtain ⟨x, hx, hd⟩ := map_get2 (f := dRow) hpr (po.row hi).1
      obtain ⟨ra, rfl, hra⟩ := row_inv hd
      exact ⟨ra, hx, hra⟩
    have cellP : ∀ {i j : Nat}, i < h → j < wd → ((pic.getD i []).map V.int)[j]? = some (.int (pixP pic i j)) := fun {i j} hi hj => row_get (by rw [(po.row hi).2.1]; exact hj)
    have len0 : ∀ {i : Nat}, i < h → (((pic.getD i []).map V.int).length) = wd := fun {i} hi => by rw [List.length_map, (po.row hi).2.1]
    obtain ⟨r0, hr0a, hr0b⟩ := rowP (i := 0) (by omega)
    refine ⟨Nat.zero_le _, fun lv hlv => ?_⟩
    have s3 : Same H (upd H lv (.lst [])) := same_upd hlv
    have hlv3 : (upd H lv (.lst [])) lv = some (.lst []) := upd_same
    generalize upd H lv (.lst []) = H3 at s3 hlv3 ⊢
    refine ⟨_, rfl, pa, _, rfl, .inl (SqL.of (s3 _ _ hps)), ((ps.length : Nat) : Int), rfl, by omega, by omega, for_rangeL (lo := 0) (n := ((ps.length : Nat) : Int).toNat) (fun i σ H4 => ∃ (o3 o4 o5 o6 : Option V) (v : View) (vs : List V), σ = [some (.int c), some (.ref pa), some (.ref lv), o3, o4, o5, o6] ∧ Same H H4 ∧ H4 lv = some (.lst vs) ∧ IsDs (hide [lv] H4) (v.map dSight) vs ∧ VOk i wd v)
      ⟨none, none, none, none, [], [], rfl, s3, hlv3, (by show IsDs _ [] []; unfold IsDs; rfl), ⟨rfl, fun s hs => (by cases hs), fun s hs => (by cases hs)⟩⟩ ?_ ?_⟩
    · intro P1 m1
      rintro i σ H4 hi ⟨o3, o4, o5, o6, v, vs, rfl, s4, hlv4, hd4, vo4⟩
      have e0 : (0 : Int) + (i : Nat) = (i : Nat) := Int.zero_add _
      rw [e0]
      have hir : i < h := by omega
      have hvl : vs.length = i := by rw [map_len hd4, vo4.len]
      refine ⟨Nat.zero_le _, fun m hm => ?_⟩
      have s5 : Same H4 (upd H4 m (.lst [])) := same_upd hm
      have hm5 : (upd H4 m (.lst [])) m = some (.lst []) := upd_same
      generalize upd H4 m (.lst []) = H5 at s5 hm5 ⊢
      have s25 := s4.trans s5
      obtain ⟨ri, hria, hrib⟩ := rowP hir
      refine ⟨_, rfl, pa, _, _, .ref r0, rfl, rfl, SqL.of (s25 _ _ hps), atI_nat (j := 0) hr0a, r0, _, rfl, .inl (SqL.of (s25 _ _ hr0b)), _, rfl, (by rw [len0 (i := 0) (by omega)]; omega), (by rw [len0 (i := 0) (by omega)]; omega), for_rangeL (lo := 0) (n := ((((pic.getD 0 []).map V.int).length : Nat) : Int).toNat) (fun j σ H6 => ∃ (o5 o6 : Option V) (sg : Sight), σ = [some (.int c), some (.ref pa), some (.ref lv), some (.int (i : Nat)), some (.ref m), o5, o6] ∧ Same H4 H6 ∧ H6 m = some (.lst (sightV sg)) ∧ sg.length = j ∧ sightP sg)
        ⟨_, _, [], rfl, s5, hm5, rfl, fun x hx => (by cases hx)⟩ ?_ ?_⟩
      · intro P2 m2
        rintro j σ H6 hj ⟨o5, o6, sg, rfl, s6, hm6, hsl, hsp⟩
        rw [len0 (i := 0) (by omega)] at hj
        have hjw : j < wd := by omega
        have e0 : (0 : Int) + (j : Nat) = (j : Nat) := Int.zero_add _
        rw [e0]
        have s26 := s4.trans s6
        have hbit := pix_bit po hir hjw
        refine joinL (fun σ' H' => H' = H6 ∧ ∃ x : Option Int, bitO x ∧ σ' = [some (.int c), some (.ref pa), some (.ref lv), some (.int (i : Nat)), some (.ref m), some (.int (j : Nat)), some (vO x)]) (fun J mJ => ?_) ?_
        · refine ⟨_, rfl, _, rfl, _, _, rfl, rfl, .inl ⟨by decide, by decide⟩, _, _, rfl, rfl, _, rfl, _, _, rfl, rfl, _, _, rfl, _, _, rfl, rfl, ⟨by decide, by decide⟩, _, _, rfl, rfl, pz rfl, rfl, _, rfl, ?_⟩
          refine ite2 (fun _ => ?_) (fun _ => ?_)
          · refine ⟨_, rfl, _, rfl, pa, _, _, .ref ri, rfl, rfl, SqL.of (s26 _ _ hps), atI_nat hria, _, rfl, ri, _, _, _, rfl, rfl, SqL.of (s26 _ _ hrib), atI_nat (cellP hir hjw), ?_⟩
            exact mJ _ _ ⟨rfl, some (pixP pic i j), .inr (by rcases hbit with z | z <;> rw [z] <;> simp), rfl⟩
          · exact mJ _ _ ⟨rfl, none, .inl rfl, rfl⟩
        · rintro σ' H' ⟨rfl, x, hx, rfl⟩
          refine joinL (fun σ' H7 => H7 = H' ∧ ∃ x : Option Int, bitO x ∧ σ' = [some (.int c), some (.ref pa), some (.ref lv), some (.int (i : Nat)), some (.ref m), some (.int (j : Nat)), some (vO x)]) (fun J mJ => ?_) ?_
          · refine ⟨_, rfl, _, rfl, _, _, rfl, rfl, .inl ⟨by decide, by decide⟩, _, _, rfl, rfl, _, rfl, _, _, rfl, rfl, _, _, rfl, _, _, rfl, rfl, ⟨by decide, by decide⟩, _, _, rfl, rfl, pz rfl, rfl, _, rfl, ?_⟩
            refine ite2 (fun _ => ?_) (fun _ => ?_)
            · refine ⟨_, rfl, _, rfl, pa, _, _, .ref ri, rfl, rfl, SqL.of (s26 _ _ hps), atI_nat hria, _, rfl, ri, _, _, _, rfl, rfl, SqL.of (s26 _ _ hrib), atI_nat (cellP hir hjw), _, _, rfl, rfl, ?_⟩
              exact mJ _ _ ⟨rfl, some (1 - pixP pic i j), .inr (by rcases hbit with z | z <;> rw [z] <;> simp), rfl⟩
            · exact mJ _ _ ⟨rfl, x, hx, rfl⟩
          · rintro σ' H7 ⟨rfl, x, hx, rfl⟩
            refine ⟨_, rfl, .inl ⟨rfl, _, SqL.of hm6⟩, _, rfl, m, _, _, rfl, rfl, hm6, small1000 (by rw [sightV_len]; omega), ?_⟩
            exact m2 _ _ _ ⟨_, _, sg ++ [x], rfl, same_upd' s6 hm, by rw [upd_same, sight_snoc], by rw [List.length_append, List.length_singleton, hsl], sightP_snoc hsp hx⟩
      · rintro σ H6 ⟨o5, o6, sg, rfl, s6, hm6, hsl, hsp⟩
        rw [len0 (i := 0) (by omega), Int.toNat_natCast] at hsl
        have hlv6 := s6 _ _ hlv4
        have nml : m ≠ lv := fun z => by rw [z, hlv4] at hm; cases hm
        refine ⟨_, rfl, .inl ⟨rfl, _, SqL.of hlv6⟩, _, rfl, lv, _, _, rfl, rfl, hlv6, small1000 (by omega), ?_⟩
        refine m1 _ _ _ ⟨_, _, _, _, v ++ [sg], vs ++ [.ref m], rfl, same_upd' (s4.trans s6) hlv, upd_same, ?_, vo4.snoc hsl hsp⟩
        rw [List.map_append]
        refine IsDs.mono (hide_mono kept_upd) ((IsDs.mono (hide_up s6) hd4).snoc (isD_sight (hide_of hm6 ?_)))
        simpa using nml
    · rintro σ H4 ⟨o3, o4, o5, o6, v, vs, rfl, s4, hlv4, hd4, vo4⟩
      rw [hpsl, hpl, Int.toNat_natCast] at vo4
      exact ⟨_, rfl, k lv v H4 s4 hlv vo4 (mk_view hlv4 (IsDs.mono hide_same hd4))⟩
end
section
variable {P : Program} {w : World} {K : PySem.W.Frag} {mg : Str → Option Value} {base : Heap} {C : Addr}
def emptyV (h w : Nat) : View := List.replicate h (List.replicate w none)
theorem map_const_range {α : Type} (n : Nat) (c : α) : (List.range n).map (fun _ => c) = List.replicate n c := by
  rw [List.map_const', List.length_range]
theorem rep_none (n : Nat) : (List.replicate n [V.non]).flatten = sightV (List.replicate n none) := by
  rw [List.flatten_replicate_singleton]
  unfold sightV
  rw [List.map_replicate]
  rfl
inductive sp_empty_view (vs : List V) (H : Hp) (Q : VK) (E_ : XK) : Prop
  | mk (tb : Addr) (b : Brd) (h wd : Nat) (z0 : vs = [.ref tb]) (z1 : IsD H (dBoard b) (.ref tb)) (z2 : BOk h wd b) (z3 : h ≤ 100) (z4 : wd ≤ 100) (z5 : ∀ l as H', OwnV H H' l as ((emptyV h wd).map sightV) → Q (.ref l) H') : sp_empty_view  vs H Q E_
theorem sc_empty_view : FnScope ["board"] ["board"] (defScope s_empty_view) := ⟨rfl, rfl, rfl, by decide +kernel, rfl, by decide +kernel, by decide +kernel⟩
theorem ok_empty_view {f : Addr} {fd : FuncData} (F : Fun K "empty_view" "empty_view" s_empty_view f fd) (B : Bt mg) : FnOk P w K mg base CX0 1 f fd ["board"] sp_empty_view := by
  refine F.ok sc_empty_view (fun vs H Q E h => ?_) (fun cdv A outer s H vs Q E hr h => ?_)
  · obtain ⟨tb, b, h, wd, rfl, _⟩ := h
    rfl
  · obtain ⟨tb, b, h, wd, rfl, hb, bo, hh, hw, k⟩ := h
    refine ⟨_, (pss_one (ps_ret (pe_comp ["runs"] [0] ⟨rfl, rfl, rfl, rfl, rfl⟩ rfl (pi_tupK K (pe_ix (ix_tupK K) (pv 0) pe_int (fun _ _ => rfl))) (fun _ _ _ _ _ => (pg_name (i := 0) (show (["runs", "board"] : List Str).Nodup by decide +kernel) rfl (Or.inl rfl))) (fun _ _ _ _ _ => pcb_elt (pe_op op_rep (pe_lst (pa_cons pe_non pa_nil)) (pe_callB (call_lenK K) rfl B.len bt_len (pa_cons (pe_ix (ix_tupK K) (pv 1) pe_int (fun _ _ => rfl)) pa_nil))))))), ?_⟩
    obtain ⟨r, cc, vr, vc, htb, hr0, hc0, lr, lc, _, _⟩ := board_at hb
    have e1 := bo.rows
    have e2 := bo.cols
    refine ⟨_, rfl, tb, _, _, .ref r, rfl, rfl, SqT.of htb, rfl, r, rfl, ⟨_, SqT.of hr0⟩, comp_tup (K := K) (a := r) (xs := vr) (fun j ys H3 => ∃ as, ys = as.map V.ref ∧ GrowV H (fun _ => sightV (List.replicate wd none)) j as H3) ⟨[], rfl, GrowV.zero⟩ ?_ ?_ ?_ ?_ ?_⟩
    · exact Nat.le_of_lt (small1000 (by omega))
    · rintro j ys H3 ⟨as, rfl, g⟩
      rw [List.length_map, g.len]
      exact Nat.le_refl _
    · rintro j ys H3 _ ⟨as, rfl, g⟩
      exact SqT.of (g.same _ _ hr0)
    · rintro j y ys H3 hj ⟨as, rfl, g⟩
      refine ⟨rfl, ?_⟩
      refine ⟨by show 1 ≤ sizeLine; decide, fun z hz => ?_⟩
      have s1 : Same H3 (upd H3 z (.lst [.non])) := same_upd hz
      have hz1 : (upd H3 z (.lst [.non])) z = some (.lst [.non]) := upd_same
      generalize upd H3 z (.lst [V.non]) = H4 at s1 hz1 ⊢
      have s04 := g.same.trans s1
      refine ⟨_, rfl, tb, _, _, .ref cc, rfl, rfl, SqT.of (s04 _ _ htb), rfl, cc, _, rfl, .inr (SqT.of (s04 _ _ hc0)), z, _, _, rfl, rfl, hz1, by omega, by omega, (by show 1 * ((vc.length : Nat) : Int).toNat ≤ sizeLine; have := small1000 (n := vc.length) (by omega); rw [Int.toNat_natCast]; omega), fun p hp => ?_⟩
      refine ⟨as ++ [p], by rw [List.map_append]; rfl, g.next (s1.trans (same_upd hp)) (s1.free hp) ?_⟩
      rw [upd_same, Int.toNat_natCast, lc, e2, rep_none]
    · rintro ys H3 ⟨as, rfl, g⟩ l hl
      have o := g.own hl
      rw [lr, e1, map_const_range] at o
      refine k l as _ ?_
      have e : (emptyV h wd).map sightV = List.replicate h (sightV (List.replicate wd none)) := by unfold emptyV; rw [List.map_replicate]
      rw [e]
      exact o
end
section
variable {P : Program} {w : World} {K : PySem.W.Frag} {mg : Str → Option Value} {base : Heap} {C : Addr}
inductive sp__law_sight (vs : List V) (H : Hp) (Q : VK) (E_ : XK) : Prop
  | mk (lr : Addr) (v : View) (h wd : Nat) (l : Nat × Nat) (z0 : vs = [.ref lr, .int (l.1 : Nat), .int (l.2 : Nat)]) (z1 : IsD H (dView v) (.ref lr)) (z2 : VOk h wd v) (z3 : h ≤ 100) (z4 : LOk h wd l) (z5 : ∀ a H', Same H H' → H a = none → H' a = some (.lst (sightV (sightAt v l.1 l.2))) → Q (.ref a) H') : sp__law_sight  vs H Q E_
theorem sc__law_sight : FnScope ["rows", "side", "at"] ["rows", "side", "at"] (defScope s__law_sight) := ⟨rfl, rfl, rfl, by decide +kernel, rfl, by decide +kernel, by decide +kernel⟩
theorem ok__law_sight {f : Addr} {fd : FuncData} (F : Fun K "_law_sight" "_law_sight" s__law_sight f fd) (B : Bt mg) : FnOk P w K mg base CX0 1 f fd ["rows", "side", "at"] sp__law_sight := by
  refine F.ok sc__law_sight (fun vs H Q E h => ?_) (fun cdv A outer s H vs Q E hr h => ?_)
  · obtain ⟨lr, v, h, wd, l, rfl, _⟩ := h
    rfl
  · obtain ⟨lr, v, h, wd, ⟨sd, n⟩, rfl, hd, vo, hh, hl, k⟩ := h
    refine ⟨_, (pss_cons (ps_if (pt_cmpR op_eq (pv 1) pe_int (nomark _))
      (pss_one (ps_ret (pe_callTy (call_listK K) rfl B.list bt_list (pa_cons (pe_ix (ix_listK K) (pv 0) (pv 2) (fun _ _ => rfl)) pa_nil))))
      pss_nil)
      (pss_one (ps_ret (pe_comp ["row"] [2] ⟨rfl, rfl, rfl, rfl, rfl⟩ rfl (pi_listK K (pv 0)) (fun _ _ _ _ _ => (pg_name (i := 0) (show (["row", "at"] : List Str).Nodup by decide +kernel) rfl (Or.inl rfl))) (fun _ _ _ _ _ => pcb_elt (pe_ix (ix_listK K) (pv 0) (pv 1) (fun _ _ => rfl))))))), ?_⟩
    obtain ⟨us, hus, hud⟩ := view_inv hd
    have hul := map_len hud
    have hvl := vo.len
    refine ⟨_, rfl, rfl, _, rfl, ?_⟩
    rcases hl with ⟨h1, h2⟩ | ⟨h1, h2⟩
    · replace h1 : sd = 0 := h1
      replace h2 : n < h := h2
      subst h1
      refine iteT ?_
      have hi' : n < v.length := by omega
      obtain ⟨x, hx, hxd⟩ := map_get2 (f := dSight) hud (List.getElem?_eq_getElem hi')
      obtain ⟨ra, rfl, hra⟩ := sight_inv hxd
      refine ⟨_, rfl, _, rfl, lr, _, _, .ref ra, rfl, rfl, SqL.of hus, atI_nat hx, ra, _, rfl, .inl (SqL.of hra), fun l hl => ?_⟩
      refine k l _ (same_upd hl) hl ?_
      rw [upd_same]
      unfold sightAt
      rw [if_pos rfl, getD_of (List.getElem?_eq_getElem hi')]
    · replace h1 : sd = 1 := h1
      replace h2 : n < wd := h2
      subst h1
      refine iteF ?_
      refine ⟨_, rfl, lr, rfl, ⟨_, SqL.of hus⟩, comp_list (K := K) (a := lr) (xs := us) (fun j ys H3 => H3 = H ∧ ys = (v.take j).map fun s => vO (s.getD n none)) ⟨rfl, rfl⟩ ?_ ?_ ?_ ?_ ?_⟩
      · exact Nat.le_of_lt (small1000 (by omega))
      · rintro j ys H3 ⟨_, rfl⟩
        rw [List.length_map, List.length_take]
        omega
      · rintro j ys H3 _ ⟨rfl, _⟩
        exact SqL.of hus
      · rintro j y ys H3 hj ⟨rfl, rfl⟩
        obtain ⟨sg, hsg, hsd⟩ := map_get' hud hj
        obtain ⟨a, rfl, ha⟩ := sight_inv hsd
        have hw := vo.wid sg (List.mem_of_getElem? hsg)
        refine ⟨rfl, ?_⟩
        refine ⟨_, rfl, _, rfl, a, _, _, _, rfl, rfl, SqL.of ha, atI_nat (sightV_getD (by omega)), ?_⟩
        refine ⟨rfl, ?_⟩
        rw [List.take_add_one, hsg, List.map_append]
        rfl
      · rintro ys H3 ⟨rfl, rfl⟩ l hl'
        rw [hul, List.take_length]
        refine k l _ (same_upd hl') hl' ?_
        rw [upd_same]
        unfold sightAt sightV
        rw [if_neg (show ¬ (1 : Nat) = 0 by decide), List.map_map]
        rfl
end
section
variable {P : Program} {w : World} {K : PySem.W.Frag} {mg : Str → Option Value} {base : Heap} {C : Addr}
inductive sp__law_told_by (vs : List V) (H : Hp) (Q : VK) (E_ : XK) : Prop
  | mk (tr ls : Addr) (rs : List Nat) (s : Sight) (z0 : vs = [.ref tr, .ref ls]) (z1 : H tr = some (.tup (runsV rs))) (z2 : H ls = some (.lst (sightV s))) (z3 : s.length ≤ 8) (z4 : (∀ k ∈ rs, 1 ≤ k)) (z5 : sightP s) (z6 : (layL rs s = [] → ∀ H', Same H H' → Q .non H') ∧ (layL rs s ≠ [] → ∀ l H', Same H H' → H l = none → IsD (newer H H') (dTold (toldL s (bestS rs s))) (.ref l) → Q (.ref l) H')) : sp__law_told_by  vs H Q E_
theorem sc__law_told_by : FnScope ["runs", "sight", "after"] ["runs", "sight"] (defScope s__law_told_by) := ⟨rfl, rfl, rfl, by decide +kernel, rfl, by decide +kernel, by decide +kernel⟩
theorem ok__law_told_by {f : Addr} {fd : FuncData} (F : Fun K "_law_told_by" "_law_told_by" s__law_told_by f fd) (B : Bt mg) (c__law_best : Callee P w K mg base CX0 "_law_best" 3 ["runs", "sight"] sp__law_best) : FnOk P w K mg base CX0 4 f fd ["runs", "sight"] sp__law_told_by := by
  refine F.ok sc__law_told_by (fun vs H Q E h => ?_) (fun cdv A outer s H vs Q E hr h => ?_)
  · obtain ⟨tr, ls, rs, s, rfl, _⟩ := h
    rfl
  · obtain ⟨tr, ls, rs, s, rfl, htr, hls, hn, hr1, hsp, k0, k1⟩ := h
    refine ⟨_, (pss_cons (ps_set (i := 2) sc__law_told_by.nd rfl (Or.inr rfl) (pe_cal c__law_best hr (pa_cons (pv 0) (pa_cons (pv 1) pa_nil))))
      (pss_cons (ps_if (pt_cmpR op_isN (pv 2) pe_non (nomark _))
      (pss_one (ps_ret pe_non))
      pss_nil)
      (pss_one (ps_ret (pe_comp ["at"] [2, 1] ⟨rfl, rfl, rfl, rfl, rfl⟩ rfl (pi_range1 rfl B.range (pa_cons (pe_callB (call_lenK K) rfl B.len bt_len (pa_cons (pv 1) pa_nil)) pa_nil)) (fun _ _ _ _ _ => (pg_name (i := 0) (show (["at", "after", "sight"] : List Str).Nodup by decide +kernel) rfl (Or.inl rfl))) (fun _ _ _ _ _ => pcb_if (pt_cmpR op_ne (pe_ix (ix_listK K) (pv 1) (pv 0) (fun _ _ => rfl)) (pe_ix (ix_listK K) (pv 2) (pv 0) (fun _ _ => rfl)) (nomark _)) (pe_tup (pa_cons (pv 0) (pa_cons (pe_ix (ix_listK K) (pv 1) (pv 0) (fun _ _ => rfl)) pa_nil))))))))), ?_⟩
    have hsl := sightV_len s
    refine ⟨_, rfl, _, rfl, tr, ls, rs, s, rfl, htr, hls, hn, hr1, hsp, fun hno H1 s1 => ?_, fun hne lb H1 s1 hlb hb1 => ?_⟩
    · exact ⟨_, rfl, rfl, _, rfl, iteT (k0 hno H1 s1)⟩
    have bl : (bestS rs s).length = s.length := best_len _ _
    refine ⟨_, rfl, rfl, _, rfl, iteF ?_⟩
    generalize bestS rs s = t at hb1 bl k1
    refine ⟨_, rfl, ls, _, rfl, .inl (SqL.of (s1 _ _ hls)), ((sightV s).length : Nat), rfl, by omega, by omega, comp_range (fun i ys H' => ys.length ≤ i ∧ Same H1 H' ∧ IsDs (newer H H') (((List.range i).filterMap (toldF s t)).map dCell) ys) ⟨Nat.le_refl _, Same.refl _, by show IsDs _ [] []; unfold IsDs; rfl⟩ ?_ ?_ ?_ ?_⟩
    · exact Nat.le_of_lt (small1000 (by omega))
    · rintro i ys H' ⟨h, _⟩
      exact h
    · rintro i ys H' hi ⟨hl, sm, hd⟩
      have hi' : i < s.length := by omega
      refine ⟨rfl, ?_⟩
      have e0 : (0 : Int) + (i : Int) = ((i : Nat) : Int) := by omega
      refine ⟨_, rfl, _, rfl, lb, _, _, _, rfl, rfl, SqL.of (sm _ _ hb1), (by rw [e0]; exact atI_nat (sightV_getD (by omega))), _, rfl, _, rfl, ls, _, _, _, rfl, rfl, SqL.of (sm _ _ (s1 _ _ hls)), (by rw [e0]; exact atI_nat (sightV_getD hi')), vO_scal2, _, rfl, ?_⟩
      rw [List.range_succ, List.filterMap_append, vO_ne]
      by_cases hq : s.getD i none = t.getD i none
      · have e : List.filterMap (toldF s t) [i] = [] := by
          rw [List.filterMap_cons_none (by unfold toldF; rw [if_pos hq])]
          rfl
        rw [decide_eq_true hq.symm]
        refine iteF ?_
        rw [e, List.append_nil]
        exact ⟨by omega, sm, hd⟩
      · have e : List.filterMap (toldF s t) [i] = [(i, t.getD i none)] := by
          rw [List.filterMap_cons_some (b := (i, t.getD i none)) (by unfold toldF; rw [if_neg hq])]
          rfl
        rw [decide_eq_false (fun z => hq z.symm)]
        refine iteT ⟨_, rfl, _, rfl, _, rfl, lb, _, _, _, rfl, rfl, SqL.of (sm _ _ hb1), (by rw [e0]; exact atI_nat (sightV_getD (by omega))), by show 2 ≤ sizeLine; decide, fun a ha => ?_⟩
        rw [e, List.map_append]
        have s2 : Same H' (upd H' a (.tup [.int (0 + (i : Int)), vO (t.getD i none)])) := same_upd ha
        refine ⟨by rw [List.length_append]; simp; omega, sm.trans s2, (IsDs.mono (newer_mono s2) hd).snoc (isD_cell (newer_of ?_ (s1.free (sm.free ha))))⟩
        rw [upd_same, e0]
    · rintro ys H' ⟨hl, sm, hd⟩ l hl'
      rw [Int.toNat_natCast, hsl] at hd
      have s2 : Same H' (upd H' l (.lst ys)) := same_upd hl'
      have nl : H l = none := s1.free (sm.free hl')
      exact k1 hne l _ (s1.trans (sm.trans s2)) nl (mk_told (newer_of upd_same nl) (IsDs.mono (newer_mono s2) hd))
inductive sp__law_view_is (vs : List V) (H : Hp) (Q : VK) (E_ : XK) : Prop
  | mk (fa da : Addr) (v : View) (z0 : vs = [.ref fa, .ref da]) (z1 : IsD H (dView v) (.ref fa)) (z2 : IsD H (dView v) (.ref da)) (z3 : v.length ≤ 100) (z4 : (∀ s ∈ v, s.length ≤ 100)) (z5 : ∀ H', Same H H' → Q (.bl true) H') : sp__law_view_is  vs H Q E_
theorem sc__law_view_is : FnScope ["found", "due"] ["found", "due"] (defScope s__law_view_is) := ⟨rfl, rfl, rfl, by decide +kernel, rfl, by decide +kernel, by decide +kernel⟩
theorem ok__law_view_is {f : Addr} {fd : FuncData} (F : Fun K "_law_view_is" "_law_view_is" s__law_view_is f fd) (B : Bt mg) (c__law_cells : Callee P w K mg base CX0 "_law_cells" 2 ["found", "due"] sp__law_cells) : FnOk P w K mg base CX0 3 f fd ["found", "due"] sp__law_view_is := by
  refine F.ok sc__law_view_is (fun vs H Q E h => ?_) (fun cdv A outer s H vs Q E hr h => ?_)
  · obtain ⟨fa, da, v, rfl, _⟩ := h
    rfl
  · obtain ⟨fa, da, v, rfl, hf, hd, hn, hw, k⟩ := h
    refine ⟨_, (pss_cons (ps_if (PW.pt (pw_or (pt_not (pt_val (pe_callB (call_isinstK K) rfl B.isinstance bt_isinstance (pa_cons (pv 0) (pa_cons (pe_bltn (v := .ty "list") rfl B.list bt_list rfl) pa_nil))))) (pw_or1 (pt_cmpR op_ne (pe_callB (call_lenK K) rfl B.len bt_len (pa_cons (pv 0) pa_nil)) (pe_callB (call_lenK K) rfl B.len bt_len (pa_cons (pv 1) pa_nil)) (nomark _)))))
      (pss_one (ps_ret pe_bl))
      pss_nil)
      (pss_one (ps_ret (pe_callB (call_allK K rfl) rfl B.all L2.bt_all (pa_cons (pe_comp ["k"] [0, 1] ⟨rfl, rfl, rfl, rfl, rfl⟩ rfl (pi_range1 rfl B.range (pa_cons (pe_callB (call_lenK K) rfl B.len bt_len (pa_cons (pv 1) pa_nil)) pa_nil)) (fun _ _ _ _ _ => (pg_name (i := 0) (show (["k", "found", "due"] : List Str).Nodup by decide +kernel) rfl (Or.inl rfl))) (fun _ _ _ _ _ => pcb_elt (pe_cal c__law_cells hr (pa_cons (pe_ix (ix_listK K) (pv 1) (pv 0) (fun _ _ => rfl)) (pa_cons (pe_ix (ix_listK K) (pv 2) (pv 0) (fun _ _ => rfl)) pa_nil))))) pa_nil))))), ?_⟩
    obtain ⟨us, hus, hud⟩ := view_inv hf
    obtain ⟨ws, hws, hwd⟩ := view_inv hd
    have hul := map_len hud
    have hwl := map_len hwd
    refine ⟨_, rfl, _, _, _, true, rfl, fun _ z => z, .lst hus, rfl, _, rfl, iteF ?_⟩
    refine ⟨_, rfl, fa, _, rfl, .inl (SqL.of hus), _, rfl, da, _, rfl, .inl (SqL.of hws), rfl, _, rfl, iteNS (by rw [hul, hwl]) ?_⟩
    refine ⟨_, rfl, da, _, rfl, .inl (SqL.of hws), ((ws.length : Nat) : Int), rfl, by omega, by omega, comp_range (fun i ys H' => H' = H ∧ ys = (List.replicate i true).map V.bl) ⟨rfl, rfl⟩ ?_ ?_ ?_ ?_⟩
    · exact Nat.le_of_lt (small1000 (by omega))
    · rintro i ys H' ⟨_, rfl⟩
      rw [List.length_map, List.length_replicate]
      exact Nat.le_refl _
    · rintro i ys H' hi ⟨rfl, rfl⟩
      have hi' : i < v.length := by omega
      refine ⟨rfl, ?_⟩
      have e0 : (0 : Int) + (i : Int) = ((i : Nat) : Int) := by omega
      obtain ⟨x, hx, hxd⟩ := map_get2 (f := dSight) hud (List.getElem?_eq_getElem hi')
      obtain ⟨xa, rfl, hxa⟩ := sight_inv hxd
      obtain ⟨y, hy, hyd⟩ := map_get2 (f := dSight) hwd (List.getElem?_eq_getElem hi')
      obtain ⟨ya, rfl, hya⟩ := sight_inv hyd
      refine ⟨_, rfl, _, rfl, fa, _, _, .ref xa, rfl, rfl, SqL.of hus, (by rw [e0]; exact atI_nat hx), _, rfl, _, rfl, da, _, _, .ref ya, rfl, rfl, SqL.of hws, (by rw [e0]; exact atI_nat hy), xa, ya, v[i], rfl, hxa, hya, hw _ (List.getElem_mem hi'), rfl, ?_⟩
      rw [List.replicate_succ', List.map_append]
      rfl
    · rintro ys H' ⟨rfl, rfl⟩ l hl
      refine ⟨l, _, rfl, SqL.of upd_same, ?_⟩
      have ha : (List.replicate ((ws.length : Nat) : Int).toNat true).all id = true := by rw [List.all_eq_true]; intro b hb; exact (List.mem_replicate.mp hb).2
      rw [ha]
      exact k _ (same_upd hl)
end
section
theorem own_tell8 {H0 H : Hp} {lr a : Addr} {as : List Addr} {v : View} (o : OwnV H0 H lr as (v.map sightV)) {i j : Nat} {x : Option Int} (e : as[i]? = some a) : OwnV H0 (upd H a (.lst ((sightV (v.getD i [])).set j (vO x)))) lr as ((setC v i j x).map sightV) := by
  have q := o.setRow e ((sightV (v.getD i [])).set j (vO x))
  have e2 : (v.map sightV).set i ((sightV (v.getD i [])).set j (vO x)) = (setC v i j x).map sightV := by
    unfold setC
    rw [List.map_set]
    unfold sightV
    rw [List.map_set]
  rw [e2] at q
  exact q
theorem own_row8 {H0 H : Hp} {lr : Addr} {as : List Addr} {v : View} (o : OwnV H0 H lr as (v.map sightV)) {i : Nat} (hi : i < v.length) : ∃ a, as[i]? = some a ∧ H a = some (.lst (sightV (v.getD i []))) := by
  have hl : i < as.length := by have := o.len; rw [List.length_map] at this; omega
  refine ⟨as[i], List.getElem?_eq_getElem hl, o.row i _ _ (List.getElem?_eq_getElem hl) ?_⟩
  rw [List.getElem?_map, List.getElem?_eq_getElem hi, getD_of (List.getElem?_eq_getElem hi)]
  rfl
theorem own_live {H0 H : Hp} {lr : Addr} {as : List Addr} {v : View} (o : OwnV H0 H lr as (v.map sightV)) : ∀ x ∈ as, H x ≠ none := fun x hx => by
  obtain ⟨i, hi, e⟩ := List.getElem_of_mem hx
  have hi2 : i < v.length := by have := o.len; rw [List.length_map] at this; omega
  rw [o.row i x (sightV v[i]) (by rw [List.getElem?_eq_getElem hi, e]) (by rw [List.getElem?_map, List.getElem?_eq_getElem hi2]; rfl)]
  simp
end
section
variable {P : Program} {w : World} {K : PySem.W.Frag} {mg : Str → Option Value} {base : Heap} {C : Addr}
structure RP (H0 H : Hp) (lr lf : Addr) (as : List Addr) (st : NSt) : Prop where
  own : OwnV H0 H lr as (st.1.map sightV)
  newf : H0 lf = none
  rf : lf ≠ lr
  fa : lf ∉ as
  fd : ∃ fs, H lf = some (.lst fs) ∧ IsDs (hide (lr :: lf :: as) H) (st.2.map dStp) fs
section
variable {H0 H H' : Hp} {lr lf : Addr} {as : List Addr} {st : NSt}
theorem RP.mono (p : RP H0 H lr lf as st) (s : Same H H') : RP H0 H' lr lf as st := by
  obtain ⟨fs, h1, h2⟩ := p.fd
  exact ⟨p.own.mono s, p.newf, p.rf, p.fa, fs, s _ _ h1, IsDs.mono (hide_up s) h2⟩
theorem RP.live (p : RP H0 H lr lf as st) : ∀ a ∈ lr :: lf :: as, H a ≠ none := fun a ha => by
  rcases List.mem_cons.mp ha with z | ha
  · rw [z, p.own.at']; simp
  rcases List.mem_cons.mp ha with z | ha
  · obtain ⟨fs, h1, _⟩ := p.fd
    rw [z, h1]; simp
  · exact own_live p.own a ha
theorem RP.tell (p : RP H0 H lr lf as st) {i j : Nat} {a : Addr} {x : Option Int} (e : as[i]? = some a) : RP H0 (upd H a (.lst ((sightV (st.1.getD i [])).set j (vO x)))) lr lf as (setC st.1 i j x, st.2) ∧ KeptBut H (upd H a (.lst ((sightV (st.1.getD i [])).set j (vO x)))) (lr :: lf :: as) := by
  have hm := List.mem_of_getElem? e
  have k : KeptBut H (upd H a (.lst ((sightV (st.1.getD i [])).set j (vO x)))) (lr :: lf :: as) := (KeptBut.refl H _).upd (List.mem_cons_of_mem _ (List.mem_cons_of_mem _ hm))
  obtain ⟨fs, h1, h2⟩ := p.fd
  have nfa : lf ≠ a := fun z => p.fa (by rw [z]; exact hm)
  exact ⟨⟨own_tell8 p.own e, p.newf, p.rf, p.fa, fs, by rw [upd_ne nfa]; exact h1, IsDs.mono (hide_mono k) h2⟩, k⟩
theorem RP.found (p : RP H0 H lr lf as st) {fs : List V} {t : Addr} {q : Stp} (hf : H lf = some (.lst fs)) (ht : IsD (hide (lr :: lf :: as) H) (dStp q) (.ref t)) : RP H0 (upd H lf (.lst (fs ++ [.ref t]))) lr lf as (st.1, st.2 ++ [q]) ∧ KeptBut H (upd H lf (.lst (fs ++ [.ref t]))) (lr :: lf :: as) := by
  have k : KeptBut H (upd H lf (.lst (fs ++ [.ref t]))) (lr :: lf :: as) := (KeptBut.refl H _).upd (List.mem_cons_of_mem _ List.mem_cons_self)
  obtain ⟨fs', h1, h2⟩ := p.fd
  rw [hf] at h1
  cases h1
  have o := p.own
  refine ⟨⟨⟨same_upd' o.same p.newf, by rw [upd_ne (Ne.symm p.rf)]; exact o.at', o.len, fun i a xs e1 e2 => ?_, o.nd, o.nl, o.new, o.newl⟩, p.newf, p.rf, p.fa, _, upd_same, ?_⟩, k⟩
  · have nn : a ≠ lf := fun z => p.fa (by rw [← z]; exact List.mem_of_getElem? e1)
    rw [upd_ne nn]
    exact o.row i a xs e1 e2
  · rw [List.map_append]
    exact (IsDs.mono (hide_mono k) h2).snoc (IsD.mono (hide_mono k) ht)
end
def offL (b : Brd) (i : Nat) : Nat := if i = 0 then 0 else if i = 1 then b.1.length else b.1.length + b.2.length
def sideB (b : Brd) (i : Nat) : List (List Int) := if i = 0 then b.1 else b.2
theorem lines_at {b : Brd} {i j : Nat} (hi : i < 2) (h : j < (sideB b i).length) : (linesB b).drop (offL b i + j) = (i, j) :: (linesB b).drop (offL b i + (j + 1)) := by
  unfold offL sideB at *
  rcases (by omega : i = 0 ∨ i = 1) with rfl | rfl
  · rw [if_pos rfl] at *
    have := lines_row (b := b) (i := j) h
    rw [Nat.zero_add, Nat.zero_add]
    exact this
  · rw [if_neg (by decide)] at *
    rw [if_pos rfl]
    exact lines_col h
theorem off_next {b : Brd} {i : Nat} (hi : i < 2) : offL b i + (sideB b i).length = offL b (i + 1) := by
  unfold offL sideB
  rcases (by omega : i = 0 ∨ i = 1) with rfl | rfl <;> simp
inductive sp__law_rounds (vs : List V) (H : Hp) (Q : VK) (E_ : XK) : Prop
  | mk (tb lw : Addr) (b : Brd) (v : View) (h wd : Nat) (z0 : vs = [.ref tb, .ref lw]) (z1 : IsD H (dBoard b) (.ref tb)) (z2 : IsD H (dView v) (.ref lw)) (z3 : VOk h wd v) (z4 : BOk h wd b) (z5 : h ≤ 8) (z6 : wd ≤ 8) (z7 : unk v ≤ 20000) (z8 : (narrowV b v = none → ∀ H', Same H H' → Q .non H') ∧ (∀ st, narrowV b v = some st → ∀ t lr lf H', Same H H' → H' t = some (.tup [.ref lr, .ref lf]) → IsD H' (dView st.1) (.ref lr) → IsD H' (dStps st.2) (.ref lf) → Q (.ref t) H')) : sp__law_rounds  vs H Q E_
theorem sc__law_rounds : FnScope ["board", "view", "rows", "found", "fresh", "side", "at", "sight", "cells", "place", "cell"] ["board", "view"] (defScope s__law_rounds) := ⟨rfl, rfl, rfl, by decide +kernel, rfl, by decide +kernel, by decide +kernel⟩
theorem eqD_nil {cs : List (Nat × Option Int)} (h : cs ≠ []) : eqD (dTold cs) (.lst []) = false := by
  unfold dTold
  rw [eqD_ll]
  exact eqDs_len _ _ (by rw [List.length_map]; intro z; exact h (List.length_eq_zero_iff.mp z))
theorem depth_cell (pc : Nat × Option Int) : depthD (dCell pc) ≤ 1 := by
  unfold dCell
  rw [depth_t]
  obtain ⟨p, x⟩ := pc
  cases x <;> simp [depthDs, depthD, dO]
theorem depth_told (cs : List (Nat × Option Int)) : depthD (dTold cs) ≤ 2 := by
  unfold dTold
  rw [depth_l]
  have := depth_map depth_cell cs
  omega
theorem ok__law_rounds {f : Addr} {fd : FuncData} (F : Fun K "_law_rounds" "_law_rounds" s__law_rounds f fd) (B : Bt mg) (c__law_sight : Callee P w K mg base CX0 "_law_sight" 1 ["rows", "side", "at"] sp__law_sight) (c__law_told_by : Callee P w K mg base CX0 "_law_told_by" 4 ["runs", "sight"] sp__law_told_by) : FnOk P w K mg base CX0 5 f fd ["board", "view"] sp__law_rounds := by
  refine F.ok sc__law_rounds (fun vs H Q E h => ?_) (fun cdv A outer s H vs Q E hr h => ?_)
  · obtain ⟨tb, lw, b, v, h, wd, rfl, _⟩ := h
    rfl
  · obtain ⟨tb, lw, b, v, h, wd, rfl, hb, hv, vo, bo, hh, hw, hu, k0, k1⟩ := h
    have hux := units20 hr
    refine ⟨_, (pss_cons (ps_setComp (i := 2) ["row"] [] sc__law_rounds.nd rfl rfl ⟨rfl, rfl, rfl, rfl, rfl⟩ rfl (pi_listK K (pv 1)) (fun _ _ _ _ _ => (pg_name (i := 0) (show (["row"] : List Str).Nodup by decide +kernel) rfl (Or.inl rfl))) (fun _ _ _ _ _ => pcb_elt (pe_callTy (call_listK K) rfl B.list bt_list (pa_cons (pv 0) pa_nil))))
      (pss_cons (ps_set (i := 3) sc__law_rounds.nd rfl (Or.inl rfl) (pe_lst pa_nil))
      (pss_cons (ps_set (i := 4) sc__law_rounds.nd rfl (Or.inl rfl) pe_bl)
      (pss_cons (ps_while PassesOwn.never (pt_val (pv 4))
      (pss_cons (ps_set (i := 4) sc__law_rounds.nd rfl (Or.inl rfl) pe_bl)
      (pss_one (ps_for PassesOwn.never rfl (pi_range1 rfl B.range (pa_cons pe_int pa_nil)) (pg_name (i := 5) sc__law_rounds.nd rfl (Or.inl rfl))
      (pss_one (ps_for PassesOwn.never rfl (pi_range1 rfl B.range (pa_cons (pe_callB (call_lenK K) rfl B.len bt_len (pa_cons (pe_ix (ix_tupK K) (pv 0) (pv 5) (fun _ _ => rfl)) pa_nil)) pa_nil)) (pg_name (i := 6) sc__law_rounds.nd rfl (Or.inl rfl))
      (pss_cons (ps_set (i := 7) sc__law_rounds.nd rfl (Or.inl rfl) (pe_cal c__law_sight hr (pa_cons (pv 2) (pa_cons (pv 5) (pa_cons (pv 6) pa_nil)))))
      (pss_cons (ps_set (i := 8) sc__law_rounds.nd rfl (Or.inl rfl) (pe_cal c__law_told_by hr (pa_cons (pe_ix (ix_tupK K) (pe_ix (ix_tupK K) (pv 0) (pv 5) (fun _ _ => rfl)) (pv 6) (fun _ _ => rfl)) (pa_cons (pv 7) pa_nil))))
      (pss_cons (ps_if (pt_cmpR op_isN (pv 8) pe_non (nomark _))
      (pss_one (ps_ret pe_non))
      pss_nil)
      (pss_join (ps_if (pt_cmpR (op_neD hux) (pv 8) (pe_lst pa_nil) (nomark _))
      (pss_cons (ps_expr (pe_bm PySem.F.plainAttrs_list PySem.F.slot_list_append PySem.F.type_list_append mt_append (pv 3) (pa_cons (pe_tup (pa_cons (pe_ix (ix_listK K) (pe_lst (pa_cons pe_str (pa_cons pe_str pa_nil))) (pv 5) (fun _ _ => rfl)) (pa_cons (pv 6) (pa_cons (pv 8) pa_nil)))) pa_nil)))
      (pss_one (ps_set (i := 4) sc__law_rounds.nd rfl (Or.inl rfl) pe_bl)))
      pss_nil)
      (pss_one (ps_for PassesOwn.never rfl (pi_listK K (pv 8)) (pg_tupK K 2 rfl (pgs_cons (pg_name (i := 9) sc__law_rounds.nd rfl (Or.inl rfl)) (pgs_cons (pg_name (i := 10) sc__law_rounds.nd rfl (Or.inl rfl)) pgs_nil)))
      (pss_one (ps_if (pt_cmpR op_eq (pv 5) pe_int (nomark _))
      (pss_one (ps_asg (pv 10) (pg_sub (pe_ix (ix_listK K) (pv 2) (pv 6) (fun _ _ => rfl)) (pv 9) set_list)))
      (pss_one (ps_asg (pv 10) (pg_sub (pe_ix (ix_listK K) (pv 2) (pv 9) (fun _ _ => rfl)) (pv 6) set_list)))))))))))))))))
      (pss_one (ps_ret (pe_tup (pa_cons (pv 2) (pa_cons (pv 3) pa_nil))))))))), ?_⟩
    obtain ⟨ws, hws, hwd⟩ := view_inv hv
    have hwl := map_len hwd
    refine ⟨_, rfl, lw, rfl, ⟨_, SqL.of hws⟩, comp_list (K := K) (a := lw) (xs := ws) (fun j ys H6 => ∃ as, ys = as.map V.ref ∧ GrowV H (fun j => sightV (v.getD j [])) j as H6) ⟨[], rfl, GrowV.zero⟩ ?_ ?_ ?_ ?_ ?_⟩
    · exact Nat.le_of_lt (small1000 (by rw [hwl, vo.len]; omega))
    · rintro j ys H6 ⟨as, rfl, g⟩
      rw [List.length_map, g.len]
      exact Nat.le_refl _
    · rintro j ys H6 _ ⟨as, rfl, g⟩
      exact SqL.of (g.same _ _ hws)
    · rintro j y ys H6 hj ⟨as, rfl, g⟩
      obtain ⟨sg, hsg, hd⟩ := map_get' hwd hj
      obtain ⟨a', rfl, ha'⟩ := sight_inv hd
      refine ⟨rfl, ?_⟩
      refine ⟨_, rfl, a', _, rfl, .inl (SqL.of (g.same _ _ ha')), fun l1 hl1 => ?_⟩
      exact ⟨as ++ [l1], by rw [List.map_append]; rfl, g.next (same_upd hl1) hl1 (by rw [upd_same, getD_of hsg])⟩
    rintro ys H1' ⟨as, rfl, g⟩ lr hlr
    rw [hwl] at g
    have ow1 := g.own hlr
    rw [map_range sightV [] v] at ow1
    generalize upd H1' lr (.lst (as.map V.ref)) = H1 at ow1 ⊢
    refine ⟨Nat.zero_le _, fun lf hlf => ?_⟩
    have s2 : Same H1 (upd H1 lf (.lst [])) := same_upd hlf
    have rp0 : RP H (upd H1 lf (.lst [])) lr lf as (v, []) := ⟨ow1.mono s2, ow1.same.free hlf, (fun z => by rw [z, ow1.at'] at hlf; cases hlf), fun z => own_live ow1 lf z hlf, [], upd_same, by show IsDs _ [] []; unfold IsDs; rfl⟩
    generalize upd H1 lf (.lst []) = H2 at s2 rp0 ⊢
    have hsz0 : ([] : List Stp).length + unk v ≤ 20000 := by show 0 + unk v ≤ 20000; omega
    refine ⟨fun m σ H4 => ∃ (fr : Bool) (st1 : NSt) (o5 o6 o7 o8 o9 o10 : Option V), σ = [some (.ref tb), some (.ref lw), some (.ref lr), some (.ref lf), some (.bl fr), o5, o6, o7, o8, o9, o10] ∧ VOk h wd st1.1 ∧ RP H H4 lr lf as st1 ∧ st1.2.length + unk st1.1 ≤ 20000 ∧ ((fr = true ∧ m = unk st1.1 + 1 ∧ ∃ n, unk st1.1 < n ∧ loopV b n st1 = narrowV b v) ∨ (fr = false ∧ m = 0 ∧ narrowV b v = some st1)), ⟨_, true, (v, []), none, none, none, none, none, none, rfl, vo, rp0, hsz0, .inl ⟨rfl, rfl, unk v + 1, by show unk v < unk v + 1; omega, rfl⟩⟩, ?_⟩
    rintro m σ H4 ⟨fr, st1, o5, o6, o7, o8, o9, o10, rfl, v4, p4, z4, hcase⟩
    rcases hcase with ⟨rfl, rfl, n, hn, hlp⟩ | ⟨rfl, rfl, hlp⟩
    rotate_left
    · -- the end
      refine ⟨_, rfl, _, rfl, iteF ?_⟩
      refine ⟨_, rfl, _, rfl, by show 2 ≤ sizeLine; decide, fun t ht => ?_⟩
      have s5 : Same H4 (upd H4 t (.tup [.ref lr, .ref lf])) := same_upd ht
      obtain ⟨fs, h1, h2⟩ := p4.fd
      refine k1 st1 hlp t lr lf _ (p4.own.same.trans s5) upd_same (p4.own.mono s5).isD ?_
      unfold dStps IsD
      exact ⟨lf, fs, rfl, s5 _ _ h1, IsDs.mono (fun a o e => s5 _ _ (hide_same _ _ e)) h2⟩
    refine ⟨_, rfl, _, rfl, iteT ⟨fun σ' H' => ∃ m', m' < unk st1.1 + 1 ∧ ∃ (fr : Bool) (st1 : NSt) (o5 o6 o7 o8 o9 o10 : Option V), σ' = [some (.ref tb), some (.ref lw), some (.ref lr), some (.ref lf), some (.bl fr), o5, o6, o7, o8, o9, o10] ∧ VOk h wd st1.1 ∧ RP H H' lr lf as st1 ∧ st1.2.length + unk st1.1 ≤ 20000 ∧ ((fr = true ∧ m' = unk st1.1 + 1 ∧ ∃ n, unk st1.1 < n ∧ loopV b n st1 = narrowV b v) ∨ (fr = false ∧ m' = 0 ∧ narrowV b v = some st1)), fun σ' H' q => q, ?_⟩⟩
    obtain ⟨n', rfl⟩ : ∃ n', n = n' + 1 := ⟨n - 1, by omega⟩
    have noRound : roundV b st1 = none → narrowV b v = none := fun z => by
      rw [← hlp]
      show (roundV b st1).bind _ = none
      rw [z]
      rfl
    obtain ⟨r, cc, vr, vc, htb, hr0, hc0, lr0, lc0, gr, gc⟩ := board_at hb
    have e1 := bo.rows
    have e2 := bo.cols
    have sideAt : ∀ i, i < 2 → ∃ ta tv, [V.ref r, V.ref cc][i]? = some (.ref ta) ∧ H ta = some (.tup tv) ∧ tv.length = (sideB b i).length ∧ ∀ (j : Nat) x, tv[j]? = some x → ∃ t xs, x = .ref t ∧ (sideB b i)[j]? = some xs ∧ H t = some (.tup (xs.map V.int)) := fun i hi => by
      rcases (by omega : i = 0 ∨ i = 1) with rfl | rfl
      · exact ⟨r, vr, rfl, hr0, lr0, gr⟩
      · exact ⟨cc, vc, rfl, hc0, lc0, gc⟩
    refine ⟨2, rfl, by decide, by decide, for_range (lo := 0) (n := (2 : Int).toNat) (fun i σ H5 => ∃ (fr : Bool) (st2 : NSt) (o5 o6 o7 o8 o9 o10 : Option V), σ = [some (.ref tb), some (.ref lw), some (.ref lr), some (.ref lf), some (.bl fr), o5, o6, o7, o8, o9, o10] ∧ VOk h wd st2.1 ∧ RP H H5 lr lf as st2 ∧ st2.2.length + unk st2.1 ≤ 20000 ∧ st1.2.length ≤ st2.2.length ∧ fr = decide (st1.2.length < st2.2.length) ∧ goV b ((linesB b).drop (offL b i)) st2 = roundV b st1) ⟨false, st1, _, _, _, _, _, _, rfl, v4, p4, z4, Nat.le_refl _, (decide_eq_false (Nat.lt_irrefl _)).symm, rfl⟩ ?_ ?_⟩
    · rintro i σ H5 hi ⟨fr, st2, o5, o6, o7, o8, o9, o10, rfl, v5, p5, z5, g5, hfr, hgo⟩
      have hi2 : i < 2 := hi
      have e0 : (0 : Int) + (i : Nat) = (i : Nat) := Int.zero_add _
      rw [e0]
      obtain ⟨ta, tv, hta, htv, htl, gt⟩ := sideAt i hi2
      have s05 := p5.own.same
      have hsl : (sideB b i).length ≤ 8 := by unfold sideB; split <;> omega
      refine ⟨_, rfl, _, rfl, tb, _, _, .ref ta, rfl, rfl, SqT.of (s05 _ _ htb), atI_nat hta, ta, _, rfl, .inr (SqT.of (s05 _ _ htv)), ((tv.length : Nat) : Int), rfl, by omega, by omega, for_range (lo := 0) (n := ((tv.length : Nat) : Int).toNat) (fun j σ H6 => ∃ (fr : Bool) (st3 : NSt) (o6 o7 o8 o9 o10 : Option V), σ = [some (.ref tb), some (.ref lw), some (.ref lr), some (.ref lf), some (.bl fr), some (.int (i : Nat)), o6, o7, o8, o9, o10] ∧ VOk h wd st3.1 ∧ RP H H6 lr lf as st3 ∧ st3.2.length + unk st3.1 ≤ 20000 ∧ st1.2.length ≤ st3.2.length ∧ fr = decide (st1.2.length < st3.2.length) ∧ goV b ((linesB b).drop (offL b i + j)) st3 = roundV b st1) ⟨fr, st2, _, _, _, _, _, rfl, v5, p5, z5, g5, hfr, hgo⟩ ?_ ?_⟩
      · rintro j σ H6 hj ⟨fr, st3, o6, o7, o8, o9, o10, rfl, v6, p6, z6, g6, hfr, hgo⟩
        have hj' : j < (sideB b i).length := by omega
        have e0 : (0 : Int) + (j : Nat) = (j : Nat) := Int.zero_add _
        rw [e0]
        have hl : LOk h wd (i, j) := by
          unfold sideB at hj'
          rcases (by omega : i = 0 ∨ i = 1) with rfl | rfl
          · exact .inl ⟨rfl, by show j < h; simp at hj'; omega⟩
          · exact .inr ⟨rfl, by show j < wd; simp at hj'; omega⟩
        rw [lines_at hi2 hj'] at hgo
        have hlen := sightAt_len v6 hl
        have hP := sightAt_P v6 hl
        have hll : lenL h wd (i, j) ≤ 8 := by unfold lenL; split <;> omega
        obtain ⟨t, xs, htx, hxs, ht⟩ := gt j _ (List.getElem?_eq_getElem (show j < tv.length by omega))
        obtain ⟨ys, hys, eR, hx, _⟩ := bo.at' hl
        have hys' : (sideB b i)[j]? = some ys := hys
        rw [hxs] at hys'
        cases hys'
        rw [runsV_nat hx] at ht
        refine ⟨_, rfl, _, rfl, _, rfl, lr, st3.1, h, wd, (i, j), rfl, p6.own.isD, v6, by omega, hl, fun a H7 s7 na ha => ?_⟩
        have p7 := p6.mono s7
        have s07 := p7.own.same
        refine ⟨_, rfl, _, rfl, tb, _, _, .ref ta, rfl, rfl, SqT.of (s07 _ _ htb), atI_nat hta, _, rfl, ta, _, _, .ref t, rfl, rfl, SqT.of (s07 _ _ htv), atI_nat (by rw [List.getElem?_eq_getElem (show j < tv.length by omega), htx]), _, rfl, t, a, runsAt b i j, sightAt st3.1 i j, rfl, (by rw [show runsAt b i j = natR xs from eR]; exact s07 _ _ ht), ha, (by show (sightAt st3.1 (i, j).1 (i, j).2).length ≤ 8; omega), bo.pos hl, hP, fun hno H8 s8 => ?_, fun hne l H8 s8 nl hld => ?_⟩
        · refine ⟨_, rfl, rfl, _, rfl, iteT ?_⟩
          refine k0 (noRound ?_) H8 (s07.trans s8)
          rw [← hgo]
          show (stepV b (i, j) st3).bind _ = none
          unfold stepV
          rw [if_pos (show layAt b (i, j) st3.1 = [] from hno)]
          rfl
        have hne' : layAt b (i, j) st3.1 ≠ [] := hne
        have hst : stepV b (i, j) st3 = some ((toldAt b (i, j) st3.1).foldl (tellV i j) st3.1, if toldAt b (i, j) st3.1 = [] then st3.2 else st3.2 ++ [⟨i, j, toldAt b (i, j) st3.1⟩]) := by
          unfold stepV
          rw [if_neg hne']
        obtain ⟨a1, a2, a3, a4, a5⟩ := stepV_size v6 bo hl hst
        have hgo' : goV b ((linesB b).drop (offL b i + (j + 1))) ((toldAt b (i, j) st3.1).foldl (tellV i j) st3.1, if toldAt b (i, j) st3.1 = [] then st3.2 else st3.2 ++ [⟨i, j, toldAt b (i, j) st3.1⟩]) = roundV b st1 := by
          rw [← hgo]
          show _ = (stepV b (i, j) st3).bind _
          rw [hst]
          rfl
        have hmem : ∀ pc ∈ toldAt b (i, j) st3.1, pc.1 < lenL h wd (i, j) ∧ bitO pc.2 := fun pc hpc => by
          obtain ⟨q1, q2, _⟩ := told_mem hpc
          refine ⟨by rw [← hlen]; exact q1, ?_⟩
          rw [q2]
          exact best_bit _ _ _
        have hld' : IsD (newer H7 H8) (dTold (toldAt b (i, j) st3.1)) (.ref l) := hld
        clear hst
        generalize toldAt b (i, j) st3.1 = cs at hld' hgo' hmem a1 a3 a4 a5
        have p8 := p7.mono s8
        have nlM : l ∉ lr :: lf :: as := fun z => p7.live l z nl
        have hlh : IsD (hide (lr :: lf :: as) H8) (dTold cs) (.ref l) := IsD.mono (newer_hide p7.live) hld'
        refine ⟨_, rfl, rfl, _, rfl, iteF ?_⟩
        refine ⟨fun σ' H9 => KeptBut H8 H9 (lr :: lf :: as) ∧ ∃ (fr : Bool), σ' = [some (.ref tb), some (.ref lw), some (.ref lr), some (.ref lf), some (.bl fr), some (.int (i : Nat)), some (.int (j : Nat)), some (.ref a), some (.ref l), o9, o10] ∧ RP H H9 lr lf as (st3.1, if cs = [] then st3.2 else st3.2 ++ [⟨i, j, cs⟩]) ∧ fr = decide (st1.2.length < (if cs = [] then st3.2 else st3.2 ++ [⟨i, j, cs⟩]).length), ?_, ?_⟩
        · refine ⟨_, rfl, Nat.zero_le _, fun ln hln => ?_⟩
          have s9 : Same H8 (upd H8 ln (.lst [])) := same_upd hln
          have hln9 : (upd H8 ln (.lst [])) ln = some (.lst []) := upd_same
          generalize upd H8 ln (.lst []) = H9 at s9 hln9 ⊢
          have p9 := p8.mono s9
          refine ⟨dTold cs, .lst [], IsD.mono (fun a o e => s9 _ _ (hide_same _ _ e)) hlh, by unfold IsD; exact ⟨ln, [], rfl, hln9, by unfold IsDs; rfl⟩, .inl ⟨_, _, rfl, rfl⟩, by have := depth_told cs; omega, _, rfl, ?_⟩
          by_cases h0 : cs = []
          · rw [if_pos h0]
            have : eqD (dTold cs) (.lst []) = true := by rw [h0]; exact eqD_refl _
            rw [this]
            exact iteF ⟨KeptBut.of s9, fr, rfl, p9, hfr⟩
          · rw [if_neg h0, eqD_nil h0]
            obtain ⟨fs, hlf9, hfs⟩ := p9.fd
            have hfl : fs.length = st3.2.length := map_len hfs
            refine iteT ⟨_, rfl, .inl ⟨rfl, _, SqL.of hlf9⟩, by show 2 ≤ sizeLine; decide, fun z hz => ?_⟩
            have sA : Same H9 (upd H9 z (.lst [.str "row", .str "column"])) := same_upd hz
            have hzA : (upd H9 z (.lst [.str "row", .str "column"])) z = some (.lst [.str "row", .str "column"]) := upd_same
            generalize upd H9 z (.lst [V.str "row", V.str "column"]) = HA at sA hzA ⊢
            have hkind : [V.str "row", V.str "column"][i]? = some (.str (kindT i)) := by
              rcases (by omega : i = 0 ∨ i = 1) with rfl | rfl <;> rfl
            refine ⟨_, rfl, z, _, _, .str (kindT i), rfl, rfl, SqL.of hzA, atI_nat hkind, _, rfl, _, rfl, by show 3 ≤ sizeLine; decide, fun t' ht' => ?_⟩
            have sB : Same HA (upd HA t' (.tup [.str (kindT i), .int (j : Nat), .ref l])) := same_upd ht'
            have htB : (upd HA t' (.tup [.str (kindT i), .int (j : Nat), .ref l])) t' = some (.tup [.str (kindT i), .int (j : Nat), .ref l]) := upd_same
            generalize upd HA t' (.tup [.str (kindT i), .int (j : Nat), .ref l]) = HB at sB htB ⊢
            have s9B := sA.trans sB
            have pB := p9.mono s9B
            have ntM : t' ∉ lr :: lf :: as := fun z => (p9.mono sA).live t' z ht'
            have hdB : IsD (hide (lr :: lf :: as) HB) (dStp ⟨i, j, cs⟩) (.ref t') := isD_stp (p := ⟨i, j, cs⟩) (hide_of htB ntM) (IsD.mono (hide_up (s9.trans s9B)) hlh)
            obtain ⟨pC, kC⟩ := pB.found (s9B _ _ hlf9) hdB
            have hbig : 20000 < sizeLine := by decide
            refine ⟨lf, _, _, rfl, rfl, s9B _ _ hlf9, by omega, ?_⟩
            refine ⟨(KeptBut.of (s9.trans s9B)).trans kC, true, rfl, pC, ?_⟩
            rw [List.length_append]
            exact (decide_eq_true (by show st1.2.length < st3.2.length + 1; omega)).symm
        · rintro σ' H9 ⟨k9, fr', rfl, p9, hfr'⟩
          obtain ⟨us, hus, hds⟩ := told_inv hlh
          have hul := map_len hds
          have hus8 : H8 l = some (.lst us) := hide_same _ _ hus
          generalize hfo : (if cs = [] then st3.2 else st3.2 ++ [⟨i, j, cs⟩]) = fo at p9 hfr' hgo' a1 a3 a4 a5
          refine ⟨_, rfl, l, rfl, ⟨_, SqL.of (k9 _ _ hus8 nlM)⟩, for_list (K := K) (a := l) (xs := us) (fun q σ H10 => ∃ (o9 o10 : Option V), σ = [some (.ref tb), some (.ref lw), some (.ref lr), some (.ref lf), some (.bl fr'), some (.int (i : Nat)), some (.int (j : Nat)), some (.ref a), some (.ref l), o9, o10] ∧ KeptBut H8 H10 (lr :: lf :: as) ∧ VOk h wd ((cs.take q).foldl (tellV i j) st3.1) ∧ RP H H10 lr lf as ((cs.take q).foldl (tellV i j) st3.1, fo)) ⟨_, _, rfl, k9, v6, p9⟩ ?_ ?_ ?_⟩
          · rintro q σ H10 _ ⟨o9, o10, rfl, k10, _⟩
            exact SqL.of (k10 _ _ hus8 nlM)
          · rintro q u σ H10 hq ⟨o9, o10, rfl, k10, v10, p10⟩
            obtain ⟨pc, hpc, hpd⟩ := map_get' hds hq
            obtain ⟨qa, rfl, hqa⟩ := cell_inv hpd
            have hq10 : H10 qa = some (.tup [.int (pc.1 : Nat), vO pc.2]) := hide_same _ _ (hide_mono k10 _ _ hqa)
            obtain ⟨m1, m2⟩ := hmem pc (List.mem_of_getElem? hpc)
            have e5 : (cs.take (q + 1)).foldl (tellV i j) st3.1 = tellV i j ((cs.take q).foldl (tellV i j) st3.1) pc := by rw [List.take_add_one, hpc, List.foldl_append]; rfl
            rw [e5]
            generalize (cs.take q).foldl (tellV i j) st3.1 = v9 at v10 p10
            have hvl9 := v10.len
            have ow : OwnV H H10 lr as (v9.map sightV) := p10.own
            refine ⟨qa, _, rfl, SqT.of hq10, rfl, _, _, rfl, _, _, rfl, rfl, ?_⟩
            refine ⟨_, rfl, rfl, _, rfl, ?_⟩
            unfold lenL at m1
            rcases hl with ⟨h1, h2⟩ | ⟨h1, h2⟩
            · replace h1 : i = 0 := h1
              replace h2 : j < h := h2
              rw [if_pos h1] at m1
              subst h1
              refine iteT ?_
              obtain ⟨ra, hra, hrb⟩ := own_row8 ow (i := j) (by omega)
              have hw9 := (v10.row h2).1
              obtain ⟨q9, k11⟩ := p10.tell (j := pc.1) (x := pc.2) hra
              refine ⟨_, rfl, _, rfl, _, rfl, lr, _, _, .ref ra, rfl, rfl, SqL.of p10.own.at', atI_nat (by rw [List.getElem?_map, hra]; rfl), _, rfl, ra, _, _, pc.1, rfl, rfl, hrb, ixN_nat' (by rw [sightV_len]; omega), ?_⟩
              exact ⟨_, _, rfl, k10.trans k11, v10.setC h2 m2, q9⟩
            · replace h1 : i = 1 := h1
              replace h2 : j < wd := h2
              rw [if_neg (by show ¬ i = 0; omega)] at m1
              subst h1
              refine iteF ?_
              obtain ⟨ra, hra, hrb⟩ := own_row8 ow (i := pc.1) (by omega)
              have hw9 := (v10.row m1).1
              obtain ⟨q9, k11⟩ := p10.tell (j := j) (x := pc.2) hra
              refine ⟨_, rfl, _, rfl, _, rfl, lr, _, _, .ref ra, rfl, rfl, SqL.of p10.own.at', atI_nat (by rw [List.getElem?_map, hra]; rfl), _, rfl, ra, _, _, j, rfl, rfl, hrb, ixN_nat' (by rw [sightV_len]; omega), ?_⟩
              exact ⟨_, _, rfl, k10.trans k11, v10.setC m1 m2, q9⟩
          · rintro σ H10 ⟨o9, o10, rfl, k10, v10, p10⟩
            rw [hul, List.take_length] at v10 p10
            replace a3 : st3.2.length ≤ fo.length := a3
            replace a4 : fo.length + unk (cs.foldl (tellV i j) st3.1) ≤ st3.2.length + unk st3.1 := a4
            exact ⟨fr', (cs.foldl (tellV i j) st3.1, fo), _, _, _, _, _, rfl, v10, p10, (by show fo.length + unk (cs.foldl (tellV i j) st3.1) ≤ 20000; omega), (by show st1.2.length ≤ fo.length; omega), hfr', hgo'⟩
      · rintro σ H6 ⟨fr, st3, o6, o7, o8, o9, o10, rfl, v6, p6, z6, g6, hfr, hgo⟩
        rw [Int.toNat_natCast, htl, off_next hi2] at hgo
        exact ⟨fr, st3, _, _, _, _, _, _, rfl, v6, p6, z6, g6, hfr, hgo⟩
    · rintro σ H5 ⟨fr, st2, o5, o6, o7, o8, o9, o10, rfl, v5, p5, z5, g5, hfr, hgo⟩
      have hend : (linesB b).drop (offL b (2 : Int).toNat) = [] := lines_end b
      rw [hend] at hgo
      have hst : roundV b st1 = some st2 := hgo.symm
      obtain ⟨a1, a2, a3, a4, a5⟩ := roundV_size bo v4 hst
      have hlp' : narrowV b v = if st1.2.length < st2.2.length then loopV b n' st2 else some st2 := by
        rw [← hlp]
        show (roundV b st1).bind _ = _
        rw [hst]
        rfl
      by_cases hg : st1.2.length < st2.2.length
      · rw [if_pos hg] at hlp'
        rw [decide_eq_true hg] at hfr
        exact ⟨unk st2.1 + 1, by omega, fr, st2, _, _, _, _, _, _, rfl, v5, p5, z5, .inl ⟨hfr, rfl, n', by omega, hlp'.symm⟩⟩
      · rw [if_neg hg] at hlp'
        rw [decide_eq_false hg] at hfr
        exact ⟨0, by omega, fr, st2, _, _, _, _, _, _, rfl, v5, p5, z5, .inr ⟨hfr, rfl, hlp'⟩⟩
end
section
variable {P : Program} {w : World} {K : PySem.W.Frag} {mg : Str → Option Value} {base : Heap} {C : Addr}
theorem own_anti {H0 H1 H : Hp} {l : Addr} {as : List Addr} {xss : List (List V)} (s : Same H0 H1) (o : OwnV H1 H l as xss) : OwnV H0 H l as xss := ⟨s.trans o.same, o.at', o.len, o.row, o.nd, o.nl, fun a ha => s.free (o.new a ha), s.free o.newl⟩
inductive sp__law_asked (vs : List V) (H : Hp) (Q : VK) (E_ : XK) : Prop
  | mk (tb lw : Addr) (b : Brd) (v : View) (h wd : Nat) (z0 : vs = [.ref tb, .ref lw]) (z1 : IsD H (dBoard b) (.ref tb)) (z2 : IsD H (dView v) (.ref lw)) (z3 : VOk h wd v) (z4 : BOk h wd b) (z5 : h ≤ 100) (z6 : wd ≤ 100) (z7 : unk v ≤ 20000) (z8 : (narrowV b v = none → ∀ t m H', Same H H' → H' t = some (.tup [.non, .ref m]) → H' m = some (.lst ((marksL 0).map V.bl)) → Q (.ref t) H') ∧
  (∀ st, narrowV b v = some st → ∀ t l as m H', OwnV H H' l as (st.1.map sightV) → H' t = some (.tup [.ref l, .ref m]) → H' m = some (.lst []) → Q (.ref t) H')) : sp__law_asked  vs H Q E_
inductive sp__law_stepped (vs : List V) (H : Hp) (Q : VK) (E_ : XK) : Prop
  | mk (tb lw : Addr) (b : Brd) (v : View) (h wd : Nat) (z0 : vs = [.ref tb, .ref lw]) (z1 : IsD H (dBoard b) (.ref tb)) (z2 : IsD H (dView v) (.ref lw)) (z3 : VOk h wd v) (z4 : BOk h wd b) (z5 : h ≤ 100) (z6 : wd ≤ 100) (z7 : unk v ≤ 20000) (z8 : (narrowV b v = none → ∀ t m H', Same H H' → H' t = some (.tup [.non, .ref m]) → H' m = some (.lst ((marksL 0).map V.bl)) → Q (.ref t) H') ∧
  (∀ st, narrowV b v = some st → ∀ t l fs m H', Same H H' → H l = none → H' l = some (.lst fs) → IsDs (newer H H') (st.2.map dStp) fs → H' t = some (.tup [.ref l, .ref m]) → H' m = some (.lst []) → Q (.ref t) H')) : sp__law_stepped  vs H Q E_
theorem sc__law_asked : FnScope ["board", "view", "found", "marks", "e"] ["board", "view"] (defScope s__law_asked) := ⟨rfl, rfl, rfl, by decide +kernel, rfl, by decide +kernel, by decide +kernel⟩
theorem ok__law_asked {f PE NL NN TM BR W NO : Addr} {fd : FuncData} (F : Fun K "_law_asked" "_law_asked" s__law_asked f fd) (B : Bt mg) (R : Errs K mg PE NL NN TM BR W NO) (M : Marks K PE NL NN TM BR W NO NL true false false false false false)
    (c_narrowed : Callee P w K mg base (CXe P w) "narrowed" 9 ["board", "view"] (sp_narrowed NL)) : FnOk P w K mg base CX0 10 f fd ["board", "view"] sp__law_asked := by
  refine F.ok sc__law_asked (fun vs H Q E h => ?_) (fun cdv A outer s H vs Q E hr h => ?_)
  · obtain ⟨tb, lw, b, v, h, wd, rfl, _⟩ := h
    rfl
  · obtain ⟨tb, lw, b, v, h, wd, rfl, hb, hv, vo, bo, hh, hw, hu, kx, k0⟩ := h
    refine ⟨_, (pss_cons (ps_set (i := 2) sc__law_asked.nd rfl (Or.inl rfl) pe_non)
      (pss_cons (ps_set (i := 3) sc__law_asked.nd rfl (Or.inl rfl) (pe_lst pa_nil))
      (pss_join (ps_try K rfl sc__law_asked.nd (i := 4) rfl rfl rfl rfl rfl R.pe R.pex.ex R.pex.be (EE := fun σ Cv _ H' => ∃ lm, σ = [some (.ref tb), some (.ref lw), some .non, some (.ref lm), none] ∧ Same H H' ∧ Cv = .ref NL ∧ narrowV b v = none) (fun _ =>
      (pss_one (ps_set (i := 2) sc__law_asked.nd rfl (Or.inl rfl) (pe_calX c_narrowed hr takes_wx (pa_cons (pv 0) (pa_cons (pv 1) pa_nil)))))) (fun _ =>
      (pss_cons (ps_set (i := 3) sc__law_asked.nd rfl (Or.inl rfl) (pe_lst (pa_cons (pe_callB (call_isinstX K) rfl B.isinstance bt_isinstance (pa_cons (pv 4) (pa_cons (pe_glob (v := .ref NL) rfl R.nl rfl) pa_nil))) (pa_cons (pe_callB (call_isinstX K) rfl B.isinstance bt_isinstance (pa_cons (pv 4) (pa_cons (pe_glob (v := .ref NN) rfl R.nn rfl) pa_nil))) (pa_cons (pe_callB (call_isinstX K) rfl B.isinstance bt_isinstance (pa_cons (pv 4) (pa_cons (pe_glob (v := .ref TM) rfl R.tm rfl) pa_nil))) (pa_cons (pe_callB (call_isinstX K) rfl B.isinstance bt_isinstance (pa_cons (pv 4) (pa_cons (pe_glob (v := .ref BR) rfl R.br rfl) pa_nil))) pa_nil))))))
      (pss_one (ps_set (i := 3) sc__law_asked.nd rfl (Or.inl rfl) (pe_op op_cat (pv 3) (pe_lst (pa_cons (pe_callB (call_isinstX K) rfl B.isinstance bt_isinstance (pa_cons (pv 4) (pa_cons (pe_glob (v := .ref W) rfl R.wd rfl) pa_nil))) (pa_cons (pe_callB (call_isinstX K) rfl B.isinstance bt_isinstance (pa_cons (pv 4) (pa_cons (pe_glob (v := .ref NO) rfl R.no rfl) pa_nil))) (pa_cons (pe_callB (call_isinstX K) rfl B.isinstance bt_isinstance (pa_cons (pv 4) (pa_cons (pe_bltn (v := .ty "ValueError") rfl R.ve bt_ValueError rfl) pa_nil))) pa_nil))))))))))
      (pss_one (ps_ret (pe_tup (pa_cons (pv 2) (pa_cons (pv 3) pa_nil)))))))), ?_⟩
    refine ⟨Nat.zero_le _, fun lm hlm => ?_⟩
    have s0 : Same H (upd H lm (.lst [])) := same_upd hlm
    have hlm0 : (upd H lm (.lst [])) lm = some (.lst []) := upd_same
    generalize upd H lm (.lst []) = H0 at s0 hlm0 ⊢
    refine ⟨fun σ' H' => Same H H' ∧ ((∃ (l : Addr) (as : List Addr) (st : NSt), narrowV b v = some st ∧ σ' = [some (.ref tb), some (.ref lw), some (.ref l), some (.ref lm), none] ∧ OwnV H H' l as (st.1.map sightV) ∧ H' lm = some (.lst [])) ∨
      (∃ m, narrowV b v = none ∧ σ' = [some (.ref tb), some (.ref lw), some .non, some (.ref m), none] ∧ H' m = some (.lst ((marksL 0).map V.bl)))), ⟨?_, ?_⟩, ?_⟩
    · refine ⟨_, rfl, _, rfl, tb, lw, b, v, h, wd, rfl, IsD.mono s0 hb, IsD.mono s0 hv, vo, bo, hh, hw, hu, fun q H1 s1 => ⟨lm, rfl, s0.trans s1, rfl, q⟩, fun st q l as H1 ow => ⟨s0.trans ow.same, .inl ⟨l, as, st, q, rfl, own_anti s0 ow, ow.same _ _ hlm0⟩⟩⟩
    · rintro σ1 C1 a H1 ⟨lm', rfl, s1, hC, hno⟩ ha
      cases hC
      refine ⟨M.ex.ex, M.sub, ?_⟩
      have s2 : Same H1 (upd H1 a (excO NL a)) := same_upd ha
      have ha2 : (upd H1 a (excO NL a)) a = some (excO NL a) := upd_same
      generalize upd H1 a (excO NL a) = H2 at s2 ha2 ⊢
      refine ⟨_, rfl, a, .ref NL, NL, true, rfl, fun _ z => z, ha2, M.ex, M.m0, ?_⟩
      refine ⟨_, rfl, a, .ref NN, NL, false, rfl, fun _ z => z, ha2, M.ex, M.m1, ?_⟩
      refine ⟨_, rfl, a, .ref TM, NL, false, rfl, fun _ z => z, ha2, M.ex, M.m2, ?_⟩
      refine ⟨_, rfl, a, .ref BR, NL, false, rfl, fun _ z => z, ha2, M.ex, M.m3, ?_⟩
      refine ⟨by show 4 ≤ sizeLine; decide, fun m1 hm1 => ?_⟩
      have s3 : Same H2 (upd H2 m1 (.lst [.bl true, .bl false, .bl false, .bl false])) := same_upd hm1
      have hm1' : (upd H2 m1 (.lst [.bl true, .bl false, .bl false, .bl false])) m1 = some (.lst [.bl true, .bl false, .bl false, .bl false]) := upd_same
      have ha3 := s3 _ _ ha2
      generalize upd H2 m1 (.lst [V.bl true, V.bl false, V.bl false, V.bl false]) = H3 at s3 hm1' ha3 ⊢
      refine ⟨_, rfl, _, rfl, a, .ref W, NL, false, rfl, fun _ z => z, ha3, M.ex, M.m4, ?_⟩
      refine ⟨_, rfl, a, .ref NO, NL, false, rfl, fun _ z => z, ha3, M.ex, M.m5, ?_⟩
      refine ⟨_, rfl, a, .ty "ValueError", NL, true, rfl, fun _ z => z, ha3, M.ex, M.m6, ?_⟩
      refine ⟨by show 3 ≤ sizeLine; decide, fun m2 hm2 => ?_⟩
      have s4 : Same H3 (upd H3 m2 (.lst [.bl false, .bl false, .bl true])) := same_upd hm2
      refine ⟨m1, m2, _, _, rfl, rfl, s4 _ _ hm1', upd_same, by show 7 ≤ sizeLine; decide, fun m3 hm3 => ?_⟩
      exact ⟨(((s1.trans s2).trans s3).trans s4).trans (same_upd hm3), .inr ⟨m3, hno, rfl, by rw [upd_same]; rfl⟩⟩
    · rintro σ' H' ⟨s1, ⟨l, as, st, hz, rfl, ow, hlm1⟩ | ⟨m, hne, rfl, hm⟩⟩
      · refine ⟨_, rfl, _, rfl, by show 2 ≤ sizeLine; decide, fun t ht => ?_⟩
        have s2 := same_upd (o := HO.tup [.ref l, .ref lm]) ht
        exact k0 st hz t l as lm _ (ow.mono s2) upd_same (s2 _ _ hlm1)
      · refine ⟨_, rfl, _, rfl, by show 2 ≤ sizeLine; decide, fun t ht => ?_⟩
        have s2 := same_upd (o := HO.tup [.non, .ref m]) ht
        exact kx hne t m _ (s1.trans s2) upd_same (s2 _ _ hm)
theorem sc__law_stepped : FnScope ["board", "view", "found", "marks", "e"] ["board", "view"] (defScope s__law_stepped) := ⟨rfl, rfl, rfl, by decide +kernel, rfl, by decide +kernel, by decide +kernel⟩
theorem ok__law_stepped {f PE NL NN TM BR W NO : Addr} {fd : FuncData} (F : Fun K "_law_stepped" "_law_stepped" s__law_stepped f fd) (B : Bt mg) (R : Errs K mg PE NL NN TM BR W NO) (M : Marks K PE NL NN TM BR W NO NL true false false false false false)
    (c_steps : Callee P w K mg base (CXe P w) "steps" 9 ["board", "view"] (sp_steps NL)) : FnOk P w K mg base CX0 10 f fd ["board", "view"] sp__law_stepped := by
  refine F.ok sc__law_stepped (fun vs H Q E h => ?_) (fun cdv A outer s H vs Q E hr h => ?_)
  · obtain ⟨tb, lw, b, v, h, wd, rfl, _⟩ := h
    rfl
  · obtain ⟨tb, lw, b, v, h, wd, rfl, hb, hv, vo, bo, hh, hw, hu, kx, k0⟩ := h
    refine ⟨_, (pss_cons (ps_set (i := 2) sc__law_stepped.nd rfl (Or.inl rfl) pe_non)
      (pss_cons (ps_set (i := 3) sc__law_stepped.nd rfl (Or.inl rfl) (pe_lst pa_nil))
      (pss_join (ps_try K rfl sc__law_stepped.nd (i := 4) rfl rfl rfl rfl rfl R.pe R.pex.ex R.pex.be (EE := fun σ Cv _ H' => ∃ lm, σ = [some (.ref tb), some (.ref lw), some .non, some (.ref lm), none] ∧ Same H H' ∧ Cv = .ref NL ∧ narrowV b v = none) (fun _ =>
      (pss_one (ps_set (i := 2) sc__law_stepped.nd rfl (Or.inl rfl) (pe_calX c_steps hr takes_wx (pa_cons (pv 0) (pa_cons (pv 1) pa_nil)))))) (fun _ =>
      (pss_cons (ps_set (i := 3) sc__law_stepped.nd rfl (Or.inl rfl) (pe_lst (pa_cons (pe_callB (call_isinstX K) rfl B.isinstance bt_isinstance (pa_cons (pv 4) (pa_cons (pe_glob (v := .ref NL) rfl R.nl rfl) pa_nil))) (pa_cons (pe_callB (call_isinstX K) rfl B.isinstance bt_isinstance (pa_cons (pv 4) (pa_cons (pe_glob (v := .ref NN) rfl R.nn rfl) pa_nil))) (pa_cons (pe_callB (call_isinstX K) rfl B.isinstance bt_isinstance (pa_cons (pv 4) (pa_cons (pe_glob (v := .ref TM) rfl R.tm rfl) pa_nil))) (pa_cons (pe_callB (call_isinstX K) rfl B.isinstance bt_isinstance (pa_cons (pv 4) (pa_cons (pe_glob (v := .ref BR) rfl R.br rfl) pa_nil))) pa_nil))))))
      (pss_one (ps_set (i := 3) sc__law_stepped.nd rfl (Or.inl rfl) (pe_op op_cat (pv 3) (pe_lst (pa_cons (pe_callB (call_isinstX K) rfl B.isinstance bt_isinstance (pa_cons (pv 4) (pa_cons (pe_glob (v := .ref W) rfl R.wd rfl) pa_nil))) (pa_cons (pe_callB (call_isinstX K) rfl B.isinstance bt_isinstance (pa_cons (pv 4) (pa_cons (pe_glob (v := .ref NO) rfl R.no rfl) pa_nil))) (pa_cons (pe_callB (call_isinstX K) rfl B.isinstance bt_isinstance (pa_cons (pv 4) (pa_cons (pe_bltn (v := .ty "ValueError") rfl R.ve bt_ValueError rfl) pa_nil))) pa_nil))))))))))
      (pss_one (ps_ret (pe_tup (pa_cons (pv 2) (pa_cons (pv 3) pa_nil)))))))), ?_⟩
    refine ⟨Nat.zero_le _, fun lm hlm => ?_⟩
    have s0 : Same H (upd H lm (.lst [])) := same_upd hlm
    have hlm0 : (upd H lm (.lst [])) lm = some (.lst []) := upd_same
    generalize upd H lm (.lst []) = H0 at s0 hlm0 ⊢
    refine ⟨fun σ' H' => Same H H' ∧ ((∃ (l : Addr) (fs : List V) (st : NSt), narrowV b v = some st ∧ σ' = [some (.ref tb), some (.ref lw), some (.ref l), some (.ref lm), none] ∧ H l = none ∧ H' l = some (.lst fs) ∧ IsDs (newer H H') (st.2.map dStp) fs ∧ H' lm = some (.lst []) ∧ lm ≠ l) ∨
      (∃ m, narrowV b v = none ∧ σ' = [some (.ref tb), some (.ref lw), some .non, some (.ref m), none] ∧ H' m = some (.lst ((marksL 0).map V.bl)))), ⟨?_, ?_⟩, ?_⟩
    · refine ⟨_, rfl, _, rfl, tb, lw, b, v, h, wd, rfl, IsD.mono s0 hb, IsD.mono s0 hv, vo, bo, hh, hw, hu, fun q H1 s1 => ⟨lm, rfl, s0.trans s1, rfl, q⟩, fun st q l fs H1 s1 nl hl hfs => ⟨s0.trans s1, .inl ⟨l, fs, st, q, rfl, s0.free nl, hl, IsDs.mono (newer_anti s0) hfs, s1 _ _ hlm0, fun z => by rw [← z, hlm0] at nl; cases nl⟩⟩⟩
    · rintro σ1 C1 a H1 ⟨lm', rfl, s1, hC, hno⟩ ha
      cases hC
      refine ⟨M.ex.ex, M.sub, ?_⟩
      have s2 : Same H1 (upd H1 a (excO NL a)) := same_upd ha
      have ha2 : (upd H1 a (excO NL a)) a = some (excO NL a) := upd_same
      generalize upd H1 a (excO NL a) = H2 at s2 ha2 ⊢
      refine ⟨_, rfl, a, .ref NL, NL, true, rfl, fun _ z => z, ha2, M.ex, M.m0, ?_⟩
      refine ⟨_, rfl, a, .ref NN, NL, false, rfl, fun _ z => z, ha2, M.ex, M.m1, ?_⟩
      refine ⟨_, rfl, a, .ref TM, NL, false, rfl, fun _ z => z, ha2, M.ex, M.m2, ?_⟩
      refine ⟨_, rfl, a, .ref BR, NL, false, rfl, fun _ z => z, ha2, M.ex, M.m3, ?_⟩
      refine ⟨by show 4 ≤ sizeLine; decide, fun m1 hm1 => ?_⟩
      have s3 : Same H2 (upd H2 m1 (.lst [.bl true, .bl false, .bl false, .bl false])) := same_upd hm1
      have hm1' : (upd H2 m1 (.lst [.bl true, .bl false, .bl false, .bl false])) m1 = some (.lst [.bl true, .bl false, .bl false, .bl false]) := upd_same
      have ha3 := s3 _ _ ha2
      generalize upd H2 m1 (.lst [V.bl true, V.bl false, V.bl false, V.bl false]) = H3 at s3 hm1' ha3 ⊢
      refine ⟨_, rfl, _, rfl, a, .ref W, NL, false, rfl, fun _ z => z, ha3, M.ex, M.m4, ?_⟩
      refine ⟨_, rfl, a, .ref NO, NL, false, rfl, fun _ z => z, ha3, M.ex, M.m5, ?_⟩
      refine ⟨_, rfl, a, .ty "ValueError", NL, true, rfl, fun _ z => z, ha3, M.ex, M.m6, ?_⟩
      refine ⟨by show 3 ≤ sizeLine; decide, fun m2 hm2 => ?_⟩
      have s4 : Same H3 (upd H3 m2 (.lst [.bl false, .bl false, .bl true])) := same_upd hm2
      refine ⟨m1, m2, _, _, rfl, rfl, s4 _ _ hm1', upd_same, by show 7 ≤ sizeLine; decide, fun m3 hm3 => ?_⟩
      exact ⟨(((s1.trans s2).trans s3).trans s4).trans (same_upd hm3), .inr ⟨m3, hno, rfl, by rw [upd_same]; rfl⟩⟩
    · rintro σ' H' ⟨s1, ⟨l, fs, st, hz, rfl, nl, hl, hfs, hlm1, nml⟩ | ⟨m, hne, rfl, hm⟩⟩
      · refine ⟨_, rfl, _, rfl, by show 2 ≤ sizeLine; decide, fun t ht => ?_⟩
        have s2 := same_upd (o := HO.tup [.ref l, .ref lm]) ht
        exact k0 st hz t l fs lm _ (s1.trans s2) nl (s2 _ _ hl) (IsDs.mono (newer_mono s2) hfs) upd_same (s2 _ _ hlm1)
      · refine ⟨_, rfl, _, rfl, by show 2 ≤ sizeLine; decide, fun t ht => ?_⟩
        have s2 := same_upd (o := HO.tup [.non, .ref m]) ht
        exact kx hne t m _ (s1.trans s2) upd_same (s2 _ _ hm)
end
section
variable {P : Program} {w : World} {K : PySem.W.Frag} {mg : Str → Option Value} {base : Heap} {C : Addr}
theorem for_zip {a b : Addr} {xs zs : List V} {g : TG} {tb : TS} {D : Ends} {σ : St} {H : Hp} (Pv : Nat → St → Hp → Prop) (h0 : Pv 0 σ H) (hx : xs.length = zs.length) (hk : ∀ i σ H, i ≤ xs.length → Pv i σ H → SqL K H a xs ∧ SqL K H b zs)
    (hs : ∀ i x z σ H p, xs[i]? = some x → zs[i]? = some z → Pv i σ H → H p = none → g (.ref p) σ (upd H p (.tup [x, z])) fun σ2 H2 => tb { D with nx := Pv (i + 1), ct := Pv (i + 1), bk := D.nx } σ2 H2) (hd : ∀ σ H, Pv xs.length σ H → D.nx σ H) :
    ∃ W : Nat → Nat → St → Hp → Prop, (∃ m, W 0 m σ H) ∧ ∀ i m σ H, W i m σ H →
      ((Itz K a b).stop i H ∧ D.nx σ H) ∨ ((Itz K a b).go i H ∧ ∃ N : St → Hp → Prop, (∀ σ' H', N σ' H' → ∃ m', m' < m ∧ W (i + 1) m' σ' H') ∧ ∀ x H', (Itz K a b).yld i H x H' → g x σ H' fun σ2 H2 => tb { D with nx := N, ct := N, bk := D.nx } σ2 H2) := by
  refine ⟨fun i m σ H => m = xs.length - i ∧ i ≤ xs.length ∧ Pv i σ H, ⟨xs.length, by simp, Nat.zero_le _, h0⟩, ?_⟩
  rintro i m σ H ⟨rfl, hi', p⟩
  obtain ⟨q1, q2⟩ := hk i σ H hi' p
  by_cases hlt : i < xs.length
  · refine .inr ⟨⟨xs, zs, xs[i], zs[i], q1, q2, by simp [hlt], by simp [← hx, hlt]⟩, Pv (i + 1), fun σ' H' p' => ⟨xs.length - (i + 1), by omega, rfl, hlt, p'⟩, fun x H' y => ?_⟩
    obtain ⟨r, x1, y1, rfl, hn, rfl, e1, e2⟩ := y
    exact hs i x1 y1 σ _ r (e1 xs q1) (e2 zs q2) p hn
  · have e : i = xs.length := by omega
    subst e
    exact .inl ⟨⟨xs, zs, q1, q2, .inl (Nat.le_refl _)⟩, hd σ H p⟩
def StpSome (p : Stp) : Prop := (∀ pc ∈ p.cells, ∃ z, pc.2 = some z) ∧ p.cells.length ≤ 100
theorem told_some {h w : Nat} {b : Brd} {l : Nat × Nat} {v : View} (vo : VOk h w v) (bo : BOk h w b) (hl : LOk h w l) (hne : layAt b l v ≠ []) : ∀ pc ∈ toldAt b l v, ∃ z, pc.2 = some z := fun pc hpc => by
  obtain ⟨q1, q2, q3⟩ := told_mem hpc
  cases e : pc.2 with
  | some z => exact ⟨z, rfl⟩
  | none =>
    rw [e] at q3
    cases q : (sightAt v l.1 l.2).getD pc.1 none with
    | none => exact absurd q q3
    | some z =>
      have := best_told (bo.pos hl) (sightAt_P vo hl) hne q1 q
      rw [bestS_get q1, this, e] at q2
      cases q2
theorem told_len {h w : Nat} {b : Brd} {l : Nat × Nat} {v : View} (vo : VOk h w v) (hl : LOk h w l) (hh : h ≤ 100) (hw : w ≤ 100) : (toldAt b l v).length ≤ 100 := by
  have h1 : (toldAt b l v).length ≤ (List.range (sightAt v l.1 l.2).length).length := List.length_filterMap_le _ _
  rw [List.length_range, sightAt_len vo hl] at h1
  unfold lenL at h1
  split at h1 <;> omega
theorem some_step {h w : Nat} {b : Brd} (bo : BOk h w b) (hh : h ≤ 100) (hw : w ≤ 100) {l : Nat × Nat} {st st' : NSt} (vo : VOk h w st.1) (hl : LOk h w l) (hi : ∀ p ∈ st.2, StpSome p) (e : stepV b l st = some st') : ∀ p ∈ st'.2, StpSome p := by
  obtain ⟨hne, rfl⟩ := stepV_some e
  intro p hp
  replace hp : p ∈ (if toldAt b l st.1 = [] then st.2 else st.2 ++ [⟨l.1, l.2, toldAt b l st.1⟩]) := hp
  split at hp
  · exact hi p hp
  · rcases List.mem_append.mp hp with z | z
    · exact hi p z
    · rw [List.mem_singleton.mp z]
      exact ⟨told_some vo bo hl hne, told_len vo hl hh hw⟩
theorem some_go {h w : Nat} {b : Brd} (bo : BOk h w b) (hh : h ≤ 100) (hw : w ≤ 100) : ∀ {ls : List (Nat × Nat)} {st st' : NSt}, VOk h w st.1 → (∀ l ∈ ls, LOk h w l) → (∀ p ∈ st.2, StpSome p) → goV b ls st = some st' → ∀ p ∈ st'.2, StpSome p
  | [], st, st', _, _, h, e => by
    cases (show some st = some st' from e)
    exact h
  | l :: ls, st, st', vo, hl, h, e => by
    replace e : (stepV b l st).bind (goV b ls) = some st' := e
    cases q : stepV b l st with
    | none => rw [q] at e; cases e
    | some st1 =>
      rw [q] at e
      exact some_go bo hh hw (ls := ls) (stepV_size vo bo (hl l List.mem_cons_self) q).1 (fun l hl' => hl l (List.mem_cons_of_mem _ hl')) (some_step bo hh hw vo (hl l List.mem_cons_self) h q) e
theorem some_loop {h w : Nat} {b : Brd} (bo : BOk h w b) (hh : h ≤ 100) (hw : w ≤ 100) : ∀ (n : Nat) {st st' : NSt}, VOk h w st.1 → (∀ p ∈ st.2, StpSome p) → loopV b n st = some st' → VOk h w st'.1 ∧ (∀ p ∈ st'.2, StpSome p) ∧ st'.2.length + unk st'.1 ≤ st.2.length + unk st.1
  | 0, st, st', vo, h, e => by
    cases (show some st = some st' from e)
    exact ⟨vo, h, Nat.le_refl _⟩
  | n + 1, st, st', vo, h, e => by
    replace e : (roundV b st).bind _ = some st' := e
    cases q : roundV b st with
    | none => rw [q] at e; cases e
    | some st1 =>
      rw [q] at e
      have h1 := some_go bo hh hw vo (lines_ok bo) h q
      obtain ⟨v1, _, _, a4, _⟩ := roundV_size bo vo q
      replace e : (if st.2.length < st1.2.length then loopV b n st1 else some st1) = some st' := e
      split at e
      · obtain ⟨b1, b2, b3⟩ := some_loop bo hh hw n v1 h1 e
        exact ⟨b1, b2, by omega⟩
      · cases e
        exact ⟨v1, h1, a4⟩
theorem stps_inv {H : Hp} {ss : List Stp} {a : Addr} (h : IsD H (dStps ss) (.ref a)) : ∃ vs, H a = some (.lst vs) ∧ IsDs H (ss.map dStp) vs := by
  unfold dStps IsD at h
  obtain ⟨b, vs, e, hb, hs⟩ := h
  cases e
  exact ⟨vs, hb, hs⟩
theorem depth_stp (p : Stp) : depthD (dStp p) ≤ 3 := by
  unfold dStp
  rw [depth_t]
  have := depth_told p.cells
  simp only [depthDs, depthD]
  omega
inductive sp__law_steps (vs : List V) (H : Hp) (Q : VK) (E_ : XK) : Prop
  | mk (fa da : Addr) (ss : List Stp) (z0 : vs = [.ref fa, .ref da]) (z1 : IsD H (dStps ss) (.ref fa)) (z2 : IsD H (dStps ss) (.ref da)) (z3 : (∀ p ∈ ss, StpSome p)) (z4 : ∀ H', Same H H' → Q (.bl true) H') : sp__law_steps  vs H Q E_
theorem sc__law_steps : FnScope ["found", "due", "one", "own"] ["found", "due"] (defScope s__law_steps) := ⟨rfl, rfl, rfl, by decide +kernel, rfl, by decide +kernel, by decide +kernel⟩
theorem ok__law_steps {f : Addr} {fd : FuncData} (F : Fun K "_law_steps" "_law_steps" s__law_steps f fd) (B : Bt mg) (Z : Bz mg) (c__law_whole : Callee P w K mg base CX0 "_law_whole" 1 ["x"] sp__law_whole) : FnOk P w K mg base CX0 2 f fd ["found", "due"] sp__law_steps := by
  refine F.ok sc__law_steps (fun vs H Q E h => ?_) (fun cdv A outer s H vs Q E hr h => ?_)
  · obtain ⟨fa, da, ss, rfl, _⟩ := h
    rfl
  · obtain ⟨fa, da, ss, rfl, hf, hd, hs, k⟩ := h
    have hux := units20 hr
    refine ⟨_, (pss_cons (ps_if (PW.pt (pw_or (pt_not (pt_val (pe_callB (call_isinstK K) rfl B.isinstance bt_isinstance (pa_cons (pv 0) (pa_cons (pe_bltn (v := .ty "list") rfl B.list bt_list rfl) pa_nil))))) (pw_or1 (pt_cmpR op_ne (pe_callB (call_lenK K) rfl B.len bt_len (pa_cons (pv 0) pa_nil)) (pe_callB (call_lenK K) rfl B.len bt_len (pa_cons (pv 1) pa_nil)) (nomark _)))))
      (pss_one (ps_ret pe_bl))
      pss_nil)
      (pss_cons (ps_for PassesOwn.never rfl (pi_zipK K rfl Z.zip (pa_cons (pv 0) (pa_cons (pv 1) pa_nil))) (pg_tupK K 2 rfl (pgs_cons (pg_name (i := 2) sc__law_steps.nd rfl (Or.inl rfl)) (pgs_cons (pg_name (i := 3) sc__law_steps.nd rfl (Or.inl rfl)) pgs_nil)))
      (pss_cons (ps_if (PW.pt (pw_or (pt_not (pt_val (pe_callB (call_isinstK K) rfl B.isinstance bt_isinstance (pa_cons (pv 2) (pa_cons (pe_bltn (v := .ty "tuple") rfl B.tuple bt_tuple rfl) pa_nil))))) (pw_or (pt_cmpR op_ne (pe_callB (call_lenK K) rfl B.len bt_len (pa_cons (pv 2) pa_nil)) pe_int (nomark _)) (pw_or (pt_not (pt_val (pe_callB (call_isinstK K) rfl B.isinstance bt_isinstance (pa_cons (pe_ix (ix_tupK K) (pv 2) pe_int (fun _ _ => rfl)) (pa_cons (pe_bltn (v := .ty "list") rfl B.list bt_list rfl) pa_nil))))) (pw_or1 (pt_cmpR (op_neD hux) (pv 2) (pv 3) (nomark _)))))))
      (pss_one (ps_ret pe_bl))
      pss_nil)
      (pss_one (ps_if (PW.pt (pw_or (pt_not (pt_val (pe_cal c__law_whole hr (pa_cons (pe_ix (ix_tupK K) (pv 2) pe_int (fun _ _ => rfl)) pa_nil)))) (pw_or1 (pt_not (pt_val (pe_callB (call_allK K rfl) rfl B.all L2.bt_all (pa_cons (pe_comp ["pair"] [] ⟨rfl, rfl, rfl, rfl, rfl⟩ rfl (pi_listK K (pe_ix (ix_tupK K) (pv 2) pe_int (fun _ _ => rfl))) (fun _ _ _ _ _ => (pg_name (i := 0) (show (["pair"] : List Str).Nodup by decide +kernel) rfl (Or.inl rfl))) (fun _ _ _ _ _ => pcb_elt (pe_and (pe_cal c__law_whole hr (pa_cons (pe_ix (ix_tupK K) (pv 0) pe_int (fun _ _ => rfl)) pa_nil)) (pe_one (pe_cal c__law_whole hr (pa_cons (pe_ix (ix_tupK K) (pv 0) pe_int (fun _ _ => rfl)) pa_nil)))))) pa_nil)))))))
      (pss_one (ps_ret pe_bl))
      pss_nil))))
      (pss_one (ps_ret pe_bl)))), ?_⟩
    obtain ⟨us, hus, hud⟩ := stps_inv hf
    obtain ⟨ws, hws, hwd⟩ := stps_inv hd
    have hul := map_len hud
    have hwl := map_len hwd
    refine ⟨_, rfl, _, _, _, true, rfl, fun _ z => z, .lst hus, rfl, _, rfl, iteF ?_⟩
    refine ⟨_, rfl, fa, _, rfl, .inl (SqL.of hus), _, rfl, da, _, rfl, .inl (SqL.of hws), rfl, _, rfl, iteNS (by rw [hul, hwl]) ?_⟩
    refine ⟨_, rfl, _, rfl, fa, da, rfl, ⟨_, SqL.of hus⟩, ⟨_, SqL.of hws⟩, for_zip (a := fa) (b := da) (xs := us) (zs := ws) (fun i σ H2 => ∃ (o2 o3 : Option V), σ = [some (.ref fa), some (.ref da), o2, o3] ∧ Same H H2) ⟨none, none, rfl, Same.refl _⟩ (by rw [hul, hwl]) ?_ ?_ ?_⟩
    · rintro i σ H2 _ ⟨o2, o3, rfl, s2⟩
      exact ⟨SqL.of (s2 _ _ hus), SqL.of (s2 _ _ hws)⟩
    · rintro i x z σ H2 p hx hz ⟨o2, o3, rfl, s2⟩ hp
      obtain ⟨q, hq, hqd⟩ := map_get' hud hx
      obtain ⟨q', hq', hqd'⟩ := map_get' hwd hz
      rw [hq] at hq'
      cases hq'
      have s3 : Same H2 (upd H2 p (.tup [x, z])) := same_upd hp
      have hp3 : (upd H2 p (.tup [x, z])) p = some (.tup [x, z]) := upd_same
      generalize upd H2 p (.tup [x, z]) = H3 at s3 hp3 ⊢
      have s03 := s2.trans s3
      obtain ⟨hsome, hcl⟩ := hs q (List.mem_of_getElem? hq)
      have hqd3 := IsD.mono s03 hqd
      have hqd3' := IsD.mono s03 hqd'
      obtain ⟨t, l, rfl, ht, hl⟩ := stp_inv hqd3
      obtain ⟨cs, hcs, hcd⟩ := told_inv hl
      have hcsl := map_len hcd
      refine ⟨p, _, rfl, SqT.of hp3, rfl, _, _, rfl, _, _, rfl, rfl, ?_⟩
      refine ⟨_, rfl, _, _, _, true, rfl, fun _ z => z, .tup ht, rfl, _, rfl, iteF ?_⟩
      refine ⟨_, rfl, t, _, rfl, .inr (SqT.of ht), rfl, _, rfl, iteNS rfl ?_⟩
      refine ⟨_, rfl, t, _, _, .ref l, rfl, rfl, SqT.of ht, rfl, _, _, _, true, rfl, fun _ z => z, .lst hcs, rfl, _, rfl, iteF ?_⟩
      refine ⟨_, rfl, _, rfl, dStp q, dStp q, hqd3, hqd3', .inr ⟨_, _, rfl, rfl⟩, by have := depth_stp q; omega, _, rfl, ?_⟩
      rw [eqD_refl]
      refine iteF ?_
      refine ⟨_, rfl, t, _, _, .int (q.num : Nat), rfl, rfl, SqT.of ht, rfl, _, rfl, .inl ⟨_, rfl, _, rfl, iteF ?_⟩⟩
      refine ⟨_, rfl, t, _, _, .ref l, rfl, rfl, SqT.of ht, rfl, l, rfl, ⟨_, SqL.of hcs⟩, comp_list (K := K) (a := l) (xs := cs) (fun j ys H4 => H4 = H3 ∧ ys = (List.replicate j true).map V.bl) ⟨rfl, rfl⟩ ?_ ?_ ?_ ?_ ?_⟩
      · exact Nat.le_of_lt (small1000 (by omega))
      · rintro j ys H4 ⟨_, rfl⟩
        rw [List.length_map, List.length_replicate]
        exact Nat.le_refl _
      · rintro j ys H4 _ ⟨rfl, _⟩
        exact SqL.of hcs
      · rintro j y ys H4 hj ⟨rfl, rfl⟩
        obtain ⟨pc, hpc, hpd⟩ := map_get' hcd hj
        obtain ⟨qa, rfl, hqa⟩ := cell_inv hpd
        obtain ⟨zc, hzc⟩ := hsome pc (List.mem_of_getElem? hpc)
        rw [hzc] at hqa
        refine ⟨rfl, ?_⟩
        refine ⟨_, rfl, qa, _, _, .int (pc.1 : Nat), rfl, rfl, SqT.of hqa, rfl, _, rfl, .inl ⟨_, rfl, _, rfl, iteT ?_⟩⟩
        refine ⟨_, rfl, qa, _, _, .int zc, rfl, rfl, SqT.of hqa, rfl, _, rfl, .inl ⟨_, rfl, rfl, ?_⟩⟩
        rw [List.replicate_succ', List.map_append]
        rfl
      · rintro ys H4 ⟨rfl, rfl⟩ l2 hl2
        refine ⟨l2, _, rfl, SqL.of upd_same, _, rfl, ?_⟩
        have ha : (List.replicate cs.length true).all id = true := by rw [List.all_eq_true]; intro b hb; exact (List.mem_replicate.mp hb).2
        rw [ha]
        exact iteF ⟨_, _, rfl, s03.trans (same_upd hl2)⟩
    · rintro σ H2 ⟨o2, o3, rfl, s2⟩
      exact k H2 s2
theorem cut_tail {xs : List V} (h : 1 ≤ xs.length) : cutV xs (some 1) none = xs.drop 1 := by
  have e1 : HT.sIx xs.length 0 (some 1) = 1 := by
    unfold HT.sIx
    simp
    omega
  have e2 : HT.sIx xs.length xs.length none = xs.length := by
    unfold HT.sIx
    simp
  unfold cutV
  rw [e1, e2, List.take_of_length_le (by rw [List.length_drop]; exact Nat.le_refl _)]
theorem tail_of {H : Hp} {v : View} {us : List V} (h : ∀ (i : Nat) sg u, v[i + 1]? = some sg → us[i + 1]? = some u → IsD H (dSight sg) u) (hl : us.length = v.length) : IsDs H ((v.drop 1).map dSight) (us.drop 1) := by
  refine isDs_of_get (by rw [List.length_map, List.length_drop, List.length_drop, hl]) fun i d x e1 e2 => ?_
  rw [List.getElem?_map, List.getElem?_drop] at e1
  rw [List.getElem?_drop] at e2
  cases q : v[1 + i]? with
  | none => rw [q] at e1; cases e1
  | some sg =>
    rw [q] at e1
    cases e1
    rw [Nat.add_comm] at q e2
    exact h i sg x q e2
theorem own_tail {H0 H : Hp} {lv : Addr} {as : List Addr} {v : View} {ys : List V} (o : OwnV H0 H lv as ((v.map sightV).set 0 ys)) : IsDs H ((v.drop 1).map dSight) ((as.map V.ref).drop 1) := by
  have hl := o.len
  rw [List.length_set, List.length_map] at hl
  refine tail_of (fun i sg u e1 e2 => ?_) (by rw [List.length_map]; exact hl)
  rw [List.getElem?_map] at e2
  cases q : as[i + 1]? with
  | none => rw [q] at e2; cases e2
  | some a =>
    rw [q] at e2
    cases e2
    refine isD_sight (o.row (i + 1) a _ q ?_)
    rw [List.getElem?_set_ne (by omega), List.getElem?_map, e1]
    rfl
theorem view_tail {H : Hp} {v : View} {us : List V} (hd : IsDs H (v.map dSight) us) : IsDs H ((v.drop 1).map dSight) (us.drop 1) := by
  refine tail_of (fun i sg u e1 e2 => ?_) (map_len hd)
  obtain ⟨sg', q1, q2⟩ := map_get' hd e2
  rw [e1] at q1
  cases q1
  exact q2
end
section
variable {P : Program} {w : World} {K : PySem.W.Frag} {mg : Str → Option Value} {base : Heap} {C : Addr}
inductive sp_law (K : PySem.W.Frag) (vs : List V) (H : Hp) (Q : VK) (E_ : XK) : Prop
  | mk (a : Addr) (ns : List Int) (z0 : vs = [.ref a]) (z1 : SqL K H a (ns.map V.int)) (z2 : ns.length ≤ 63) (z3 : ∀ H', Q (.bl true) H') : sp_law K vs H Q E_
theorem unk_bound {w : Nat} : ∀ (v : View), (∀ s ∈ v, s.length = w) → unk v ≤ v.length * w
  | [], _ => Nat.zero_le _
  | s :: v, h => by
    have ih := unk_bound v fun s hs => h s (List.mem_cons_of_mem _ hs)
    have h1 := h s List.mem_cons_self
    have h2 : s.countP (·.isNone) ≤ s.length := List.countP_le_length
    rw [unk_cons, List.length_cons, Nat.add_mul]
    omega
theorem pic_ok (c : Int) (r wd : Nat) : POk r wd (picZ c r wd) := ⟨picZ_len c r wd, fun xs hx => picZ_row hx, fun xs hx z hz => by
  unfold picZ at hx
  obtain ⟨i, _, rfl⟩ := List.mem_map.mp hx
  unfold picRow at hz
  obtain ⟨j, _, rfl⟩ := List.mem_map.mp hz
  unfold pixZ
  split <;> simp⟩
theorem empty_ok (h w : Nat) : VOk h w (emptyV h w) := by
  unfold emptyV
  refine ⟨List.length_replicate, fun s hs => ?_, fun s hs => ?_⟩
  · rw [(List.mem_replicate.mp hs).2, List.length_replicate]
  · rw [(List.mem_replicate.mp hs).2]
    intro x hx
    exact .inl (List.mem_replicate.mp hx).2
theorem sc_law : FnScope ["script", "cell", "picture", "board", "view", "handed", "empty", "told", "due", "found"] ["script"] (defScope s_law) := ⟨rfl, rfl, rfl, by decide +kernel, rfl, by decide +kernel, by decide +kernel⟩
theorem ok_law {f CN : Addr} {fd : FuncData} (F : Fun K "law" "law" s_law f fd) (B : Bt mg) (c__law_cell_at : Callee P w K mg base CX0 "_law_cell_at" 1 ["script", "k"] (sp__law_cell_at K)) (c__law_picture : Callee P w K mg base CX0 "_law_picture" 2 ["cell", "rows", "columns"] sp__law_picture) (c__law_board : Callee P w K mg base CX0 "_law_board" 3 ["picture"] sp_board)
    (c__law_any_board : Callee P w K mg base CX0 "_law_any_board" 2 ["cell", "board"] sp__law_any_board) (c__law_view : Callee P w K mg base CX0 "_law_view" 2 ["cell", "picture"] sp__law_view) (c_empty_view : Callee P w K mg base CX0 "empty_view" 1 ["board"] sp_empty_view) (c__law_view_is : Callee P w K mg base CX0 "_law_view_is" 3 ["found", "due"] sp__law_view_is)
    (c__law_rounds : Callee P w K mg base CX0 "_law_rounds" 5 ["board", "view"] sp__law_rounds) (c__law_asked : Callee P w K mg base CX0 "_law_asked" 10 ["board", "view"] sp__law_asked) (c__law_stepped : Callee P w K mg base CX0 "_law_stepped" 10 ["board", "view"] sp__law_stepped) (c__law_refused : Callee P w K mg base CX0 "_law_refused" 1 ["marks", "which"] sp__law_refused) (c__law_steps : Callee P w K mg base CX0 "_law_steps" 2 ["found", "due"] sp__law_steps)
    (c_narrowed : Callee P w K mg base CX0 "narrowed" 9 ["board", "view"] (fun vs H Q _ => sp_narrowed CN vs H Q fun _ _ _ => False)) (c_steps : Callee P w K mg base CX0 "steps" 9 ["board", "view"] (fun vs H Q _ => sp_steps CN vs H Q fun _ _ _ => False)) : FnOk P w K mg base CX0 11 f fd ["script"] (sp_law K) := by
  refine F.ok sc_law (fun vs H Q E h => ?_) (fun cdv A outer s H vs Q E hr h => ?_)
  · obtain ⟨a, ns, rfl, _⟩ := h
    rfl
  · obtain ⟨a, ns, rfl, hS, hl, k⟩ := h
    have hux := units20 hr
    refine ⟨_, (pss_cons (ps_set (i := 1) sc_law.nd rfl (Or.inl rfl) (pe_cal c__law_cell_at hr (pa_cons (pv 0) (pa_cons pe_int pa_nil))))
      (pss_cons (ps_set (i := 2) sc_law.nd rfl (Or.inl rfl) (pe_cal c__law_picture hr (pa_cons (pe_cal c__law_cell_at hr (pa_cons (pv 0) (pa_cons pe_int pa_nil))) (pa_cons (pe_op op_add pe_int (pe_op op_mod (pv 1) pe_int)) (pa_cons (pe_op op_add pe_int (pe_op op_mod (pe_op op_fdiv (pv 1) pe_int) pe_int)) pa_nil)))))
      (pss_cons (ps_set (i := 3) sc_law.nd rfl (Or.inl rfl) (pe_cal c__law_board hr (pa_cons (pv 2) pa_nil)))
      (pss_join (ps_if (pt_cmpR op_eq (pe_op op_mod (pe_op op_fdiv (pv 1) pe_int) pe_int) pe_int (nomark _))
      (pss_one (ps_set (i := 3) sc_law.nd rfl (Or.inl rfl) (pe_cal c__law_any_board hr (pa_cons (pe_cal c__law_cell_at hr (pa_cons (pv 0) (pa_cons pe_int pa_nil))) (pa_cons (pv 3) pa_nil)))))
      pss_nil)
      (pss_cons (ps_set (i := 4) sc_law.nd rfl (Or.inl rfl) (pe_cal c__law_view hr (pa_cons (pe_cal c__law_cell_at hr (pa_cons (pv 0) (pa_cons pe_int pa_nil))) (pa_cons (pv 2) pa_nil))))
      (pss_cons (ps_setComp (i := 5) ["row"] [] sc_law.nd rfl rfl ⟨rfl, rfl, rfl, rfl, rfl⟩ rfl (pi_listK K (pv 4)) (fun _ _ _ _ _ => (pg_name (i := 0) (show (["row"] : List Str).Nodup by decide +kernel) rfl (Or.inl rfl))) (fun _ _ _ _ _ => pcb_elt (pe_callTy (call_listK K) rfl B.list bt_list (pa_cons (pv 0) pa_nil))))
      (pss_cons (ps_setComp (i := 6) ["row"] [] sc_law.nd rfl rfl ⟨rfl, rfl, rfl, rfl, rfl⟩ rfl (pi_listK K (pv 2)) (fun _ _ _ _ _ => (pg_name (i := 0) (show (["row"] : List Str).Nodup by decide +kernel) rfl (Or.inl rfl))) (fun _ _ _ _ _ => pcb_elt (pe_comp ["at"] [] ⟨rfl, rfl, rfl, rfl, rfl⟩ rfl (pi_listK K (pv 0)) (fun _ _ _ _ _ => (pg_name (i := 0) (show (["at"] : List Str).Nodup by decide +kernel) rfl (Or.inl rfl))) (fun _ _ _ _ _ => pcb_elt pe_non))))
      (pss_cons (ps_set (i := 7) sc_law.nd rfl (Or.inl rfl) (pe_cal c_empty_view hr (pa_cons (pv 3) pa_nil)))
      (pss_cons (ps_if (pt_not (pt_val (pe_cal c__law_view_is hr (pa_cons (pv 7) (pa_cons (pv 6) pa_nil)))))
      (pss_one (ps_ret pe_bl))
      pss_nil)
      (pss_cons (ps_asg pe_int (pg_sub (pe_ix (ix_listK K) (pv 7) pe_int (fun _ _ => rfl)) pe_int set_list))
      (pss_cons (ps_if (PW.pt (pw_or (pt_not (pt_val (pe_cal c__law_view_is hr (pa_cons (pe_slice (sl_listK K) (pv 7) (po_some pe_int) po_none) (pa_cons (pe_slice (sl_listK K) (pv 6) (po_some pe_int) po_none) pa_nil))))) (pw_or1 (pt_not (pt_val (pe_cal c__law_view_is hr (pa_cons (pe_cal c_empty_view hr (pa_cons (pv 3) pa_nil)) (pa_cons (pv 6) pa_nil))))))))
      (pss_one (ps_ret pe_bl))
      pss_nil)
      (pss_cons (ps_set (i := 8) sc_law.nd rfl (Or.inl rfl) (pe_cal c__law_rounds hr (pa_cons (pv 3) (pa_cons (pv 4) pa_nil))))
      (pss_cons (ps_set (i := 7) sc_law.nd rfl (Or.inl rfl) (pe_cal c__law_asked hr (pa_cons (pv 3) (pa_cons (pv 5) pa_nil))))
      (pss_cons (ps_if (pt_cmpR op_isN (pv 8) pe_non (nomark _))
      (pss_one (ps_ret (pe_and (pe_cal c__law_refused hr (pa_cons (pe_ix (ix_tupK K) (pv 7) pe_int (fun _ _ => rfl)) (pa_cons pe_int pa_nil))) (pe_and (pe_cal c__law_refused hr (pa_cons (pe_ix (ix_tupK K) (pe_cal c__law_stepped hr (pa_cons (pv 3) (pa_cons (pv 5) pa_nil))) pe_int (fun _ _ => rfl)) (pa_cons pe_int pa_nil))) (pe_one (pe_cmpR (op_eqD hux) (pv 5) (pv 4) (nomark _)))))))
      pss_nil)
      (pss_cons (ps_if (PW.pt (pw_or (pt_cmpR (op_neD hux) (pe_ix (ix_tupK K) (pv 7) pe_int (fun _ _ => rfl)) (pe_lst pa_nil) (nomark _)) (pw_or (pt_not (pt_val (pe_cal c__law_view_is hr (pa_cons (pe_ix (ix_tupK K) (pv 7) pe_int (fun _ _ => rfl)) (pa_cons (pe_ix (ix_tupK K) (pv 8) pe_int (fun _ _ => rfl)) pa_nil))))) (pw_or1 (pt_cmpR (op_neD hux) (pv 5) (pv 4) (nomark _))))))
      (pss_one (ps_ret pe_bl))
      pss_nil)
      (pss_cons (ps_expr (pe_bm PySem.F.plainAttrs_list PySem.F.slot_list_append PySem.F.type_list_append mt_append (pe_ix (ix_listK K) (pe_ix (ix_tupK K) (pv 7) pe_int (fun _ _ => rfl)) pe_int (fun _ _ => rfl)) (pa_cons pe_int pa_nil)))
      (pss_cons (ps_if (pt_not (pt_val (pe_cal c__law_view_is hr (pa_cons (pe_slice (sl_listK K) (pe_ix (ix_tupK K) (pv 7) pe_int (fun _ _ => rfl)) (po_some pe_int) po_none) (pa_cons (pe_slice (sl_listK K) (pe_ix (ix_tupK K) (pv 8) pe_int (fun _ _ => rfl)) (po_some pe_int) po_none) pa_nil)))))
      (pss_one (ps_ret pe_bl))
      pss_nil)
      (pss_cons (ps_set (i := 9) sc_law.nd rfl (Or.inl rfl) (pe_cal c__law_stepped hr (pa_cons (pv 3) (pa_cons (pv 5) pa_nil))))
      (pss_cons (ps_if (PW.pt (pw_or (pt_cmpR (op_neD hux) (pe_ix (ix_tupK K) (pv 9) pe_int (fun _ _ => rfl)) (pe_lst pa_nil) (nomark _)) (pw_or1 (pt_not (pt_val (pe_cal c__law_steps hr (pa_cons (pe_ix (ix_tupK K) (pv 9) pe_int (fun _ _ => rfl)) (pa_cons (pe_ix (ix_tupK K) (pv 8) pe_int (fun _ _ => rfl)) pa_nil))))))))
      (pss_one (ps_ret pe_bl))
      pss_nil)
      (pss_cons (ps_expr (pe_bm PySem.F.plainAttrs_list PySem.F.slot_list_append PySem.F.type_list_append mt_append (pe_ix (ix_tupK K) (pv 9) pe_int (fun _ _ => rfl)) (pa_cons (pe_tup (pa_cons pe_str (pa_cons pe_int (pa_cons (pe_lst pa_nil) pa_nil)))) pa_nil)))
      (pss_one (ps_ret (pe_and (pe_cal c__law_view_is hr (pa_cons (pe_cal c_narrowed hr (pa_cons (pv 3) (pa_cons (pv 5) pa_nil))) (pa_cons (pe_ix (ix_tupK K) (pv 8) pe_int (fun _ _ => rfl)) pa_nil))) (pe_one (pe_cal c__law_steps hr (pa_cons (pe_cal c_steps hr (pa_cons (pv 3) (pa_cons (pv 5) pa_nil))) (pa_cons (pe_ix (ix_tupK K) (pv 8) pe_int (fun _ _ => rfl)) pa_nil))))))))))))))))))))))))))), ?_⟩
    refine ⟨_, rfl, a, ns, 0, rfl, hS, ?_⟩
    generalize hc0 : cellZ ns 0 = c0
    obtain ⟨r, hr0⟩ : ∃ r : Nat, 1 + c0 % 5 = r := ⟨(1 + c0 % 5).toNat, by omega⟩
    obtain ⟨wd, hw0⟩ : ∃ wd : Nat, 1 + c0 / 5 % 5 = wd := ⟨(1 + c0 / 5 % 5).toNat, by omega⟩
    have hr5 : 1 ≤ r ∧ r ≤ 5 := by omega
    have hw5 : 1 ≤ wd ∧ wd ≤ 5 := by omega
    refine ⟨_, rfl, a, ns, 1, rfl, hS, _, rfl, _, _, rfl, rfl, pz rfl, _, _, rfl, rfl, _, rfl, _, _, rfl, rfl, ⟨by decide, by decide⟩, _, _, rfl, rfl, pz rfl, _, _, rfl, rfl, cellZ ns 1, r, wd, (show [V.int (cellZ ns 1), V.int (1 + c0 % 5), V.int (1 + c0 / 5 % 5)] = [V.int (cellZ ns 1), V.int (r : Nat), V.int (wd : Nat)] by rw [hr0, hw0]), by omega, by omega, fun pa H1 s1 npa hpa => ?_⟩
    have po := pic_ok (cellZ ns 1) r wd
    generalize picZ (cellZ ns 1) r wd = pic at hpa po ⊢
    have hpl := po.len
    refine ⟨_, rfl, pa, pic, wd, rfl, hpa, by omega, by omega, by omega, po.wid, fun tb0 H2 s2 htb0 => ?_⟩
    have bo0 := boardZ_ok po (by omega) (by omega)
    generalize boardZ pic wd = b0 at htb0 bo0
    have hS2 : SqL K H2 a (ns.map V.int) := (s1.trans s2).seq hS
    have hpa2 := IsD.mono s2 hpa
    refine ⟨fun σ' H3 => ∃ (tb : Addr) (b : Brd), σ' = [some (.ref a), some (.int c0), some (.ref pa), some (.ref tb), none, none, none, none, none, none] ∧ Same H2 H3 ∧ IsD H3 (dBoard b) (.ref tb) ∧ BOk r wd b, ?_, ?_⟩
    · refine ⟨_, rfl, _, _, rfl, rfl, ⟨by decide, by decide⟩, _, _, rfl, rfl, pz rfl, rfl, _, rfl, ?_⟩
      refine ite2 (fun _ => ?_) (fun _ => ?_)
      · refine ⟨_, rfl, a, ns, 3, rfl, hS2, _, rfl, _, tb0, b0, r, wd, rfl, htb0, bo0, by omega, by omega, by omega, by omega, fun t b' H3 s3 ht bo' => ?_⟩
        exact ⟨t, b', rfl, s3, ht, bo'⟩
      · exact ⟨tb0, b0, rfl, Same.refl _, htb0, bo0⟩
    rintro σ' H3 ⟨tb, b, rfl, s3, htb, bo⟩
    refine ⟨_, rfl, a, ns, 2, rfl, s3.seq hS2, _, rfl, _, pa, pic, r, wd, rfl, IsD.mono s3 hpa2, po, by omega, by omega, by omega, fun lv v H4 s4 nlv vo hv4 => ?_⟩
    have htb4 := IsD.mono s4 htb
    have hpa4 := IsD.mono (s3.trans s4) hpa2
    have hub : unk v ≤ 20000 := by
      have q := unk_bound v vo.wid
      rw [vo.len] at q
      have := Nat.mul_le_mul hr5.2 hw5.2
      omega
    obtain ⟨ws, hws, hwd⟩ := view_inv hv4
    have hwl := map_len hwd
    refine ⟨_, rfl, lv, rfl, ⟨_, SqL.of hws⟩, comp_list (K := K) (a := lv) (xs := ws) (fun j ys H6 => ∃ as, ys = as.map V.ref ∧ GrowV H4 (fun j => sightV (v.getD j [])) j as H6) ⟨[], rfl, GrowV.zero⟩ ?_ ?_ ?_ ?_ ?_⟩
    · exact Nat.le_of_lt (small1000 (by rw [hwl, vo.len]; omega))
    · rintro j ys H6 ⟨as, rfl, g⟩
      rw [List.length_map, g.len]
      exact Nat.le_refl _
    · rintro j ys H6 _ ⟨as, rfl, g⟩
      exact SqL.of (g.same _ _ hws)
    · rintro j y ys H6 hj ⟨as, rfl, g⟩
      obtain ⟨sg, hsg, hd⟩ := map_get' hwd hj
      obtain ⟨a', rfl, ha'⟩ := sight_inv hd
      refine ⟨rfl, ?_⟩
      refine ⟨_, rfl, a', _, rfl, .inl (SqL.of (g.same _ _ ha')), fun l1 hl1 => ?_⟩
      exact ⟨as ++ [l1], by rw [List.map_append]; rfl, g.next (same_upd hl1) hl1 (by rw [upd_same, getD_of hsg])⟩
    rintro ys H5' ⟨as5, rfl, g5⟩ lh hlh
    rw [hwl] at g5
    have ow5 := g5.own hlh
    rw [map_range sightV [] v] at ow5
    generalize upd H5' lh (.lst (as5.map V.ref)) = H5 at ow5 ⊢
    have s5 := ow5.same
    have hh5 := ow5.isD
    obtain ⟨ps, hps, hpr⟩ := rows_inv (IsD.mono s5 hpa4)
    have hpsl := rows_len hpr
    refine ⟨_, rfl, pa, rfl, ⟨_, SqL.of hps⟩, comp_list (K := K) (a := pa) (xs := ps) (fun j ys H6 => ∃ as, ys = as.map V.ref ∧ GrowV H5 (fun _ => sightV (List.replicate wd none)) j as H6) ⟨[], rfl, GrowV.zero⟩ ?_ ?_ ?_ ?_ ?_⟩
    · exact Nat.le_of_lt (small1000 (by omega))
    · rintro j ys H6 ⟨as, rfl, g⟩
      rw [List.length_map, g.len]
      exact Nat.le_refl _
    · rintro j ys H6 _ ⟨as, rfl, g⟩
      exact SqL.of (g.same _ _ hps)
    · rintro j y ys H6 hj ⟨as, rfl, g⟩
      obtain ⟨xs, hxs, hd⟩ := rows_get hpr hj
      obtain ⟨a', rfl, ha'⟩ := row_inv hd
      have hxw := po.wid xs (List.mem_of_getElem? hxs)
      refine ⟨rfl, ?_⟩
      refine ⟨_, rfl, a', rfl, ⟨_, SqL.of (g.same _ _ ha')⟩, comp_list (K := K) (a := a') (xs := xs.map V.int) (fun q zs H7 => H7 = H6 ∧ zs = List.replicate q V.non) ⟨rfl, rfl⟩ ?_ ?_ ?_ ?_ ?_⟩
      · rw [List.length_map]
        exact Nat.le_of_lt (small1000 (by omega))
      · rintro q zs H7 ⟨_, rfl⟩
        rw [List.length_replicate]
        exact Nat.le_refl _
      · rintro q zs H7 _ ⟨rfl, _⟩
        exact SqL.of (g.same _ _ ha')
      · rintro q y zs H7 hq ⟨rfl, rfl⟩
        refine ⟨rfl, rfl, ?_⟩
        rw [List.replicate_succ']
      · rintro zs H7 ⟨rfl, rfl⟩ l1 hl1
        refine ⟨as ++ [l1], by rw [List.map_append]; rfl, g.next (same_upd hl1) hl1 ?_⟩
        rw [upd_same, List.length_map, hxw]
        unfold sightV
        rw [List.map_replicate]
        rfl
    rintro ys H6' ⟨as6, rfl, g6⟩ le hle
    rw [hpsl, hpl] at g6
    have ow6 := g6.own hle
    rw [map_const_range] at ow6
    have eE : (emptyV r wd).map sightV = List.replicate r (sightV (List.replicate wd none)) := by unfold emptyV; rw [List.map_replicate]
    rw [← eE] at ow6
    generalize upd H6' le (.lst (as6.map V.ref)) = H6 at ow6 ⊢
    have s6 := ow6.same
    have eo := empty_ok r wd
    have hew : ∀ s ∈ emptyV r wd, s.length ≤ 100 := fun s hs => by rw [eo.wid s hs]; omega
    have hel := eo.len
    refine ⟨_, rfl, tb, b, r, wd, rfl, IsD.mono (s5.trans s6) htb4, bo, by omega, by omega, fun lt as7 H7 ow7 => ?_⟩
    refine ⟨_, rfl, _, rfl, lt, le, emptyV r wd, rfl, ow7.isD, IsD.mono ow7.same ow6.isD, by omega, hew, fun H8 s8 => ⟨_, rfl, iteF ?_⟩⟩
    have ow8 := ow7.mono s8
    obtain ⟨a0, ha0, hb0⟩ := own_row8 ow8 (i := 0) (by omega)
    have hw0' := (eo.row (i := 0) (by omega)).1
    have ow9 := ow8.setRow ha0 ((sightV ((emptyV r wd).getD 0 [])).set 0 (.int 1))
    refine ⟨_, rfl, lt, _, _, .ref a0, rfl, rfl, SqL.of ow8.at', atI_nat (j := 0) (by rw [List.getElem?_map, ha0]; rfl), a0, _, _, 0, rfl, rfl, hb0, ixN_nat' (i := 0) (by rw [sightV_len]; omega), ?_⟩
    generalize upd H8 a0 (.lst ((sightV ((emptyV r wd).getD 0 [])).set 0 (.int 1))) = H9 at ow9 ⊢
    have s9 := ow9.same
    obtain ⟨es, hes, hed⟩ := view_inv (IsD.mono s9 ow6.isD)
    have hesl := map_len hed
    have h7l : (as7.map V.ref).length = r := by have := ow7.len; rw [List.length_map] at this; rw [List.length_map, this, hel]
    refine ⟨_, rfl, _, rfl, lt, _, rfl, SqL.of ow9.at', fun p1 hp1 => ?_⟩
    rw [cut_tail (by omega)]
    have t1 : Same H9 (upd H9 p1 (.lst ((as7.map V.ref).drop 1))) := same_upd hp1
    have hp1' : (upd H9 p1 (.lst ((as7.map V.ref).drop 1))) p1 = some (.lst ((as7.map V.ref).drop 1)) := upd_same
    generalize upd H9 p1 (.lst ((as7.map V.ref).drop 1)) = H10 at t1 hp1' ⊢
    refine ⟨_, rfl, _, rfl, le, _, rfl, SqL.of (t1 _ _ hes), fun p2 hp2 => ?_⟩
    rw [cut_tail (by omega)]
    have t2 : Same H10 (upd H10 p2 (.lst (es.drop 1))) := same_upd hp2
    have hp2' : (upd H10 p2 (.lst (es.drop 1))) p2 = some (.lst (es.drop 1)) := upd_same
    generalize upd H10 p2 (.lst (es.drop 1)) = H11 at t2 hp2' ⊢
    refine ⟨p1, p2, (emptyV r wd).drop 1, rfl, mk_view (t2 _ _ hp1') (IsDs.mono (t1.trans t2) (own_tail ow9)), mk_view hp2' (IsDs.mono (t1.trans t2) (view_tail hed)), by rw [List.length_drop]; omega, fun s hs => hew s (List.mem_of_mem_drop hs), fun H12 s12 => ⟨_, rfl, iteF ?_⟩⟩
    have s612 : Same H6 H12 := s9.trans ((t1.trans t2).trans s12)
    have htb12 := IsD.mono ((s5.trans s6).trans s612) htb4
    refine ⟨_, rfl, tb, b, r, wd, rfl, htb12, bo, by omega, by omega, fun lt2 as2 H13 ow13 => ?_⟩
    refine ⟨_, rfl, lt2, le, emptyV r wd, rfl, ow13.isD, IsD.mono (s612.trans ow13.same) ow6.isD, by omega, hew, fun H14 s14 => ⟨_, rfl, iteF ?_⟩⟩
    have s614 := s612.trans (ow13.same.trans s14)
    have s514 := s6.trans s614
    have htb14 := IsD.mono (s5.trans s514) htb4
    have hv14 := IsD.mono (s5.trans s514) hv4
    have hh14 := IsD.mono s514 hh5
    have hvw : ∀ s ∈ v, s.length ≤ 100 := fun s hs => by rw [vo.wid s hs]; omega
    have hvl := vo.len
    cases eN : narrowV b v with
    | none =>
      refine ⟨_, rfl, _, rfl, tb, lv, b, v, r, wd, rfl, htb14, hv14, vo, bo, by omega, by omega, hub, fun _ H15 s15 => ?_, fun st z => by rw [eN] at z; cases z⟩
      refine ⟨_, rfl, _, rfl, tb, lh, b, v, r, wd, rfl, IsD.mono s15 htb14, IsD.mono s15 hh14, vo, bo, by omega, by omega, hub, fun _ t m H16 s16 ht hm => ?_, fun st z => by rw [eN] at z; cases z⟩
      have s1416 := s15.trans s16
      refine ⟨_, rfl, rfl, _, rfl, iteT ?_⟩
      refine ⟨_, rfl, t, _, _, .ref m, rfl, rfl, SqT.of ht, rfl, m, 0, rfl, hm, fun H17 s17 => ⟨_, rfl, iteT ?_⟩⟩
      have s1417 := s1416.trans s17
      refine ⟨_, rfl, _, rfl, tb, lh, b, v, r, wd, rfl, IsD.mono s1417 htb14, IsD.mono s1417 hh14, vo, bo, by omega, by omega, hub, fun _ t' m' H18 s18 ht' hm' => ?_, fun st z => by rw [eN] at z; cases z⟩
      refine ⟨t', _, _, .ref m', rfl, rfl, SqT.of ht', rfl, m', 0, rfl, hm', fun H19 s19 => ⟨_, rfl, iteT ?_⟩⟩
      have s1419 := s1417.trans (s18.trans s19)
      refine ⟨_, rfl, _, rfl, dView v, dView v, IsD.mono s1419 hh14, IsD.mono s1419 hv14, rfl, rfl, by have := depth_view v; omega, ?_⟩
      rw [eqD_refl]
      exact k _
    | some st =>
      obtain ⟨vst, hsome, hsz⟩ := some_loop bo (by omega) (by omega) (unk v + 1) (st := (v, [])) vo (fun p hp => by cases hp) eN
      replace hsz : st.2.length + unk st.1 ≤ 0 + unk v := hsz
      have hsw : ∀ s ∈ st.1, s.length ≤ 100 := fun s hs => by rw [vst.wid s hs]; omega
      have hsl := vst.len
      refine ⟨_, rfl, _, rfl, tb, lv, b, v, r, wd, rfl, htb14, hv14, vo, bo, by omega, by omega, hub, (fun z => by rw [eN] at z; cases z), fun st' e' td dr dl H15 s15 htd hdr hdl => ?_⟩
      rw [eN] at e'
      cases e'
      refine ⟨_, rfl, _, rfl, tb, lh, b, v, r, wd, rfl, IsD.mono s15 htb14, IsD.mono s15 hh14, vo, bo, by omega, by omega, hub, (fun z => by rw [eN] at z; cases z), fun st' e' t l as16 m H16 ow16 ht hm => ?_⟩
      rw [eN] at e'
      cases e'
      have s16 := ow16.same
      refine ⟨_, rfl, rfl, _, rfl, iteF ?_⟩
      refine ⟨_, rfl, t, _, _, .ref m, rfl, rfl, SqT.of ht, rfl, Nat.zero_le _, fun ln hln => ?_⟩
      have s17 : Same H16 (upd H16 ln (.lst [])) := same_upd hln
      have hln17 : (upd H16 ln (.lst [])) ln = some (.lst []) := upd_same
      generalize upd H16 ln (.lst []) = H17 at s17 hln17 ⊢
      have nilD : ∀ {H' : Hp} {x : Addr}, H' x = some (.lst []) → IsD H' (.lst []) (.ref x) := fun h => by unfold IsD; exact ⟨_, [], rfl, h, by unfold IsDs; rfl⟩
      refine ⟨.lst [], .lst [], nilD (s17 _ _ hm), nilD hln17, .inl ⟨_, _, rfl, rfl⟩, by simp [depthD, depthDs], _, rfl, ?_⟩
      rw [eqD_refl]
      refine iteF ?_
      have ow17 := ow16.mono s17
      have s1517 := ow17.same
      refine ⟨_, rfl, t, _, _, .ref l, rfl, rfl, SqT.of (s17 _ _ ht), rfl, _, rfl, td, _, _, .ref dr, rfl, rfl, SqT.of (s1517 _ _ htd), rfl, l, dr, st.1, rfl, ow17.isD, IsD.mono s1517 hdr, by omega, hsw, fun H18 s18 => ⟨_, rfl, iteF ?_⟩⟩
      have ow18 := ow17.mono s18
      have s1418 := s15.trans ow18.same
      refine ⟨_, rfl, _, rfl, dView v, dView v, IsD.mono s1418 hh14, IsD.mono s1418 hv14, .inl ⟨_, _, rfl, rfl⟩, by have := depth_view v; omega, _, rfl, ?_⟩
      rw [eqD_refl]
      refine iteF ?_
      obtain ⟨q0, hq0, hqb⟩ := own_row8 ow18 (i := 0) (by omega)
      have hqw := (vst.row (i := 0) (by omega)).1
      have ht18 := s18 _ _ (s17 _ _ ht)
      have ow19 := ow18.setRow hq0 (sightV (st.1.getD 0 []) ++ [.int 1])
      refine ⟨_, rfl, t, _, _, .ref l, rfl, rfl, SqT.of ht18, rfl, l, _, _, .ref q0, rfl, rfl, SqL.of ow18.at', atI_nat (j := 0) (by rw [List.getElem?_map, hq0]; rfl), .inl ⟨rfl, _, SqL.of hqb⟩, q0, _, _, rfl, rfl, hqb, small1000 (by rw [sightV_len]; omega), ?_⟩
      have ht19 : (upd H18 q0 (.lst (sightV (st.1.getD 0 []) ++ [.int 1]))) t = some (.tup [.ref l, .ref m]) := by rw [upd_ne (ne_of ht18 hqb (by intro z; cases z))]; exact ht18
      generalize upd H18 q0 (.lst (sightV (st.1.getD 0 []) ++ [V.int 1])) = H19 at ow19 ht19 ⊢
      have s1519 := ow19.same
      obtain ⟨ds, hds, hdd⟩ := view_inv (IsD.mono s1519 hdr)
      have hdsl := map_len hdd
      have h16l : (as16.map V.ref).length = r := by have := ow16.len; rw [List.length_map] at this; rw [List.length_map, this, hsl]
      refine ⟨_, rfl, t, _, _, .ref l, rfl, rfl, SqT.of ht19, rfl, _, rfl, l, _, rfl, SqL.of ow19.at', fun p3 hp3 => ?_⟩
      rw [cut_tail (by omega)]
      have t3 : Same H19 (upd H19 p3 (.lst ((as16.map V.ref).drop 1))) := same_upd hp3
      have hp3' : (upd H19 p3 (.lst ((as16.map V.ref).drop 1))) p3 = some (.lst ((as16.map V.ref).drop 1)) := upd_same
      generalize upd H19 p3 (.lst ((as16.map V.ref).drop 1)) = H20 at t3 hp3' ⊢
      refine ⟨_, rfl, td, _, _, .ref dr, rfl, rfl, SqT.of (t3 _ _ (s1519 _ _ htd)), rfl, _, rfl, dr, _, rfl, SqL.of (t3 _ _ hds), fun p4 hp4 => ?_⟩
      rw [cut_tail (by omega)]
      have t4 : Same H20 (upd H20 p4 (.lst (ds.drop 1))) := same_upd hp4
      have hp4' : (upd H20 p4 (.lst (ds.drop 1))) p4 = some (.lst (ds.drop 1)) := upd_same
      generalize upd H20 p4 (.lst (ds.drop 1)) = H21 at t4 hp4' ⊢
      refine ⟨p3, p4, st.1.drop 1, rfl, mk_view (t4 _ _ hp3') (IsDs.mono (t3.trans t4) (own_tail ow19)), mk_view hp4' (IsDs.mono (t3.trans t4) (view_tail hdd)), by rw [List.length_drop]; omega, fun s hs => hsw s (List.mem_of_mem_drop hs), fun H22 s22 => ⟨_, rfl, iteF ?_⟩⟩
      have s1522 := s1519.trans ((t3.trans t4).trans s22)
      have s1422 := s15.trans s1522
      refine ⟨_, rfl, _, rfl, tb, lh, b, v, r, wd, rfl, IsD.mono s1422 htb14, IsD.mono s1422 hh14, vo, bo, by omega, by omega, hub, (fun z => by rw [eN] at z; cases z), fun st' e' tf lf fs mf H23 s23 nlf hlf hfs htf hmf => ?_⟩
      rw [eN] at e'
      cases e'
      refine ⟨_, rfl, tf, _, _, .ref mf, rfl, rfl, SqT.of htf, rfl, Nat.zero_le _, fun ln2 hln2 => ?_⟩
      have s24 : Same H23 (upd H23 ln2 (.lst [])) := same_upd hln2
      have hln24 : (upd H23 ln2 (.lst [])) ln2 = some (.lst []) := upd_same
      generalize upd H23 ln2 (.lst []) = H24 at s24 hln24 ⊢
      refine ⟨.lst [], .lst [], nilD (s24 _ _ hmf), nilD hln24, .inl ⟨_, _, rfl, rfl⟩, by simp [depthD, depthDs], _, rfl, ?_⟩
      rw [eqD_refl]
      refine iteF ?_
      have s1524 := s1522.trans (s23.trans s24)
      have hfD : IsD H24 (dStps st.2) (.ref lf) := by
        unfold dStps IsD
        exact ⟨lf, fs, rfl, s24 _ _ hlf, IsDs.mono s24 (IsDs.mono newer_same hfs)⟩
      refine ⟨_, rfl, tf, _, _, .ref lf, rfl, rfl, SqT.of (s24 _ _ htf), rfl, _, rfl, td, _, _, .ref dl, rfl, rfl, SqT.of (s1524 _ _ htd), rfl, lf, dl, st.2, rfl, hfD, IsD.mono s1524 hdl, hsome, fun H25 s25 => ⟨_, rfl, iteF ?_⟩⟩
      have hfl : fs.length = st.2.length := map_len hfs
      have hlf25 := s25 _ _ (s24 _ _ hlf)
      have hbig : 30000 < sizeLine := by decide
      refine ⟨_, rfl, tf, _, _, .ref lf, rfl, rfl, SqT.of (s25 _ _ (s24 _ _ htf)), rfl, .inl ⟨rfl, _, SqL.of hlf25⟩, Nat.zero_le _, fun l6 hl6 => ?_⟩
      have s26 : Same H25 (upd H25 l6 (.lst [])) := same_upd hl6
      generalize upd H25 l6 (.lst []) = H26 at s26 ⊢
      refine ⟨by show 3 ≤ sizeLine; decide, fun t7 ht7 => ?_⟩
      have s27 : Same H26 (upd H26 t7 (.tup [.str "row", .int 0, .ref l6])) := same_upd ht7
      generalize upd H26 t7 (.tup [.str "row", .int 0, .ref l6]) = H27 at s27 ⊢
      refine ⟨lf, _, _, rfl, rfl, s27 _ _ (s26 _ _ hlf25), by omega, ?_⟩
      have s28 : Same H22 (upd H27 lf (.lst (fs ++ [.ref t7]))) := same_upd' (s23.trans (s24.trans (s25.trans (s26.trans s27)))) nlf
      generalize upd H27 lf (.lst (fs ++ [V.ref t7])) = H28 at s28 ⊢
      have s1528 := s1522.trans s28
      have s1428 := s15.trans s1528
      refine ⟨_, rfl, _, rfl, tb, lh, b, v, r, wd, rfl, IsD.mono s1428 htb14, IsD.mono s1428 hh14, vo, bo, by omega, by omega, hub, (fun z => by rw [eN] at z; cases z), fun st' e' l9 as9 H29 ow29 => ?_⟩
      rw [eN] at e'
      cases e'
      have s1529 := s1528.trans ow29.same
      refine ⟨_, rfl, td, _, _, .ref dr, rfl, rfl, SqT.of (s1529 _ _ htd), rfl, l9, dr, st.1, rfl, ow29.isD, IsD.mono s1529 hdr, by omega, hsw, fun H30 s30 => ⟨_, rfl, iteT ?_⟩⟩
      have s1530 := s1529.trans s30
      have s1430 := s15.trans s1530
      refine ⟨_, rfl, _, rfl, tb, lh, b, v, r, wd, rfl, IsD.mono s1430 htb14, IsD.mono s1430 hh14, vo, bo, by omega, by omega, hub, (fun z => by rw [eN] at z; cases z), fun st' e' lf3 fs3 H31 s31 _ hlf3 hfs3 => ?_⟩
      rw [eN] at e'
      cases e'
      have s1531 := s1530.trans s31
      have hfD3 : IsD H31 (dStps st.2) (.ref lf3) := by
        unfold dStps IsD
        exact ⟨lf3, fs3, rfl, hlf3, IsDs.mono newer_same hfs3⟩
      exact ⟨_, rfl, td, _, _, .ref dl, rfl, rfl, SqT.of (s1531 _ _ htd), rfl, lf3, dl, st.2, rfl, hfD3, IsD.mono s1531 hdl, hsome, fun H32 s32 => k H32⟩
end
theorem all_mk {l : PySem.W.OpenLaw} {w : World} {K : PySem.W.Frag} {h : Heap} {mg : Str → Option Value} {fa : Addr} (X : K.In h) (G : h.Ns mainGlobals mg) (hfa : mg "law" = some (.ref fa))
    {C_Counts : Addr} (aC_Counts : PySem.W.nsIn K mainGlobals "Counts" = some (some (.ref C_Counts)))
    {C_Narrowing : Addr} (aC_Narrowing : PySem.W.nsIn K mainGlobals "Narrowing" = some (some (.ref C_Narrowing)))
    {f_Counts_total : Addr} {od_Counts_total an_Counts_total : Option Addr} {sl_Counts_total : Array (Option Value)} {oc_Counts_total kV_Counts_total dc_Counts_total pm_Counts_total cd_Counts_total ct_Counts_total : Value}
    (a_Counts_total : PySem.W.findIn K (.ref C_Counts) "total" = some (some (.ref f_Counts_total))) (i_Counts_total : PySem.W.isFn K (.ref f_Counts_total) = true) (l_Counts_total : K.lookup f_Counts_total = some ⟨oc_Counts_total, od_Counts_total, .func (PySem.W.fnOf "total" "Counts.total" (defArgs s_Counts_total) (defBody s_Counts_total) (defScope s_Counts_total) .none kV_Counts_total dc_Counts_total pm_Counts_total an_Counts_total cd_Counts_total ct_Counts_total), sl_Counts_total⟩) (c_Counts_total : PySem.W.codeIn K cd_Counts_total "Counts.total" = true) (k_Counts_total : PySem.W.keepIn K (.ref f_Counts_total) = true)
    {f_Counts_empty_ways : Addr} {od_Counts_empty_ways an_Counts_empty_ways : Option Addr} {sl_Counts_empty_ways : Array (Option Value)} {oc_Counts_empty_ways kV_Counts_empty_ways dc_Counts_empty_ways pm_Counts_empty_ways cd_Counts_empty_ways ct_Counts_empty_ways : Value}
    (a_Counts_empty_ways : PySem.W.findIn K (.ref C_Counts) "empty_ways" = some (some (.ref f_Counts_empty_ways))) (i_Counts_empty_ways : PySem.W.isFn K (.ref f_Counts_empty_ways) = true) (l_Counts_empty_ways : K.lookup f_Counts_empty_ways = some ⟨oc_Counts_empty_ways, od_Counts_empty_ways, .func (PySem.W.fnOf "empty_ways" "Counts.empty_ways" (defArgs s_Counts_empty_ways) (defBody s_Counts_empty_ways) (defScope s_Counts_empty_ways) .none kV_Counts_empty_ways dc_Counts_empty_ways pm_Counts_empty_ways an_Counts_empty_ways cd_Counts_empty_ways ct_Counts_empty_ways), sl_Counts_empty_ways⟩) (c_Counts_empty_ways : PySem.W.codeIn K cd_Counts_empty_ways "Counts.empty_ways" = true) (k_Counts_empty_ways : PySem.W.keepIn K (.ref f_Counts_empty_ways) = true)
    {f_Counts_has_room : Addr} {od_Counts_has_room an_Counts_has_room : Option Addr} {sl_Counts_has_room : Array (Option Value)} {oc_Counts_has_room kV_Counts_has_room dc_Counts_has_room pm_Counts_has_room cd_Counts_has_room ct_Counts_has_room : Value}
    (a_Counts_has_room : PySem.W.findIn K (.ref C_Counts) "has_room" = some (some (.ref f_Counts_has_room))) (i_Counts_has_room : PySem.W.isFn K (.ref f_Counts_has_room) = true) (l_Counts_has_room : K.lookup f_Counts_has_room = some ⟨oc_Counts_has_room, od_Counts_has_room, .func (PySem.W.fnOf "has_room" "Counts.has_room" (defArgs s_Counts_has_room) (defBody s_Counts_has_room) (defScope s_Counts_has_room) .none kV_Counts_has_room dc_Counts_has_room pm_Counts_has_room an_Counts_has_room cd_Counts_has_room ct_Counts_has_room), sl_Counts_has_room⟩) (c_Counts_has_room : PySem.W.codeIn K cd_Counts_has_room "Counts.has_room" = true) (k_Counts_has_room : PySem.W.keepIn K (.ref f_Counts_has_room) = true)
    {f_Counts_place_behind : Addr} {od_Counts_place_behind an_Counts_place_behind : Option Addr} {sl_Counts_place_behind : Array (Option Value)} {oc_Counts_place_behind kV_Counts_place_behind dc_Counts_place_behind pm_Counts_place_behind cd_Counts_place_behind ct_Counts_place_behind : Value}
    (a_Counts_place_behind : PySem.W.findIn K (.ref C_Counts) "place_behind" = some (some (.ref f_Counts_place_behind))) (i_Counts_place_behind : PySem.W.isFn K (.ref f_Counts_place_behind) = true) (l_Counts_place_behind : K.lookup f_Counts_place_behind = some ⟨oc_Counts_place_behind, od_Counts_place_behind, .func (PySem.W.fnOf "place_behind" "Counts.place_behind" (defArgs s_Counts_place_behind) (defBody s_Counts_place_behind) (defScope s_Counts_place_behind) .none kV_Counts_place_behind dc_Counts_place_behind pm_Counts_place_behind an_Counts_place_behind cd_Counts_place_behind ct_Counts_place_behind), sl_Counts_place_behind⟩) (c_Counts_place_behind : PySem.W.codeIn K cd_Counts_place_behind "Counts.place_behind" = true) (k_Counts_place_behind : PySem.W.keepIn K (.ref f_Counts_place_behind) = true)
    {f_Counts_full_ways : Addr} {od_Counts_full_ways an_Counts_full_ways : Option Addr} {sl_Counts_full_ways : Array (Option Value)} {oc_Counts_full_ways kV_Counts_full_ways dc_Counts_full_ways pm_Counts_full_ways cd_Counts_full_ways ct_Counts_full_ways : Value}
    (a_Counts_full_ways : PySem.W.findIn K (.ref C_Counts) "full_ways" = some (some (.ref f_Counts_full_ways))) (i_Counts_full_ways : PySem.W.isFn K (.ref f_Counts_full_ways) = true) (l_Counts_full_ways : K.lookup f_Counts_full_ways = some ⟨oc_Counts_full_ways, od_Counts_full_ways, .func (PySem.W.fnOf "full_ways" "Counts.full_ways" (defArgs s_Counts_full_ways) (defBody s_Counts_full_ways) (defScope s_Counts_full_ways) .none kV_Counts_full_ways dc_Counts_full_ways pm_Counts_full_ways an_Counts_full_ways cd_Counts_full_ways ct_Counts_full_ways), sl_Counts_full_ways⟩) (c_Counts_full_ways : PySem.W.codeIn K cd_Counts_full_ways "Counts.full_ways" = true) (k_Counts_full_ways : PySem.W.keepIn K (.ref f_Counts_full_ways) = true)
    {f_Counts_run_cells : Addr} {od_Counts_run_cells an_Counts_run_cells : Option Addr} {sl_Counts_run_cells : Array (Option Value)} {oc_Counts_run_cells kV_Counts_run_cells dc_Counts_run_cells pm_Counts_run_cells cd_Counts_run_cells ct_Counts_run_cells : Value}
    (a_Counts_run_cells : PySem.W.findIn K (.ref C_Counts) "run_cells" = some (some (.ref f_Counts_run_cells))) (i_Counts_run_cells : PySem.W.isFn K (.ref f_Counts_run_cells) = true) (l_Counts_run_cells : K.lookup f_Counts_run_cells = some ⟨oc_Counts_run_cells, od_Counts_run_cells, .func (PySem.W.fnOf "run_cells" "Counts.run_cells" (defArgs s_Counts_run_cells) (defBody s_Counts_run_cells) (defScope s_Counts_run_cells) .none kV_Counts_run_cells dc_Counts_run_cells pm_Counts_run_cells an_Counts_run_cells cd_Counts_run_cells ct_Counts_run_cells), sl_Counts_run_cells⟩) (c_Counts_run_cells : PySem.W.codeIn K cd_Counts_run_cells "Counts.run_cells" = true) (k_Counts_run_cells : PySem.W.keepIn K (.ref f_Counts_run_cells) = true)
    {f_Counts___init__ : Addr} {od_Counts___init__ an_Counts___init__ : Option Addr} {sl_Counts___init__ : Array (Option Value)} {oc_Counts___init__ kV_Counts___init__ dc_Counts___init__ pm_Counts___init__ cd_Counts___init__ ct_Counts___init__ : Value}
    (a_Counts___init__ : PySem.W.findIn K (.ref C_Counts) "__init__" = some (some (.ref f_Counts___init__))) (i_Counts___init__ : PySem.W.isFn K (.ref f_Counts___init__) = true) (l_Counts___init__ : K.lookup f_Counts___init__ = some ⟨oc_Counts___init__, od_Counts___init__, .func (PySem.W.fnOf "__init__" "Counts.__init__" (defArgs s_Counts___init__) (defBody s_Counts___init__) (defScope s_Counts___init__) .none kV_Counts___init__ dc_Counts___init__ pm_Counts___init__ an_Counts___init__ cd_Counts___init__ ct_Counts___init__), sl_Counts___init__⟩) (c_Counts___init__ : PySem.W.codeIn K cd_Counts___init__ "Counts.__init__" = true) (k_Counts___init__ : PySem.W.keepIn K (.ref f_Counts___init__) = true)
    {f_told_by : Addr} {od_told_by an_told_by : Option Addr} {sl_told_by : Array (Option Value)} {oc_told_by kV_told_by dc_told_by pm_told_by cd_told_by ct_told_by : Value}
    (a_told_by : PySem.W.nsIn K mainGlobals "told_by" = some (some (.ref f_told_by))) (l_told_by : K.lookup f_told_by = some ⟨oc_told_by, od_told_by, .func (PySem.W.fnOf "told_by" "told_by" (defArgs s_told_by) (defBody s_told_by) (defScope s_told_by) .none kV_told_by dc_told_by pm_told_by an_told_by cd_told_by ct_told_by), sl_told_by⟩) (c_told_by : PySem.W.codeIn K cd_told_by "told_by" = true) (k_told_by : PySem.W.keepIn K (.ref f_told_by) = true)
    {f_best : Addr} {od_best an_best : Option Addr} {sl_best : Array (Option Value)} {oc_best kV_best dc_best pm_best cd_best ct_best : Value}
    (a_best : PySem.W.nsIn K mainGlobals "best" = some (some (.ref f_best))) (l_best : K.lookup f_best = some ⟨oc_best, od_best, .func (PySem.W.fnOf "best" "best" (defArgs s_best) (defBody s_best) (defScope s_best) .none kV_best dc_best pm_best an_best cd_best ct_best), sl_best⟩) (c_best : PySem.W.codeIn K cd_best "best" = true) (k_best : PySem.W.keepIn K (.ref f_best) = true)
    {f_cells_told : Addr} {od_cells_told an_cells_told : Option Addr} {sl_cells_told : Array (Option Value)} {oc_cells_told kV_cells_told dc_cells_told pm_cells_told cd_cells_told ct_cells_told : Value}
    (a_cells_told : PySem.W.nsIn K mainGlobals "cells_told" = some (some (.ref f_cells_told))) (l_cells_told : K.lookup f_cells_told = some ⟨oc_cells_told, od_cells_told, .func (PySem.W.fnOf "cells_told" "cells_told" (defArgs s_cells_told) (defBody s_cells_told) (defScope s_cells_told) .none kV_cells_told dc_cells_told pm_cells_told an_cells_told cd_cells_told ct_cells_told), sl_cells_told⟩) (c_cells_told : PySem.W.codeIn K cd_cells_told "cells_told" = true) (k_cells_told : PySem.W.keepIn K (.ref f_cells_told) = true)
    {f_Narrowing_sight_of : Addr} {od_Narrowing_sight_of an_Narrowing_sight_of : Option Addr} {sl_Narrowing_sight_of : Array (Option Value)} {oc_Narrowing_sight_of kV_Narrowing_sight_of dc_Narrowing_sight_of pm_Narrowing_sight_of cd_Narrowing_sight_of ct_Narrowing_sight_of : Value}
    (a_Narrowing_sight_of : PySem.W.findIn K (.ref C_Narrowing) "sight_of" = some (some (.ref f_Narrowing_sight_of))) (i_Narrowing_sight_of : PySem.W.isFn K (.ref f_Narrowing_sight_of) = true) (l_Narrowing_sight_of : K.lookup f_Narrowing_sight_of = some ⟨oc_Narrowing_sight_of, od_Narrowing_sight_of, .func (PySem.W.fnOf "sight_of" "Narrowing.sight_of" (defArgs s_Narrowing_sight_of) (defBody s_Narrowing_sight_of) (defScope s_Narrowing_sight_of) .none kV_Narrowing_sight_of dc_Narrowing_sight_of pm_Narrowing_sight_of an_Narrowing_sight_of cd_Narrowing_sight_of ct_Narrowing_sight_of), sl_Narrowing_sight_of⟩) (c_Narrowing_sight_of : PySem.W.codeIn K cd_Narrowing_sight_of "Narrowing.sight_of" = true) (k_Narrowing_sight_of : PySem.W.keepIn K (.ref f_Narrowing_sight_of) = true)
    {f_Narrowing_tell : Addr} {od_Narrowing_tell an_Narrowing_tell : Option Addr} {sl_Narrowing_tell : Array (Option Value)} {oc_Narrowing_tell kV_Narrowing_tell dc_Narrowing_tell pm_Narrowing_tell cd_Narrowing_tell ct_Narrowing_tell : Value}
    (a_Narrowing_tell : PySem.W.findIn K (.ref C_Narrowing) "tell" = some (some (.ref f_Narrowing_tell))) (i_Narrowing_tell : PySem.W.isFn K (.ref f_Narrowing_tell) = true) (l_Narrowing_tell : K.lookup f_Narrowing_tell = some ⟨oc_Narrowing_tell, od_Narrowing_tell, .func (PySem.W.fnOf "tell" "Narrowing.tell" (defArgs s_Narrowing_tell) (defBody s_Narrowing_tell) (defScope s_Narrowing_tell) .none kV_Narrowing_tell dc_Narrowing_tell pm_Narrowing_tell an_Narrowing_tell cd_Narrowing_tell ct_Narrowing_tell), sl_Narrowing_tell⟩) (c_Narrowing_tell : PySem.W.codeIn K cd_Narrowing_tell "Narrowing.tell" = true) (k_Narrowing_tell : PySem.W.keepIn K (.ref f_Narrowing_tell) = true)
    {f_Narrowing___init__ : Addr} {od_Narrowing___init__ an_Narrowing___init__ : Option Addr} {sl_Narrowing___init__ : Array (Option Value)} {oc_Narrowing___init__ kV_Narrowing___init__ dc_Narrowing___init__ pm_Narrowing___init__ cd_Narrowing___init__ ct_Narrowing___init__ : Value}
    (a_Narrowing___init__ : PySem.W.findIn K (.ref C_Narrowing) "__init__" = some (some (.ref f_Narrowing___init__))) (i_Narrowing___init__ : PySem.W.isFn K (.ref f_Narrowing___init__) = true) (l_Narrowing___init__ : K.lookup f_Narrowing___init__ = some ⟨oc_Narrowing___init__, od_Narrowing___init__, .func (PySem.W.fnOf "__init__" "Narrowing.__init__" (defArgs s_Narrowing___init__) (defBody s_Narrowing___init__) (defScope s_Narrowing___init__) .none kV_Narrowing___init__ dc_Narrowing___init__ pm_Narrowing___init__ an_Narrowing___init__ cd_Narrowing___init__ ct_Narrowing___init__), sl_Narrowing___init__⟩) (c_Narrowing___init__ : PySem.W.codeIn K cd_Narrowing___init__ "Narrowing.__init__" = true) (k_Narrowing___init__ : PySem.W.keepIn K (.ref f_Narrowing___init__) = true)
    {f_Narrowing_go_through : Addr} {od_Narrowing_go_through an_Narrowing_go_through : Option Addr} {sl_Narrowing_go_through : Array (Option Value)} {oc_Narrowing_go_through kV_Narrowing_go_through dc_Narrowing_go_through pm_Narrowing_go_through cd_Narrowing_go_through ct_Narrowing_go_through : Value}
    (a_Narrowing_go_through : PySem.W.findIn K (.ref C_Narrowing) "go_through" = some (some (.ref f_Narrowing_go_through))) (i_Narrowing_go_through : PySem.W.isFn K (.ref f_Narrowing_go_through) = true) (l_Narrowing_go_through : K.lookup f_Narrowing_go_through = some ⟨oc_Narrowing_go_through, od_Narrowing_go_through, .func (PySem.W.fnOf "go_through" "Narrowing.go_through" (defArgs s_Narrowing_go_through) (defBody s_Narrowing_go_through) (defScope s_Narrowing_go_through) .none kV_Narrowing_go_through dc_Narrowing_go_through pm_Narrowing_go_through an_Narrowing_go_through cd_Narrowing_go_through ct_Narrowing_go_through), sl_Narrowing_go_through⟩) (c_Narrowing_go_through : PySem.W.codeIn K cd_Narrowing_go_through "Narrowing.go_through" = true) (k_Narrowing_go_through : PySem.W.keepIn K (.ref f_Narrowing_go_through) = true)
    {f_Narrowing_go_round : Addr} {od_Narrowing_go_round an_Narrowing_go_round : Option Addr} {sl_Narrowing_go_round : Array (Option Value)} {oc_Narrowing_go_round kV_Narrowing_go_round dc_Narrowing_go_round pm_Narrowing_go_round cd_Narrowing_go_round ct_Narrowing_go_round : Value}
    (a_Narrowing_go_round : PySem.W.findIn K (.ref C_Narrowing) "go_round" = some (some (.ref f_Narrowing_go_round))) (i_Narrowing_go_round : PySem.W.isFn K (.ref f_Narrowing_go_round) = true) (l_Narrowing_go_round : K.lookup f_Narrowing_go_round = some ⟨oc_Narrowing_go_round, od_Narrowing_go_round, .func (PySem.W.fnOf "go_round" "Narrowing.go_round" (defArgs s_Narrowing_go_round) (defBody s_Narrowing_go_round) (defScope s_Narrowing_go_round) .none kV_Narrowing_go_round dc_Narrowing_go_round pm_Narrowing_go_round an_Narrowing_go_round cd_Narrowing_go_round ct_Narrowing_go_round), sl_Narrowing_go_round⟩) (c_Narrowing_go_round : PySem.W.codeIn K cd_Narrowing_go_round "Narrowing.go_round" = true) (k_Narrowing_go_round : PySem.W.keepIn K (.ref f_Narrowing_go_round) = true)
    {f_Narrowing_narrow : Addr} {od_Narrowing_narrow an_Narrowing_narrow : Option Addr} {sl_Narrowing_narrow : Array (Option Value)} {oc_Narrowing_narrow kV_Narrowing_narrow dc_Narrowing_narrow pm_Narrowing_narrow cd_Narrowing_narrow ct_Narrowing_narrow : Value}
    (a_Narrowing_narrow : PySem.W.findIn K (.ref C_Narrowing) "narrow" = some (some (.ref f_Narrowing_narrow))) (i_Narrowing_narrow : PySem.W.isFn K (.ref f_Narrowing_narrow) = true) (l_Narrowing_narrow : K.lookup f_Narrowing_narrow = some ⟨oc_Narrowing_narrow, od_Narrowing_narrow, .func (PySem.W.fnOf "narrow" "Narrowing.narrow" (defArgs s_Narrowing_narrow) (defBody s_Narrowing_narrow) (defScope s_Narrowing_narrow) .none kV_Narrowing_narrow dc_Narrowing_narrow pm_Narrowing_narrow an_Narrowing_narrow cd_Narrowing_narrow ct_Narrowing_narrow), sl_Narrowing_narrow⟩) (c_Narrowing_narrow : PySem.W.codeIn K cd_Narrowing_narrow "Narrowing.narrow" = true) (k_Narrowing_narrow : PySem.W.keepIn K (.ref f_Narrowing_narrow) = true)
    {f_narrowed : Addr} {od_narrowed an_narrowed : Option Addr} {sl_narrowed : Array (Option Value)} {oc_narrowed kV_narrowed dc_narrowed pm_narrowed cd_narrowed ct_narrowed : Value}
    (a_narrowed : PySem.W.nsIn K mainGlobals "narrowed" = some (some (.ref f_narrowed))) (l_narrowed : K.lookup f_narrowed = some ⟨oc_narrowed, od_narrowed, .func (PySem.W.fnOf "narrowed" "narrowed" (defArgs s_narrowed) (defBody s_narrowed) (defScope s_narrowed) .none kV_narrowed dc_narrowed pm_narrowed an_narrowed cd_narrowed ct_narrowed), sl_narrowed⟩) (c_narrowed : PySem.W.codeIn K cd_narrowed "narrowed" = true) (k_narrowed : PySem.W.keepIn K (.ref f_narrowed) = true)
    {f_steps : Addr} {od_steps an_steps : Option Addr} {sl_steps : Array (Option Value)} {oc_steps kV_steps dc_steps pm_steps cd_steps ct_steps : Value}
    (a_steps : PySem.W.nsIn K mainGlobals "steps" = some (some (.ref f_steps))) (l_steps : K.lookup f_steps = some ⟨oc_steps, od_steps, .func (PySem.W.fnOf "steps" "steps" (defArgs s_steps) (defBody s_steps) (defScope s_steps) .none kV_steps dc_steps pm_steps an_steps cd_steps ct_steps), sl_steps⟩) (c_steps : PySem.W.codeIn K cd_steps "steps" = true) (k_steps : PySem.W.keepIn K (.ref f_steps) = true)
    {f_empty_view : Addr} {od_empty_view an_empty_view : Option Addr} {sl_empty_view : Array (Option Value)} {oc_empty_view kV_empty_view dc_empty_view pm_empty_view cd_empty_view ct_empty_view : Value}
    (a_empty_view : PySem.W.nsIn K mainGlobals "empty_view" = some (some (.ref f_empty_view))) (l_empty_view : K.lookup f_empty_view = some ⟨oc_empty_view, od_empty_view, .func (PySem.W.fnOf "empty_view" "empty_view" (defArgs s_empty_view) (defBody s_empty_view) (defScope s_empty_view) .none kV_empty_view dc_empty_view pm_empty_view an_empty_view cd_empty_view ct_empty_view), sl_empty_view⟩) (c_empty_view : PySem.W.codeIn K cd_empty_view "empty_view" = true) (k_empty_view : PySem.W.keepIn K (.ref f_empty_view) = true)
    {f__law_cell_at : Addr} {od__law_cell_at an__law_cell_at : Option Addr} {sl__law_cell_at : Array (Option Value)} {oc__law_cell_at kV__law_cell_at dc__law_cell_at pm__law_cell_at cd__law_cell_at ct__law_cell_at : Value}
    (a__law_cell_at : PySem.W.nsIn K mainGlobals "_law_cell_at" = some (some (.ref f__law_cell_at))) (l__law_cell_at : K.lookup f__law_cell_at = some ⟨oc__law_cell_at, od__law_cell_at, .func (PySem.W.fnOf "_law_cell_at" "_law_cell_at" (defArgs s__law_cell_at) (defBody s__law_cell_at) (defScope s__law_cell_at) .none kV__law_cell_at dc__law_cell_at pm__law_cell_at an__law_cell_at cd__law_cell_at ct__law_cell_at), sl__law_cell_at⟩) (c__law_cell_at : PySem.W.codeIn K cd__law_cell_at "_law_cell_at" = true) (k__law_cell_at : PySem.W.keepIn K (.ref f__law_cell_at) = true)
    {f__law_whole : Addr} {od__law_whole an__law_whole : Option Addr} {sl__law_whole : Array (Option Value)} {oc__law_whole kV__law_whole dc__law_whole pm__law_whole cd__law_whole ct__law_whole : Value}
    (a__law_whole : PySem.W.nsIn K mainGlobals "_law_whole" = some (some (.ref f__law_whole))) (l__law_whole : K.lookup f__law_whole = some ⟨oc__law_whole, od__law_whole, .func (PySem.W.fnOf "_law_whole" "_law_whole" (defArgs s__law_whole) (defBody s__law_whole) (defScope s__law_whole) .none kV__law_whole dc__law_whole pm__law_whole an__law_whole cd__law_whole ct__law_whole), sl__law_whole⟩) (c__law_whole : PySem.W.codeIn K cd__law_whole "_law_whole" = true) (k__law_whole : PySem.W.keepIn K (.ref f__law_whole) = true)
    {f__law_mix : Addr} {od__law_mix an__law_mix : Option Addr} {sl__law_mix : Array (Option Value)} {oc__law_mix kV__law_mix dc__law_mix pm__law_mix cd__law_mix ct__law_mix : Value}
    (a__law_mix : PySem.W.nsIn K mainGlobals "_law_mix" = some (some (.ref f__law_mix))) (l__law_mix : K.lookup f__law_mix = some ⟨oc__law_mix, od__law_mix, .func (PySem.W.fnOf "_law_mix" "_law_mix" (defArgs s__law_mix) (defBody s__law_mix) (defScope s__law_mix) .none kV__law_mix dc__law_mix pm__law_mix an__law_mix cd__law_mix ct__law_mix), sl__law_mix⟩) (c__law_mix : PySem.W.codeIn K cd__law_mix "_law_mix" = true) (k__law_mix : PySem.W.keepIn K (.ref f__law_mix) = true)
    {f__law_runs : Addr} {od__law_runs an__law_runs : Option Addr} {sl__law_runs : Array (Option Value)} {oc__law_runs kV__law_runs dc__law_runs pm__law_runs cd__law_runs ct__law_runs : Value}
    (a__law_runs : PySem.W.nsIn K mainGlobals "_law_runs" = some (some (.ref f__law_runs))) (l__law_runs : K.lookup f__law_runs = some ⟨oc__law_runs, od__law_runs, .func (PySem.W.fnOf "_law_runs" "_law_runs" (defArgs s__law_runs) (defBody s__law_runs) (defScope s__law_runs) .none kV__law_runs dc__law_runs pm__law_runs an__law_runs cd__law_runs ct__law_runs), sl__law_runs⟩) (c__law_runs : PySem.W.codeIn K cd__law_runs "_law_runs" = true) (k__law_runs : PySem.W.keepIn K (.ref f__law_runs) = true)
    {f__law_every : Addr} {od__law_every an__law_every : Option Addr} {sl__law_every : Array (Option Value)} {oc__law_every kV__law_every dc__law_every pm__law_every cd__law_every ct__law_every : Value}
    (a__law_every : PySem.W.nsIn K mainGlobals "_law_every" = some (some (.ref f__law_every))) (l__law_every : K.lookup f__law_every = some ⟨oc__law_every, od__law_every, .func (PySem.W.fnOf "_law_every" "_law_every" (defArgs s__law_every) (defBody s__law_every) (defScope s__law_every) .none kV__law_every dc__law_every pm__law_every an__law_every cd__law_every ct__law_every), sl__law_every⟩) (c__law_every : PySem.W.codeIn K cd__law_every "_law_every" = true) (k__law_every : PySem.W.keepIn K (.ref f__law_every) = true)
    {f__law_fitting : Addr} {od__law_fitting an__law_fitting : Option Addr} {sl__law_fitting : Array (Option Value)} {oc__law_fitting kV__law_fitting dc__law_fitting pm__law_fitting cd__law_fitting ct__law_fitting : Value}
    (a__law_fitting : PySem.W.nsIn K mainGlobals "_law_fitting" = some (some (.ref f__law_fitting))) (l__law_fitting : K.lookup f__law_fitting = some ⟨oc__law_fitting, od__law_fitting, .func (PySem.W.fnOf "_law_fitting" "_law_fitting" (defArgs s__law_fitting) (defBody s__law_fitting) (defScope s__law_fitting) .none kV__law_fitting dc__law_fitting pm__law_fitting an__law_fitting cd__law_fitting ct__law_fitting), sl__law_fitting⟩) (c__law_fitting : PySem.W.codeIn K cd__law_fitting "_law_fitting" = true) (k__law_fitting : PySem.W.keepIn K (.ref f__law_fitting) = true)
    {f__law_best : Addr} {od__law_best an__law_best : Option Addr} {sl__law_best : Array (Option Value)} {oc__law_best kV__law_best dc__law_best pm__law_best cd__law_best ct__law_best : Value}
    (a__law_best : PySem.W.nsIn K mainGlobals "_law_best" = some (some (.ref f__law_best))) (l__law_best : K.lookup f__law_best = some ⟨oc__law_best, od__law_best, .func (PySem.W.fnOf "_law_best" "_law_best" (defArgs s__law_best) (defBody s__law_best) (defScope s__law_best) .none kV__law_best dc__law_best pm__law_best an__law_best cd__law_best ct__law_best), sl__law_best⟩) (c__law_best : PySem.W.codeIn K cd__law_best "_law_best" = true) (k__law_best : PySem.W.keepIn K (.ref f__law_best) = true)
    {f__law_cells : Addr} {od__law_cells an__law_cells : Option Addr} {sl__law_cells : Array (Option Value)} {oc__law_cells kV__law_cells dc__law_cells pm__law_cells cd__law_cells ct__law_cells : Value}
    (a__law_cells : PySem.W.nsIn K mainGlobals "_law_cells" = some (some (.ref f__law_cells))) (l__law_cells : K.lookup f__law_cells = some ⟨oc__law_cells, od__law_cells, .func (PySem.W.fnOf "_law_cells" "_law_cells" (defArgs s__law_cells) (defBody s__law_cells) (defScope s__law_cells) .none kV__law_cells dc__law_cells pm__law_cells an__law_cells cd__law_cells ct__law_cells), sl__law_cells⟩) (c__law_cells : PySem.W.codeIn K cd__law_cells "_law_cells" = true) (k__law_cells : PySem.W.keepIn K (.ref f__law_cells) = true)
    {f__law_picture : Addr} {od__law_picture an__law_picture : Option Addr} {sl__law_picture : Array (Option Value)} {oc__law_picture kV__law_picture dc__law_picture pm__law_picture cd__law_picture ct__law_picture : Value}
    (a__law_picture : PySem.W.nsIn K mainGlobals "_law_picture" = some (some (.ref f__law_picture))) (l__law_picture : K.lookup f__law_picture = some ⟨oc__law_picture, od__law_picture, .func (PySem.W.fnOf "_law_picture" "_law_picture" (defArgs s__law_picture) (defBody s__law_picture) (defScope s__law_picture) .none kV__law_picture dc__law_picture pm__law_picture an__law_picture cd__law_picture ct__law_picture), sl__law_picture⟩) (c__law_picture : PySem.W.codeIn K cd__law_picture "_law_picture" = true) (k__law_picture : PySem.W.keepIn K (.ref f__law_picture) = true)
    {f__law_column : Addr} {od__law_column an__law_column : Option Addr} {sl__law_column : Array (Option Value)} {oc__law_column kV__law_column dc__law_column pm__law_column cd__law_column ct__law_column : Value}
    (a__law_column : PySem.W.nsIn K mainGlobals "_law_column" = some (some (.ref f__law_column))) (l__law_column : K.lookup f__law_column = some ⟨oc__law_column, od__law_column, .func (PySem.W.fnOf "_law_column" "_law_column" (defArgs s__law_column) (defBody s__law_column) (defScope s__law_column) .none kV__law_column dc__law_column pm__law_column an__law_column cd__law_column ct__law_column), sl__law_column⟩) (c__law_column : PySem.W.codeIn K cd__law_column "_law_column" = true) (k__law_column : PySem.W.keepIn K (.ref f__law_column) = true)
    {f__law_board : Addr} {od__law_board an__law_board : Option Addr} {sl__law_board : Array (Option Value)} {oc__law_board kV__law_board dc__law_board pm__law_board cd__law_board ct__law_board : Value}
    (a__law_board : PySem.W.nsIn K mainGlobals "_law_board" = some (some (.ref f__law_board))) (l__law_board : K.lookup f__law_board = some ⟨oc__law_board, od__law_board, .func (PySem.W.fnOf "_law_board" "_law_board" (defArgs s__law_board) (defBody s__law_board) (defScope s__law_board) .none kV__law_board dc__law_board pm__law_board an__law_board cd__law_board ct__law_board), sl__law_board⟩) (c__law_board : PySem.W.codeIn K cd__law_board "_law_board" = true) (k__law_board : PySem.W.keepIn K (.ref f__law_board) = true)
    {f__law_view : Addr} {od__law_view an__law_view : Option Addr} {sl__law_view : Array (Option Value)} {oc__law_view kV__law_view dc__law_view pm__law_view cd__law_view ct__law_view : Value}
    (a__law_view : PySem.W.nsIn K mainGlobals "_law_view" = some (some (.ref f__law_view))) (l__law_view : K.lookup f__law_view = some ⟨oc__law_view, od__law_view, .func (PySem.W.fnOf "_law_view" "_law_view" (defArgs s__law_view) (defBody s__law_view) (defScope s__law_view) .none kV__law_view dc__law_view pm__law_view an__law_view cd__law_view ct__law_view), sl__law_view⟩) (c__law_view : PySem.W.codeIn K cd__law_view "_law_view" = true) (k__law_view : PySem.W.keepIn K (.ref f__law_view) = true)
    {f__law_sight : Addr} {od__law_sight an__law_sight : Option Addr} {sl__law_sight : Array (Option Value)} {oc__law_sight kV__law_sight dc__law_sight pm__law_sight cd__law_sight ct__law_sight : Value}
    (a__law_sight : PySem.W.nsIn K mainGlobals "_law_sight" = some (some (.ref f__law_sight))) (l__law_sight : K.lookup f__law_sight = some ⟨oc__law_sight, od__law_sight, .func (PySem.W.fnOf "_law_sight" "_law_sight" (defArgs s__law_sight) (defBody s__law_sight) (defScope s__law_sight) .none kV__law_sight dc__law_sight pm__law_sight an__law_sight cd__law_sight ct__law_sight), sl__law_sight⟩) (c__law_sight : PySem.W.codeIn K cd__law_sight "_law_sight" = true) (k__law_sight : PySem.W.keepIn K (.ref f__law_sight) = true)
    {f__law_told_by : Addr} {od__law_told_by an__law_told_by : Option Addr} {sl__law_told_by : Array (Option Value)} {oc__law_told_by kV__law_told_by dc__law_told_by pm__law_told_by cd__law_told_by ct__law_told_by : Value}
    (a__law_told_by : PySem.W.nsIn K mainGlobals "_law_told_by" = some (some (.ref f__law_told_by))) (l__law_told_by : K.lookup f__law_told_by = some ⟨oc__law_told_by, od__law_told_by, .func (PySem.W.fnOf "_law_told_by" "_law_told_by" (defArgs s__law_told_by) (defBody s__law_told_by) (defScope s__law_told_by) .none kV__law_told_by dc__law_told_by pm__law_told_by an__law_told_by cd__law_told_by ct__law_told_by), sl__law_told_by⟩) (c__law_told_by : PySem.W.codeIn K cd__law_told_by "_law_told_by" = true) (k__law_told_by : PySem.W.keepIn K (.ref f__law_told_by) = true)
    {f__law_rounds : Addr} {od__law_rounds an__law_rounds : Option Addr} {sl__law_rounds : Array (Option Value)} {oc__law_rounds kV__law_rounds dc__law_rounds pm__law_rounds cd__law_rounds ct__law_rounds : Value}
    (a__law_rounds : PySem.W.nsIn K mainGlobals "_law_rounds" = some (some (.ref f__law_rounds))) (l__law_rounds : K.lookup f__law_rounds = some ⟨oc__law_rounds, od__law_rounds, .func (PySem.W.fnOf "_law_rounds" "_law_rounds" (defArgs s__law_rounds) (defBody s__law_rounds) (defScope s__law_rounds) .none kV__law_rounds dc__law_rounds pm__law_rounds an__law_rounds cd__law_rounds ct__law_rounds), sl__law_rounds⟩) (c__law_rounds : PySem.W.codeIn K cd__law_rounds "_law_rounds" = true) (k__law_rounds : PySem.W.keepIn K (.ref f__law_rounds) = true)
    {f__law_view_is : Addr} {od__law_view_is an__law_view_is : Option Addr} {sl__law_view_is : Array (Option Value)} {oc__law_view_is kV__law_view_is dc__law_view_is pm__law_view_is cd__law_view_is ct__law_view_is : Value}
    (a__law_view_is : PySem.W.nsIn K mainGlobals "_law_view_is" = some (some (.ref f__law_view_is))) (l__law_view_is : K.lookup f__law_view_is = some ⟨oc__law_view_is, od__law_view_is, .func (PySem.W.fnOf "_law_view_is" "_law_view_is" (defArgs s__law_view_is) (defBody s__law_view_is) (defScope s__law_view_is) .none kV__law_view_is dc__law_view_is pm__law_view_is an__law_view_is cd__law_view_is ct__law_view_is), sl__law_view_is⟩) (c__law_view_is : PySem.W.codeIn K cd__law_view_is "_law_view_is" = true) (k__law_view_is : PySem.W.keepIn K (.ref f__law_view_is) = true)
    {f__law_refused : Addr} {od__law_refused an__law_refused : Option Addr} {sl__law_refused : Array (Option Value)} {oc__law_refused kV__law_refused dc__law_refused pm__law_refused cd__law_refused ct__law_refused : Value}
    (a__law_refused : PySem.W.nsIn K mainGlobals "_law_refused" = some (some (.ref f__law_refused))) (l__law_refused : K.lookup f__law_refused = some ⟨oc__law_refused, od__law_refused, .func (PySem.W.fnOf "_law_refused" "_law_refused" (defArgs s__law_refused) (defBody s__law_refused) (defScope s__law_refused) .none kV__law_refused dc__law_refused pm__law_refused an__law_refused cd__law_refused ct__law_refused), sl__law_refused⟩) (c__law_refused : PySem.W.codeIn K cd__law_refused "_law_refused" = true) (k__law_refused : PySem.W.keepIn K (.ref f__law_refused) = true)
    {f__law_asked : Addr} {od__law_asked an__law_asked : Option Addr} {sl__law_asked : Array (Option Value)} {oc__law_asked kV__law_asked dc__law_asked pm__law_asked cd__law_asked ct__law_asked : Value}
    (a__law_asked : PySem.W.nsIn K mainGlobals "_law_asked" = some (some (.ref f__law_asked))) (l__law_asked : K.lookup f__law_asked = some ⟨oc__law_asked, od__law_asked, .func (PySem.W.fnOf "_law_asked" "_law_asked" (defArgs s__law_asked) (defBody s__law_asked) (defScope s__law_asked) .none kV__law_asked dc__law_asked pm__law_asked an__law_asked cd__law_asked ct__law_asked), sl__law_asked⟩) (c__law_asked : PySem.W.codeIn K cd__law_asked "_law_asked" = true) (k__law_asked : PySem.W.keepIn K (.ref f__law_asked) = true)
    {f__law_stepped : Addr} {od__law_stepped an__law_stepped : Option Addr} {sl__law_stepped : Array (Option Value)} {oc__law_stepped kV__law_stepped dc__law_stepped pm__law_stepped cd__law_stepped ct__law_stepped : Value}
    (a__law_stepped : PySem.W.nsIn K mainGlobals "_law_stepped" = some (some (.ref f__law_stepped))) (l__law_stepped : K.lookup f__law_stepped = some ⟨oc__law_stepped, od__law_stepped, .func (PySem.W.fnOf "_law_stepped" "_law_stepped" (defArgs s__law_stepped) (defBody s__law_stepped) (defScope s__law_stepped) .none kV__law_stepped dc__law_stepped pm__law_stepped an__law_stepped cd__law_stepped ct__law_stepped), sl__law_stepped⟩) (c__law_stepped : PySem.W.codeIn K cd__law_stepped "_law_stepped" = true) (k__law_stepped : PySem.W.keepIn K (.ref f__law_stepped) = true)
    {f__law_steps : Addr} {od__law_steps an__law_steps : Option Addr} {sl__law_steps : Array (Option Value)} {oc__law_steps kV__law_steps dc__law_steps pm__law_steps cd__law_steps ct__law_steps : Value}
    (a__law_steps : PySem.W.nsIn K mainGlobals "_law_steps" = some (some (.ref f__law_steps))) (l__law_steps : K.lookup f__law_steps = some ⟨oc__law_steps, od__law_steps, .func (PySem.W.fnOf "_law_steps" "_law_steps" (defArgs s__law_steps) (defBody s__law_steps) (defScope s__law_steps) .none kV__law_steps dc__law_steps pm__law_steps an__law_steps cd__law_steps ct__law_steps), sl__law_steps⟩) (c__law_steps : PySem.W.codeIn K cd__law_steps "_law_steps" = true) (k__law_steps : PySem.W.keepIn K (.ref f__law_steps) = true)
    {f__law_any_board : Addr} {od__law_any_board an__law_any_board : Option Addr} {sl__law_any_board : Array (Option Value)} {oc__law_any_board kV__law_any_board dc__law_any_board pm__law_any_board cd__law_any_board ct__law_any_board : Value}
    (a__law_any_board : PySem.W.nsIn K mainGlobals "_law_any_board" = some (some (.ref f__law_any_board))) (l__law_any_board : K.lookup f__law_any_board = some ⟨oc__law_any_board, od__law_any_board, .func (PySem.W.fnOf "_law_any_board" "_law_any_board" (defArgs s__law_any_board) (defBody s__law_any_board) (defScope s__law_any_board) .none kV__law_any_board dc__law_any_board pm__law_any_board an__law_any_board cd__law_any_board ct__law_any_board), sl__law_any_board⟩) (c__law_any_board : PySem.W.codeIn K cd__law_any_board "_law_any_board" = true) (k__law_any_board : PySem.W.keepIn K (.ref f__law_any_board) = true)
    {f_law : Addr} {od_law an_law : Option Addr} {sl_law : Array (Option Value)} {oc_law kV_law dc_law pm_law cd_law ct_law : Value}
    (a_law : PySem.W.nsIn K mainGlobals "law" = some (some (.ref f_law))) (l_law : K.lookup f_law = some ⟨oc_law, od_law, .func (PySem.W.fnOf "law" "law" (defArgs s_law) (defBody s_law) (defScope s_law) .none kV_law dc_law pm_law an_law cd_law ct_law), sl_law⟩) (c_law : PySem.W.codeIn K cd_law "law" = true) (k_law : PySem.W.keepIn K (.ref f_law) = true)
    (pg_Counts : PySem.W.plainGet K C_Counts Str.empty = true) (hd_Counts : PySem.W.hasDictIn K C_Counts = true) (po_Counts : PySem.W.plainOver K C_Counts = true) (sa_Counts : PySem.W.findIn K (.ref C_Counts) "__setattr__" = some (some (.builtin "object.__setattr__"))) (mk_Counts : PySem.W.makesIn K C_Counts = true) (kc_Counts : PySem.W.keepIn K (.ref C_Counts) = true)
    (n_Counts_runs : PySem.W.findIn K (.ref C_Counts) "runs" = some none)
    (n_Counts_sight : PySem.W.findIn K (.ref C_Counts) "sight" = some none)
    (n_Counts_ways : PySem.W.findIn K (.ref C_Counts) "ways" = some none)
    (pg_Narrowing : PySem.W.plainGet K C_Narrowing Str.empty = true) (hd_Narrowing : PySem.W.hasDictIn K C_Narrowing = true) (po_Narrowing : PySem.W.plainOver K C_Narrowing = true) (sa_Narrowing : PySem.W.findIn K (.ref C_Narrowing) "__setattr__" = some (some (.builtin "object.__setattr__"))) (mk_Narrowing : PySem.W.makesIn K C_Narrowing = true) (kc_Narrowing : PySem.W.keepIn K (.ref C_Narrowing) = true)
    (n_Narrowing_board : PySem.W.findIn K (.ref C_Narrowing) "board" = some none)
    (n_Narrowing_view : PySem.W.findIn K (.ref C_Narrowing) "view" = some none)
    (n_Narrowing_found : PySem.W.findIn K (.ref C_Narrowing) "found" = some none)
    {C_PaintError : Addr} (aC_PaintError : PySem.W.nsIn K mainGlobals "PaintError" = some (some (.ref C_PaintError)))
    {C_NoLaying : Addr} (aC_NoLaying : PySem.W.nsIn K mainGlobals "NoLaying" = some (some (.ref C_NoLaying)))
    {C_NoNumber : Addr} (aC_NoNumber : PySem.W.nsIn K mainGlobals "NoNumber" = some (some (.ref C_NoNumber)))
    {C_TooMany : Addr} (aC_TooMany : PySem.W.nsIn K mainGlobals "TooMany" = some (some (.ref C_TooMany)))
    {C_BadRun : Addr} (aC_BadRun : PySem.W.nsIn K mainGlobals "BadRun" = some (some (.ref C_BadRun)))
    {C_Wide : Addr} (aC_Wide : PySem.W.nsIn K mainGlobals "Wide" = some (some (.ref C_Wide)))
    {C_NoNote : Addr} (aC_NoNote : PySem.W.nsIn K mainGlobals "NoNote" = some (some (.ref C_NoNote)))
    (z_ValueError : PySem.W.nsIn K mainGlobals "ValueError" = some none) (x_sg : PySem.W.specialIn K (.builtin "object.__class__") "__get__" = some (some (.builtin "getset_descriptor.__get__"))) (x_tk : PySem.W.takesIn K (.builtin "object.__class__") = some true)
    (xe_PaintError : PySem.W.excIn K C_PaintError bmV "ValueError.__new__" = true) (xb_PaintError : PySem.W.mroIn K C_PaintError (.type "BaseException") = some true) (xo_PaintError : PySem.W.mroIn K C_PaintError (.type "object") = some true) (xa_PaintError : PySem.W.findIn K (.ref C_PaintError) "__getattribute__" = some (some (.builtin "BaseException.__getattribute__"))) (xn_PaintError : PySem.W.findIn K (.ref C_PaintError) "__getattr__" = some none) (xc_PaintError : PySem.W.findIn K (.ref C_PaintError) "__class__" = some (some (.builtin "object.__class__")))
    (xe_NoLaying : PySem.W.excIn K C_NoLaying bmV "ValueError.__new__" = true) (xb_NoLaying : PySem.W.mroIn K C_NoLaying (.type "BaseException") = some true) (xo_NoLaying : PySem.W.mroIn K C_NoLaying (.type "object") = some true) (xa_NoLaying : PySem.W.findIn K (.ref C_NoLaying) "__getattribute__" = some (some (.builtin "BaseException.__getattribute__"))) (xn_NoLaying : PySem.W.findIn K (.ref C_NoLaying) "__getattr__" = some none) (xc_NoLaying : PySem.W.findIn K (.ref C_NoLaying) "__class__" = some (some (.builtin "object.__class__")))
    (xs_NoLaying : PySem.W.mroIn K C_NoLaying (.ref C_PaintError) = some true)
    (xm_NoLaying_NoLaying : PySem.W.mroIn K C_NoLaying (.ref C_NoLaying) = some true)
    (xm_NoLaying_NoNumber : PySem.W.mroIn K C_NoLaying (.ref C_NoNumber) = some false)
    (xm_NoLaying_TooMany : PySem.W.mroIn K C_NoLaying (.ref C_TooMany) = some false)
    (xm_NoLaying_BadRun : PySem.W.mroIn K C_NoLaying (.ref C_BadRun) = some false)
    (xm_NoLaying_Wide : PySem.W.mroIn K C_NoLaying (.ref C_Wide) = some false)
    (xm_NoLaying_NoNote : PySem.W.mroIn K C_NoLaying (.ref C_NoNote) = some false)
    (xv_NoLaying : PySem.W.mroIn K C_NoLaying (.type "ValueError") = some true)
    (xi_NoLaying : PySem.W.isClsIn K C_NoLaying = true) (xt_NoLaying : PySem.W.typeIn K (.ref C_NoLaying) = some (.type "type"))
    (xi_NoNumber : PySem.W.isClsIn K C_NoNumber = true) (xt_NoNumber : PySem.W.typeIn K (.ref C_NoNumber) = some (.type "type"))
    (xi_TooMany : PySem.W.isClsIn K C_TooMany = true) (xt_TooMany : PySem.W.typeIn K (.ref C_TooMany) = some (.type "type"))
    (xi_BadRun : PySem.W.isClsIn K C_BadRun = true) (xt_BadRun : PySem.W.typeIn K (.ref C_BadRun) = some (.type "type"))
    (xi_Wide : PySem.W.isClsIn K C_Wide = true) (xt_Wide : PySem.W.typeIn K (.ref C_Wide) = some (.type "type"))
    (xi_NoNote : PySem.W.isClsIn K C_NoNote = true) (xt_NoNote : PySem.W.typeIn K (.ref C_NoNote) = some (.type "type"))
    (z_len : PySem.W.nsIn K mainGlobals "len" = some none)
    (z_range : PySem.W.nsIn K mainGlobals "range" = some none)
    (z_isinstance : PySem.W.nsIn K mainGlobals "isinstance" = some none)
    (z_all : PySem.W.nsIn K mainGlobals "all" = some none)
    (z_any : PySem.W.nsIn K mainGlobals "any" = some none)
    (z_sum : PySem.W.nsIn K mainGlobals "sum" = some none)
    (z_min : PySem.W.nsIn K mainGlobals "min" = some none)
    (z_max : PySem.W.nsIn K mainGlobals "max" = some none)
    (z_int : PySem.W.nsIn K mainGlobals "int" = some none)
    (z_bool : PySem.W.nsIn K mainGlobals "bool" = some none)
    (z_tuple : PySem.W.nsIn K mainGlobals "tuple" = some none)
    (z_list : PySem.W.nsIn K mainGlobals "list" = some none)
    (z_reversed : PySem.W.nsIn K mainGlobals "reversed" = some none)
    (z_zip : PySem.W.nsIn K mainGlobals "zip" = some none)
    (z_enumerate : PySem.W.nsIn K mainGlobals "enumerate" = some none)
    : ∃ fd : FuncData, (∀ (s : Shared) (v : Value), BindsTo s fd ⟨[v], []⟩ [("script", v)]) ∧ ∀ base : Heap, K.In base → base.Ns mainGlobals mg → FnOk l.prog w K mg base CX0 11 fa fd ["script"] (sp_law K) := by
  have e := hfa.symm.trans (PySem.W.mg_of X G a_law)
  cases e
  have B : Bt mg := ⟨PySem.W.mg_none_of X G z_len, PySem.W.mg_none_of X G z_range, PySem.W.mg_none_of X G z_isinstance, PySem.W.mg_none_of X G z_all, PySem.W.mg_none_of X G z_any, PySem.W.mg_none_of X G z_sum, PySem.W.mg_none_of X G z_min, PySem.W.mg_none_of X G z_max, PySem.W.mg_none_of X G z_int, PySem.W.mg_none_of X G z_bool, PySem.W.mg_none_of X G z_tuple, PySem.W.mg_none_of X G z_list, PySem.W.mg_none_of X G z_reversed⟩
  have Z : Bz mg := ⟨PySem.W.mg_none_of X G z_zip, PySem.W.mg_none_of X G z_enumerate⟩
  have X_PaintError : ExcC K C_PaintError := ⟨xe_PaintError, xb_PaintError, xo_PaintError, xa_PaintError, xn_PaintError, xc_PaintError, x_sg, x_tk⟩
  have X_NoLaying : ExcC K C_NoLaying := ⟨xe_NoLaying, xb_NoLaying, xo_NoLaying, xa_NoLaying, xn_NoLaying, xc_NoLaying, x_sg, x_tk⟩
  have hm_PaintError := PySem.W.mg_of X G aC_PaintError
  have hm_NoLaying := PySem.W.mg_of X G aC_NoLaying
  have hm_NoNumber := PySem.W.mg_of X G aC_NoNumber
  have hm_TooMany := PySem.W.mg_of X G aC_TooMany
  have hm_BadRun := PySem.W.mg_of X G aC_BadRun
  have hm_Wide := PySem.W.mg_of X G aC_Wide
  have hm_NoNote := PySem.W.mg_of X G aC_NoNote
  have R : Errs K mg C_PaintError C_NoLaying C_NoNumber C_TooMany C_BadRun C_Wide C_NoNote := ⟨PySem.W.mg_of X G aC_PaintError, PySem.W.mg_of X G aC_NoLaying, PySem.W.mg_of X G aC_NoNumber, PySem.W.mg_of X G aC_TooMany, PySem.W.mg_of X G aC_BadRun, PySem.W.mg_of X G aC_Wide, PySem.W.mg_of X G aC_NoNote, PySem.W.mg_none_of X G z_ValueError, X_PaintError⟩
  have M_NoLaying : Marks K C_PaintError C_NoLaying C_NoNumber C_TooMany C_BadRun C_Wide C_NoNote C_NoLaying true false false false false false := ⟨X_NoLaying, xs_NoLaying, kit_self, kit_no xm_NoLaying_NoLaying xm_NoLaying_NoNumber xi_NoNumber xt_NoNumber, kit_no xm_NoLaying_NoLaying xm_NoLaying_TooMany xi_TooMany xt_TooMany, kit_no xm_NoLaying_NoLaying xm_NoLaying_BadRun xi_BadRun xt_BadRun, kit_no xm_NoLaying_NoLaying xm_NoLaying_Wide xi_Wide xt_Wide, kit_no xm_NoLaying_NoLaying xm_NoLaying_NoNote xi_NoNote xt_NoNote, kit_val xv_NoLaying⟩
  have F_Counts_total := fun_mk (st := s_Counts_total) l_Counts_total c_Counts_total k_Counts_total
  have b_Counts_total := F_Counts_total.binds (ps := ["self"]) fun _ _ _ _ _ _ us hl => match us, hl with | [_], _ => rfl
  have F_Counts_empty_ways := fun_mk (st := s_Counts_empty_ways) l_Counts_empty_ways c_Counts_empty_ways k_Counts_empty_ways
  have b_Counts_empty_ways := F_Counts_empty_ways.binds (ps := ["self", "place", "done"]) fun _ _ _ _ _ _ us hl => match us, hl with | [_, _, _], _ => rfl
  have F_Counts_has_room := fun_mk (st := s_Counts_has_room) l_Counts_has_room c_Counts_has_room k_Counts_has_room
  have b_Counts_has_room := F_Counts_has_room.binds (ps := ["self", "place", "length"]) fun _ _ _ _ _ _ us hl => match us, hl with | [_, _, _], _ => rfl
  have F_Counts_place_behind := fun_mk (st := s_Counts_place_behind) l_Counts_place_behind c_Counts_place_behind k_Counts_place_behind
  have b_Counts_place_behind := F_Counts_place_behind.binds (ps := ["self", "place", "done"]) fun _ _ _ _ _ _ us hl => match us, hl with | [_, _, _], _ => rfl
  have F_Counts_full_ways := fun_mk (st := s_Counts_full_ways) l_Counts_full_ways c_Counts_full_ways k_Counts_full_ways
  have b_Counts_full_ways := F_Counts_full_ways.binds (ps := ["self", "place", "done"]) fun _ _ _ _ _ _ us hl => match us, hl with | [_, _, _], _ => rfl
  have F_Counts_run_cells := fun_mk (st := s_Counts_run_cells) l_Counts_run_cells c_Counts_run_cells k_Counts_run_cells
  have b_Counts_run_cells := F_Counts_run_cells.binds (ps := ["self", "place", "done"]) fun _ _ _ _ _ _ us hl => match us, hl with | [_, _, _], _ => rfl
  have F_Counts___init__ := fun_mk (st := s_Counts___init__) l_Counts___init__ c_Counts___init__ k_Counts___init__
  have b_Counts___init__ := F_Counts___init__.binds (ps := ["self", "runs", "sight"]) fun _ _ _ _ _ _ us hl => match us, hl with | [_, _, _], _ => rfl
  have F_told_by := fun_mk (st := s_told_by) l_told_by c_told_by k_told_by
  have b_told_by := F_told_by.binds (ps := ["some_empty", "some_full"]) fun _ _ _ _ _ _ us hl => match us, hl with | [_, _], _ => rfl
  have F_best := fun_mk (st := s_best) l_best c_best k_best
  have b_best := F_best.binds (ps := ["runs", "sight"]) fun _ _ _ _ _ _ us hl => match us, hl with | [_, _], _ => rfl
  have F_cells_told := fun_mk (st := s_cells_told) l_cells_told c_cells_told k_cells_told
  have b_cells_told := F_cells_told.binds (ps := ["sight", "better"]) fun _ _ _ _ _ _ us hl => match us, hl with | [_, _], _ => rfl
  have F_Narrowing_sight_of := fun_mk (st := s_Narrowing_sight_of) l_Narrowing_sight_of c_Narrowing_sight_of k_Narrowing_sight_of
  have b_Narrowing_sight_of := F_Narrowing_sight_of.binds (ps := ["self", "kind", "number"]) fun _ _ _ _ _ _ us hl => match us, hl with | [_, _, _], _ => rfl
  have F_Narrowing_tell := fun_mk (st := s_Narrowing_tell) l_Narrowing_tell c_Narrowing_tell k_Narrowing_tell
  have b_Narrowing_tell := F_Narrowing_tell.binds (ps := ["self", "kind", "number", "place", "cell"]) fun _ _ _ _ _ _ us hl => match us, hl with | [_, _, _, _, _], _ => rfl
  have F_Narrowing___init__ := fun_mk (st := s_Narrowing___init__) l_Narrowing___init__ c_Narrowing___init__ k_Narrowing___init__
  have b_Narrowing___init__ := F_Narrowing___init__.binds (ps := ["self", "board", "view"]) fun _ _ _ _ _ _ us hl => match us, hl with | [_, _, _], _ => rfl
  have F_Narrowing_go_through := fun_mk (st := s_Narrowing_go_through) l_Narrowing_go_through c_Narrowing_go_through k_Narrowing_go_through
  have b_Narrowing_go_through := F_Narrowing_go_through.binds (ps := ["self", "kind", "number", "runs"]) fun _ _ _ _ _ _ us hl => match us, hl with | [_, _, _, _], _ => rfl
  have F_Narrowing_go_round := fun_mk (st := s_Narrowing_go_round) l_Narrowing_go_round c_Narrowing_go_round k_Narrowing_go_round
  have b_Narrowing_go_round := F_Narrowing_go_round.binds (ps := ["self"]) fun _ _ _ _ _ _ us hl => match us, hl with | [_], _ => rfl
  have F_Narrowing_narrow := fun_mk (st := s_Narrowing_narrow) l_Narrowing_narrow c_Narrowing_narrow k_Narrowing_narrow
  have b_Narrowing_narrow := F_Narrowing_narrow.binds (ps := ["self"]) fun _ _ _ _ _ _ us hl => match us, hl with | [_], _ => rfl
  have F_narrowed := fun_mk (st := s_narrowed) l_narrowed c_narrowed k_narrowed
  have b_narrowed := F_narrowed.binds (ps := ["board", "view"]) fun _ _ _ _ _ _ us hl => match us, hl with | [_, _], _ => rfl
  have F_steps := fun_mk (st := s_steps) l_steps c_steps k_steps
  have b_steps := F_steps.binds (ps := ["board", "view"]) fun _ _ _ _ _ _ us hl => match us, hl with | [_, _], _ => rfl
  have F_empty_view := fun_mk (st := s_empty_view) l_empty_view c_empty_view k_empty_view
  have b_empty_view := F_empty_view.binds (ps := ["board"]) fun _ _ _ _ _ _ us hl => match us, hl with | [_], _ => rfl
  have F__law_cell_at := fun_mk (st := s__law_cell_at) l__law_cell_at c__law_cell_at k__law_cell_at
  have b__law_cell_at := F__law_cell_at.binds (ps := ["script", "k"]) fun _ _ _ _ _ _ us hl => match us, hl with | [_, _], _ => rfl
  have F__law_whole := fun_mk (st := s__law_whole) l__law_whole c__law_whole k__law_whole
  have b__law_whole := F__law_whole.binds (ps := ["x"]) fun _ _ _ _ _ _ us hl => match us, hl with | [_], _ => rfl
  have F__law_mix := fun_mk (st := s__law_mix) l__law_mix c__law_mix k__law_mix
  have b__law_mix := F__law_mix.binds (ps := ["cell", "k"]) fun _ _ _ _ _ _ us hl => match us, hl with | [_, _], _ => rfl
  have F__law_runs := fun_mk (st := s__law_runs) l__law_runs c__law_runs k__law_runs
  have b__law_runs := F__law_runs.binds (ps := ["cells"]) fun _ _ _ _ _ _ us hl => match us, hl with | [_], _ => rfl
  have F__law_every := fun_mk (st := s__law_every) l__law_every c__law_every k__law_every
  have b__law_every := F__law_every.binds (ps := ["size"]) fun _ _ _ _ _ _ us hl => match us, hl with | [_], _ => rfl
  have F__law_fitting := fun_mk (st := s__law_fitting) l__law_fitting c__law_fitting k__law_fitting
  have b__law_fitting := F__law_fitting.binds (ps := ["runs", "sight"]) fun _ _ _ _ _ _ us hl => match us, hl with | [_, _], _ => rfl
  have F__law_best := fun_mk (st := s__law_best) l__law_best c__law_best k__law_best
  have b__law_best := F__law_best.binds (ps := ["runs", "sight"]) fun _ _ _ _ _ _ us hl => match us, hl with | [_, _], _ => rfl
  have F__law_cells := fun_mk (st := s__law_cells) l__law_cells c__law_cells k__law_cells
  have b__law_cells := F__law_cells.binds (ps := ["found", "due"]) fun _ _ _ _ _ _ us hl => match us, hl with | [_, _], _ => rfl
  have F__law_picture := fun_mk (st := s__law_picture) l__law_picture c__law_picture k__law_picture
  have b__law_picture := F__law_picture.binds (ps := ["cell", "rows", "columns"]) fun _ _ _ _ _ _ us hl => match us, hl with | [_, _, _], _ => rfl
  have F__law_column := fun_mk (st := s__law_column) l__law_column c__law_column k__law_column
  have b__law_column := F__law_column.binds (ps := ["rows", "at"]) fun _ _ _ _ _ _ us hl => match us, hl with | [_, _], _ => rfl
  have F__law_board := fun_mk (st := s__law_board) l__law_board c__law_board k__law_board
  have b__law_board := F__law_board.binds (ps := ["picture"]) fun _ _ _ _ _ _ us hl => match us, hl with | [_], _ => rfl
  have F__law_view := fun_mk (st := s__law_view) l__law_view c__law_view k__law_view
  have b__law_view := F__law_view.binds (ps := ["cell", "picture"]) fun _ _ _ _ _ _ us hl => match us, hl with | [_, _], _ => rfl
  have F__law_sight := fun_mk (st := s__law_sight) l__law_sight c__law_sight k__law_sight
  have b__law_sight := F__law_sight.binds (ps := ["rows", "side", "at"]) fun _ _ _ _ _ _ us hl => match us, hl with | [_, _, _], _ => rfl
  have F__law_told_by := fun_mk (st := s__law_told_by) l__law_told_by c__law_told_by k__law_told_by
  have b__law_told_by := F__law_told_by.binds (ps := ["runs", "sight"]) fun _ _ _ _ _ _ us hl => match us, hl with | [_, _], _ => rfl
  have F__law_rounds := fun_mk (st := s__law_rounds) l__law_rounds c__law_rounds k__law_rounds
  have b__law_rounds := F__law_rounds.binds (ps := ["board", "view"]) fun _ _ _ _ _ _ us hl => match us, hl with | [_, _], _ => rfl
  have F__law_view_is := fun_mk (st := s__law_view_is) l__law_view_is c__law_view_is k__law_view_is
  have b__law_view_is := F__law_view_is.binds (ps := ["found", "due"]) fun _ _ _ _ _ _ us hl => match us, hl with | [_, _], _ => rfl
  have F__law_refused := fun_mk (st := s__law_refused) l__law_refused c__law_refused k__law_refused
  have b__law_refused := F__law_refused.binds (ps := ["marks", "which"]) fun _ _ _ _ _ _ us hl => match us, hl with | [_, _], _ => rfl
  have F__law_asked := fun_mk (st := s__law_asked) l__law_asked c__law_asked k__law_asked
  have b__law_asked := F__law_asked.binds (ps := ["board", "view"]) fun _ _ _ _ _ _ us hl => match us, hl with | [_, _], _ => rfl
  have F__law_stepped := fun_mk (st := s__law_stepped) l__law_stepped c__law_stepped k__law_stepped
  have b__law_stepped := F__law_stepped.binds (ps := ["board", "view"]) fun _ _ _ _ _ _ us hl => match us, hl with | [_, _], _ => rfl
  have F__law_steps := fun_mk (st := s__law_steps) l__law_steps c__law_steps k__law_steps
  have b__law_steps := F__law_steps.binds (ps := ["found", "due"]) fun _ _ _ _ _ _ us hl => match us, hl with | [_, _], _ => rfl
  have F__law_any_board := fun_mk (st := s__law_any_board) l__law_any_board c__law_any_board k__law_any_board
  have b__law_any_board := F__law_any_board.binds (ps := ["cell", "board"]) fun _ _ _ _ _ _ us hl => match us, hl with | [_, _], _ => rfl
  have F_law := fun_mk (st := s_law) l_law c_law k_law
  have T_Counts : CT K C_Counts := ⟨⟨pg_Counts, hd_Counts, po_Counts, sa_Counts⟩, n_Counts_runs, n_Counts_sight, n_Counts_ways⟩
  have T_Narrowing : NT K C_Narrowing := ⟨⟨pg_Narrowing, hd_Narrowing, po_Narrowing, sa_Narrowing⟩, n_Narrowing_board, n_Narrowing_view, n_Narrowing_found⟩
  refine ⟨PySem.W.fnOf "law" "law" (defArgs s_law) (defBody s_law) (defScope s_law) .none kV_law dc_law pm_law an_law cd_law ct_law, fun s v => .of_eq rfl, fun base _ _ => ?_⟩
  have G_Counts_total : FnOk l.prog w K mg base CX0 1 f_Counts_total _ ["self"] (sp_total C_Counts) := ok_Counts_total F_Counts_total T_Counts
  have m_total : Method l.prog w K mg base CX0 C_Counts "total" 1 ["self"] (sp_total C_Counts) := ⟨T_Counts.cl, f_Counts_total, _, ⟨a_Counts_total, i_Counts_total, k_Counts_total⟩, b_Counts_total, G_Counts_total⟩
  have G_Counts_empty_ways : FnOk l.prog w K mg base CX0 1 f_Counts_empty_ways _ ["self", "place", "done"] (sp_empty C_Counts) := ok_Counts_empty_ways F_Counts_empty_ways T_Counts
  have m_empty_ways : Method l.prog w K mg base CX0 C_Counts "empty_ways" 1 ["self", "place", "done"] (sp_empty C_Counts) := ⟨T_Counts.cl, f_Counts_empty_ways, _, ⟨a_Counts_empty_ways, i_Counts_empty_ways, k_Counts_empty_ways⟩, b_Counts_empty_ways, G_Counts_empty_ways⟩
  have G_Counts_has_room : FnOk l.prog w K mg base CX0 1 f_Counts_has_room _ ["self", "place", "length"] (sp_room C_Counts) := ok_Counts_has_room F_Counts_has_room B T_Counts
  have m_has_room : Method l.prog w K mg base CX0 C_Counts "has_room" 1 ["self", "place", "length"] (sp_room C_Counts) := ⟨T_Counts.cl, f_Counts_has_room, _, ⟨a_Counts_has_room, i_Counts_has_room, k_Counts_has_room⟩, b_Counts_has_room, G_Counts_has_room⟩
  have G_Counts_place_behind : FnOk l.prog w K mg base CX0 1 f_Counts_place_behind _ ["self", "place", "done"] (sp_behind C_Counts) := ok_Counts_place_behind F_Counts_place_behind B T_Counts
  have m_place_behind : Method l.prog w K mg base CX0 C_Counts "place_behind" 1 ["self", "place", "done"] (sp_behind C_Counts) := ⟨T_Counts.cl, f_Counts_place_behind, _, ⟨a_Counts_place_behind, i_Counts_place_behind, k_Counts_place_behind⟩, b_Counts_place_behind, G_Counts_place_behind⟩
  have G_Counts_full_ways : FnOk l.prog w K mg base CX0 2 f_Counts_full_ways _ ["self", "place", "done"] (sp_full C_Counts) := ok_Counts_full_ways F_Counts_full_ways B T_Counts m_has_room m_place_behind
  have m_full_ways : Method l.prog w K mg base CX0 C_Counts "full_ways" 2 ["self", "place", "done"] (sp_full C_Counts) := ⟨T_Counts.cl, f_Counts_full_ways, _, ⟨a_Counts_full_ways, i_Counts_full_ways, k_Counts_full_ways⟩, b_Counts_full_ways, G_Counts_full_ways⟩
  have G_Counts_run_cells : FnOk l.prog w K mg base CX0 1 f_Counts_run_cells _ ["self", "place", "done"] (sp_run_cells C_Counts) := ok_Counts_run_cells F_Counts_run_cells B T_Counts
  have m_run_cells : Method l.prog w K mg base CX0 C_Counts "run_cells" 1 ["self", "place", "done"] (sp_run_cells C_Counts) := ⟨T_Counts.cl, f_Counts_run_cells, _, ⟨a_Counts_run_cells, i_Counts_run_cells, k_Counts_run_cells⟩, b_Counts_run_cells, G_Counts_run_cells⟩
  have G_Counts___init__ : FnOk l.prog w K mg base CX0 3 f_Counts___init__ _ ["self", "runs", "sight"] (sp_init C_Counts) := ok_Counts___init__ F_Counts___init__ B T_Counts m_empty_ways m_full_ways
  have mk_Counts : Maker l.prog w K mg base CX0 "Counts" C_Counts 3 ["self", "runs", "sight"] (sp_init C_Counts) := ⟨f_Counts___init__, _, PySem.W.mg_of X G aC_Counts, ⟨mk_Counts, a_Counts___init__, i_Counts___init__, kc_Counts⟩, b_Counts___init__, G_Counts___init__⟩
  have c_told_by : Callee l.prog w K mg base CX0 "told_by" 1 ["some_empty", "some_full"] sp_told_by := ⟨⟨f_told_by, _, PySem.W.mg_of X G a_told_by, k_told_by, b_told_by, ok_told_by F_told_by⟩⟩
  have c_best : Callee l.prog w K mg base (CXe l.prog w) "best" 5 ["runs", "sight"] (sp_best C_NoLaying) := ⟨⟨f_best, _, PySem.W.mg_of X G a_best, k_best, b_best, ok_best F_best B Z mk_Counts m_total m_empty_ways m_full_ways m_run_cells m_place_behind c_told_by R.nl X_NoLaying⟩⟩
  have c_cells_told : Callee l.prog w K mg base CX0 "cells_told" 1 ["sight", "better"] sp_cells_told := ⟨⟨f_cells_told, _, PySem.W.mg_of X G a_cells_told, k_cells_told, b_cells_told, ok_cells_told F_cells_told B⟩⟩
  have G_Narrowing_sight_of : FnOk l.prog w K mg base CX0 1 f_Narrowing_sight_of _ ["self", "kind", "number"] (sp_sight_of C_Narrowing) := ok_Narrowing_sight_of F_Narrowing_sight_of T_Narrowing
  have m_sight_of : Method l.prog w K mg base CX0 C_Narrowing "sight_of" 1 ["self", "kind", "number"] (sp_sight_of C_Narrowing) := ⟨T_Narrowing.cl, f_Narrowing_sight_of, _, ⟨a_Narrowing_sight_of, i_Narrowing_sight_of, k_Narrowing_sight_of⟩, b_Narrowing_sight_of, G_Narrowing_sight_of⟩
  have G_Narrowing_tell : FnOk l.prog w K mg base CX0 1 f_Narrowing_tell _ ["self", "kind", "number", "place", "cell"] (sp_tell C_Narrowing) := ok_Narrowing_tell F_Narrowing_tell T_Narrowing
  have m_tell : Method l.prog w K mg base CX0 C_Narrowing "tell" 1 ["self", "kind", "number", "place", "cell"] (sp_tell C_Narrowing) := ⟨T_Narrowing.cl, f_Narrowing_tell, _, ⟨a_Narrowing_tell, i_Narrowing_tell, k_Narrowing_tell⟩, b_Narrowing_tell, G_Narrowing_tell⟩
  have G_Narrowing___init__ : FnOk l.prog w K mg base CX0 1 f_Narrowing___init__ _ ["self", "board", "view"] (sp_ninit C_Narrowing) := ok_Narrowing___init__ F_Narrowing___init__ B T_Narrowing
  have mk_Narrowing : Maker l.prog w K mg base CX0 "Narrowing" C_Narrowing 1 ["self", "board", "view"] (sp_ninit C_Narrowing) := ⟨f_Narrowing___init__, _, PySem.W.mg_of X G aC_Narrowing, ⟨mk_Narrowing, a_Narrowing___init__, i_Narrowing___init__, kc_Narrowing⟩, b_Narrowing___init__, G_Narrowing___init__⟩
  have G_Narrowing_go_through : FnOk l.prog w K mg base (CXe l.prog w) 6 f_Narrowing_go_through _ ["self", "kind", "number", "runs"] (sp_go_through C_Narrowing C_NoLaying) := ok_Narrowing_go_through F_Narrowing_go_through B T_Narrowing m_sight_of m_tell c_cells_told c_best
  have m_go_through : Method l.prog w K mg base (CXe l.prog w) C_Narrowing "go_through" 6 ["self", "kind", "number", "runs"] (sp_go_through C_Narrowing C_NoLaying) := ⟨T_Narrowing.cl, f_Narrowing_go_through, _, ⟨a_Narrowing_go_through, i_Narrowing_go_through, k_Narrowing_go_through⟩, b_Narrowing_go_through, G_Narrowing_go_through⟩
  have G_Narrowing_go_round : FnOk l.prog w K mg base (CXe l.prog w) 7 f_Narrowing_go_round _ ["self"] (sp_go_round C_Narrowing C_NoLaying) := ok_Narrowing_go_round F_Narrowing_go_round Z T_Narrowing m_go_through
  have m_go_round : Method l.prog w K mg base (CXe l.prog w) C_Narrowing "go_round" 7 ["self"] (sp_go_round C_Narrowing C_NoLaying) := ⟨T_Narrowing.cl, f_Narrowing_go_round, _, ⟨a_Narrowing_go_round, i_Narrowing_go_round, k_Narrowing_go_round⟩, b_Narrowing_go_round, G_Narrowing_go_round⟩
  have G_Narrowing_narrow : FnOk l.prog w K mg base (CXe l.prog w) 8 f_Narrowing_narrow _ ["self"] (sp_narrow C_Narrowing C_NoLaying) := ok_Narrowing_narrow F_Narrowing_narrow B T_Narrowing m_go_round
  have m_narrow : Method l.prog w K mg base (CXe l.prog w) C_Narrowing "narrow" 8 ["self"] (sp_narrow C_Narrowing C_NoLaying) := ⟨T_Narrowing.cl, f_Narrowing_narrow, _, ⟨a_Narrowing_narrow, i_Narrowing_narrow, k_Narrowing_narrow⟩, b_Narrowing_narrow, G_Narrowing_narrow⟩
  have c_narrowed : Callee l.prog w K mg base (CXe l.prog w) "narrowed" 9 ["board", "view"] (sp_narrowed C_NoLaying) := ⟨⟨f_narrowed, _, PySem.W.mg_of X G a_narrowed, k_narrowed, b_narrowed, ok_narrowed F_narrowed T_Narrowing mk_Narrowing m_narrow⟩⟩
  have c0_narrowed : Callee l.prog w K mg base CX0 "narrowed" 9 ["board", "view"] _ := ⟨⟨f_narrowed, _, PySem.W.mg_of X G a_narrowed, k_narrowed, b_narrowed, FnOk.calm (ok_narrowed F_narrowed T_Narrowing mk_Narrowing m_narrow)⟩⟩
  have c_steps : Callee l.prog w K mg base (CXe l.prog w) "steps" 9 ["board", "view"] (sp_steps C_NoLaying) := ⟨⟨f_steps, _, PySem.W.mg_of X G a_steps, k_steps, b_steps, ok_steps F_steps T_Narrowing mk_Narrowing m_narrow⟩⟩
  have c0_steps : Callee l.prog w K mg base CX0 "steps" 9 ["board", "view"] _ := ⟨⟨f_steps, _, PySem.W.mg_of X G a_steps, k_steps, b_steps, FnOk.calm (ok_steps F_steps T_Narrowing mk_Narrowing m_narrow)⟩⟩
  have c_empty_view : Callee l.prog w K mg base CX0 "empty_view" 1 ["board"] sp_empty_view := ⟨⟨f_empty_view, _, PySem.W.mg_of X G a_empty_view, k_empty_view, b_empty_view, ok_empty_view F_empty_view B⟩⟩
  have c__law_cell_at : Callee l.prog w K mg base CX0 "_law_cell_at" 1 ["script", "k"] (sp__law_cell_at K) := ⟨⟨f__law_cell_at, _, PySem.W.mg_of X G a__law_cell_at, k__law_cell_at, b__law_cell_at, ok__law_cell_at F__law_cell_at B⟩⟩
  have c__law_whole : Callee l.prog w K mg base CX0 "_law_whole" 1 ["x"] sp__law_whole := ⟨⟨f__law_whole, _, PySem.W.mg_of X G a__law_whole, k__law_whole, b__law_whole, ok__law_whole F__law_whole B⟩⟩
  have c__law_mix : Callee l.prog w K mg base CX0 "_law_mix" 1 ["cell", "k"] sp__law_mix := ⟨⟨f__law_mix, _, PySem.W.mg_of X G a__law_mix, k__law_mix, b__law_mix, ok__law_mix F__law_mix⟩⟩
  have c__law_runs : Callee l.prog w K mg base CX0 "_law_runs" 1 ["cells"] sp__law_runs := ⟨⟨f__law_runs, _, PySem.W.mg_of X G a__law_runs, k__law_runs, b__law_runs, ok__law_runs F__law_runs B⟩⟩
  have c__law_every : Callee l.prog w K mg base CX0 "_law_every" 1 ["size"] sp__law_every := ⟨⟨f__law_every, _, PySem.W.mg_of X G a__law_every, k__law_every, b__law_every, ok__law_every F__law_every B⟩⟩
  have c__law_fitting : Callee l.prog w K mg base CX0 "_law_fitting" 2 ["runs", "sight"] sp__law_fitting := ⟨⟨f__law_fitting, _, PySem.W.mg_of X G a__law_fitting, k__law_fitting, b__law_fitting, ok__law_fitting F__law_fitting B c__law_every c__law_runs⟩⟩
  have c__law_best : Callee l.prog w K mg base CX0 "_law_best" 3 ["runs", "sight"] sp__law_best := ⟨⟨f__law_best, _, PySem.W.mg_of X G a__law_best, k__law_best, b__law_best, ok__law_best F__law_best B c__law_fitting⟩⟩
  have c__law_cells : Callee l.prog w K mg base CX0 "_law_cells" 2 ["found", "due"] sp__law_cells := ⟨⟨f__law_cells, _, PySem.W.mg_of X G a__law_cells, k__law_cells, b__law_cells, ok__law_cells F__law_cells B c__law_whole⟩⟩
  have c__law_picture : Callee l.prog w K mg base CX0 "_law_picture" 2 ["cell", "rows", "columns"] sp__law_picture := ⟨⟨f__law_picture, _, PySem.W.mg_of X G a__law_picture, k__law_picture, b__law_picture, ok__law_picture F__law_picture B c__law_mix⟩⟩
  have c__law_column : Callee l.prog w K mg base CX0 "_law_column" 1 ["rows", "at"] sp_column := ⟨⟨f__law_column, _, PySem.W.mg_of X G a__law_column, k__law_column, b__law_column, ok__law_column F__law_column B⟩⟩
  have c__law_board : Callee l.prog w K mg base CX0 "_law_board" 3 ["picture"] sp_board := ⟨⟨f__law_board, _, PySem.W.mg_of X G a__law_board, k__law_board, b__law_board, ok__law_board F__law_board B c__law_column c__law_runs⟩⟩
  have c__law_view : Callee l.prog w K mg base CX0 "_law_view" 2 ["cell", "picture"] sp__law_view := ⟨⟨f__law_view, _, PySem.W.mg_of X G a__law_view, k__law_view, b__law_view, ok__law_view F__law_view B c__law_mix⟩⟩
  have c__law_sight : Callee l.prog w K mg base CX0 "_law_sight" 1 ["rows", "side", "at"] sp__law_sight := ⟨⟨f__law_sight, _, PySem.W.mg_of X G a__law_sight, k__law_sight, b__law_sight, ok__law_sight F__law_sight B⟩⟩
  have c__law_told_by : Callee l.prog w K mg base CX0 "_law_told_by" 4 ["runs", "sight"] sp__law_told_by := ⟨⟨f__law_told_by, _, PySem.W.mg_of X G a__law_told_by, k__law_told_by, b__law_told_by, ok__law_told_by F__law_told_by B c__law_best⟩⟩
  have c__law_rounds : Callee l.prog w K mg base CX0 "_law_rounds" 5 ["board", "view"] sp__law_rounds := ⟨⟨f__law_rounds, _, PySem.W.mg_of X G a__law_rounds, k__law_rounds, b__law_rounds, ok__law_rounds F__law_rounds B c__law_sight c__law_told_by⟩⟩
  have c__law_view_is : Callee l.prog w K mg base CX0 "_law_view_is" 3 ["found", "due"] sp__law_view_is := ⟨⟨f__law_view_is, _, PySem.W.mg_of X G a__law_view_is, k__law_view_is, b__law_view_is, ok__law_view_is F__law_view_is B c__law_cells⟩⟩
  have c__law_refused : Callee l.prog w K mg base CX0 "_law_refused" 1 ["marks", "which"] sp__law_refused := ⟨⟨f__law_refused, _, PySem.W.mg_of X G a__law_refused, k__law_refused, b__law_refused, ok__law_refused F__law_refused B⟩⟩
  have c__law_asked : Callee l.prog w K mg base CX0 "_law_asked" 10 ["board", "view"] sp__law_asked := ⟨⟨f__law_asked, _, PySem.W.mg_of X G a__law_asked, k__law_asked, b__law_asked, ok__law_asked F__law_asked B R M_NoLaying c_narrowed⟩⟩
  have c__law_stepped : Callee l.prog w K mg base CX0 "_law_stepped" 10 ["board", "view"] sp__law_stepped := ⟨⟨f__law_stepped, _, PySem.W.mg_of X G a__law_stepped, k__law_stepped, b__law_stepped, ok__law_stepped F__law_stepped B R M_NoLaying c_steps⟩⟩
  have c__law_steps : Callee l.prog w K mg base CX0 "_law_steps" 2 ["found", "due"] sp__law_steps := ⟨⟨f__law_steps, _, PySem.W.mg_of X G a__law_steps, k__law_steps, b__law_steps, ok__law_steps F__law_steps B Z c__law_whole⟩⟩
  have c__law_any_board : Callee l.prog w K mg base CX0 "_law_any_board" 2 ["cell", "board"] sp__law_any_board := ⟨⟨f__law_any_board, _, PySem.W.mg_of X G a__law_any_board, k__law_any_board, b__law_any_board, ok__law_any_board F__law_any_board B c__law_mix⟩⟩
  exact ok_law F_law B c__law_cell_at c__law_picture c__law_board c__law_any_board c__law_view c_empty_view c__law_view_is c__law_rounds c__law_asked c__law_stepped c__law_refused c__law_steps c0_narrowed c0_steps
theorem in_ofZ {K : Params → PySem.W.Frag} {as : List Addr} {n t : Nat} {w : World} {s₀ s₁ : Shared} {r : PySem.W.WRecords} {args : List PySem.W.WData} {vals : List Value} {bs : List Addr} (e : ∀ P, as = (K P).map (·.1)) (y : PySem.W.X.obsZ as s₀ = PySem.W.X.valZ K n t w) (L : PySem.W.Laid r w s₀ s₁ args vals bs) : (K w.params).In s₁.heap := by
  have y1 : as.map s₀.heap.get? = (K w.params).map fun p => some p.2 := congrArg Prod.fst y
  have h0 : (K w.params).In s₀.heap := PySem.W.kIn_of ((PySem.W.kHook K as e).of w s₀ y1)
  intro a o ho
  exact L.keeps a o (h0 a o ho)
theorem walkX_of {q : Program} {loose : List Str} {XP : (Str → Option Value) → Heap → Prop} {K : Params → PySem.W.Frag} {as : List Addr} {n t : Nat} {r : PySem.W.RowW} {d : DefRec} {kwd : List (Str × Expr)} {run : Value → List Value → Sem Value}
    (e : ∀ P, as = (K P).map (·.1)) (W0 : PySem.W.WalkO q loose XP (fun w h => (K w.params).In h) r d kwd run) : PySem.W.WalkX q loose XP (PySem.W.X.obsZ as) (PySem.W.X.valZ K n t) r d kwd run := by
  intro w s₀ s₁ mg mb G y a o pm cd doc dV kV h1 h2 h3 h4 h5 h6 args vals bs L h7 h8 h9 h10 h11
  exact W0 w s₀ s₁ mg mb G (in_ofZ e y L) a o pm cd doc dV kV h1 h2 h3 h4 h5 h6 args vals bs h7 h8 h9 h10 h11
theorem walk {l : PySem.W.OpenLaw} {q : Program} {loose : List Str} {XP : (Str → Option Value) → Heap → Prop} {YP : World → Heap → Prop} {d : DefRec} {K : Params → PySem.W.Frag} (hn : l.most = some 63) (hdf : d.params.defaults = [])
    (hY : ∀ (w : World) (h : Heap), YP w h → (K w.params).In h)
    (F : ∀ (w : World) (mg : Str → Option Value) (fa : Addr) (h : Heap), (K w.params).In h → h.Ns mainGlobals mg → mg d.name = some (.ref fa) →
      ∃ fd : FuncData, (∀ (s : Shared) (u : Value), BindsTo s fd ⟨[u], []⟩ [("script", u)]) ∧ ∀ base : Heap, (K w.params).In base → base.Ns mainGlobals mg → FnOk l.prog w (K w.params) mg base CX0 11 fa fd ["script"] (sp_law (K w.params))) :
    PySem.W.WalkO q loose XP YP l.row.toRowW d [] (fun f vs => PySem.call f vs) :=
  L2.walk_of (n := 63) (k := 11) (x := "script") (CX := fun _ => CX0) (sp := fun w => sp_law (K w.params)) hn (by decide) hdf ⟨rfl, by decide, by decide⟩ hY F (fun _ _ a ns hl _ hS => ⟨a, ns, rfl, hS, hl, fun _ => rfl⟩) fun _ _ _ _ _ z => z
end K08
namespace PySem.W.Fast
def tw6503409314524100899:=0
def tw13076177934914971273:=0
def tw15087841614416674574:=0
def tw669566929759912872:=0
def tw10906802243164762182:=0
def tw5160825389041244944:=0
def tw3381923116158590355:=0
def tw11986777693491435061:=0
def tw6220380364167202691:=0
def tw15215390282678629812:=0
def tw11716607743060068489:=0
def tw13383369527365135916:=0
def tw533776621531503260:=0
def tw1259671148706738201:=0
def tw4999337409463379037:=0
def tw15129631886739938454:=0
def tw16064513283566833968:=0
def tw11614783410852720114:=0
def tw11738775751058144977:=0
def tw11152161379054417615:=0
def tw11332155092092984754:=0
def tw2946066127997416634:=0
def tw6706076412871907561:=0
def tw8608594890496033383:=0
def tw18268493227015605992:=0
def tw861813611175015751:=0
def tw14372094966939280088:=0
def tw16164937942047851360:=0
def tw16072258897485186106:=0
def tw7006633884929222847:=0
def tw7908521318719818459:=0
def tw11094873624473430433:=0
def tw16180658004673535762:=0
def tw2820264715516907688:=0
def tw6357724918967542604:=0
def tw821365181196218988:=0
def tw12630302794980184021:=0
def tw12459281326211799574:=0
def tw11244865075264408124:=0
def tw14211912687947215383:=0
def tw7817032688422095194:=0
def tw1695239215118701107:=0
def tw10092577804393893750:=0
def tw12483871598008578442:=0
def tw11613333360355420661:=0
def tw15325496755333530566:=0
def tw8708624014698773022:=0
def tw17734466849943021976:=0
def tw12331641695803767455:=0
def tw16729677434134157398:=0
def tw16346021924376876247:=0
def tw9722697995495765569:=0
def tw14052709359267492212:=0
def tw14426416989526495426:=0
def tw2801130811774963189:=0
def tw2523378078321720191:=0
def tw16544742294714608607:=0
def tw11492495920749705620:=0
def tw12612238930149517648:=0
def tw12922703896726910564:=0
def tw2285010392821023372:=0
def tw15385695297379752980:=0
def tw9610124531028580993:=0
def tw12710220250377627167:=0
def tw15752563478855108819:=0
def tw15304911310750061900:=0
def tw4328766843465293839:=0
def tw12187668412823773161:=0
def tw5418624171023128996:=0
def tw15689837980005526431:=0
def tw5301426080263979924:=0
def tw4917286416273259228:=0
def tw886081547874335374:=0
def tw12534481608086394194:=0
def tw10387259362897336002:=0
def tw9886978124678035029:=0
def tw12336399616256989523:=0
def tw2122375096936956643:=0
def tw10223675766152489941:=0
def tw17304190644436916795:=0
def tw14598391921866767507:=0
def tw15336946802103522387:=0
def tw8332729977209852076:=0
def tw16540592982791636648:=0
def tw12501812176777285567:=0
def tw14559917495132375942:=0
def tw14352800757287585605:=0
def tw1117855107411435907:=0
def tw5646181211519273761:=0
def tw5100272143188898553:=0
def tw5925498507205669693:=0
def tw4250245608078398818:=0
def tw5647844253210770011:=0
def tw16254690603412912193:=0
def tw10742233397542349680:=0
def tw13650868360657486767:=0
def tw10897021629392376486:=0
def tw7992971825501269112:=0
def tw15142296298485880514:=0
def tw4422303554069700023:=0
def tw308123944280662535:=0
def tw9922181119573076875:=0
def tw13256389907026514177:=0
def tw2192926712427437515:=0
def tw16869430436335498954:=0
def tw13249598637890429793:=0
def tw113553018417733783:=0
def tw1227161519503416067:=0
def tw4478674482556541530:=0
def tw383076820959804919:=0
def tw4831393509393876497:=0
def tw8143122157316052708:=0
def tw6962020279077237749:=0
def tw1703228070094701846:=0
def tw13577011925738358382:=0
def tw14036456523632578806:=0
def tw13251029479933989032:=0
def tw12798293624232323105:=0
def tw17345894263855111545:=0
def tw14766408979758498510:=0
def tw11809811684279576373:=0
def tw633116285206258707:=0
def tw17962495280441236085:=0
def tw933191282339625399:=0
def tw1343534422999900867:=0
def tw2943680374163282598:=0
def tw17049607210811182709:=0
def tw11164383295097436882:=0
def tw15151368610590920126:=0
def tw9046606738315122878:=0
def tw3909683813294425749:=0
def tw10199897053988244827:=0
def tw5067334466158959121:=0
def tw8529146813266157015:=0
def tw5787768521670910159:=0
def tw17031083075473713355:=0
def tw4763986160200949987:=0
def tw14795888468358494538:=0
def tw1896323007886089288:=0
def tw11320472307415626805:=0
def tw16842013862012476192:=0
def tw7172518128810510581:=0
def tw10443697503155115969:=0
def tw2300259653132701578:=0
def tw15797869573271260589:=0
def tw3965212195763437945:=0
def tw723993536248062500:=0
def tw7563073085436599636:=0
def tw2838060278242019132:=0
def tw7691563899441314947:=0
def tw5046897381394672067:=0
def tw12644245678786373178:=0
def tw16755257802512957132:=0
def tw5997030373622142299:=0
def tw17306647865047244346:=0
def tw3917703401421300358:=0
def tw2637344539463927409:=0
def tw4316527793674692734:=0
def tw7828443677419432577:=0
def tw13810411639697198093:=0
def tw13464849602766032106:=0
def tw10397077616007975333:=0
def tw4905826223893812322:=0
def tw13825757211422891586:=0
def tw9940674597425461645:=0
def tw15753654841330894782:=0
def tw623885829434012230:=0
def tw6081585009699479481:=0
def tw15977801582402071023:=0
def tw13680954538910776049:=0
def tw16460422906105056174:=0
def tw18074647229035215399:=0
def tw1455746716202909560:=0
def tw4326483236247989491:=0
def tw7420251579058628179:=0
def tw5591353311648152339:=0
def tw2821690496575723353:=0
def tw3517677688086850881:=0
def tw3315762317768529304:=0
def tw17226849215422623071:=0
def tw16884249433491767038:=0
def tw14845001066053932495:=0
def tw11683545818660768317:=0
def tw187870858382951859:=0
def tw9616097077152568256:=0
def tw13923927786219221603:=0
def tw5189053334721846383:=0
def tw17853430401702388304:=0
def tw11909504081847966287:=0
def tw13299040258116513440:=0
def tw16928457591819400907:=0
def tw14908257541883042031:=0
def tw16345411173257507819:=0
def tw14838747216537839243:=0
def tw405204999666960855:=0
def tw2798501062846507406:=0
def tw4249313199235234797:=0
def tw7961911375711652131:=0
def tw108056258801984608:=0
def tw5484903233682334770:=0
def tw9271681150421181649:=0
def tw7897988126268176283:=0
def tw5412743113100983985:=0
def tw3183811832316609110:=0
def tw7361056277460803503:=0
end PySem.W.Fast
open PySem PySem.W PyProof.Rows
set_option maxRecDepth 100000 in
set_option maxHeartbeats 0 in
theorem PySem.Challenge.cw_runpaint_k08_narrowed_holds : PySem.Challenge.rw_runpaint_k08_narrowed.Holds := by
  w_on; o_law; z_head; (case hw => w_witness2)
  k_fill
  refine K08.walkX_of (fun P => by rfl) (K08.walk (l := PySem.Challenge.rw_runpaint_k08_narrowed) rfl rfl (fun w h Y => Y) ?F)
  case F =>
    intro w mg fa h KX G hmg
    refine' K08.all_mk KX G hmg ?aC_Counts ?aC_Narrowing ?a_Counts_total ?i_Counts_total ?l_Counts_total ?c_Counts_total ?k_Counts_total ?a_Counts_empty_ways ?i_Counts_empty_ways ?l_Counts_empty_ways ?c_Counts_empty_ways ?k_Counts_empty_ways ?a_Counts_has_room ?i_Counts_has_room ?l_Counts_has_room ?c_Counts_has_room ?k_Counts_has_room ?a_Counts_place_behind ?i_Counts_place_behind ?l_Counts_place_behind ?c_Counts_place_behind ?k_Counts_place_behind ?a_Counts_full_ways ?i_Counts_full_ways ?l_Counts_full_ways ?c_Counts_full_ways ?k_Counts_full_ways ?a_Counts_run_cells ?i_Counts_run_cells ?l_Counts_run_cells ?c_Counts_run_cells ?k_Counts_run_cells ?a_Counts___init__ ?i_Counts___init__ ?l_Counts___init__ ?c_Counts___init__ ?k_Counts___init__ ?a_told_by ?l_told_by ?c_told_by ?k_told_by ?a_best ?l_best ?c_best ?k_best ?a_cells_told ?l_cells_told ?c_cells_told ?k_cells_told ?a_Narrowing_sight_of ?i_Narrowing_sight_of ?l_Narrowing_sight_of ?c_Narrowing_sight_of ?k_Narrowing_sight_of ?a_Narrowing_tell ?i_Narrowing_tell ?l_Narrowing_tell ?c_Narrowing_tell ?k_Narrowing_tell ?a_Narrowing___init__ ?i_Narrowing___init__ ?l_Narrowing___init__ ?c_Narrowing___init__ ?k_Narrowing___init__ ?a_Narrowing_go_through ?i_Narrowing_go_through ?l_Narrowing_go_through ?c_Narrowing_go_through ?k_Narrowing_go_through ?a_Narrowing_go_round ?i_Narrowing_go_round ?l_Narrowing_go_round ?c_Narrowing_go_round ?k_Narrowing_go_round ?a_Narrowing_narrow ?i_Narrowing_narrow ?l_Narrowing_narrow ?c_Narrowing_narrow ?k_Narrowing_narrow ?a_narrowed ?l_narrowed ?c_narrowed ?k_narrowed ?a_steps ?l_steps ?c_steps ?k_steps ?a_empty_view ?l_empty_view ?c_empty_view ?k_empty_view ?a__law_cell_at ?l__law_cell_at ?c__law_cell_at ?k__law_cell_at ?a__law_whole ?l__law_whole ?c__law_whole ?k__law_whole ?a__law_mix ?l__law_mix ?c__law_mix ?k__law_mix ?a__law_runs ?l__law_runs ?c__law_runs ?k__law_runs ?a__law_every ?l__law_every ?c__law_every ?k__law_every ?a__law_fitting ?l__law_fitting ?c__law_fitting ?k__law_fitting ?a__law_best ?l__law_best ?c__law_best ?k__law_best ?a__law_cells ?l__law_cells ?c__law_cells ?k__law_cells ?a__law_picture ?l__law_picture ?c__law_picture ?k__law_picture ?a__law_column ?l__law_column ?c__law_column ?k__law_column ?a__law_board ?l__law_board ?c__law_board ?k__law_board ?a__law_view ?l__law_view ?c__law_view ?k__law_view ?a__law_sight ?l__law_sight ?c__law_sight ?k__law_sight ?a__law_told_by ?l__law_told_by ?c__law_told_by ?k__law_told_by ?a__law_rounds ?l__law_rounds ?c__law_rounds ?k__law_rounds ?a__law_view_is ?l__law_view_is ?c__law_view_is ?k__law_view_is ?a__law_refused ?l__law_refused ?c__law_refused ?k__law_refused ?a__law_asked ?l__law_asked ?c__law_asked ?k__law_asked ?a__law_stepped ?l__law_stepped ?c__law_stepped ?k__law_stepped ?a__law_steps ?l__law_steps ?c__law_steps ?k__law_steps ?a__law_any_board ?l__law_any_board ?c__law_any_board ?k__law_any_board ?a_law ?l_law ?c_law ?k_law ?pg_Counts ?hd_Counts ?po_Counts ?sa_Counts ?mk_Counts ?kc_Counts ?n_Counts_runs ?n_Counts_sight ?n_Counts_ways ?pg_Narrowing ?hd_Narrowing ?po_Narrowing ?sa_Narrowing ?mk_Narrowing ?kc_Narrowing ?n_Narrowing_board ?n_Narrowing_view ?n_Narrowing_found ?aC_PaintError ?aC_NoLaying ?aC_NoNumber ?aC_TooMany ?aC_BadRun ?aC_Wide ?aC_NoNote ?z_ValueError ?x_sg ?x_tk ?xe_PaintError ?xb_PaintError ?xo_PaintError ?xa_PaintError ?xn_PaintError ?xc_PaintError ?xe_NoLaying ?xb_NoLaying ?xo_NoLaying ?xa_NoLaying ?xn_NoLaying ?xc_NoLaying ?xs_NoLaying ?xm_NoLaying_NoLaying ?xm_NoLaying_NoNumber ?xm_NoLaying_TooMany ?xm_NoLaying_BadRun ?xm_NoLaying_Wide ?xm_NoLaying_NoNote ?xv_NoLaying ?xi_NoLaying ?xt_NoLaying ?xi_NoNumber ?xt_NoNumber ?xi_TooMany ?xt_TooMany ?xi_BadRun ?xt_BadRun ?xi_Wide ?xt_Wide ?xi_NoNote ?xt_NoNote ?z_len ?z_range ?z_isinstance ?z_all ?z_any ?z_sum ?z_min ?z_max ?z_int ?z_bool ?z_tuple ?z_list ?z_reversed ?z_zip ?z_enumerate
    (case aC_Counts => k_is)
    (case aC_Narrowing => k_is)
    (case a_Counts_total => k_is)
    (case i_Counts_total => k_is)
    (case l_Counts_total => k_is)
    (case c_Counts_total => k_is)
    (case k_Counts_total => k_is)
    (case a_Counts_empty_ways => k_is)
    (case i_Counts_empty_ways => k_is)
    (case l_Counts_empty_ways => k_is)
    (case c_Counts_empty_ways => k_is)
    (case k_Counts_empty_ways => k_is)
    (case a_Counts_has_room => k_is)
    (case i_Counts_has_room => k_is)
    (case l_Counts_has_room => k_is)
    (case c_Counts_has_room => k_is)
    (case k_Counts_has_room => k_is)
    (case a_Counts_place_behind => k_is)
    (case i_Counts_place_behind => k_is)
    (case l_Counts_place_behind => k_is)
    (case c_Counts_place_behind => k_is)
    (case k_Counts_place_behind => k_is)
    (case a_Counts_full_ways => k_is)
    (case i_Counts_full_ways => k_is)
    (case l_Counts_full_ways => k_is)
    (case c_Counts_full_ways => k_is)
    (case k_Counts_full_ways => k_is)
    (case a_Counts_run_cells => k_is)
    (case i_Counts_run_cells => k_is)
    (case l_Counts_run_cells => k_is)
    (case c_Counts_run_cells => k_is)
    (case k_Counts_run_cells => k_is)
    (case a_Counts___init__ => k_is)
    (case i_Counts___init__ => k_is)
    (case l_Counts___init__ => k_is)
    (case c_Counts___init__ => k_is)
    (case k_Counts___init__ => k_is)
    (case a_told_by => k_is)
    (case l_told_by => k_is)
    (case c_told_by => k_is)
    (case k_told_by => k_is)
    (case a_best => k_is)
    (case l_best => k_is)
    (case c_best => k_is)
    (case k_best => k_is)
    (case a_cells_told => k_is)
    (case l_cells_told => k_is)
    (case c_cells_told => k_is)
    (case k_cells_told => k_is)
    (case a_Narrowing_sight_of => k_is)
    (case i_Narrowing_sight_of => k_is)
    (case l_Narrowing_sight_of => k_is)
    (case c_Narrowing_sight_of => k_is)
    (case k_Narrowing_sight_of => k_is)
    (case a_Narrowing_tell => k_is)
    (case i_Narrowing_tell => k_is)
    (case l_Narrowing_tell => k_is)
    (case c_Narrowing_tell => k_is)
    (case k_Narrowing_tell => k_is)
    (case a_Narrowing___init__ => k_is)
    (case i_Narrowing___init__ => k_is)
    (case l_Narrowing___init__ => k_is)
    (case c_Narrowing___init__ => k_is)
    (case k_Narrowing___init__ => k_is)
    (case a_Narrowing_go_through => k_is)
    (case i_Narrowing_go_through => k_is)
    (case l_Narrowing_go_through => k_is)
    (case c_Narrowing_go_through => k_is)
    (case k_Narrowing_go_through => k_is)
    (case a_Narrowing_go_round => k_is)
    (case i_Narrowing_go_round => k_is)
    (case l_Narrowing_go_round => k_is)
    (case c_Narrowing_go_round => k_is)
    (case k_Narrowing_go_round => k_is)
    (case a_Narrowing_narrow => k_is)
    (case i_Narrowing_narrow => k_is)
    (case l_Narrowing_narrow => k_is)
    (case c_Narrowing_narrow => k_is)
    (case k_Narrowing_narrow => k_is)
    (case a_narrowed => k_is)
    (case l_narrowed => k_is)
    (case c_narrowed => k_is)
    (case k_narrowed => k_is)
    (case a_steps => k_is)
    (case l_steps => k_is)
    (case c_steps => k_is)
    (case k_steps => k_is)
    (case a_empty_view => k_is)
    (case l_empty_view => k_is)
    (case c_empty_view => k_is)
    (case k_empty_view => k_is)
    (case a__law_cell_at => k_is)
    (case l__law_cell_at => k_is)
    (case c__law_cell_at => k_is)
    (case k__law_cell_at => k_is)
    (case a__law_whole => k_is)
    (case l__law_whole => k_is)
    (case c__law_whole => k_is)
    (case k__law_whole => k_is)
    (case a__law_mix => k_is)
    (case l__law_mix => k_is)
    (case c__law_mix => k_is)
    (case k__law_mix => k_is)
    (case a__law_runs => k_is)
    (case l__law_runs => k_is)
    (case c__law_runs => k_is)
    (case k__law_runs => k_is)
    (case a__law_every => k_is)
    (case l__law_every => k_is)
    (case c__law_every => k_is)
    (case k__law_every => k_is)
    (case a__law_fitting => k_is)
    (case l__law_fitting => k_is)
    (case c__law_fitting => k_is)
    (case k__law_fitting => k_is)
    (case a__law_best => k_is)
    (case l__law_best => k_is)
    (case c__law_best => k_is)
    (case k__law_best => k_is)
    (case a__law_cells => k_is)
    (case l__law_cells => k_is)
    (case c__law_cells => k_is)
    (case k__law_cells => k_is)
    (case a__law_picture => k_is)
    (case l__law_picture => k_is)
    (case c__law_picture => k_is)
    (case k__law_picture => k_is)
    (case a__law_column => k_is)
    (case l__law_column => k_is)
    (case c__law_column => k_is)
    (case k__law_column => k_is)
    (case a__law_board => k_is)
    (case l__law_board => k_is)
    (case c__law_board => k_is)
    (case k__law_board => k_is)
    (case a__law_view => k_is)
    (case l__law_view => k_is)
    (case c__law_view => k_is)
    (case k__law_view => k_is)
    (case a__law_sight => k_is)
    (case l__law_sight => k_is)
    (case c__law_sight => k_is)
    (case k__law_sight => k_is)
    (case a__law_told_by => k_is)
    (case l__law_told_by => k_is)
    (case c__law_told_by => k_is)
    (case k__law_told_by => k_is)
    (case a__law_rounds => k_is)
    (case l__law_rounds => k_is)
    (case c__law_rounds => k_is)
    (case k__law_rounds => k_is)
    (case a__law_view_is => k_is)
    (case l__law_view_is => k_is)
    (case c__law_view_is => k_is)
    (case k__law_view_is => k_is)
    (case a__law_refused => k_is)
    (case l__law_refused => k_is)
    (case c__law_refused => k_is)
    (case k__law_refused => k_is)
    (case a__law_asked => k_is)
    (case l__law_asked => k_is)
    (case c__law_asked => k_is)
    (case k__law_asked => k_is)
    (case a__law_stepped => k_is)
    (case l__law_stepped => k_is)
    (case c__law_stepped => k_is)
    (case k__law_stepped => k_is)
    (case a__law_steps => k_is)
    (case l__law_steps => k_is)
    (case c__law_steps => k_is)
    (case k__law_steps => k_is)
    (case a__law_any_board => k_is)
    (case l__law_any_board => k_is)
    (case c__law_any_board => k_is)
    (case k__law_any_board => k_is)
    (case a_law => k_is)
    (case l_law => k_is)
    (case c_law => k_is)
    (case k_law => k_is)
    (case pg_Counts => k_is)
    (case hd_Counts => k_is)
    (case po_Counts => k_is)
    (case sa_Counts => k_is)
    (case mk_Counts => k_is)
    (case kc_Counts => k_is)
    (case n_Counts_runs => k_is)
    (case n_Counts_sight => k_is)
    (case n_Counts_ways => k_is)
    (case pg_Narrowing => k_is)
    (case hd_Narrowing => k_is)
    (case po_Narrowing => k_is)
    (case sa_Narrowing => k_is)
    (case mk_Narrowing => k_is)
    (case kc_Narrowing => k_is)
    (case n_Narrowing_board => k_is)
    (case n_Narrowing_view => k_is)
    (case n_Narrowing_found => k_is)
    (case aC_PaintError => k_is)
    (case aC_NoLaying => k_is)
    (case aC_NoNumber => k_is)
    (case aC_TooMany => k_is)
    (case aC_BadRun => k_is)
    (case aC_Wide => k_is)
    (case aC_NoNote => k_is)
    (case z_ValueError => k_is)
    (case x_sg => k_is)
    (case x_tk => k_is)
    (case xe_PaintError => k_exc)
    (case xb_PaintError => k_is)
    (case xo_PaintError => k_is)
    (case xa_PaintError => k_is)
    (case xn_PaintError => k_is)
    (case xc_PaintError => k_is)
    (case xe_NoLaying => k_exc)
    (case xb_NoLaying => k_is)
    (case xo_NoLaying => k_is)
    (case xa_NoLaying => k_is)
    (case xn_NoLaying => k_is)
    (case xc_NoLaying => k_is)
    (case xs_NoLaying => k_is)
    (case xm_NoLaying_NoLaying => k_is)
    (case xm_NoLaying_NoNumber => k_is)
    (case xm_NoLaying_TooMany => k_is)
    (case xm_NoLaying_BadRun => k_is)
    (case xm_NoLaying_Wide => k_is)
    (case xm_NoLaying_NoNote => k_is)
    (case xv_NoLaying => k_is)
    (case xi_NoLaying => k_is)
    (case xt_NoLaying => k_is)
    (case xi_NoNumber => k_is)
    (case xt_NoNumber => k_is)
    (case xi_TooMany => k_is)
    (case xt_TooMany => k_is)
    (case xi_BadRun => k_is)
    (case xt_BadRun => k_is)
    (case xi_Wide => k_is)
    (case xt_Wide => k_is)
    (case xi_NoNote => k_is)
    (case xt_NoNote => k_is)
    (case z_len => k_is)
    (case z_range => k_is)
    (case z_isinstance => k_is)
    (case z_all => k_is)
    (case z_any => k_is)
    (case z_sum => k_is)
    (case z_min => k_is)
    (case z_max => k_is)
    (case z_int => k_is)
    (case z_bool => k_is)
    (case z_tuple => k_is)
    (case z_list => k_is)
    (case z_reversed => k_is)
    (case z_zip => k_is)
    (case z_enumerate => k_is)
#print axioms PySem.Challenge.cw_runpaint_k08_narrowed_holds
