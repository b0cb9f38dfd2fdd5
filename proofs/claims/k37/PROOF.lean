import PyProof.Rows.All
import Wide.All
import OpenK.AllK
import Wide.FinOn
import Lean
import PyProof.EqAt
import PyProof.EqKinds
import PyProof.TupleCall
import PySem.Challenge.RW_evenpoints_k37_figures_turned_about
set_option Elab.async false
set_option linter.all false
set_option maxRecDepth 100000
set_option maxHeartbeats 4000000
/-! THE HAND LAYER, for ints, bools, texts, own classes, LISTS and tuples (index, slices, in, append, pop ..), calls, loops. Paste it whole ahead of your own text; what your proof does not reach may be deleted. -/
namespace L2
open PySem PySem.Spec PyProof.Rows

/-- a key: an int or a str -/
abbrev Key := Sum Int Str
def keyIs : Key → Value → Bool
  | .inl k, v => Value.isInt k v
  | .inr x, v => Value.isStrOf x v
def keyH (w : World) : Key → Int
  | .inl k => hashInt k
  | .inr x => hashStr w x
theorem keyIs_shape : ∀ {k : Key} {v : Value}, keyIs k v = true → (∃ i t, k = Sum.inl i ∧ v = Value.int i t) ∨ (∃ x t, k = Sum.inr x ∧ v = Value.str x t)
  | .inl i, v, h => by
    obtain ⟨t, e⟩ := Value.isInt_shape (k := i) (v := v) h
    exact .inl ⟨i, t, rfl, e⟩
  | .inr x, v, h => by
    obtain ⟨t, e⟩ := Value.isStrOf_shape (x := x) (v := v) h
    exact .inr ⟨x, t, rfl, e⟩
theorem keyIs_int (i : Int) (t : Tok) : keyIs (.inl i) (.int i t) = true := by simp [keyIs, Value.isInt]
theorem keyIs_str (x : Str) (t : Tok) : keyIs (.inr x) (.str x t) = true := by simp [keyIs, Value.isStrOf]
theorem key_ll (a b : Int) : decide ((Sum.inl a : Key) = Sum.inl b) = (a == b) := by
  by_cases e : a = b
  · subst e; simp
  · have h : ¬ (Sum.inl a : Key) = Sum.inl b := fun q => e (Sum.inl.inj q)
    rw [decide_eq_false h]
    exact (beq_eq_false_iff_ne.mpr e).symm
theorem key_rr (a b : Str) : decide ((Sum.inr a : Key) = Sum.inr b) = decide (a = b) := by
  by_cases e : a = b
  · subst e; simp
  · have h : ¬ (Sum.inr a : Key) = Sum.inr b := fun q => e (Sum.inr.inj q)
    rw [decide_eq_false h, decide_eq_false e]
theorem key_lr (a : Int) (b : Str) : decide ((Sum.inl a : Key) = Sum.inr b) = false := decide_eq_false (fun q => nomatch q)
theorem key_rl (a : Str) (b : Int) : decide ((Sum.inr a : Key) = Sum.inl b) = false := decide_eq_false (fun q => nomatch q)

def mixKind (prog : Program) (w : World) : PySem.KeyKind prog w Key where
  is := keyIs
  hash := keyH w
  inj := fun v a b ha hb => by
    rcases keyIs_shape ha with ⟨i, t, rfl, rfl⟩ | ⟨x, t, rfl, rfl⟩
    · rcases keyIs_shape hb with ⟨j, u, rfl, e⟩ | ⟨y, u, rfl, e⟩
      · injection e with e1 _; rw [e1]
      · exact nomatch e
    · rcases keyIs_shape hb with ⟨j, u, rfl, e⟩ | ⟨y, u, rfl, e⟩
      · exact nomatch e
      · injection e with e1 _; rw [e1]
  byValue := fun k v h => by
    rcases keyIs_shape h with ⟨i, t, rfl, rfl⟩ | ⟨x, t, rfl, rfl⟩ <;> rfl
  pyHash := fun hv h => by
    rcases keyIs_shape hv with ⟨i, t, rfl, rfl⟩ | ⟨x, t, rfl, rfl⟩
    · exact wpAny_pyHash_int h
    · exact wpAny_pyHash_str h
  eqBool := fun hu hv h => by
    rcases keyIs_shape hu with ⟨i, t, rfl, rfl⟩ | ⟨x, t, rfl, rfl⟩
    · rcases keyIs_shape hv with ⟨j, u, rfl, rfl⟩ | ⟨y, u, rfl, rfl⟩
      · rw [key_ll] at h; exact wpAny_eqBool_int h
      · rw [key_lr] at h; exact SeqAt.EqAt.int_str i t y u _ _ _ _ h
    · rcases keyIs_shape hv with ⟨j, u, rfl, rfl⟩ | ⟨y, u, rfl, rfl⟩
      · rw [key_rl] at h; exact SeqAt.EqAt.str_int x t j u _ _ _ _ h
      · rw [key_rr] at h; exact wpAny_eqBool_str h
  «strs» := fun k x t v h => by
    rcases keyIs_shape h with ⟨i, u, rfl, e⟩ | ⟨y, u, rfl, e⟩
    · exact nomatch e
    · injection e with e1 _
      subst e1
      cases v <;> rfl

theorem mixKind_is (prog : Program) (w : World) (k : Key) (v : Value) : (mixKind prog w).is k v = keyIs k v := rfl
theorem mixKind_int (prog : Program) (w : World) (i : Int) (t : Tok) : (mixKind prog w).is (.inl i) (.int i t) = true := keyIs_int i t
theorem mixKind_str (prog : Program) (w : World) (x : Str) (t : Tok) : (mixKind prog w).is (.inr x) (.str x t) = true := keyIs_str x t
end L2

namespace L2
open PySem PySem.Spec PyProof.Rows

/-- a value, without the heap -/
inductive V where
  | non | bl (b : Bool) | int (i : Int) | str (x : Str) | byt (b : Array UInt8) | flt (b : UInt64) | ref (a : Addr) | ty (n : String)
  deriving DecidableEq

def RelV : V → Value → Prop
  | .non, u => u = Value.none
  | .bl b, u => u = Value.bool b
  | .int i, u => ∃ t, u = Value.int i t
  | .str x, u => ∃ t, u = Value.str x t
  | .byt b, u => ∃ t, u = Value.bytes b t
  | .flt b, u => ∃ t, u = Value.float b t
  | .ref a, u => u = Value.ref a
  | .ty n, u => u = Value.type n

abbrev Vals : List V → List Value → Prop := Paired RelV
theorem Vals.length {xs : List V} {us : List Value} (r : Vals xs us) : xs.length = us.length := Paired.length r
theorem Vals.get : ∀ {xs : List V} {us : List Value} {i : Nat} {x : V}, Vals xs us → xs[i]? = some x → ∃ u, us[i]? = some u ∧ RelV x u
  | _, _, _, _, .nil, e => by simp at e
  | _, _, 0, _, .cons r _, e => by simp at e; subst e; exact ⟨_, rfl, r⟩
  | _, _, i + 1, x, .cons _ t, e => by
    obtain ⟨u, h1, h2⟩ := Vals.get (i := i) (x := x) t (by simpa using e)
    exact ⟨u, by simpa using h1, h2⟩
theorem Vals.set {x : V} {u : Value} (r : RelV x u) : ∀ {xs : List V} {us : List Value} (i : Nat), Vals xs us → Vals (xs.set i x) (us.set i u)
  | _, _, _, .nil => .nil
  | _, _, 0, .cons _ t => .cons r t
  | _, _, i + 1, .cons q t => .cons q (Vals.set r i t)
theorem Vals.append : ∀ {xs ys : List V} {us ws : List Value}, Vals xs us → Vals ys ws → Vals (xs ++ ys) (us ++ ws)
  | _, _, _, _, .nil, s => s
  | _, _, _, _, .cons r t, s => .cons r (Vals.append t s)
theorem Vals.take : ∀ {xs : List V} {us : List Value} (n : Nat), Vals xs us → Vals (xs.take n) (us.take n)
  | _, _, 0, _ => .nil
  | _, _, _ + 1, .nil => .nil
  | _, _, n + 1, .cons r t => .cons r (Vals.take n t)
theorem Vals.drop : ∀ {xs : List V} {us : List Value} (n : Nat), Vals xs us → Vals (xs.drop n) (us.drop n)
  | _, _, 0, r => r
  | _, _, _ + 1, .nil => .nil
  | _, _, n + 1, .cons _ t => Vals.drop n t
theorem Vals.none_of : ∀ {xs : List V} {us : List Value} {i : Nat}, Vals xs us → xs[i]? = none → us[i]? = none := fun {xs us i} r e => by
  have h1 := r.length
  have h2 : xs.length ≤ i := List.getElem?_eq_none_iff.mp e
  exact List.getElem?_eq_none_iff.mpr (by omega)

def RelO : Option V → Option Value → Prop
  | some v, some u => RelV v u
  | none, none => True
  | _, _ => False
def KV {κ : Type} : List (κ × V) → List (κ × Value) → Prop := Paired fun (p : κ × V) (q : κ × Value) => p.1 = q.1 ∧ RelV p.2 q.2

/-- a key of a dict (00_mix): an int or a text -/
def kV : Key → V
  | .inl i => .int i
  | .inr x => .str x

/-- what stands at a tracked address -/
inductive HO where
  /-- a list -/
  | lst (xs : List V)
  /-- a tuple (never changes) -/
  | tup (xs : List V)
  /-- a dict whose keys are ints and texts; one whose keys are tuples of ints and texts (the empty one is both) -/
  | dK (kvs : List (Key × V)) | dT (kvs : List (List Key × V))
  /-- a set of ints: its members, its size -/
  | set (S : Int → Bool) (n : Nat)
  /-- an instance of the class at C, its dict at dx, its attributes -/
  | ins (C dx : Addr) (fs : List (Str × V))
  /-- the dict of the instance at x -/
  | own (x : Addr)
  /-- the dict of an exception -/
  | xd (fs : List (Str × V))
  /-- a bound method, f of x -/
  | met (f x : Addr)
  /-- a range object lo, lo + 1, .. below hi -/
  | rng (lo hi : Int)
  /-- a thing that is known to the object (the script; a dict while a loop walks it): read, never written while it is so -/
  | frz (o : Obj) (u : HO)
  /-- a code object's table -/
  | tbl (ps : Array Value)
  /-- any other thing, by what is true of its one object (a def of one's own: SetO a S n := HO.ext fun h => ..) -/
  | ext (φ : Heap → Prop)

abbrev Hp := Addr → Option HO
def upd (H : Hp) (a : Addr) (o : HO) : Hp := fun b => if b = a then some o else H b
theorem upd_same {H : Hp} {a : Addr} {o : HO} : upd H a o a = some o := by unfold upd; rw [if_pos rfl]
theorem upd_ne {H : Hp} {a b : Addr} {o : HO} (h : b ≠ a) : upd H a o b = H b := by unfold upd; rw [if_neg h]
theorem upd_upd {H : Hp} {a : Addr} {o u : HO} : upd (upd H a o) a u = upd H a u := by
  funext b; unfold upd; split <;> rfl
/-- two objects of different content stand apart -/
theorem ne_of {H : Hp} {a b : Addr} {o u : HO} (h : H a = some o) (h' : H b = some u) (d : o ≠ u) : a ≠ b := by
  intro e; subst e; rw [h] at h'; exact d (Option.some.inj h')
theorem ne_of_none {H : Hp} {a b : Addr} {o : HO} (h : H a = some o) (h' : H b = none) : a ≠ b := by
  intro e; subst e; rw [h] at h'; cases h'

section
variable (P : Program) (w : World)
def ObjOk (H : Hp) (h : Heap) (a : Addr) : HO → Prop
  | .lst xs => xs.length ≤ sizeLine ∧ ∃ (its : List Value) (n : Nat), Vals xs its ∧ h.get? a = some { cls := .type "list", data := .seq its.toArray n }
  | .tup xs => xs.length ≤ sizeLine ∧ ∃ its : List Value, Vals xs its ∧ IsTup h a its.toArray
  | .dK kvs => kvs.length ≤ sizeLine ∧ (a == sysModules) = false ∧ ∃ vs, KV kvs vs ∧ h.DictOf (mixKind P w) a vs
  | .dT kvs => kvs.length ≤ sizeLine ∧ (a == sysModules) = false ∧ ∃ xs : List (List Key × Addr × Value),
      Paired (fun (p : List Key × V) (q : List Key × Addr × Value) => p.1 = q.1 ∧ H q.2.1 = some (.tup (p.1.map kV)) ∧ RelV p.2 q.2.2) kvs xs ∧
      ∃ o es ep, h.get? a = some o ∧ o.ExactDict ∧ o.data = .dict es ep ∧ es.toList = xs.map (entryOfKey (tupleKind (mixKind P w))) ∧ (xs.map (·.1)).Nodup
  | .set S n => h.SetOf (intKind P w) a S n
  | .ins C dx fs => H dx = some (.own a) ∧ fs.length ≤ 1000 ∧ dx ≠ a ∧ h.get? a = some (PySem.W.instObj C dx) ∧
      ∃ mA, h.Ns1 dx mA ∧ (∀ f, RelO (fs.lookup f) (mA f)) ∧ PySem.Within mA (fs.map (·.1))
  | .own _ => ∃ o, h.get? a = some o
  | .xd fs => ∃ mA, h.Ns1 a mA ∧ ∀ f, RelO (fs.lookup f) (mA f)
  | .rng lo hi => ∃ t u v, h.get? a = some { cls := .type "range", data := .fields #[.int lo t, .int hi u, .int 1 v] }
  | .frz o u => h.get? a = some o ∧ ObjOk H h a u
  | .tbl ps => h.get? a = some { cls := .none, data := .fields ps }
  | .met f x => h.get? a = some (PySem.W.methodObj (.ref f) (.ref x))
  | .ext φ => φ h ∧ (∃ o, h.get? a = some o) ∧ ∀ h1 h2 : Heap, φ h1 → (∀ o, h1.get? a = some o → h2.get? a = some o) → φ h2
/-- the abstract heap is held -/
def HOk (H : Hp) (h : Heap) : Prop := ∀ a o, H a = some o → ObjOk P w H h a o
end

section
variable {P : Program} {w : World} {H H' : Hp} {h h' : Heap} {a : Addr} {o : HO}
theorem ObjOk.lt (x : ObjOk P w H h a o) : a < h.objs.size := by
  cases o with
  | lst xs => obtain ⟨_, _, _, _, e⟩ := x; exact Heap.lt_size e
  | tup xs => obtain ⟨_, _, _, p⟩ := x; exact p.lt
  | dK kvs => obtain ⟨_, _, _, _, o, _, _, e, _⟩ := x; exact Heap.lt_size e
  | dT kvs => obtain ⟨_, _, _, _, o, _, _, e, _⟩ := x; exact Heap.lt_size e
  | set S n => obtain ⟨o, _, _, _, e, _⟩ := x; exact Heap.lt_size e
  | ins C dx fs => obtain ⟨_, _, _, e, _⟩ := x; exact Heap.lt_size e
  | own y => obtain ⟨_, e⟩ := x; exact Heap.lt_size e
  | xd fs => obtain ⟨_, ⟨_, _, _, e, _⟩, _⟩ := x; exact Heap.lt_size e
  | rng lo hi => obtain ⟨_, _, _, e⟩ := x; exact Heap.lt_size e
  | frz ob u => obtain ⟨e, _⟩ := x; exact Heap.lt_size e
  | tbl ps => exact Heap.lt_size (show h.get? a = some _ from x)
  | met f y => exact Heap.lt_size (show h.get? a = some _ from x)
  | ext φ => obtain ⟨_, ⟨_, e⟩, _⟩ := x; exact Heap.lt_size e
theorem Paired.mapP {α β : Type} {F G : α → β → Prop} : ∀ {l₁ : List α} {l₂ : List β}, Paired F l₁ l₂ → (∀ a b, F a b → G a b) → Paired G l₁ l₂
  | _, _, .nil, _ => .nil
  | _, _, .cons r t, f => .cons (f _ _ r) (Paired.mapP t f)
theorem Paired.imp' {α β : Type} {F G : α → β → Prop} (f : ∀ a b, F a b → G a b) {l₁ : List α} {l₂ : List β} (r : Paired F l₁ l₂) : Paired G l₁ l₂ := Paired.mapP r f
/-- what an object's description leans on: its own object, its own dict, the tuples -/
theorem ObjOk.stay (x : ObjOk P w H h a o) (k : ∀ b u, (b = a ∨ H b = some (.own a)) → h.get? b = some u → h'.get? b = some u)
    (ho : ∀ b, H b = some (.own a) → H' b = some (.own a)) (ht : ∀ b xs, H b = some (.tup xs) → H' b = some (.tup xs)) : ObjOk P w H' h' a o := by
  induction o with
  | lst xs => obtain ⟨z, its, n, r, e⟩ := x; exact ⟨z, its, n, r, k _ _ (.inl rfl) e⟩
  | tup xs => obtain ⟨z, its, r, ob, e, c⟩ := x; exact ⟨z, its, r, ob, k _ _ (.inl rfl) e, c⟩
  | dK kvs => obtain ⟨z, y, vs, r, ob, es, ep, e, c⟩ := x; exact ⟨z, y, vs, r, ob, es, ep, k _ _ (.inl rfl) e, c⟩
  | dT kvs =>
    obtain ⟨z, y, xs, r, ob, es, ep, e, c⟩ := x
    exact ⟨z, y, xs, Paired.mapP r fun p q z => ⟨z.1, ht _ _ z.2.1, z.2.2⟩, ob, es, ep, k _ _ (.inl rfl) e, c⟩
  | set S n => obtain ⟨ob, es, ep, t, e, c⟩ := x; exact ⟨ob, es, ep, t, k _ _ (.inl rfl) e, c⟩
  | ins C dx fs =>
    obtain ⟨d, z, ne, e, mA, ⟨od, es, ep, e2, c⟩, r⟩ := x
    exact ⟨ho _ d, z, ne, k _ _ (.inl rfl) e, mA, ⟨od, es, ep, k _ _ (.inr d) e2, c⟩, r⟩
  | own y => obtain ⟨ob, e⟩ := x; exact ⟨ob, k _ _ (.inl rfl) e⟩
  | xd fs => obtain ⟨mA, ⟨od, es, ep, e, c⟩, r⟩ := x; exact ⟨mA, ⟨od, es, ep, k _ _ (.inl rfl) e, c⟩, r⟩
  | rng lo hi => obtain ⟨t, u, v, e⟩ := x; exact ⟨t, u, v, k _ _ (.inl rfl) e⟩
  | frz ob u ih => obtain ⟨e, q⟩ := x; exact ⟨k _ _ (.inl rfl) e, ih q⟩
  | tbl ps =>
    have e : h.get? a = some { cls := .none, data := .fields ps } := x
    show h'.get? a = some { cls := .none, data := .fields ps }
    exact k a _ (.inl rfl) e
  | met f y =>
    have e : h.get? a = some (PySem.W.methodObj (.ref f) (.ref y)) := x
    show h'.get? a = some (PySem.W.methodObj (.ref f) (.ref y))
    exact k a _ (.inl rfl) e
  | ext φ => obtain ⟨p, ⟨o, e⟩, st⟩ := x; exact ⟨st _ _ p fun o q => k _ _ (.inl rfl) q, ⟨o, k _ _ (.inl rfl) e⟩, st⟩
theorem HOk.lt (x : HOk P w H h) (e : H a = some o) : a < h.objs.size := (x a o e).lt
theorem HOk.fresh (x : HOk P w H h) (e : h.objs.size ≤ a) : H a = none := by
  cases q : H a with
  | none => rfl
  | some u => exact absurd (Nat.lt_of_lt_of_le (x.lt q) e) (Nat.lt_irrefl _)
/-- every object of the heap is kept -/
theorem HOk.kept (x : HOk P w H h) (k : ∀ b u, h.get? b = some u → h'.get? b = some u) : HOk P w H h' := fun a o e =>
  (x a o e).stay (fun b u _ q => k b u q) (fun _ q => q) fun _ _ q => q
/-- a new object is laid and tracked -/
theorem HOk.laid (x : HOk P w H h) (k : ∀ b u, h.get? b = some u → h'.get? b = some u) (hp : h.objs.size ≤ a) (new : ObjOk P w (upd H a o) h' a o) : HOk P w (upd H a o) h' := fun b u e => by
  have hn := x.fresh hp
  by_cases hb : b = a
  · subst hb; rw [upd_same] at e; cases e; exact new
  · rw [upd_ne hb] at e
    exact (x b u e).stay (fun c v _ q => k c v q) (fun c q => by rw [upd_ne (ne_of_none q hn)]; exact q) fun c xs q => by rw [upd_ne (ne_of_none q hn)]; exact q
end

/-- what may be read as u: it is u, or a known u -/
def Rd (H : Hp) (a : Addr) (u : HO) : Prop := H a = some u ∨ ∃ o, H a = some (.frz o u)
theorem Rd.of {H : Hp} {a : Addr} {u : HO} (h : H a = some u) : Rd H a u := .inl h
theorem Rd.ok {P : Program} {w : World} {H : Hp} {h : Heap} {a : Addr} {u : HO} (r : Rd H a u) (x : HOk P w H h) : ObjOk P w H h a u := by
  rcases r with r | ⟨o, r⟩
  · exact x a u r
  · obtain ⟨_, q⟩ := x a _ r
    exact q
/-- what may be written -/
def Mut : Option HO → Prop
  | some (.lst _) => True
  | some (.dK _) => True
  | some (.dT _) => True
  | some (.set _ _) => True
  | some (.ins _ _ _) => True
  | some (.ext _) => True
  | _ => False
section
variable {P : Program} {w : World} {H : Hp} {h h' : Heap} {x e : Addr} {o' : HO}
/-- the object at e is changed: x itself, or the dict of the instance x -/
theorem HOk.write (ok : HOk P w H h) (mu : Mut (H x)) (he : e = x ∨ H e = some (.own x)) (k : ∀ b u, b ≠ e → h.get? b = some u → h'.get? b = some u) (heo : ∃ u, h'.get? e = some u)
    (new : ObjOk P w (upd H x o') h' x o') : HOk P w (upd H x o') h' := fun b u q => by
  have nown : ∀ c y, H c = some (.own y) → c ≠ x := fun c y r z => by subst z; rw [r] at mu; exact mu
  have ntup : ∀ c xs, H c = some (.tup xs) → c ≠ x := fun c xs r z => by subst z; rw [r] at mu; exact mu
  by_cases hb : b = x
  · subst hb; rw [upd_same] at q; cases q; exact new
  · rw [upd_ne hb] at q
    by_cases hbe : b = e
    · have q' : H b = some (.own x) := by
        rcases he with z | z
        · exact absurd (hbe.trans z) hb
        · rw [hbe]; exact z
      rw [q] at q'; cases q'
      obtain ⟨v, hv⟩ := heo
      exact ⟨v, by rw [hbe]; exact hv⟩
    · refine (ok b u q).stay (fun c v hc r => k c v ?_ r) (fun c r => by rw [upd_ne (nown c b r)]; exact r) fun c xs r => by rw [upd_ne (ntup c xs r)]; exact r
      rcases hc with rfl | hc
      · exact hbe
      · rintro rfl
        rcases he with z | z
        · exact nown c b hc z
        · rw [hc] at z; cases z; exact hb rfl
end

/-! ### kept unless tracked; of the frames at fs (the callers') the slots may change (an exception that passes writes there); of the records at ex (iterators) nothing is said -/
structure Un (fs ex : List Addr) (H H' : Hp) (h h' : Heap) : Prop where
  keep : ∀ b o, h.get? b = some o → H b = none → b ∉ fs → b ∉ ex → h'.get? b = some o
  slot : ∀ b o, h.get? b = some o → H b = none → b ∈ fs → b ∉ ex → ∃ sl, h'.get? b = some { o with slots := sl }
  free : ∀ b o, h.get? b = some o → H b = none → b ∉ ex → H' b = none
  there : ∀ b o, h.get? b = some o → b ∉ ex → ∃ o', h'.get? b = some o'
  tups : ∀ b xs, H b = some (.tup xs) → H' b = some (.tup xs)
  frzs : ∀ b o u, H b = some (.frz o u) → H' b = some (.frz o u)
  tbls : ∀ b ps, H b = some (.tbl ps) → ∃ more, H' b = some (.tbl (ps ++ more))
section
variable {fs fs' ex ex' : List Addr} {H H1 H2 : Hp} {h h1 h2 h' : Heap} {a x e : Addr} {o : HO}
theorem Un.any (u : Un fs ex H H1 h h1) {b : Addr} {ob : Obj} (q : h.get? b = some ob) (n : H b = none) (hx : b ∉ ex) : ∃ sl, h1.get? b = some { ob with slots := sl } := by
  by_cases hb : b ∈ fs
  · exact u.slot b ob q n hb hx
  · exact ⟨ob.slots, u.keep b ob q n hb hx⟩
theorem Un.trans (a : Un fs ex H H1 h h1) (b : Un fs ex H1 H2 h1 h2) : Un fs ex H H2 h h2 where
  keep := fun c ob q n hc hx => b.keep c ob (a.keep c ob q n hc hx) (a.free c ob q n hx) hc hx
  slot := fun c ob q n hc hx => by
    obtain ⟨sl, e1⟩ := a.slot c ob q n hc hx
    obtain ⟨sl', e2⟩ := b.slot c _ e1 (a.free c ob q n hx) hc hx
    exact ⟨sl', e2⟩
  free := fun c ob q n hx => by
    obtain ⟨o', e1⟩ := a.there c ob q hx
    exact b.free c o' e1 (a.free c ob q n hx) hx
  there := fun c ob q hx => by
    obtain ⟨o', e1⟩ := a.there c ob q hx
    exact b.there c o' e1 hx
  tups := fun c xs q => b.tups c xs (a.tups c xs q)
  frzs := fun c ob xs q => b.frzs c ob xs (a.frzs c ob xs q)
  tbls := fun c ps q => by
    obtain ⟨m1, e1⟩ := a.tbls c ps q
    obtain ⟨m2, e2⟩ := b.tbls c _ e1
    exact ⟨m1 ++ m2, by rw [e2, Array.append_assoc]⟩
theorem Un.kept (k : ∀ b u, h.get? b = some u → h'.get? b = some u) : Un fs ex H H h h' :=
  ⟨fun b ob q _ _ _ => k b ob q, fun b ob q _ _ _ => ⟨ob.slots, k b ob q⟩, fun _ _ _ n _ => n, fun b ob q _ => ⟨ob, k b ob q⟩, fun _ _ q => q, fun _ _ _ q => q, fun _ ps q => ⟨#[], by rw [q]; simp⟩⟩
theorem Un.refl : Un fs ex H H h h := Un.kept fun _ _ q => q
theorem Un.laid (k : ∀ b u, h.get? b = some u → h'.get? b = some u) (hp : h.objs.size ≤ a) (hn : H a = none) : Un fs ex H (upd H a o) h h' where
  keep := fun b u q _ _ _ => k b u q
  slot := fun b u q _ _ _ => ⟨u.slots, k b u q⟩
  free := fun b u q n _ => by rw [upd_ne (Nat.ne_of_lt (Nat.lt_of_lt_of_le (Heap.lt_size q) hp))]; exact n
  there := fun b u q _ => ⟨u, k b u q⟩
  tups := fun b xs q => by rw [upd_ne (ne_of_none q hn)]; exact q
  frzs := fun b u xs q => by rw [upd_ne (ne_of_none q hn)]; exact q
  tbls := fun b ps q => ⟨#[], by rw [upd_ne (ne_of_none q hn), q]; simp⟩
theorem Un.write (mu : Mut (H x)) (he : e = x ∨ H e = some (.own x)) (k : ∀ b u, b ≠ e → h.get? b = some u → h'.get? b = some u) (heo : ∃ u, h'.get? e = some u) : Un fs ex H (upd H x o) h h' := by
  have hx : ∀ b, H b = none → b ≠ x := fun b n z => by subst z; rw [n] at mu; exact mu
  have hb : ∀ b, H b = none → b ≠ e := fun b n z => by
    subst z
    rcases he with r | r
    · exact hx b n r
    · rw [n] at r; cases r
  have hm : ∀ b u, H b = some u → ¬ Mut (some u) → b ≠ x := fun b u q nm z => by subst z; rw [q] at mu; exact nm mu
  refine ⟨fun b u q n _ _ => k b u (hb b n) q, fun b u q n _ _ => ⟨u.slots, k b u (hb b n) q⟩, fun b u q n _ => by rw [upd_ne (hx b n)]; exact n, fun b u q _ => ?_,
    fun b xs q => by rw [upd_ne (hm b _ q fun z => z)]; exact q, fun b u xs q => by rw [upd_ne (hm b _ q fun z => z)]; exact q, fun b ps q => ⟨#[], by rw [upd_ne (hm b _ q fun z => z), q]; simp⟩⟩
  by_cases hbe : b = e
  · subst hbe; exact heo
  · exact ⟨u, k b u hbe q⟩
theorem Un.mono (u : Un fs ex H H1 h h1) (hs : ∀ b ∈ fs, b ∈ fs') (hx : ∀ b ∈ ex, b ∈ ex') : Un fs' ex' H H1 h h1 :=
  ⟨fun b ob q n hb he => u.keep b ob q n (fun z => hb (hs b z)) fun z => he (hx b z), fun _ _ q n _ he => u.any q n fun z => he (hx _ z), fun b ob q n he => u.free b ob q n fun z => he (hx b z), fun b ob q he => u.there b ob q fun z => he (hx b z), u.tups, u.frzs, u.tbls⟩
end

/-! ### the heap without what is tracked -/
def trk (h : Heap) (H : Hp) : List Addr := (List.range h.objs.size).filter fun a => (H a).isSome
def hidT (h : Heap) (H : Hp) : Heap := PySem.W.hideAll h (trk h H)
theorem hidT_size (h : Heap) (H : Hp) : (hidT h H).objs.size = h.objs.size := PySem.W.hideAll_size _ _
theorem hidT_get {h : Heap} {H : Hp} {b : Addr} {o : Obj} (e : h.get? b = some o) (n : H b = none) : (hidT h H).get? b = some o :=
  PySem.W.hideAll_get _ e fun hm => by
    have q : (H b).isSome = true := (List.mem_filter.mp hm).2
    rw [n] at q; simp at q
theorem of_hidT {h : Heap} {H : Hp} {b : Addr} {o : Obj} (e : (hidT h H).get? b = some o) : h.get? b = some o ∧ H b = none := by
  have e' : h.get? b = some o := PySem.W.of_hideAll (trk h H) e
  refine ⟨e', ?_⟩
  cases q : H b with
  | none => rfl
  | some x =>
    have hm : b ∈ trk h H := List.mem_filter.mpr ⟨List.mem_range.mpr (Heap.lt_size e'), by simp [q]⟩
    have z : (hidT h H).get? b = none := PySem.W.hideAll_none (trk h H) hm
    rw [z] at e; cases e

/-! ### OpenK's ledger, filled with every new object but one -/
def allNews (g h : Heap) (L : Addr) : List (Addr × Obj) := (List.range h.objs.size).filterMap fun a => if a = L ∨ (g.get? a).isSome = true then none else (h.get? a).map fun o => (a, o)
theorem mem_allNews {g h : Heap} {L a : Addr} {o : Obj} (h1 : a ≠ L) (h2 : g.get? a = none) (h3 : h.get? a = some o) : (a, o) ∈ allNews g h L :=
  List.mem_filterMap.mpr ⟨a, List.mem_range.mpr (Heap.lt_size h3), by simp [h1, h2, h3]⟩
theorem of_mem_allNews {g h : Heap} {L : Addr} {p : Addr × Obj} (hp : p ∈ allNews g h L) : p.1 ≠ L ∧ g.get? p.1 = none ∧ h.get? p.1 = some p.2 := by
  obtain ⟨b, _, e⟩ := List.mem_filterMap.mp hp
  split at e
  · cases e
  · rename_i hn
    cases q : h.get? b with
    | none => rw [q] at e; simp at e
    | some u =>
      rw [q] at e
      simp only [Option.map_some, Option.some.injEq] at e
      subst e
      refine ⟨fun z => hn (.inl z), ?_, q⟩
      show g.get? b = none
      cases r : g.get? b with
      | none => rfl
      | some v => exact (hn (.inr (by simp [r]))).elim
def rest (g h : Heap) (L d : Addr) : List (Addr × Obj) := (allNews g h L).filter fun p => decide (p.1 ≠ d)
theorem rest_ne {g h : Heap} {L d : Addr} : ∀ p ∈ rest g h L d, p.1 ≠ d := fun p hp => of_decide_eq_true (List.mem_filter.mp hp).2
theorem mem_rest {g h : Heap} {L d a : Addr} {o : Obj} (h1 : a ≠ L) (h2 : g.get? a = none) (h3 : h.get? a = some o) (h4 : a ≠ d) : (a, o) ∈ rest g h L d :=
  List.mem_filter.mpr ⟨mem_allNews h1 h2 h3, decide_eq_true h4⟩
theorem news_all {g h : Heap} {L : Addr} : News g L h (allNews g h L) := fun p hp => let ⟨a, b, c⟩ := of_mem_allNews hp; ⟨c, a, b⟩
theorem news_at {g h : Heap} {L d : Addr} {o : Obj} (h1 : d ≠ L) (h2 : g.get? d = none) (h3 : h.get? d = some o) : News g L h ((d, o) :: rest g h L d) := fun p hp => by
  rcases List.mem_cons.mp hp with rfl | hp
  · exact ⟨h3, h1, h2⟩
  · exact news_all p (List.mem_filter.mp hp).1
/-- behind a rule that changed d alone: all else but the frame is kept -/
theorem kept_of_news {g h h' : Heap} {L d : Addr} {m : Str → Option Value} (k : ∀ b o, g.get? b = some o → h.get? b = some o) (F : Fr g L h' m) (N : News g L h' (rest g h L d)) :
    ∀ b o, b ≠ L → b ≠ d → h.get? b = some o → h'.get? b = some o := fun b o h1 h2 e => by
  cases q : g.get? b with
  | some u =>
    have := k b u q
    rw [e] at this; cases this
    exact F.keep b _ q
  | none => exact (N (b, o) (mem_rest h1 q e h2)).1
end L2

namespace L2
open PySem PySem.Spec PyProof.Rows

/-- the module's facts, over the base: the heap at the law's entry without what is tracked there -/
structure Mod (K : PySem.W.Frag) (mg : Str → Option Value) (base : Heap) : Prop where
  kin : K.In base
  glob : base.Ns mainGlobals mg
  blt : ∃ mb, base.Ns builtinsNs mb ∧ ∀ x : Str, x ≠ "__name__" → mb x = bootBuiltins x
  nolimit : base.NoLimit

/-- the context: a def's body (or a comprehension's block) running. base: fixed through the whole law; s₀, H₀: the entry; outer: the frames whose slots others may change (a def's callers); stack: all frames that run;
   ex: iterators that were made ahead of the entry and are walked here (a comprehension's); fn: the names whose cells were made at the entry (a def: all; a comprehension's block: its own); calm: not within an except suite; pn: pins that every state bears; xe: what is wanted of an exception that leaves the code -/
structure Cx where
  prog : Program
  w : World
  K : PySem.W.Frag
  mg : Str → Option Value
  base : Heap
  A : Around
  N : List Str
  s₀ : Shared
  H₀ : Hp
  env : Env
  outer : List Env
  stack : List Env
  ex : List Addr
  fn : Str → Bool
  calm : Bool
  pn : List (Addr × Obj)
  xe : Value → Shared → Prop
/-- the callers' frames -/
def frs (l : List Env) : List Addr := l.filterMap (·.frame)
abbrev Cx.fs (X : Cx) : List Addr := frs X.outer

def Vis (sc : Scope) (x : Str) : Prop := sc.names.lookup x = some .local ∨ sc.names.lookup x = some .cell ∨ sc.names.lookup x = some .free
def Loc (sc : Scope) (x : Str) : Prop := sc.names.lookup x = some .local ∨ sc.names.lookup x = some .cell
def Look (env : Env) (h : Heap) (m : Str → Option Value) (x : Str) (u : Value) : Prop :=
  (env.kindOf x = some .local ∧ m x = some u) ∨ ((env.kindOf x = some .cell ∨ env.kindOf x = some .free) ∧ ∃ c, env.cells.lookup x = some c ∧ h.IsCell c (some u))

structure Cx.Ok (X : Cx) : Prop where
  mod : Mod X.K X.mg X.base
  kind : X.env.scope.kind = .function
  glob : X.env.globals = mainGlobals
  blt : X.env.builtins = builtinsNs
  above : X.s₀.heap.objs.size ≤ X.env.locals
  inj : ∀ x y c, X.env.cells.lookup x = some c → X.env.cells.lookup y = some c → x = y
  has : ∀ x, (X.env.kindOf x = some .cell ∨ X.env.kindOf x = some .free) → ∃ c, X.env.cells.lookup x = some c
  cab : ∀ x c, X.fn x = true → X.env.cells.lookup x = some c → X.s₀.heap.objs.size ≤ c
  hd : X.calm = true → X.A.handled = none
  frames : X.A.frames = some X.stack
  stk : X.stack = X.outer ∨ (X.stack = X.env :: X.outer ∧ X.env.frame = some X.env.locals)
  exf : ∀ b ∈ X.ex, b ≠ X.env.locals ∧ ∀ x c, X.env.cells.lookup x = some c → c ≠ b
  bs : ∀ b o, X.base.get? b = some o → X.s₀.heap.get? b = some o ∧ X.H₀ b = none
  bsz : X.base.objs.size ≤ X.s₀.heap.objs.size
  noex : ∀ b o, X.base.get? b = some o → b ∉ X.ex
  exfs : ∀ b ∈ X.ex, b ∉ X.fs
  funs : X.s₀.heap.FunFrames X.base X.outer
  frf : ∀ b ∈ X.fs, X.H₀ b = none

structure Inv (X : Cx) (pins : List (Addr × Obj)) (σ : List (Option V)) (H : Hp) (s : Shared) : Prop where
  ok : X.Ok
  os : s.os = X.s₀.os
  bare : AllBare s.gens
  base : Un X.fs X.ex X.H₀ H X.s₀.heap s.heap
  loc : ∃ m, s.heap.Ns X.env.locals m ∧ ∀ (i : Nat) (x : Str) (v : V), X.N[i]? = some x → σ[i]? = some (some v) → Vis X.env.scope x → ∃ u, RelV v u ∧ Look X.env s.heap m x u
  cell : ∀ x c, X.env.cells.lookup x = some c → ∃ v, s.heap.IsCell c v
  free : H X.env.locals = none
  freeC : ∀ x c, X.env.cells.lookup x = some c → H c = none
  pin : ∀ p ∈ X.pn ++ pins, s.heap.get? p.1 = some p.2 ∧ H p.1 = none ∧ p.1 ≠ X.env.locals ∧ p.1 ∉ X.fs ∧ ∀ v, p.2.data ≠ .cell v
  hok : HOk X.prog X.w H s.heap
  len : σ.length = X.N.length

section
variable {X : Cx} {pins : List (Addr × Obj)} {σ : List (Option V)} {H H' : Hp} {s : Shared} {h' : Heap}

theorem Cx.Ok.nofr (ok : X.Ok) {b : Addr} {o : Obj} (e : X.base.get? b = some o) : b ∉ X.fs := fun hb => by
  have := (ok.funs.mem hb).1
  rw [e] at this; cases this
theorem Inv.bs (I : Inv X pins σ H s) : ∀ b o, X.base.get? b = some o → s.heap.get? b = some o ∧ H b = none := fun b o e =>
  ⟨I.base.keep b o (I.ok.bs b o e).1 (I.ok.bs b o e).2 (I.ok.nofr e) (I.ok.noex b o e), I.base.free b o (I.ok.bs b o e).1 (I.ok.bs b o e).2 (I.ok.noex b o e)⟩
theorem Inv.bk (I : Inv X pins σ H s) : ∀ b o, X.base.get? b = some o → s.heap.get? b = some o := fun b o e => (I.bs b o e).1
theorem Inv.mod (I : Inv X pins σ H s) : Mod X.K X.mg X.base := I.ok.mod
theorem Inv.kIn (I : Inv X pins σ H s) : X.K.In s.heap := I.ok.mod.kin.keeps I.bk
theorem Inv.nolimit (I : Inv X pins σ H s) : s.heap.NoLimit := I.ok.mod.nolimit.keeps I.bk
/-- the frame over the base: for OpenK's rules (K.In X.base is I.mod.kin) -/
theorem Inv.fr (I : Inv X pins σ H s) : ∃ m, Fr X.base X.env.locals s.heap m :=
  let ⟨m, hn, _⟩ := I.loc
  ⟨m, hn, I.bk, Nat.le_trans I.ok.bsz I.ok.above⟩
theorem Inv.lt (I : Inv X pins σ H s) : X.env.locals < s.heap.objs.size := let ⟨_, hn, _⟩ := I.loc; hn.lt
theorem Inv.sz (I : Inv X pins σ H s) : X.s₀.heap.objs.size ≤ s.heap.objs.size := Nat.le_trans I.ok.above (Nat.le_of_lt I.lt)
theorem Inv.nofs (I : Inv X pins σ H s) {a : Addr} (h : s.heap.objs.size ≤ a) : a ∉ X.fs := fun hb => by
  obtain ⟨_, o, ho, _⟩ := I.ok.funs.mem hb
  exact absurd (Nat.lt_of_lt_of_le (Heap.lt_size ho) (Nat.le_trans I.sz h)) (Nat.lt_irrefl _)
theorem Inv.cne (I : Inv X pins σ H s) : ∀ x c, X.env.cells.lookup x = some c → c ≠ X.env.locals := fun x c e z => by
  obtain ⟨v, o, ho, hd⟩ := I.cell x c e
  obtain ⟨m, ⟨o', es, ep, ho', hd', _⟩, _⟩ := I.loc
  rw [z, ho'] at ho; cases ho; rw [hd'] at hd; cases hd
theorem Inv.funs (I : Inv X pins σ H s) : s.heap.FunFrames X.base X.outer := by
  have all : ∀ (l : List Env), (∀ b ∈ frs l, b ∈ X.fs) → X.s₀.heap.FunFrames X.base l → s.heap.FunFrames X.base l := by
    intro l
    induction l with
    | nil => intro _ _; trivial
    | cons env r ih =>
      intro hs hl
      obtain ⟨hk, ⟨L, o, hf, hn, ho, hd⟩, hr⟩ := hl
      have hL : L ∈ X.fs := hs L (by unfold frs; rw [List.filterMap_cons, hf]; exact List.mem_cons_self)
      obtain ⟨sl, e⟩ := I.base.slot L o ho (I.ok.frf L hL) hL fun z => I.ok.exfs L z hL
      exact ⟨hk, ⟨L, _, hf, hn, e, hd⟩, ih (fun b hb => hs b (by unfold frs; rw [List.filterMap_cons, hf]; exact List.mem_cons_of_mem _ hb)) hr⟩
  exact all X.outer (fun _ hb => hb) I.ok.funs

/-- the frames that run, for a call -/
theorem Inv.stack (I : Inv X pins σ H s) : s.heap.FunFrames X.base X.stack := by
  rcases I.ok.stk with e | ⟨e, hf⟩
  · rw [e]; exact I.funs
  · rw [e]
    obtain ⟨m, hn, _⟩ := I.loc
    refine .cons (by rw [I.ok.kind]; decide) hf hn ?_ I.funs
    exact Heap.get?_none_of_le (Nat.le_trans I.ok.bsz I.ok.above)
theorem Inv.stkSub (I : Inv X pins σ H s) : ∀ b ∈ frs X.stack, b ∈ X.env.locals :: X.fs := fun b hb => by
  rcases I.ok.stk with e | ⟨e, hf⟩
  · rw [e] at hb; exact List.mem_cons_of_mem _ hb
  · rw [e] at hb
    unfold frs at hb
    rw [List.filterMap_cons, hf] at hb
    exact hb
theorem Inv.stkFree (I : Inv X pins σ H s) : ∀ b ∈ frs X.stack, H b = none := fun b hb => by
  rcases List.mem_cons.mp (I.stkSub b hb) with e | hb
  · rw [e]; exact I.free
  · obtain ⟨_, o, ho, _⟩ := I.ok.funs.mem hb
    exact I.base.free b o ho (I.ok.frf b hb) fun z => I.ok.exfs b z hb

/-- THE STEP: the untracked objects but the frame and the records at ch are kept (the callers' frames up to slots), the frame's map is kept, the new abstract heap is held -/
theorem Inv.step {g' : Array GenState} {t' : Nat} {d' : Drawn} {ch : List Addr} (I : Inv X pins σ H s)
    (hch : ∀ b ∈ ch, (b ∈ X.ex ∨ X.s₀.heap.objs.size ≤ b) ∧ b ≠ X.env.locals ∧ (∀ x c, X.env.cells.lookup x = some c → c ≠ b) ∧ ∀ p ∈ X.pn ++ pins, p.1 ≠ b)
    (keep : ∀ b o, b ≠ X.env.locals → b ∉ X.fs → b ∉ ch → s.heap.get? b = some o → H b = none → h'.get? b = some o)
    (slot : ∀ b o, b ≠ X.env.locals → b ∈ X.fs → b ∉ ch → s.heap.get? b = some o → H b = none → ∃ sl, h'.get? b = some { o with slots := sl }) (free : ∀ b o, b ∉ ch → s.heap.get? b = some o → H b = none → H' b = none)
    (there : ∀ b o, b ∉ ch → s.heap.get? b = some o → ∃ o', h'.get? b = some o')
    (tups : ∀ b xs, H b = some (.tup xs) → H' b = some (.tup xs)) (frzs : ∀ b o u, H b = some (.frz o u) → H' b = some (.frz o u)) (tbls : ∀ b ps, H b = some (.tbl ps) → ∃ more, H' b = some (.tbl (ps ++ more)))
    (ns : ∀ m, s.heap.Ns X.env.locals m → h'.Ns X.env.locals m) (hok : HOk X.prog X.w H' h') (hg : AllBare g') :
    Inv X pins σ H' { s with heap := h', gens := g', drawn := d', toks := t' } := by
  have neL : ∀ b o, X.s₀.heap.get? b = some o → b ≠ X.env.locals := fun b o e => Nat.ne_of_lt (Nat.lt_of_lt_of_le (Heap.lt_size e) I.ok.above)
  have neC : ∀ b o, X.s₀.heap.get? b = some o → b ∉ X.ex → b ∉ ch := fun b o e hx hb => by
    rcases (hch b hb).1 with z | z
    · exact hx z
    · exact absurd (Nat.lt_of_lt_of_le (Heap.lt_size e) z) (Nat.lt_irrefl _)
  have cellK : ∀ x c, X.env.cells.lookup x = some c → ∀ v, s.heap.IsCell c v → h'.IsCell c v := fun x c e v ⟨o, ho, hd⟩ => by
    have nch : c ∉ ch := fun z => (hch c z).2.2.1 x c e rfl
    by_cases hc : c ∈ X.fs
    · obtain ⟨sl, q⟩ := slot c o (I.cne x c e) hc nch ho (I.freeC x c e)
      exact ⟨_, q, hd⟩
    · exact ⟨o, keep c o (I.cne x c e) hc nch ho (I.freeC x c e), hd⟩
  refine ⟨I.ok, I.os, hg, ⟨fun b o e n hb hx => ?_, fun b o e n hb hx => ?_, fun b o e n hx => ?_, fun b o e hx => ?_, fun b xs e => tups b xs (I.base.tups b xs e), fun b o xs e => frzs b o xs (I.base.frzs b o xs e), fun b ps e => ?_⟩, ?_, fun x c e => ?_, ?_, fun x c e => ?_, fun p hp => ?_, hok, I.len⟩
  · exact keep b o (neL b o e) hb (neC b o e hx) (I.base.keep b o e n hb hx) (I.base.free b o e n hx)
  · obtain ⟨sl, e1⟩ := I.base.slot b o e n hb hx
    obtain ⟨sl', e2⟩ := slot b _ (neL b o e) hb (neC b o e hx) e1 (I.base.free b o e n hx)
    exact ⟨sl', e2⟩
  · obtain ⟨o', e1⟩ := I.base.there b o e hx
    exact free b o' (neC b o e hx) e1 (I.base.free b o e n hx)
  · obtain ⟨o', e1⟩ := I.base.there b o e hx
    exact there b o' (neC b o e hx) e1
  · obtain ⟨m1, e1⟩ := I.base.tbls b ps e
    obtain ⟨m2, e2⟩ := tbls b _ e1
    exact ⟨m1 ++ m2, by rw [e2, Array.append_assoc]⟩
  · obtain ⟨m, hn, hl⟩ := I.loc
    refine ⟨m, ns m hn, fun i x v e1 e2 e3 => ?_⟩
    obtain ⟨u, r, l⟩ := hl i x v e1 e2 e3
    refine ⟨u, r, ?_⟩
    rcases l with l | ⟨k, c, e, z⟩
    · exact .inl l
    · exact .inr ⟨k, c, e, cellK x c e _ z⟩
  · obtain ⟨v, z⟩ := I.cell x c e
    exact ⟨v, cellK x c e v z⟩
  · obtain ⟨m, ⟨o, _, _, ho, _⟩, _⟩ := I.loc
    exact free _ o (fun z => (hch _ z).2.1 rfl) ho I.free
  · obtain ⟨v, o, ho, hd⟩ := I.cell x c e
    exact free c o (fun z => (hch c z).2.2.1 x c e rfl) ho (I.freeC x c e)
  · obtain ⟨e, n, ne, nf, d⟩ := I.pin p hp
    have nch : p.1 ∉ ch := fun z => (hch p.1 z).2.2.2 p hp rfl
    exact ⟨keep p.1 p.2 ne nf nch e n, free p.1 p.2 nch e n, ne, nf, d⟩
/-- .. where the frame's own object is kept too -/
theorem Inv.un {t' : Nat} (I : Inv X pins σ H s) (u : Un X.fs [] H H' s.heap h') (hok : HOk X.prog X.w H' h') : Inv X pins σ H' { s with heap := h', toks := t' } := by
  obtain ⟨m, ⟨o, es, ep, ho, r⟩, _⟩ := id I.loc
  obtain ⟨sl, hL⟩ := u.any ho I.free (by simp)
  exact I.step (g' := s.gens) (d' := s.drawn) (ch := []) (fun _ z => nomatch z) (fun b o _ hb _ e n => u.keep b o e n hb (by simp)) (fun b o _ hb _ e n => u.slot b o e n hb (by simp)) (fun b o _ e n => u.free b o e n (by simp)) (fun b o _ e => u.there b o e (by simp)) u.tups u.frzs u.tbls (fun m' hm => by
    obtain ⟨o', es', ep', ho', r'⟩ := hm
    rw [ho] at ho'; cases ho'
    exact ⟨_, es', ep', hL, r'⟩) hok I.bare
/-- behind a call (or a comprehension's block): the slots of this frame may have changed too, the records at ch may have turned -/
theorem Inv.call {g' : Array GenState} {t' : Nat} {d' : Drawn} {ch : List Addr} (I : Inv X pins σ H s) (u : Un (frs X.stack) ch H H' s.heap h') (hok : HOk X.prog X.w H' h') (hg : AllBare g')
    (hch : ∀ b ∈ ch, (b ∈ X.ex ∨ X.s₀.heap.objs.size ≤ b) ∧ b ≠ X.env.locals ∧ (∀ x c, X.env.cells.lookup x = some c → c ≠ b) ∧ ∀ p ∈ X.pn ++ pins, p.1 ≠ b) :
    Inv X pins σ H' { s with heap := h', gens := g', drawn := d', toks := t' } := by
  obtain ⟨m, ⟨o, es, ep, ho, r⟩, _⟩ := id I.loc
  obtain ⟨sl, hL⟩ := u.any ho I.free fun z => (hch _ z).2.1 rfl
  exact I.step (ch := ch) hch (fun b o hL hb hc e n => u.keep b o e n (fun z => (List.mem_cons.mp (I.stkSub b z)).elim hL hb) hc) (fun b o _ _ hc e n => u.any e n hc) (fun b o hc e n => u.free b o e n hc) (fun b o hc e => u.there b o e hc) u.tups u.frzs u.tbls (fun m' hm => by
    obtain ⟨o', es', ep', ho', r'⟩ := hm
    rw [ho] at ho'; cases ho'
    exact ⟨_, es', ep', hL, r'⟩) hok hg
/-- an untracked record of ours (an iterator) has turned -/
theorem Inv.turned {t' : Nat} {it : Addr} (I : Inv X pins σ H s) (k : ∀ b o, b ≠ it → s.heap.get? b = some o → h'.get? b = some o) (hn : H it = none) (hL : it ≠ X.env.locals)
    (h1 : it ∈ X.ex ∨ X.s₀.heap.objs.size ≤ it) (h2 : ∀ x c, X.env.cells.lookup x = some c → c ≠ it) (h3 : ∀ p ∈ X.pn ++ pins, p.1 ≠ it) : Inv X pins σ H { s with heap := h', toks := t' } := by
  have nit : ∀ b u, H b = some u → b ≠ it := fun b u e z => by rw [z, hn] at e; cases e
  refine I.step (g' := s.gens) (d' := s.drawn) (ch := [it]) (fun b hb => ?_) (fun b o _ _ hc e _ => k b o (fun z => hc (by simp [z])) e) (fun b o _ _ hc e _ => ⟨o.slots, k b o (fun z => hc (by simp [z])) e⟩) (fun _ _ _ _ n => n)
    (fun b o hc e => ⟨o, k b o (fun z => hc (by simp [z])) e⟩) (fun _ _ e => e) (fun _ _ _ e => e) (fun b ps e => ⟨#[], by rw [e]; simp⟩) (fun m hm => ?_) (fun b u e => ?_) I.bare
  · have e : b = it := by simpa using hb
    subst e
    exact ⟨h1, hL, h2, h3⟩
  · obtain ⟨o, es, ep, ho, r⟩ := hm
    exact ⟨o, es, ep, k _ o (Ne.symm hL) ho, r⟩
  · refine (I.hok b u e).stay (fun c v hc q => k c v ?_ q) (fun _ q => q) fun _ _ q => q
    rcases hc with z | z
    · rw [z]; exact nit b u e
    · exact nit c _ z
theorem Inv.tok (I : Inv X pins σ H s) (t : Nat) : Inv X pins σ H { s with toks := t } := I.un (h' := s.heap) (t' := t) Un.refl I.hok
/-- all objects kept -/
theorem Inv.kept {t' : Nat} (I : Inv X pins σ H s) (k : ∀ b u, s.heap.get? b = some u → h'.get? b = some u) : Inv X pins σ H { s with heap := h', toks := t' } := I.un (Un.kept k) (I.hok.kept k)
/-- a new object laid and tracked -/
theorem Inv.laid {a : Addr} {o : HO} {t' : Nat} (I : Inv X pins σ H s) (k : ∀ b u, s.heap.get? b = some u → h'.get? b = some u) (hp : s.heap.objs.size ≤ a) (new : ObjOk X.prog X.w (upd H a o) h' a o) :
    Inv X pins σ (upd H a o) { s with heap := h', toks := t' } := I.un (Un.laid k hp (I.hok.fresh hp)) (I.hok.laid k hp new)
/-- an object written -/
theorem Inv.write {x e : Addr} {o : HO} {t' : Nat} (I : Inv X pins σ H s) (mu : Mut (H x)) (he : e = x ∨ H e = some (.own x)) (k : ∀ b u, b ≠ e → s.heap.get? b = some u → h'.get? b = some u) (heo : ∃ u, h'.get? e = some u)
    (new : ObjOk X.prog X.w (upd H x o) h' x o) : Inv X pins σ (upd H x o) { s with heap := h', toks := t' } := I.un (Un.write mu he k heo) (I.hok.write mu he k heo new)
/-- forgetting slots, pins -/
theorem Inv.weak {σ' : List (Option V)} (I : Inv X pins σ H s) (hl : σ'.length = σ.length) (w : ∀ (i : Nat) v, σ'[i]? = some (some v) → σ[i]? = some (some v)) : Inv X pins σ' H s :=
  ⟨I.ok, I.os, I.bare, I.base, let ⟨m, hn, hl'⟩ := I.loc; ⟨m, hn, fun i x v e1 e2 e3 => hl' i x v e1 (w i v e2) e3⟩, I.cell, I.free, I.freeC, I.pin, I.hok, hl.trans I.len⟩
theorem Inv.pins_of {pins' : List (Addr × Obj)} (I : Inv X pins σ H s) (h : ∀ p ∈ pins', s.heap.get? p.1 = some p.2 ∧ H p.1 = none ∧ p.1 ≠ X.env.locals ∧ p.1 ∉ X.fs ∧ ∀ v, p.2.data ≠ .cell v) : Inv X pins' σ H s :=
  ⟨I.ok, I.os, I.bare, I.base, I.loc, I.cell, I.free, I.freeC, fun p hp => (List.mem_append.mp hp).elim (fun z => I.pin p (List.mem_append_left _ z)) (h p), I.hok, I.len⟩

theorem nodup_ix {N : List Str} (hN : N.Nodup) {i j : Nat} {x : Str} (a : N[i]? = some x) (b : N[j]? = some x) : i = j := by
  obtain ⟨h1, e1⟩ := List.getElem?_eq_some_iff.mp a
  obtain ⟨h2, e2⟩ := List.getElem?_eq_some_iff.mp b
  exact (List.getElem_inj hN).mp (e1.trans e2.symm)

/-- a name is stored; what changed -/
theorem store_ok2 {M : Model} {A : Around} {E : Value → Shared → Prop} {i : Nat} {x : Str} {v : V} {u : Value} {Q : Unit → Shared → Prop} (I : Inv X pins σ H s) (hN : X.N.Nodup) (hi : X.N[i]? = some x) (hx : Loc X.env.scope x) (r : RelV v u)
    (h : ∀ s', Inv X pins (σ.set i (some v)) H s' → (∃ a, Heap.SameBut a s.heap s'.heap ∧ (a = X.env.locals ∨ X.env.cells.lookup x = some a)) → Q () s') (hf : X.fn x = true ∨ X.env.scope.names.lookup x = some .local := by first | exact .inl rfl | exact .inr rfl | assumption) : wpAny M A (storeName X.env x u) Q E s := by
  obtain ⟨m, hn, hl⟩ := id I.loc
  have hcls : (X.env.scope.kind == .class || (X.env.scope.kind == .module && X.env.locals != X.env.globals)) = false := by rw [I.ok.kind]; rfl
  have hiσ : i < σ.length := by rw [I.len]; exact (List.getElem?_eq_some_iff.mp hi).1
  have cne := I.cne
  have tracked : ∀ {a : Addr} {h' : Heap}, (∃ o, s.heap.get? a = some o ∧ H a = none) → Heap.SameBut a s.heap h' → HOk X.prog X.w H h' := fun {a h'} ha hs b ob e => by
    obtain ⟨_, _, hfree⟩ := ha
    refine (I.hok b ob e).stay (fun c w' hc q => (hs.2 c ?_).trans q) (fun _ q => q) fun _ _ q => q
    rintro rfl
    rcases hc with rfl | hc
    · rw [hfree] at e; cases e
    · rw [hfree] at hc; cases hc
  rcases hx with hk | hk
  · refine wpAny_storeName_local hk hn (fun h' hn' hs => ?_) hcls
    obtain ⟨oL, _, _, hoL, _⟩ := id hn
    refine h _ ⟨I.ok, I.os, I.bare, ⟨fun b o e n hb hx => ?_, fun b o e n hb hx => ?_, I.base.free, fun b o e hx => ?_, I.base.tups, I.base.frzs, I.base.tbls⟩, ⟨_, hn', fun j y v' e1 e2 e3 => ?_⟩, fun y c e => ?_, I.free, I.freeC, fun p hp => ?_, tracked ⟨oL, hoL, I.free⟩ hs, by simpa using I.len⟩ ⟨_, hs, .inl rfl⟩
    · exact (hs.2 b (Nat.ne_of_lt (Nat.lt_of_lt_of_le (Heap.lt_size e) I.ok.above))).trans (I.base.keep b o e n hb hx)
    · obtain ⟨sl, e1⟩ := I.base.slot b o e n hb hx
      exact ⟨sl, (hs.2 b (Nat.ne_of_lt (Nat.lt_of_lt_of_le (Heap.lt_size e) I.ok.above))).trans e1⟩
    · obtain ⟨o', e1⟩ := I.base.there b o e hx
      exact ⟨o', (hs.2 b (Nat.ne_of_lt (Nat.lt_of_lt_of_le (Heap.lt_size e) I.ok.above))).trans e1⟩
    · by_cases hj : j = i
      · subst hj
        rw [hi] at e1; cases e1
        rw [List.getElem?_set_self hiσ] at e2
        cases e2
        exact ⟨u, r, .inl ⟨hk, by simp⟩⟩
      · rw [List.getElem?_set_ne (Ne.symm hj)] at e2
        obtain ⟨u', r', q⟩ := hl j y v' e1 e2 e3
        refine ⟨u', r', ?_⟩
        rcases q with ⟨k, e⟩ | ⟨k, c, e, z⟩
        · refine .inl ⟨k, ?_⟩
          have : y ≠ x := fun e => hj (nodup_ix hN e1 (e ▸ hi))
          simp [this, e]
        · exact .inr ⟨k, c, e, z.sameBut hs (cne y c e)⟩
    · obtain ⟨w', z⟩ := I.cell y c e
      exact ⟨w', z.sameBut hs (cne y c e)⟩
    · obtain ⟨e, n, ne, nf, d⟩ := I.pin p hp
      exact ⟨(hs.2 p.1 ne).trans e, n, ne, nf, d⟩
  · have hfn : X.fn x = true := by
      rcases hf with z | z
      · exact z
      · rw [z] at hk; cases hk
    obtain ⟨c, hc⟩ := I.ok.has x (.inl hk)
    obtain ⟨w', z⟩ := I.cell x c hc
    refine wpAny_storeName_cell I.ok.kind hk hc z (fun h' hc' hs => ?_)
    obtain ⟨oc, hoc, hocd⟩ := id z
    refine h { s with heap := h' } ⟨I.ok, I.os, I.bare, ⟨fun b o e n hb hx => ?_, fun b o e n hb hx => ?_, I.base.free, fun b o e hx => ?_, I.base.tups, I.base.frzs, I.base.tbls⟩, ⟨m, hn.sameBut hs (Ne.symm (cne x c hc)), fun j y v' e1 e2 e3 => ?_⟩, fun y c' e => ?_, I.free, I.freeC, fun p hp => ?_, tracked ⟨oc, hoc, I.freeC x c hc⟩ hs, by simpa using I.len⟩ ⟨c, hs, .inr hc⟩
    · exact (hs.2 b (Nat.ne_of_lt (Nat.lt_of_lt_of_le (Heap.lt_size e) (I.ok.cab x c hfn hc)))).trans (I.base.keep b o e n hb hx)
    · obtain ⟨sl, e1⟩ := I.base.slot b o e n hb hx
      exact ⟨sl, (hs.2 b (Nat.ne_of_lt (Nat.lt_of_lt_of_le (Heap.lt_size e) (I.ok.cab x c hfn hc)))).trans e1⟩
    · obtain ⟨o', e1⟩ := I.base.there b o e hx
      exact ⟨o', (hs.2 b (Nat.ne_of_lt (Nat.lt_of_lt_of_le (Heap.lt_size e) (I.ok.cab x c hfn hc)))).trans e1⟩
    · by_cases hj : j = i
      · subst hj
        rw [hi] at e1; cases e1
        rw [List.getElem?_set_self hiσ] at e2
        cases e2
        exact ⟨u, r, .inr ⟨.inl hk, c, hc, hc'⟩⟩
      · rw [List.getElem?_set_ne (Ne.symm hj)] at e2
        obtain ⟨u', r', q⟩ := hl j y v' e1 e2 e3
        refine ⟨u', r', ?_⟩
        rcases q with q | ⟨k, c', e, z'⟩
        · exact .inl q
        · refine .inr ⟨k, c', e, z'.sameBut hs ?_⟩
          rintro rfl
          exact hj (nodup_ix hN e1 (I.ok.inj _ _ _ e hc ▸ hi))
    · by_cases hcc : c' = c
      · subst hcc; exact ⟨_, hc'⟩
      · obtain ⟨w2, z2⟩ := I.cell y c' e
        exact ⟨w2, z2.sameBut hs hcc⟩
    · obtain ⟨e, n, ne, nf, d⟩ := I.pin p hp
      refine ⟨(hs.2 p.1 ?_).trans e, n, ne, nf, d⟩
      intro q
      rw [q, hoc] at e
      have q' : oc = p.2 := Option.some.inj e
      exact d w' (by rw [← q']; exact hocd)
theorem store_ok {M : Model} {A : Around} {E : Value → Shared → Prop} {i : Nat} {x : Str} {v : V} {u : Value} {Q : Unit → Shared → Prop} (I : Inv X pins σ H s) (hN : X.N.Nodup) (hi : X.N[i]? = some x) (hx : Loc X.env.scope x) (r : RelV v u)
    (h : ∀ s', Inv X pins (σ.set i (some v)) H s' → Q () s') (hf : X.fn x = true ∨ X.env.scope.names.lookup x = some .local := by first | exact .inl rfl | exact .inr rfl | assumption) : wpAny M A (storeName X.env x u) Q E s :=
  store_ok2 I hN hi hx r (fun s' I' _ => h s' I') hf
/-- behind a call or a block, the state as it is -/
theorem Inv.call' {s' : Shared} {ch : List Addr} (I : Inv X pins σ H s) (ho : s'.os = s.os) (u : Un (frs X.stack) ch H H' s.heap s'.heap) (hok : HOk X.prog X.w H' s'.heap) (hg : AllBare s'.gens)
    (hch : ∀ b ∈ ch, (b ∈ X.ex ∨ X.s₀.heap.objs.size ≤ b) ∧ b ≠ X.env.locals ∧ (∀ x c, X.env.cells.lookup x = some c → c ≠ b) ∧ ∀ p ∈ X.pn ++ pins, p.1 ≠ b) : Inv X pins σ H' s' := by
  obtain ⟨h', g', d', t', o'⟩ := s'
  have e : o' = s.os := ho
  subst e
  exact I.call (g' := g') (t' := t') (d' := d') u hok hg hch
end

/-! ### the judgements -/
/-- an exception: its class, its own dict's address (where it has one), the abstract heap behind it -/
abbrev XK := Value → Option Addr → Hp → Prop
abbrev St := List (Option V)
abbrev VK := V → Hp → Prop
/-- an expression's reading; a test's; an argument list's -/
abbrev TE := St → Hp → VK → Prop
abbrev TT := St → Hp → (Bool → Hp → Prop) → Prop
abbrev TA := St → Hp → (List V → Hp → Prop) → Prop
/-- what is wanted behind a statement -/
structure Ends where
  nx : St → Hp → Prop
  rt : VK
  bk : St → Hp → Prop := fun _ _ => False
  ct : St → Hp → Prop := fun _ _ => False
abbrev TS := Ends → St → Hp → Prop

def EP (X : Cx) (pins : List (Addr × Obj)) (σ : St) (Q : VK) (u : Value) (s' : Shared) : Prop := ∃ v H', Inv X pins σ H' s' ∧ RelV v u ∧ Q v H'
def TP (X : Cx) (pins : List (Addr × Obj)) (σ : St) (Q : Bool → Hp → Prop) (b : Bool) (s' : Shared) : Prop := ∃ H', Inv X pins σ H' s' ∧ Q b H'
def AP (X : Cx) (pins : List (Addr × Obj)) (σ : St) (Q : List V → Hp → Prop) (us : List Value) (s' : Shared) : Prop := ∃ vs H', Inv X pins σ H' s' ∧ Vals vs us ∧ Q vs H'
def SP (X : Cx) (pins : List (Addr × Obj)) (D : Ends) (f : Flow) (s' : Shared) : Prop :=
  match f with
  | .next => ∃ σ' H', Inv X pins σ' H' s' ∧ D.nx σ' H'
  | .brk => ∃ σ' H', Inv X pins σ' H' s' ∧ D.bk σ' H'
  | .cont => ∃ σ' H', Inv X pins σ' H' s' ∧ D.ct σ' H'
  | .ret u => ∃ v σ' H', Inv X pins σ' H' s' ∧ RelV v u ∧ D.rt v H'

def PE (X : Cx) (e : Expr) (t : TE) : Prop :=
  ∀ (pins : List (Addr × Obj)) (s : Shared) (σ : St) (H : Hp) (Q : VK), Inv X pins σ H s → t σ H Q → wpAny (model X.prog X.w) X.A (eval e X.env) (EP X pins σ Q) X.xe s
def PT (X : Cx) (e : Expr) (t : TT) : Prop :=
  ∀ (pins : List (Addr × Obj)) (s : Shared) (σ : St) (H : Hp) (Q : Bool → Hp → Prop), Inv X pins σ H s → t σ H Q → wpAny (model X.prog X.w) X.A (isTrue e X.env (eval e X.env)) (TP X pins σ Q) X.xe s
/-- a test whatever its 'whole' is (and, or) -/
def PW (X : Cx) (e : Expr) (t : TT) : Prop :=
  ∀ (whole : Sem Value) (pins : List (Addr × Obj)) (s : Shared) (σ : St) (H : Hp) (Q : Bool → Hp → Prop), Inv X pins σ H s → t σ H Q → wpAny (model X.prog X.w) X.A (isTrue e X.env whole) (TP X pins σ Q) X.xe s
theorem PW.pt {X : Cx} {e : Expr} {t : TT} (h : PW X e t) : PT X e t := h _
/-- an argument list (no star), from the left -/
def PA (X : Cx) (es : List Expr) (t : TA) : Prop :=
  ∀ (pos : Pos) (pins : List (Addr × Obj)) (s : Shared) (σ : St) (H : Hp) (Q : List V → Hp → Prop), Inv X pins σ H s → t σ H Q → wpAny (model X.prog X.w) X.A (spliced (backTo pos (starEach es X.env))) (AP X pins σ Q) X.xe s
def PS (X : Cx) (st : Stmt) (t : TS) : Prop :=
  ∀ (pins : List (Addr × Obj)) (s : Shared) (σ : St) (H : Hp) (D : Ends), Inv X pins σ H s → t D σ H → wpAny (model X.prog X.w) X.A (exec st X.env) (SP X pins D) X.xe s
def PSs (X : Cx) (st : List Stmt) (t : TS) : Prop :=
  ∀ (pins : List (Addr × Obj)) (s : Shared) (σ : St) (H : Hp) (D : Ends), Inv X pins σ H s → t D σ H → wpAny (model X.prog X.w) X.A (execs st X.env) (SP X pins D) X.xe s
/-- weaken the end -/
theorem thn {α : Type} {t : Sem α} {Q Q' : α → Shared → Prop} {M : Model} {A : Around} {E : Value → Shared → Prop} {s : Shared} (h : wpAny M A t Q E s) (hQ : ∀ a s, Q a s → Q' a s) : wpAny M A t Q' E s := wpAny_mono h hQ fun _ _ x => x
end L2

namespace L2
open PySem PySem.Spec PyProof.Rows
section
variable {X : Cx}

/-- two expressions in a row -/
theorem bin {a b : Expr} {ta tb : TE} (ha : PE X a ta) (hb : PE X b tb) {pins : List (Addr × Obj)} {s : Shared} {σ : St} {H : Hp} {R : V → V → Hp → Prop} (I : Inv X pins σ H s) (h : ta σ H fun x H1 => tb σ H1 fun y H2 => R x y H2)
    {α : Type} {Q : α → Shared → Prop} {f : Value → Value → Sem α}
    (hf : ∀ v u s2 x y H2, Inv X pins σ H2 s2 → RelV x v → RelV y u → R x y H2 → wpAny (model X.prog X.w) X.A (f v u) Q X.xe s2) :
    wpAny (model X.prog X.w) X.A (eval a X.env) (fun v s₁ => wpAny (model X.prog X.w) X.A (eval b X.env) (fun u s₂ => wpAny (model X.prog X.w) X.A (f v u) Q X.xe s₂) X.xe s₁) X.xe s := by
  refine thn (ha pins s σ H _ I h) fun v s1 ⟨x, H1, I1, r1, q1⟩ => ?_
  refine thn (hb pins s1 σ H1 _ I1 q1) fun u s2 ⟨y, H2, I2, r2, q2⟩ => ?_
  exact hf v u s2 x y H2 I2 r1 r2 q2

/-! ### names and constants -/
def tVar (i : Nat) : TE := fun σ H Q => ∃ v, σ[i]? = some (some v) ∧ Q v H
def tC (v : V) : TE := fun _ H Q => Q v H
theorem pe_var {i : Nat} {x : Str} {pos : Pos} (hN : X.N[i]? = some x) (hv : Vis X.env.scope x) (hd : (x == ("__debug__" : Str)) = false := by decide) (hcd : (x == ("__classdict__" : Str)) = false := by decide) : PE X (.Name x pos) (tVar i) := by
  intro pins s σ H Q I h
  obtain ⟨v, e, h⟩ := h
  obtain ⟨m, hn, hl⟩ := I.loc
  obtain ⟨u, r, l⟩ := hl i x v hN e hv
  have fin : EP X pins σ Q u s := ⟨v, H, I, r, h⟩
  rcases l with ⟨hk, hm⟩ | ⟨hk, c, hc, hcell⟩
  · exact wpAny_Name (wpAny_loadName_local I.ok.kind hk hn hm fin) hd
  · rcases hk with hk | hk
    · exact wpAny_Name (wpAny_loadName_cell I.ok.kind hk hc hcell fin) hd
    · exact wpAny_Name (wpAny_loadName_free I.ok.kind hk hc hcell fin hcd) hd
theorem pe_int {i j pos} : PE X (.Constant (.int i) j pos) (tC (.int i)) := fun _ _ _ H _ I h => wpAny_Constant_int ⟨.int i, H, I.tok _, ⟨_, rfl⟩, h⟩
theorem pe_bl {b j pos} : PE X (.Constant (.bool b) j pos) (tC (.bl b)) := fun _ _ _ H _ I h => Constant_bool ⟨.bl b, H, I, rfl, h⟩
theorem pe_non {j pos} : PE X (.Constant .none j pos) (tC .non) := fun _ _ _ H _ I h => Constant_none ⟨.non, H, I, rfl, h⟩
theorem pe_str {x j pos} : PE X (.Constant (.str x) j pos) (tC (.str x)) := fun _ _ _ H _ I h => Calls.Constant_str ⟨.str x, H, I.tok _, ⟨_, rfl⟩, h⟩

/-- a global name of the def -/
def Gl (X : Cx) (x : Str) : Prop := X.env.kindOf x = some .globalImplicit
theorem ld_glob {E : Value → Shared → Prop} {pins : List (Addr × Obj)} {s : Shared} {σ : St} {H : Hp} {x : Str} {u : Value} {pos : Pos} {Q : Value → Shared → Prop} (I : Inv X pins σ H s) (hg : Gl X x) (hm : X.mg x = some u) (h : Q u s)
    (hd : (x == ("__debug__" : Str)) = false := by decide) : wpAny (model X.prog X.w) X.A (eval (.Name x pos) X.env) Q E s :=
  Calls.Name_function_global I.ok.kind hg (Calls.loadGlobal_global (by rw [I.ok.glob]; exact I.mod.glob.keeps I.bk) hm h) hd
theorem ld_blt {E : Value → Shared → Prop} {pins : List (Addr × Obj)} {s : Shared} {σ : St} {H : Hp} {x : Str} {u : Value} {pos : Pos} {Q : Value → Shared → Prop} (I : Inv X pins σ H s) (hg : Gl X x) (hm : X.mg x = none) (hv : bootBuiltins x = some u) (h : Q u s)
    (hn : x ≠ "__name__" := by decide) (hd : (x == ("__debug__" : Str)) = false := by decide) : wpAny (model X.prog X.w) X.A (eval (.Name x pos) X.env) Q E s := by
  obtain ⟨mb, h1, h2⟩ := I.mod.blt
  exact Calls.Name_function_global I.ok.kind hg (Calls.loadGlobal_builtin (by rw [I.ok.glob]; exact I.mod.glob.keeps I.bk) hm (by rw [I.ok.blt]; exact h1.keeps I.bk) ((h2 x hn).trans hv) h) hd
/-- a module's constant, a class, a function, as a value -/
theorem pe_glob {x : Str} {v : V} {u : Value} {pos : Pos} (hg : Gl X x) (hm : X.mg x = some u) (r : RelV v u) (hd : (x == ("__debug__" : Str)) = false := by decide) : PE X (.Name x pos) (tC v) :=
  fun _ _ _ H _ I h => ld_glob I hg hm ⟨v, H, I, r, h⟩ hd
theorem pe_bltn {x : Str} {v : V} {u : Value} {pos : Pos} (hg : Gl X x) (hm : X.mg x = none) (hv : bootBuiltins x = some u) (r : RelV v u) (hn : x ≠ "__name__" := by decide) (hd : (x == ("__debug__" : Str)) = false := by decide) : PE X (.Name x pos) (tC v) :=
  fun _ _ _ H _ I h => ld_blt I hg hm hv ⟨v, H, I, r, h⟩ hn hd

/-! ### arithmetic -/
/-- two ints -/
def t2I (ta tb : TE) (k : Int → Int → Hp → Prop) : St → Hp → Prop := fun σ H => ta σ H fun x H1 => tb σ H1 fun y H2 => ∃ i j, x = .int i ∧ y = .int j ∧ k i j H2
def tAdd (ta tb : TE) : TE := fun σ H Q => t2I ta tb (fun i j H2 => Q (.int (i + j)) H2) σ H
def tSub (ta tb : TE) : TE := fun σ H Q => t2I ta tb (fun i j H2 => Q (.int (i - j)) H2) σ H
/-- the left factor below 2^64 -/
def tMul (ta tb : TE) : TE := fun σ H Q => t2I ta tb (fun i j H2 => (-(2 ^ 64) < i ∧ i < 2 ^ 64) ∧ Q (.int (i * j)) H2) σ H
variable {a b : Expr} {ta tb : TE} {pos : Pos}
theorem pe_add (ha : PE X a ta) (hb : PE X b tb) : PE X (.BinOp a .Add b pos) (tAdd ta tb) := by
  intro pins s σ H Q I h
  refine wpAny_BinOp (bin ha hb I h fun v u s2 x y H2 I2 rx ry q => ?_)
  obtain ⟨i, j, rfl, rfl, q⟩ := q
  obtain ⟨t, rfl⟩ := rx
  obtain ⟨t', rfl⟩ := ry
  exact add_int ⟨.int _, H2, I2.tok _, ⟨_, rfl⟩, q⟩
theorem pe_sub (ha : PE X a ta) (hb : PE X b tb) : PE X (.BinOp a .Sub b pos) (tSub ta tb) := by
  intro pins s σ H Q I h
  refine wpAny_BinOp (bin ha hb I h fun v u s2 x y H2 I2 rx ry q => ?_)
  obtain ⟨i, j, rfl, rfl, q⟩ := q
  obtain ⟨t, rfl⟩ := rx
  obtain ⟨t', rfl⟩ := ry
  exact sub_int ⟨.int _, H2, I2.tok _, ⟨_, rfl⟩, q⟩
theorem pe_mul (ha : PE X a ta) (hb : PE X b tb) : PE X (.BinOp a .Mult b pos) (tMul ta tb) := by
  intro pins s σ H Q I h
  refine wpAny_BinOp (bin ha hb I h fun v u s2 x y H2 I2 rx ry q => ?_)
  obtain ⟨i, j, rfl, rfl, ⟨q1, q2⟩, q⟩ := q
  obtain ⟨t, rfl⟩ := rx
  obtain ⟨t', rfl⟩ := ry
  exact mul_int ⟨.int _, H2, I2.tok _, ⟨_, rfl⟩, q⟩ (.of_left (intBits_le_64 q1 q2))

/-! ### comparisons -/
def PC (X : Cx) (op : CmpOp) (a b : Expr) (t : TE) : Prop :=
  ∀ (pins : List (Addr × Obj)) (s : Shared) (σ : St) (H : Hp) (Q : VK), Inv X pins σ H s → t σ H Q →
    wpAny (model X.prog X.w) X.A (eval a X.env) (fun v s₁ => wpAny (model X.prog X.w) X.A (eval b X.env) (fun u s₂ => wpAny (model X.prog X.w) X.A (compareOp op v u) (EP X pins σ Q) X.xe s₂) X.xe s₁) X.xe s
theorem nobehind (b : Expr) {op : CmpOp} (h : op ≠ .In) (h2 : op ≠ .NotIn) : behindInMarks op b = false := by
  have e1 : (op == CmpOp.In) = false := by cases op <;> first | rfl | exact absurd rfl h
  have e2 : (op == CmpOp.NotIn) = false := by cases op <;> first | rfl | exact absurd rfl h2
  cases b <;> simp [behindInMarks, e1, e2]
def tCmp (p : Int → Int → Bool) (ta tb : TE) : TE := fun σ H Q => t2I ta tb (fun i j H2 => Q (.bl (p i j)) H2) σ H
abbrev tLt : TE → TE → TE := tCmp fun i j => decide (i < j)
abbrev tLe : TE → TE → TE := tCmp fun i j => decide (i ≤ j)
abbrev tGt : TE → TE → TE := tCmp fun i j => decide (j < i)
abbrev tGe : TE → TE → TE := tCmp fun i j => decide (j ≤ i)
abbrev tEqI : TE → TE → TE := tCmp fun i j => decide (i = j)
abbrev tNeI : TE → TE → TE := tCmp fun i j => !decide (i = j)
/-- a comparison of two ints, by its rule -/
theorem pc_int {op : CmpOp} {p : Int → Int → Bool} (ha : PE X a ta) (hb : PE X b tb)
    (rule : ∀ (i j : Int) (t u : Tok) (Q : Value → Shared → Prop) (s : Shared), Q (.bool (p i j)) s → wpAny (model X.prog X.w) X.A (compareOp op (.int i t) (.int j u)) Q X.xe s) : PC X op a b (tCmp p ta tb) := by
  intro pins s σ H Q I h
  refine bin ha hb I h fun v u s2 x y H2 I2 rx ry q => ?_
  obtain ⟨i, j, rfl, rfl, q⟩ := q
  obtain ⟨t, rfl⟩ := rx
  obtain ⟨t', rfl⟩ := ry
  exact rule i j t t' _ s2 ⟨.bl _, H2, I2, rfl, q⟩
theorem pc_lt (ha : PE X a ta) (hb : PE X b tb) : PC X .Lt a b (tLt ta tb) := pc_int ha hb fun _ _ _ _ _ _ h => lt_int h
theorem pc_le (ha : PE X a ta) (hb : PE X b tb) : PC X .LtE a b (tLe ta tb) := pc_int ha hb fun _ _ _ _ _ _ h => le_int h
theorem pc_gt (ha : PE X a ta) (hb : PE X b tb) : PC X .Gt a b (tGt ta tb) := pc_int ha hb fun _ _ _ _ _ _ h => gt_int h
theorem pc_ge (ha : PE X a ta) (hb : PE X b tb) : PC X .GtE a b (tGe ta tb) := pc_int ha hb fun _ _ _ _ _ _ h => ge_int h
theorem pc_eqI (ha : PE X a ta) (hb : PE X b tb) : PC X .Eq a b (tEqI ta tb) := pc_int ha hb fun _ _ _ _ _ _ h => eq_int (by rw [Bool.beq_eq_decide_eq]; exact h)
theorem pc_neI (ha : PE X a ta) (hb : PE X b tb) : PC X .NotEq a b (tNeI ta tb) := pc_int ha hb fun _ _ _ _ _ _ h => ne_int (by rw [bne, Bool.beq_eq_decide_eq]; exact h)
/-- is None -/
def tIsN (ta : TE) : TE := fun σ H Q => ta σ H fun x H1 => Q (.bl (decide (x = .non))) H1
def tNotN (ta : TE) : TE := fun σ H Q => ta σ H fun x H1 => Q (.bl (!decide (x = .non))) H1
theorem RelV.none_iff {x : V} {v : Value} (r : RelV x v) : (v == Value.none) = decide (x = .non) := by
  cases x with
  | non => cases r; rfl
  | bl _ => cases r; rfl
  | int _ => obtain ⟨t, rfl⟩ := r; rfl
  | str _ => obtain ⟨t, rfl⟩ := r; rfl
  | byt _ => obtain ⟨t, rfl⟩ := r; rfl
  | flt _ => obtain ⟨t, rfl⟩ := r; rfl
  | ref _ => cases r; rfl
  | ty _ => cases r; rfl
theorem pc_isN {j pos'} (ha : PE X a ta) : PC X .Is a (.Constant .none j pos') (tIsN ta) := by
  intro pins s σ H Q I h
  refine thn (ha pins s σ H _ I h) fun v s1 ⟨x, H1, I1, r1, q1⟩ => ?_
  exact Constant_none (is_none_gen ⟨.bl _, H1, I1, by rw [r1.none_iff]; rfl, q1⟩)
theorem pc_notN {j pos'} (ha : PE X a ta) : PC X .IsNot a (.Constant .none j pos') (tNotN ta) := by
  intro pins s σ H Q I h
  refine thn (ha pins s σ H _ I h) fun v s1 ⟨x, H1, I1, r1, q1⟩ => ?_
  exact Constant_none (isnot_none_gen ⟨.bl _, H1, I1, by rw [r1.none_iff]; rfl, q1⟩)
/-- a comparison as a value, as a test -/
def tB (t : TE) : TT := fun σ H Q => t σ H fun x H1 => ∃ c, x = .bl c ∧ Q c H1
theorem pe_cmp {op : CmpOp} {t : TE} (h : PC X op a b t) (h1 : behindInMarks op b = false := by first | exact nobehind _ (by decide) (by decide) | rfl) : PE X (.Compare a [op] [b] pos) t := fun pins s σ H Q I hw => wpAny_Compare1 (h pins s σ H Q I hw) h1
theorem pt_cmp {op : CmpOp} {t : TE} (h : PC X op a b t) (h1 : behindInMarks op b = false := by first | exact nobehind _ (by decide) (by decide) | rfl) : PT X (.Compare a [op] [b] pos) (tB t) := by
  intro pins s σ H Q I hw
  refine wpAny_isTrue_Compare1 (thn (h pins s σ H _ I hw) fun v s1 h1 => thn h1 fun u s2 h2 => thn h2 fun c s3 ⟨x, H1, I1, r1, q1⟩ => ?_) h1
  obtain ⟨d, rfl, q⟩ := q1
  cases r1
  exact wpAny_truthy_bool ⟨H1, I1, q⟩
/-- an expression whose value is a bool, as a test -/
theorem pt_val {e : Expr} {t : TE} (h : PE X e t) (he : ∀ whole, isTrue e X.env whole = (do let v ← whole; standAt e.pos; holding [v] (truthy v)) := by intro _; rfl) : PT X e (tB t) := by
  intro pins s σ H Q I hw
  refine isTrue_plain (thn (h pins s σ H _ I hw) fun v s1 ⟨x, H1, I1, r1, q1⟩ => ?_) (he _)
  obtain ⟨d, rfl, q⟩ := q1
  cases r1
  exact wpAny_truthy_bool ⟨H1, I1, q⟩

/-! ### and, or, not -/
variable {tA tB' : TT} {rest : List Expr}
def tAnd (t u : TT) : TT := fun σ H Q => t σ H fun c H1 => if c = true then u σ H1 Q else Q false H1
def tOr (t u : TT) : TT := fun σ H Q => t σ H fun c H1 => if c = true then Q true H1 else u σ H1 Q
def tNot (t : TT) : TT := fun σ H Q => t σ H fun c H1 => Q (!c) H1
theorem pw_and1 (ha : PT X a tA) : PW X (.BoolOp .And [a] pos) tA := by
  intro wh pins s σ H Q I h
  refine isTrue_and (thn (ha pins s σ H Q I h) fun c s1 e => ?_)
  cases c with
  | true => exact isTrue_and_nil e
  | false => exact e
theorem pw_or1 (ha : PT X a tA) : PW X (.BoolOp .Or [a] pos) tA := by
  intro wh pins s σ H Q I h
  refine isTrue_or (thn (ha pins s σ H Q I h) fun c s1 e => ?_)
  cases c with
  | false => exact isTrue_or_nil e
  | true => exact e
theorem pw_and (ha : PT X a tA) (hb : PW X (.BoolOp .And (b :: rest) pos) tB') : PW X (.BoolOp .And (a :: b :: rest) pos) (tAnd tA tB') := by
  intro wh pins s σ H Q I h
  refine isTrue_and (thn (ha pins s σ H _ I h) fun c s1 ⟨H1, I1, q1⟩ => ?_)
  cases c with
  | true => exact hb wh pins s1 σ H1 Q I1 q1
  | false => exact ⟨H1, I1, q1⟩
theorem pw_or (ha : PT X a tA) (hb : PW X (.BoolOp .Or (b :: rest) pos) tB') : PW X (.BoolOp .Or (a :: b :: rest) pos) (tOr tA tB') := by
  intro wh pins s σ H Q I h
  refine isTrue_or (thn (ha pins s σ H _ I h) fun c s1 ⟨H1, I1, q1⟩ => ?_)
  cases c with
  | true => exact ⟨H1, I1, q1⟩
  | false => exact hb wh pins s1 σ H1 Q I1 q1
theorem pt_not (ha : PT X a tA) : PT X (.UnaryOp .Not a pos) (tNot tA) := by
  intro pins s σ H Q I h
  exact isTrue_not (ha pins s σ H (fun c H1 => Q (!c) H1) I h)
/-- .. as values (bools) -/
def tAndV (ta tb : TE) : TE := fun σ H Q => ta σ H fun x H1 => ∃ c, x = .bl c ∧ if c = true then tb σ H1 Q else Q (.bl false) H1
def tOrV (ta tb : TE) : TE := fun σ H Q => ta σ H fun x H1 => ∃ c, x = .bl c ∧ if c = true then Q (.bl true) H1 else tb σ H1 Q
def tNotV (ta : TE) : TE := fun σ H Q => ta σ H fun x H1 => ∃ c, x = .bl c ∧ Q (.bl (!c)) H1
theorem pe_one {op} {t : TE} (h : PE X a t) : PE X (.BoolOp op [a] pos) t := fun pins s σ H Q I hw => BoolOp_one (h pins s σ H Q I hw)
theorem pe_and (ha : PE X a ta) (hb : PE X (.BoolOp .And (b :: rest) pos) tb) : PE X (.BoolOp .And (a :: b :: rest) pos) (tAndV ta tb) := by
  intro pins s σ H Q I h
  refine BoolOp_and (thn (ha pins s σ H _ I h) fun v s1 ⟨x, H1, I1, r1, q1⟩ => ?_)
  obtain ⟨c, rfl, q1⟩ := q1
  cases r1
  refine wpAny_truthy_bool ?_
  cases c with
  | true => exact hb pins s1 σ H1 Q I1 q1
  | false => exact ⟨.bl false, H1, I1, rfl, q1⟩
theorem pe_or (ha : PE X a ta) (hb : PE X (.BoolOp .Or (b :: rest) pos) tb) : PE X (.BoolOp .Or (a :: b :: rest) pos) (tOrV ta tb) := by
  intro pins s σ H Q I h
  refine BoolOp_or (thn (ha pins s σ H _ I h) fun v s1 ⟨x, H1, I1, r1, q1⟩ => ?_)
  obtain ⟨c, rfl, q1⟩ := q1
  cases r1
  refine wpAny_truthy_bool ?_
  cases c with
  | false => exact hb pins s1 σ H1 Q I1 q1
  | true => exact ⟨.bl true, H1, I1, rfl, q1⟩
theorem pe_not (ha : PE X a ta) : PE X (.UnaryOp .Not a pos) (tNotV ta) := by
  intro pins s σ H Q I h
  refine UnaryOp_ (thn (ha pins s σ H _ I h) fun v s1 ⟨x, H1, I1, r1, q1⟩ => ?_)
  obtain ⟨c, rfl, q1⟩ := q1
  cases r1
  exact not_of (wpAny_truthy_bool ⟨.bl (!c), H1, I1, rfl, q1⟩)
/-- a if t else b -/
def tIf (t : TT) (ta tb : TE) : TE := fun σ H Q => t σ H fun c H1 => if c = true then ta σ H1 Q else tb σ H1 Q
theorem pe_ifExp {c : Expr} (hc : PT X c tA) (ha : PE X a ta) (hb : PE X b tb) : PE X (.IfExp c a b pos) (tIf tA ta tb) := by
  intro pins s σ H Q I h
  refine wpAny_IfExp (thn (hc pins s σ H _ I h) fun d s1 ⟨H1, I1, q1⟩ => ?_)
  cases d with
  | true => exact ha pins s1 σ H1 Q I1 q1
  | false => exact hb pins s1 σ H1 Q I1 q1
end
end L2

namespace L2
open PySem PySem.Spec PyProof.Rows

/-! ### a list, a tuple that is read: tracked, frozen, or an object of the module -/
def SqL (K : PySem.W.Frag) (H : Hp) (a : Addr) (xs : List V) : Prop :=
  Rd H a (.lst xs) ∨
    ∃ (o : Obj) (its : Array Value) (n : Nat), K.lookup a = some o ∧ o.cls = .type "list" ∧ o.dict = none ∧ o.data = .seq its n ∧ its.size ≤ sizeLine ∧ Vals xs its.toList
def SqT (K : PySem.W.Frag) (H : Hp) (a : Addr) (xs : List V) : Prop :=
  Rd H a (.tup xs) ∨
    ∃ (o : Obj) (its : Array Value) (n : Nat), K.lookup a = some o ∧ o.cls = .type "tuple" ∧ o.data = .seq its n ∧ its.size ≤ sizeLine ∧ Vals xs its.toList
def absV : Value → Option V
  | .none => some .non
  | .bool b => some (.bl b)
  | .int i _ => some (.int i)
  | .str x _ => some (.str x)
  | .bytes b _ => some (.byt b)
  | .float b _ => some (.flt b)
  | .ref a => some (.ref a)
  | .type n => some (.ty n)
  | _ => none
theorem RelV.abs {x : V} {u : Value} (r : RelV x u) : absV u = some x := by
  cases x with
  | non => cases r; rfl
  | bl _ => cases r; rfl
  | int _ => obtain ⟨t, rfl⟩ := r; rfl
  | str _ => obtain ⟨t, rfl⟩ := r; rfl
  | byt _ => obtain ⟨t, rfl⟩ := r; rfl
  | flt _ => obtain ⟨t, rfl⟩ := r; rfl
  | ref _ => cases r; rfl
  | ty _ => cases r; rfl
theorem RelV.inj {x y : V} {u : Value} (r : RelV x u) (q : RelV y u) : x = y := Option.some.inj (r.abs.symm.trans q.abs)
theorem Vals.inj : ∀ {xs ys : List V} {us : List Value}, Vals xs us → Vals ys us → xs = ys
  | _, _, _, .nil, .nil => rfl
  | _, _, _, .cons r t, .cons r' t' => by rw [r.inj r', Vals.inj t t']
section
variable {X : Cx} {pins : List (Addr × Obj)} {σ : St} {H : Hp} {s : Shared} {a : Addr} {xs ys : List V}
theorem SqL.of {K : PySem.W.Frag} (h : H a = some (.lst xs)) : SqL K H a xs := .inl (.inl h)
theorem SqT.of {K : PySem.W.Frag} (h : H a = some (.tup xs)) : SqT K H a xs := .inl (.inl h)
theorem Inv.list (I : Inv X pins σ H s) (h : SqL X.K H a xs) : ∃ its : List Value, Vals xs its ∧ PlainL s.heap a its.toArray ∧ xs.length ≤ sizeLine := by
  rcases h with h | ⟨o, its, n, hk, hc, hd, hs, hz, r⟩
  · obtain ⟨z, its, n, r, e⟩ := h.ok I.hok
    exact ⟨its, r, ⟨_, n, e, rfl, rfl, rfl⟩, z⟩
  · refine ⟨its.toList, r, ⟨o, n, I.kIn a o hk, hc, hd, by simpa using hs⟩, ?_⟩
    have e := r.length
    simp only [Array.length_toList] at e
    omega
theorem Inv.tuple (I : Inv X pins σ H s) (h : SqT X.K H a xs) : ∃ its : List Value, Vals xs its ∧ IsTup s.heap a its.toArray ∧ xs.length ≤ sizeLine := by
  rcases h with h | ⟨o, its, n, hk, hc, hs, hz, r⟩
  · obtain ⟨z, its, r, p⟩ := h.ok I.hok
    exact ⟨its, r, p, z⟩
  · refine ⟨its.toList, r, ⟨o, I.kIn a o hk, hc, n, by simpa using hs⟩, ?_⟩
    have e := r.length
    simp only [Array.length_toList] at e
    omega
theorem Inv.list_inj (I : Inv X pins σ H s) (h : SqL X.K H a xs) (h' : SqL X.K H a ys) : xs = ys := by
  obtain ⟨its, r, ⟨o, n, e, _, _, d⟩, _⟩ := I.list h
  obtain ⟨its', r', ⟨o', n', e', _, _, d'⟩, _⟩ := I.list h'
  rw [e] at e'; cases e'
  rw [d] at d'
  injection d' with d1 _
  have : its = its' := by simpa using congrArg Array.toList d1
  subst this
  exact r.inj r'
theorem Inv.tuple_inj (I : Inv X pins σ H s) (h : SqT X.K H a xs) (h' : SqT X.K H a ys) : xs = ys := by
  obtain ⟨its, r, ⟨o, e, _, n, d⟩, _⟩ := I.tuple h
  obtain ⟨its', r', ⟨o', e', _, n', d'⟩, _⟩ := I.tuple h'
  rw [e] at e'; cases e'
  rw [d] at d'
  injection d' with d1 _
  have : its = its' := by simpa using congrArg Array.toList d1
  subst this
  exact r.inj r'
end

/-! ### another wish about exceptions -/
abbrev Cx.wish (X : Cx) (E : Value → Shared → Prop) : Cx := { X with xe := E }
/-- no exception leaves -/
abbrev Cx.nox (X : Cx) : Cx := X.wish fun _ _ => False
theorem Cx.Ok.wish {X : Cx} (ok : X.Ok) (E : Value → Shared → Prop) : (X.wish E).Ok :=
  ⟨ok.mod, ok.kind, ok.glob, ok.blt, ok.above, ok.inj, ok.has, ok.cab, ok.hd, ok.frames, ok.stk, ok.exf, ok.bs, ok.bsz, ok.noex, ok.exfs, ok.funs, ok.frf⟩
theorem Cx.Ok.unwish {X : Cx} {E : Value → Shared → Prop} (ok : (X.wish E).Ok) : X.Ok :=
  ⟨ok.mod, ok.kind, ok.glob, ok.blt, ok.above, ok.inj, ok.has, ok.cab, ok.hd, ok.frames, ok.stk, ok.exf, ok.bs, ok.bsz, ok.noex, ok.exfs, ok.funs, ok.frf⟩
section
variable {X : Cx} {pins : List (Addr × Obj)} {σ : St} {H : Hp} {s : Shared} {E : Value → Shared → Prop}
theorem Inv.wish (I : Inv X pins σ H s) (E : Value → Shared → Prop) : Inv (X.wish E) pins σ H s := ⟨I.ok.wish E, I.os, I.bare, I.base, I.loc, I.cell, I.free, I.freeC, I.pin, I.hok, I.len⟩
theorem Inv.unwish (I : Inv (X.wish E) pins σ H s) : Inv X pins σ H s := ⟨I.ok.unwish, I.os, I.bare, I.base, I.loc, I.cell, I.free, I.freeC, I.pin, I.hok, I.len⟩
theorem SP.unwish {D : Ends} {f : Flow} {s' : Shared} (h : SP (X.wish E) pins D f s') : SP X pins D f s' := by
  cases f with
  | next => obtain ⟨σ', H', I, q⟩ := h; exact ⟨σ', H', I.unwish, q⟩
  | brk => obtain ⟨σ', H', I, q⟩ := h; exact ⟨σ', H', I.unwish, q⟩
  | cont => obtain ⟨σ', H', I, q⟩ := h; exact ⟨σ', H', I.unwish, q⟩
  | ret u => obtain ⟨v, σ', H', I, r, q⟩ := h; exact ⟨v, σ', H', I.unwish, r, q⟩
theorem PE.nox {e : Expr} {t : TE} (h : PE X.nox e t) : PE X e t := fun pins s σ H Q I hw =>
  wpAny_mono (h pins s σ H Q (I.wish _) hw) (fun _ _ ⟨v, H', I', r, q⟩ => ⟨v, H', I'.unwish, r, q⟩) fun _ _ z => False.elim z
theorem PT.nox {e : Expr} {t : TT} (h : PT X.nox e t) : PT X e t := fun pins s σ H Q I hw =>
  wpAny_mono (h pins s σ H Q (I.wish _) hw) (fun _ _ ⟨H', I', q⟩ => ⟨H', I'.unwish, q⟩) fun _ _ z => False.elim z
theorem PSs.nox {st : List Stmt} {t : TS} (h : PSs X.nox st t) : PSs X st t := fun pins s σ H D I hw =>
  wpAny_mono (h pins s σ H D (I.wish _) hw) (fun _ _ q => q.unwish) fun _ _ z => False.elim z
end

/-! ### blocks and small statements -/
section
variable {X : Cx} {st : Stmt} {rest : List Stmt} {t u : TS} {e : Expr} {te : TE} {pos : Pos}
def tNext : TS := fun D σ H => D.nx σ H
def tSeq (t u : TS) : TS := fun D σ H => t { D with nx := u D } σ H
theorem pss_nil : PSs X [] tNext := fun _ _ σ H _ I h => wpAny_execs_nil ⟨σ, H, I, h⟩
theorem pss_cons (h1 : PS X st t) (h2 : PSs X rest u) : PSs X (st :: rest) (tSeq t u) := by
  intro pins s σ H D I h
  refine wpAny_execs_cons (thn (h1 pins s σ H { D with nx := u D } I h) fun f s1 q => ?_)
  cases f with
  | next =>
    obtain ⟨σ', H', I', q⟩ := q
    exact h2 pins s1 σ' H' D I' q
  | ret v => exact q
  | brk => exact q
  | cont => exact q
theorem pss_one (h1 : PS X st t) : PSs X [st] t := by
  intro pins s σ H D I h
  refine wpAny_execs_cons (thn (h1 pins s σ H D I h) fun f s1 q => ?_)
  cases f with
  | next => exact wpAny_execs_nil q
  | ret v => exact q
  | brk => exact q
  | cont => exact q
def tBreak : TS := fun D σ H => D.bk σ H
def tCont : TS := fun D σ H => D.ct σ H
theorem ps_pass : PS X (.Pass pos) tNext := fun _ _ σ H _ I h => wpAny_Pass ⟨σ, H, I, h⟩
theorem ps_break : PS X (.Break pos) tBreak := fun _ _ σ H _ I h => wpAny_Break ⟨σ, H, I, h⟩
theorem ps_continue : PS X (.Continue pos) tCont := fun _ _ σ H _ I h => wpAny_Continue ⟨σ, H, I, h⟩
/-- in a def's body nothing is shown -/
theorem Inv.quiet {pins : List (Addr × Obj)} {σ : St} {H : Hp} {s : Shared} (I : Inv X pins σ H s) : interactive X.env = false := by simp [interactive, I.ok.kind]
/-- a docstring -/
theorem ps_doc {x j pos pos'} : PS X (.Expr (.Constant (.str x) j pos) pos') tNext := fun _ s σ H _ I h => wpAny_Expr (Calls.Constant_str (show SP X _ _ .next { s with toks := s.toks + 1 } from ⟨σ, H, I.tok _, h⟩)) I.quiet
/-- an expression whose value is dropped -/
def tDrop (te : TE) : TS := fun D σ H => te σ H fun _ H1 => D.nx σ H1
theorem ps_expr (he : PE X e te) (hs : swapsWith e none pos.line X.env = pure false := by rfl) : PS X (.Expr e pos) (tDrop te) := by
  intro pins s σ H D I h
  exact wpAny_Expr_any (thn (he pins s σ H _ I h) fun v s1 ⟨x, H1, I1, r1, q1⟩ => ⟨σ, H1, I1, q1⟩) I.quiet hs
def tRet (te : TE) : TS := fun D σ H => te σ H D.rt
theorem ps_ret (he : PE X e te) : PS X (.Return (some e) pos) (tRet te) := by
  intro pins s σ H D I h
  exact wpAny_Return_some (thn (he pins s σ H _ I h) fun v s1 ⟨x, H1, I1, r1, q1⟩ => ⟨x, σ, H1, I1, r1, q1⟩)
def tRetN : TS := fun D _ H => D.rt .non H
theorem ps_retN : PS X (.Return none pos) tRetN := fun _ _ σ H _ I h => wpAny_Return_none ⟨.non, σ, H, I, rfl, h⟩
def tIfS (c : TT) (t u : TS) : TS := fun D σ H => c σ H fun b H1 => if b = true then t D σ H1 else u D σ H1
theorem ps_if {c : Expr} {a b : List Stmt} {tc : TT} (hc : PT X c tc) (ha : PSs X a t) (hb : PSs X b u) : PS X (.If c a b pos) (tIfS tc t u) := by
  intro pins s σ H D I h
  refine wpAny_If (thn (hc pins s σ H _ I h) fun d s1 ⟨H1, I1, q1⟩ => ?_)
  cases d with
  | true => exact ha pins s1 σ H1 D I1 q1
  | false => exact hb pins s1 σ H1 D I1 q1
/-- code that the proof never comes to -/
def tNever : TS := fun _ _ _ => False
theorem ps_never : PS X st tNever := fun _ _ _ _ _ _ h => h.elim
theorem pss_never {sts : List Stmt} : PSs X sts tNever := fun _ _ _ _ _ _ h => h.elim
end

/-! ### targets -/
abbrev TG := V → St → Hp → (St → Hp → Prop) → Prop
abbrev TGs := List V → St → Hp → (St → Hp → Prop) → Prop
def PG (X : Cx) (target : Expr) (t : TG) : Prop :=
  ∀ (pins : List (Addr × Obj)) (s : Shared) (σ : St) (H : Hp) (v : V) (u : Value) (Q : St → Hp → Prop), Inv X pins σ H s → RelV v u → t v σ H Q →
    wpAny (model X.prog X.w) X.A (assign target X.env u) (fun _ s' => ∃ σ' H', Inv X pins σ' H' s' ∧ Q σ' H') X.xe s
/-- several targets, one after another -/
def PGs (X : Cx) (ts : List Expr) (t : TGs) : Prop :=
  ∀ (pins : List (Addr × Obj)) (s : Shared) (σ : St) (H : Hp) (vs : List V) (us : List Value) (Q : St → Hp → Prop), Inv X pins σ H s → Vals vs us → t vs σ H Q →
    wpAny (model X.prog X.w) X.A (assignInOrder ((assignEach ts X.env).map (·.2)) us) (fun _ s' => ∃ σ' H', Inv X pins σ' H' s' ∧ Q σ' H') X.xe s
/-- o[i] = v, by values -/
abbrev TSet := V → V → V → Hp → (Hp → Prop) → Prop
def PSet (X : Cx) (t : TSet) : Prop :=
  ∀ (pins : List (Addr × Obj)) (s : Shared) (σ : St) (H : Hp) (o i v : V) (ov iv u : Value) (Q : Hp → Prop), Inv X pins σ H s → RelV o ov → RelV i iv → RelV v u → t o i v H Q →
    wpAny (model X.prog X.w) X.A (setItem ov iv u) (fun _ s' => ∃ H', Inv X pins σ H' s' ∧ Q H') X.xe s
/-- a op= b, by values -/
abbrev TIp := V → V → Hp → VK → Prop
def PIp (X : Cx) (op : Operator) (t : TIp) : Prop :=
  ∀ (pins : List (Addr × Obj)) (s : Shared) (σ : St) (H : Hp) (x y : V) (v u : Value) (Q : VK), Inv X pins σ H s → RelV x v → RelV y u → t x y H Q →
    wpAny (model X.prog X.w) X.A (inplaceOp op v u) (EP X pins σ Q) X.xe s
section
variable {X : Cx} {pos : Pos}
def gName (i : Nat) : TG := fun v σ H Q => Q (σ.set i (some v)) H
theorem pg_name {i : Nat} {x : Str} (hN : X.N.Nodup) (hi : X.N[i]? = some x) (hx : Loc X.env.scope x) (hf : X.fn x = true ∨ X.env.scope.names.lookup x = some .local := by first | exact .inl rfl | exact .inr rfl | assumption) : PG X (.Name x pos) (gName i) := by
  intro pins s σ H v u Q I r h
  exact wpAny_assign_Name (store_ok I hN hi hx r (fun s' I' => ⟨_, H, I', h⟩) hf)
def gNil : TGs := fun vs σ H Q => vs = [] ∧ Q σ H
def gCons (t : TG) (u : TGs) : TGs := fun vs σ H Q => ∃ v r, vs = v :: r ∧ t v σ H fun σ' H' => u r σ' H' Q
theorem pgs_nil : PGs X [] gNil := by
  intro pins s σ H vs us Q I r h
  obtain ⟨e, h⟩ := h
  subst e
  cases r
  exact assignInOrder_nil ⟨σ, H, I, h⟩
theorem pgs_cons {e : Expr} {es : List Expr} {t : TG} {u : TGs} (h1 : PG X e t) (h2 : PGs X es u)
    (hs : (assignEach (e :: es) X.env).map (·.2) = assign e X.env :: (assignEach es X.env).map (·.2) := by rfl) : PGs X (e :: es) (gCons t u) := by
  intro pins s σ H vs us Q I r h
  obtain ⟨v, vr, e1, h⟩ := h
  subst e1
  cases r with
  | cons r rr =>
    rw [hs]
    refine assignInOrder_cons (thn (h1 pins s σ H _ _ _ I r h) fun _ s1 ⟨σ1, H1, I1, q1⟩ => ?_)
    exact h2 pins s1 σ1 H1 _ _ Q I1 rr q1
/-- (a, b, ..) = a tuple of that length -/
def gTup (K : PySem.W.Frag) (n : Nat) (t : TGs) : TG := fun v σ H Q => ∃ a xs, v = .ref a ∧ SqT K H a xs ∧ xs.length = n ∧ t xs σ H Q
theorem pg_tup {es : List Expr} {k : Nat} {t : TGs} {n : Nat} (hc : X.calm = true) (h : PGs X es t)
    (hn : (assignEach es X.env).length = n := by rfl) (hst : (assignEach es X.env).findIdx? (·.1) = none := by rfl) : PG X (.Tuple es k pos) (gTup X.K n t) := by
  intro pins s σ H v u Q I r hw
  obtain ⟨a, xs, e1, hq, hl, hw⟩ := hw
  subst e1
  cases r
  obtain ⟨its, rv, ht, hz⟩ := I.tuple hq
  refine assign_Tuple_tuple (I.ok.hd hc) ht (by simp [hn, ← hl, rv.length]) hst fun h' hx => ?_
  have I1 : Inv X pins σ H { s with heap := h' } := I.kept (t' := s.toks) fun b o e => hx b o (Nat.ne_of_lt (Heap.lt_size e)) e
  exact h pins _ σ H xs _ Q I1 (by simpa using rv) hw
/-- o[i] = .. -/
def gSub (to ti : TE) (t : TSet) : TG := fun v σ H Q => to σ H fun o H1 => ti σ H1 fun i H2 => t o i v H2 fun H3 => Q σ H3
theorem pg_sub {o i : Expr} {to ti : TE} {t : TSet} (ho : PE X o to) (hi : PE X i ti) (hs : PSet X t)
    (ha : ∀ v, assign (.Subscript o i pos) X.env v = (do
      let ov ← holding [v] (eval o X.env)
      let iv ← holding [v, ov] (eval i X.env)
      standAt pos
      holding [v, ov, iv] (setItem ov iv v)
      release [v, ov, iv] []) := by intro _; rfl) : PG X (.Subscript o i pos) (gSub to ti t) := by
  intro pins s σ H v u Q I r h
  rw [ha]
  refine wpAny_bind (wpAny_holding (thn (ho pins s σ H _ I h) fun ov s1 ⟨x, H1, I1, r1, q1⟩ => ?_))
  refine wpAny_bind (wpAny_holding (thn (hi pins s1 σ H1 _ I1 q1) fun iv s2 ⟨y, H2, I2, r2, q2⟩ => ?_))
  refine wpAny_bind (wpAny_standAt (wpAny_bind (wpAny_holding (thn (hs pins s2 σ H2 x y v ov iv u _ I2 r1 r2 r q2) fun _ s3 ⟨H3, I3, q3⟩ => ?_))))
  exact wpAny_release ⟨σ, H3, I3, q3⟩
/-- target = value -/
def tAsg (te : TE) (g : TG) : TS := fun D σ H => te σ H fun x H1 => g x σ H1 D.nx
theorem ps_asg {tg e : Expr} {te : TE} {g : TG} (he : PE X e te) (hg : PG X tg g) (hs : swapsWithSole [tg] e pos.line X.env = pure false := by rfl) (hw : swappedStores [tg] e X.env = pure none := by rfl)
    (h1 : (assignEach [tg] X.env).map (·.2) = [assign tg X.env] := by rfl) : PS X (.Assign [tg] e pos) (tAsg te g) := by
  intro pins s σ H D I h
  refine wpAny_Assign_stores (thn (he pins s σ H _ I h) fun v s1 ⟨x, H1, I1, r1, q1⟩ => ?_) hs hw
  rw [h1]
  exact thn (hg pins s1 σ H1 x v _ I1 r1 q1) fun _ s2 q => q
/-- name = value -/
theorem ps_set {i : Nat} {x : Str} {e : Expr} {te : TE} {pos' : Pos} (hN : X.N.Nodup) (hi : X.N[i]? = some x) (hx : Loc X.env.scope x) (he : PE X e te) (hs : swapsWith e (some (.Name x pos')) pos.line X.env = pure false := by rfl) (hf : X.fn x = true ∨ X.env.scope.names.lookup x = some .local := by first | exact .inl rfl | exact .inr rfl | assumption) :
    PS X (.Assign [.Name x pos'] e pos) (tAsg te (gName i)) := by
  intro pins s σ H D I h
  refine wpAny_Assign_Name (thn (he pins s σ H _ I h) fun v s1 ⟨y, H1, I1, r1, q1⟩ => ?_) hs
  exact store_ok I1 hN hi hx r1 (fun s2 I2 => ⟨_, H1, I2, q1⟩) hf
/-- a, b = x, y with plain local names: stored from the right; the pair itself is not tracked (the opening rows as in PyProof/Rows/TupAssign.lean:23) -/
def tPar (i j : Nat) (ta : TA) : TS := fun D σ H => ta σ H fun vs H1 => ∃ v w, vs = [v, w] ∧ D.nx ((σ.set i (some v)).set j (some w)) H1
theorem ps_par {i j : Nat} {x y : Str} {a b : Expr} {ta : TA} {px py pt : Pos} {kt k2 pt2} (hc : X.calm = true) (hN : X.N.Nodup) (hi : X.N[i]? = some x) (hj : X.N[j]? = some y) (hij : i ≠ j)
    (hx : X.env.scope.names.lookup x = some .local) (hy : X.env.scope.names.lookup y = some .local) (ha : PA X [a, b] ta)
    (hw : swappedStores [.Tuple [.Name x px, .Name y py] kt pt] (.Tuple [a, b] k2 pt2) X.env = pure (some [x, y]))
    (hs : swapsWithSole [.Tuple [.Name x px, .Name y py] kt pt] (.Tuple [a, b] k2 pt2) pos.line X.env = pure false := by rfl) :
    PS X (.Assign [.Tuple [.Name x px, .Name y py] kt pt] (.Tuple [a, b] k2 pt2) pos) (tPar i j ta) := by
  intro pins s σ H D I h
  rw [exec_Assign_arm]
  refine wpAny_bind (wpAny_standAt ?_)
  rw [hs]
  refine wpAny_bind (wpAny_pure ?_)
  rw [if_neg (by decide)]
  refine wpAny_bind (Tuple_ (thn (ha _ pins s σ H _ I h) fun us s1 ⟨vs, H1, I1, r1, q1⟩ => ?_))
  obtain ⟨v, w, e1, q1⟩ := q1
  subst e1
  obtain ⟨u1, u2, rfl, rv, rw'⟩ : ∃ u1 u2, us = [u1, u2] ∧ RelV v u1 ∧ RelV w u2 := by
    cases r1 with
    | cons p q =>
      cases q with
      | cons p' q' =>
        cases q'
        exact ⟨_, _, rfl, p, p'⟩
  refine wpAny_newObj_type ?_ (by show 2 ≤ sizeLine; decide)
  have I2 : Inv X pins σ H1 { s1 with heap := s1.heap.push { cls := .type "tuple", data := .seq [u1, u2].toArray } } := I1.kept (t' := s1.toks) fun b o e => Heap.get?_push_of_some _ e
  rw [hw]
  refine wpAny_bind (wpAny_pure ?_)
  show wpAny (model X.prog X.w) X.A (do rule "assign.swapped-stores"; let items ← unpackItems (.ref s1.heap.objs.size) 2 none; assignInOrder [fun v => bindName X.env y v, fun v => bindName X.env x v] items.reverse; pure Flow.next) _ _ _
  refine wpAny_bind (wpAny_rule (wpAny_bind (unpackItems_tuple (items := #[u1, u2]) (I.ok.hd hc) (IsTup.new s1.heap _) fun h' hx' => ?_)))
  have I3 := I2.kept (h' := h') (t' := s1.toks) fun b o e => hx' b o (Nat.ne_of_lt (Heap.lt_size e)) e
  show wpAny _ _ (assignInOrder [fun v => bindName X.env y v, fun v => bindName X.env x v] [u2, u1] >>= fun _ => pure Flow.next) _ _ _
  refine wpAny_bind (assignInOrder_cons (wpAny_bindName (store_ok I3 hN hj (.inl hy) rw' (fun s2 I4 => ?_) (.inr hy))))
  refine assignInOrder_cons (wpAny_bindName (store_ok I4 hN hi (.inl hx) rv (fun s3 I5 => assignInOrder_nil (wpAny_pure ?_)) (.inr hx)))
  rw [List.set_comm _ _ (Ne.symm hij)] at I5
  exact ⟨_, H1, I5, q1⟩
/-- name op= e -/
def tAug (i : Nat) (te : TE) (ti : TIp) : TS := fun D σ H => ∃ x, σ[i]? = some (some x) ∧ te σ H fun y H1 => ti x y H1 fun z H2 => D.nx (σ.set i (some z)) H2
theorem ps_aug {i : Nat} {x : Str} {e : Expr} {te : TE} {op : Operator} {ti : TIp} {pos' : Pos} (hN : X.N.Nodup) (hi : X.N[i]? = some x) (hx : Loc X.env.scope x) (he : PE X e te) (ho : PIp X op ti) (hf : X.fn x = true ∨ X.env.scope.names.lookup x = some .local := by first | exact .inl rfl | exact .inr rfl | assumption) :
    PS X (.AugAssign (.Name x pos') op e pos) (tAug i te ti) := by
  intro pins s σ H D I h
  obtain ⟨v, e1, h⟩ := h
  obtain ⟨m, hn, hl⟩ := I.loc
  have vis : Vis X.env.scope x := by rcases hx with k | k; exact .inl k; exact .inr (.inl k)
  obtain ⟨u, r, l⟩ := hl i x v hi e1 vis
  refine wpAny_AugAssign_Name ?_
  have go : wpAny (model X.prog X.w) X.A (eval e X.env) (fun w s₂ => wpAny (model X.prog X.w) X.A (inplaceOp op u w) (fun r s₃ => wpAny (model X.prog X.w) X.A (storeName X.env x r) (fun _ => SP X pins D .next) X.xe s₃) X.xe s₂) X.xe s := by
    refine thn (he pins s σ H _ I h) fun w s1 ⟨y, H1, I1, r1, q1⟩ => ?_
    refine thn (ho pins s1 σ H1 v y u w _ I1 r r1 q1) fun z s2 ⟨zv, H2, I2, r2, q2⟩ => ?_
    exact store_ok I2 hN hi hx r2 (fun s3 I3 => ⟨_, H2, I3, q2⟩) hf
  rcases l with ⟨hk, hm⟩ | ⟨hk, c, hc, hcell⟩
  · exact wpAny_loadName_local I.ok.kind hk hn hm go
  · rcases hk with hk | hk
    · exact wpAny_loadName_cell I.ok.kind hk hc hcell go
    · rcases hx with k | k
      · have : X.env.scope.names.lookup x = some .free := hk
        rw [k] at this; cases this
      · have : X.env.scope.names.lookup x = some .free := hk
        rw [k] at this; cases this
/-- o[i] op= e -/
def tAugS (to ti te : TE) (tget : V → V → Hp → VK → Prop) (tip : TIp) (tset : TSet) : TS := fun D σ H => to σ H fun o H1 => ti σ H1 fun i H2 => tget o i H2 fun x H3 => te σ H3 fun y H4 => tip x y H4 fun z H5 => tset o i z H5 fun H6 => D.nx σ H6
/-- o[i], by values -/
def PGet (X : Cx) (t : V → V → Hp → VK → Prop) : Prop :=
  ∀ (pins : List (Addr × Obj)) (s : Shared) (σ : St) (H : Hp) (o i : V) (ov iv : Value) (Q : VK), Inv X pins σ H s → RelV o ov → RelV i iv → t o i H Q →
    wpAny (model X.prog X.w) X.A (getItem ov iv) (EP X pins σ Q) X.xe s
theorem ps_augS {o i e : Expr} {to ti te : TE} {tget : V → V → Hp → VK → Prop} {tip : TIp} {tset : TSet} {op : Operator} {tpos : Pos} (ho : PE X o to) (hi : PE X i ti) (hg : PGet X tget) (he : PE X e te) (hp : PIp X op tip) (hs : PSet X tset)
    (ha : ∀ ov iv new, augStore i ov iv new = (do holding [new, ov, iv] (setItem ov iv new); release [new, ov, iv] []; pure .next) := by intros; rfl) : PS X (.AugAssign (.Subscript o i tpos) op e pos) (tAugS to ti te tget tip tset) := by
  intro pins s σ H D I h
  refine wpAny_AugAssign_SubscriptAny (thn (ho pins s σ H _ I h) fun ov s1 ⟨x1, H1, I1, r1, q1⟩ => ?_) ha
  refine thn (hi pins s1 σ H1 _ I1 q1) fun iv s2 ⟨x2, H2, I2, r2, q2⟩ => ?_
  refine thn (hg pins s2 σ H2 x1 x2 ov iv _ I2 r1 r2 q2) fun old s3 ⟨x3, H3, I3, r3, q3⟩ => ?_
  refine thn (he pins s3 σ H3 _ I3 q3) fun v s4 ⟨x4, H4, I4, r4, q4⟩ => ?_
  refine thn (hp pins s4 σ H4 x3 x4 old v _ I4 r3 r4 q4) fun new s5 ⟨x5, H5, I5, r5, q5⟩ => ?_
  exact thn (hs pins s5 σ H5 x1 x2 x5 ov iv new _ I5 r1 r2 r5 q5) fun _ s6 ⟨H6, I6, q6⟩ => ⟨σ, H6, I6, q6⟩
/-- ints -/
def ipI (f : Int → Int → Int) : TIp := fun x y H Q => ∃ i j, x = .int i ∧ y = .int j ∧ Q (.int (f i j)) H
theorem ip_add : PIp X .Add (ipI fun i j => i + j) := by
  intro pins s σ H x y v u Q I r1 r2 h
  obtain ⟨i, j, e1, e2, q⟩ := h
  subst e1; subst e2
  obtain ⟨t, rfl⟩ := r1
  obtain ⟨t', rfl⟩ := r2
  exact iadd_int ⟨.int _, H, I.tok _, ⟨_, rfl⟩, q⟩
theorem ip_sub : PIp X .Sub (ipI fun i j => i - j) := by
  intro pins s σ H x y v u Q I r1 r2 h
  obtain ⟨i, j, e1, e2, q⟩ := h
  subst e1; subst e2
  obtain ⟨t, rfl⟩ := r1
  obtain ⟨t', rfl⟩ := r2
  exact isub_int ⟨.int _, H, I.tok _, ⟨_, rfl⟩, q⟩
end

/-! ### while -/
section
variable {X : Cx} {pos : Pos}
/-- the invariant W with its measure -/
def tWhile (c : TT) (tb : TS) : TS := fun D σ H => ∃ W : Nat → St → Hp → Prop, (∃ m, W m σ H) ∧ ∀ m σ H, W m σ H →
  c σ H fun b H1 => if b = true then ∃ N : St → Hp → Prop, (∀ σ' H', N σ' H' → ∃ m', m' < m ∧ W m' σ' H') ∧ tb { D with nx := N, ct := N, bk := D.nx } σ H1 else D.nx σ H1
theorem ps_while {c : Expr} {body : List Stmt} {tc : TT} {tb : TS} (hp : PassesOwn (model X.prog X.w) X.A X.env X.xe) (hc : PT X c tc) (hb : PSs X body tb) : PS X (.While c body [] pos) (tWhile tc tb) := by
  intro pins s σ H D I h
  obtain ⟨W, ⟨m0, w0⟩, turn⟩ := h
  refine wpAny_While (codeAny_whileLoop (fun n s' => ∃ σ' H', Inv X pins σ' H' s' ∧ W n σ' H') ?_ m0 ⟨σ, H, I, w0⟩)
  rintro n s1 ⟨σ1, H1, I1, w1⟩
  refine wpAny_passesOwn hp (thn (hc pins s1 σ1 H1 _ I1 (turn n σ1 H1 w1)) fun b s2 ⟨H2, I2, q2⟩ => ?_)
  cases b with
  | true =>
    obtain ⟨N, hN, q2⟩ := q2
    rw [if_pos rfl]
    refine wpAny_passesOwn hp (thn (hb pins s2 σ1 H2 _ I2 q2) fun f s3 q3 => ?_)
    cases f with
    | next =>
      obtain ⟨σ3, H3, I3, n3⟩ := q3
      obtain ⟨m', hm, w3⟩ := hN σ3 H3 n3
      exact ⟨m', hm, σ3, H3, I3, w3⟩
    | cont =>
      obtain ⟨σ3, H3, I3, n3⟩ := q3
      obtain ⟨m', hm, w3⟩ := hN σ3 H3 n3
      exact ⟨m', hm, σ3, H3, I3, w3⟩
    | brk => exact q3
    | ret v => exact q3
  | false =>
    rw [if_neg Bool.false_ne_true]
    exact wpAny_execs_nil ⟨σ1, H2, I2, q2⟩
end

/-! ### what a loop or a comprehension walks -/
/-- at turn i: it yields x (the heap may grow), or it stops -/
structure It where
  go : Nat → Hp → Prop
  yld : Nat → Hp → V → Hp → Prop
  stop : Nat → Hp → Prop
/-- the iterator's own objects may turn: they are not the frame's, not pinned, younger than the entry (or a comprehension's own) -/
def FpOk (X : Cx) (pins : List (Addr × Obj)) (H : Hp) (b : Addr) : Prop :=
  H b = none ∧ b ≠ X.env.locals ∧ b ∉ X.fs ∧ (b ∈ X.ex ∨ X.s₀.heap.objs.size ≤ b) ∧ (∀ x c, X.env.cells.lookup x = some c → c ≠ b) ∧ ∀ p ∈ X.pn ++ pins, p.1 ≠ b
theorem Inv.fpOk {X : Cx} {pins : List (Addr × Obj)} {σ : St} {H H' : Hp} {s : Shared} {b : Addr} (I : Inv X pins σ H s) (hb : s.heap.objs.size ≤ b) (hn : H' b = none) : FpOk X pins H' b := by
  refine ⟨hn, Nat.ne_of_gt (Nat.lt_of_lt_of_le I.lt hb), I.nofs hb, .inr (Nat.le_trans I.sz hb), fun x c e z => ?_, fun p hp z => ?_⟩
  · obtain ⟨v, q⟩ := I.cell x c e
    exact absurd (Nat.lt_of_lt_of_le q.lt (by rw [z]; exact hb)) (Nat.lt_irrefl _)
  · exact absurd (Nat.lt_of_lt_of_le (Heap.lt_size (I.pin p hp).1) (by rw [z]; exact hb)) (Nat.lt_irrefl _)
structure Turn (P : Program) (w : World) (K : PySem.W.Frag) (tg : Expr) (J : It) (fp : List Addr) (it : Addr) (tn : Nat → Heap → Prop) : Prop where
  mem : it ∈ fp
  obj : ∀ i h, tn i h → ∀ b ∈ fp, ∃ o, h.get? b = some o ∧ ∀ v, o.data ≠ .cell v
  keep : ∀ i h h', tn i h → (∀ b ∈ fp, ∀ o, h.get? b = some o → h'.get? b = some o) → tn i h'
  item : ∀ (X : Cx), X.prog = P → X.w = w → X.K = K → X.calm = true → ∀ (i : Nat) (pins : List (Addr × Obj)) (s : Shared) (σ : St) (H : Hp) (E : Value → Shared → Prop), Inv X pins σ H s → (∀ b ∈ fp, FpOk X pins H b) → tn i s.heap → J.go i H →
    wpAny (model P w) X.A (pyNext (.ref it)) (fun r s1 => ∃ u, r = some u ∧
      wpAny (model P w) X.A (letOwnedTupleGo tg (.ref it) u) (fun _ s2 => ∃ x H', Inv X pins σ H' s2 ∧ RelV x u ∧ J.yld i H x H' ∧ tn (i + 1) s2.heap ∧ ∀ b ∈ fp, H' b = none) E s1) E s
  done : ∀ (X : Cx), X.prog = P → X.w = w → X.K = K → X.calm = true → ∀ (i : Nat) (pins : List (Addr × Obj)) (s : Shared) (σ : St) (H : Hp) (E : Value → Shared → Prop), Inv X pins σ H s → (∀ b ∈ fp, FpOk X pins H b) → tn i s.heap → J.stop i H →
    wpAny (model P w) X.A (pyNext (.ref it)) (fun r s1 => r = none ∧ Inv X pins σ H s1) E s
  self : ∀ (A : Around) (i : Nat) (s : Shared) (Q : Value → Shared → Prop) (E : Value → Shared → Prop), tn i s.heap → Q (.ref it) s → wpAny (model P w) A (pyIter (.ref it)) Q E s
abbrev TI := St → Hp → (It → Hp → Prop) → Prop
/-- an iterator has come -/
def PIE (X : Cx) (pins : List (Addr × Obj)) (σ : St) (tg : Expr) (R : It → Hp → Prop) (itv : Value) (s2 : Shared) : Prop :=
  ∃ (it : Addr) (fp : List Addr) (tn : Nat → Heap → Prop) (J : It) (H' : Hp), itv = .ref it ∧ Inv X pins σ H' s2 ∧ Turn X.prog X.w X.K tg J fp it tn ∧ tn 0 s2.heap ∧ (∀ b ∈ fp, FpOk X pins H' b) ∧ R J H'
def PI (X : Cx) (tg iter : Expr) (wi : TI) : Prop :=
  ∀ (pins : List (Addr × Obj)) (s : Shared) (σ : St) (H : Hp) (R : It → Hp → Prop), Inv X pins σ H s → wi σ H R →
    wpAny (model X.prog X.w) X.A (eval iter X.env) (fun v s1 => wpAny (model X.prog X.w) X.A (pyIter v) (PIE X pins σ tg R) X.xe s1) X.xe s

/-- the step ahead of the store is nothing for an iterator that keeps no tuple -/
theorem go_of {M : Model} {A : Around} {E : Value → Shared → Prop} {s : Shared} {tg : Expr} {it : Addr} {u : Value} {o : Obj} {n : String} {vs : Array Value} {Q : Unit → Shared → Prop} (ho : s.heap.get? it = some o) (hc : o.cls = .type n) (hd : o.data = .fields vs)
    (hn : ["enumerate", "zip", "dict_itemiterator", "dict_reverseitemiterator", "odict_iterator", "itertools.zip_longest", "itertools.pairwise"].contains n = false) (hQ : Q () s) : wpAny M A (letOwnedTupleGo tg (.ref it) u) Q E s := by
  unfold letOwnedTupleGo
  cases tg <;> first
    | exact wpAny_pure hQ
    | (cases u <;> first
        | exact wpAny_pure hQ
        | (refine wpAny_bind (wpAny_load ho ?_)
           rw [hc, hd]
           show wpAny M A (if (["enumerate", "zip", "dict_itemiterator", "dict_reverseitemiterator", "odict_iterator", "itertools.zip_longest", "itertools.pairwise"].contains n && vs[0]? == some (rawInt _)) = true then _ else _) Q E s
           rw [if_neg (by intro h; rw [hn, Bool.false_and] at h; cases h)]
           exact wpAny_pure hQ))

/-- the list at a, as it stands at each turn (a loop may append to it) -/
def Itl (K : PySem.W.Frag) (a : Addr) : It :=
  ⟨fun i H => ∃ xs x, SqL K H a xs ∧ xs[i]? = some x, fun i H x H' => H' = H ∧ ∀ xs, SqL K H a xs → xs[i]? = some x, fun i H => ∃ xs, SqL K H a xs ∧ xs.length ≤ i⟩
def Itt (K : PySem.W.Frag) (a : Addr) : It :=
  ⟨fun i H => ∃ xs x, SqT K H a xs ∧ xs[i]? = some x, fun i H x H' => H' = H ∧ ∀ xs, SqT K H a xs → xs[i]? = some x, fun i H => ∃ xs, SqT K H a xs ∧ xs.length ≤ i⟩
/-- lo, lo + 1, .. (n of them) -/
def Itr (lo : Int) (n : Nat) : It := ⟨fun i _ => i < n, fun i H x H' => H' = H ∧ x = .int (lo + i), fun i _ => n ≤ i⟩
theorem turn_list {P : Program} {w : World} {K : PySem.W.Frag} {tg : Expr} (a it : Addr) : Turn P w K tg (Itl K a) [it] it (fun i h => h.IsListIter it a i) where
  mem := by simp
  obj := fun i h st b hb => by
    have e : b = it := by simpa using hb
    subst e
    obtain ⟨o, e, c, d⟩ := st
    exact ⟨o, e, fun v z => by rw [d] at z; cases z⟩
  keep := fun i h h' st k => st.at fun o e => k it (by simp) o e
  item := by
    intro X hP hw hK hc i pins s σ H E I hf st hg
    subst hP hw hK
    obtain ⟨xs, x, hq, hx⟩ := hg
    obtain ⟨its, rv, p, hz⟩ := I.list hq
    obtain ⟨u, hu, ru⟩ := rv.get hx
    obtain ⟨f0, f1, f2, f3, f4, f5⟩ := hf it (by simp)
    refine wpAny_pyNext_list_item st p.isList (x := u) (by simpa using hu) fun h' st' sb => ?_
    have I1 : Inv X pins σ H { s with heap := h' } := I.turned (t' := s.toks) (fun b o hb e => (sb.2 b hb).trans e) f0 f1 f3 f4 f5
    obtain ⟨o, e, c, d⟩ := id st'
    exact ⟨u, rfl, go_of (s := { s with heap := h' }) e c d (by decide) ⟨x, H, I1, ru, ⟨rfl, fun ys hy => by rw [I.list_inj hy hq]; exact hx⟩, st', fun b hb => (hf b hb).1⟩⟩
  done := by
    intro X hP hw hK hc i pins s σ H E I hf st hg
    subst hP hw hK
    obtain ⟨xs, hq, hx⟩ := hg
    obtain ⟨its, rv, p, hz⟩ := I.list hq
    obtain ⟨f0, f1, f2, f3, f4, f5⟩ := hf it (by simp)
    have hl := rv.length
    exact wpAny_pyNext_list_end (I.ok.hd hc) st p.isList (by simp; omega) fun h' eb => ⟨rfl, I.turned (t' := s.toks) (fun b o hb e => eb b o hb e) f0 f1 f3 f4 f5⟩
  self := fun _ _ _ _ _ st h => wpAny_pyIter_listiter st h
theorem turn_tuple {P : Program} {w : World} {K : PySem.W.Frag} {tg : Expr} (a it : Addr) : Turn P w K tg (Itt K a) [it] it (fun i h => h.IsTupleIter it a i) where
  mem := by simp
  obj := fun i h st b hb => by
    have e : b = it := by simpa using hb
    subst e
    obtain ⟨o, e, c, d⟩ := st
    exact ⟨o, e, fun v z => by rw [d] at z; cases z⟩
  keep := fun i h h' st k => st.at fun o e => k it (by simp) o e
  item := by
    intro X hP hw hK hc i pins s σ H E I hf st hg
    subst hP hw hK
    obtain ⟨xs, x, hq, hx⟩ := hg
    obtain ⟨its, rv, p, hz⟩ := I.tuple hq
    obtain ⟨u, hu, ru⟩ := rv.get hx
    obtain ⟨f0, f1, f2, f3, f4, f5⟩ := hf it (by simp)
    refine wpAny_pyNext_tuple_item st (show s.heap.IsTuple a its.toArray from p) (x := u) (by simpa using hu) fun h' st' sb => ?_
    have I1 : Inv X pins σ H { s with heap := h' } := I.turned (t' := s.toks) (fun b o hb e => (sb.2 b hb).trans e) f0 f1 f3 f4 f5
    obtain ⟨o, e, c, d⟩ := id st'
    exact ⟨u, rfl, go_of (s := { s with heap := h' }) e c d (by decide) ⟨x, H, I1, ru, ⟨rfl, fun ys hy => by rw [I.tuple_inj hy hq]; exact hx⟩, st', fun b hb => (hf b hb).1⟩⟩
  done := by
    intro X hP hw hK hc i pins s σ H E I hf st hg
    subst hP hw hK
    obtain ⟨xs, hq, hx⟩ := hg
    obtain ⟨its, rv, p, hz⟩ := I.tuple hq
    obtain ⟨f0, f1, f2, f3, f4, f5⟩ := hf it (by simp)
    have hl := rv.length
    exact wpAny_pyNext_tuple_end (I.ok.hd hc) st (show s.heap.IsTuple a its.toArray from p) (by simp; omega) fun h' eb => ⟨rfl, I.turned (t' := s.toks) (fun b o hb e => eb b o hb e) f0 f1 f3 f4 f5⟩
  self := fun _ _ _ _ _ st h => wpAny_pyIter_tupleiter st h
theorem turn_range {P : Program} {w : World} {K : PySem.W.Frag} {tg : Expr} (it : Addr) (lo : Int) (n : Nat) : Turn P w K tg (Itr lo n) [it] it (fun i h => IsRangeIter h it (lo + (i : Nat) * 1) ((n : Int) - (i : Nat)) 1) where
  mem := by simp
  obj := fun i h st b hb => by
    have e : b = it := by simpa using hb
    subst e
    exact ⟨_, st, fun v z => by
      have z' : Data.fields _ = Data.cell v := z
      cases z'⟩
  keep := fun i h h' st k => k it (by simp) _ st
  item := by
    intro X hP hw hK hc i pins s σ H E I hf st hg
    subst hP hw hK
    obtain ⟨f0, f1, f2, f3, f4, f5⟩ := hf it (by simp)
    have W := Walks.range (prog := X.prog) (w := X.w) (I.ok.hd hc) it lo 1 n
    refine W.item i s _ _ hg st fun v h' tk hv st' kk => ?_
    obtain ⟨t, rfl⟩ := hv
    have I1 : Inv X pins σ H { s with heap := h', toks := tk } := I.turned (fun b o hb e => kk b o (by simpa using hb) e) f0 f1 f3 f4 f5
    refine ⟨_, rfl, go_of (s := { s with heap := h', toks := tk }) (n := "range_iterator") st' rfl rfl (by decide) ⟨.int (lo + i), H, I1, ⟨t, ?_⟩, ⟨rfl, rfl⟩, st', fun b hb => (hf b hb).1⟩⟩
    rw [Int.mul_one]
  done := by
    intro X hP hw hK hc i pins s σ H E I hf st hg
    subst hP hw hK
    obtain ⟨f0, f1, f2, f3, f4, f5⟩ := hf it (by simp)
    exact wpAny_pyNext_range_end (I.ok.hd hc) st (by have : n ≤ i := hg; omega) fun h' eb => ⟨rfl, I.turned (t' := s.toks) (fun b o hb e => eb b o hb e) f0 f1 f3 f4 f5⟩
  self := fun _ _ _ _ _ st h => wpAny_pyIter_rangeiter st h
end L2

namespace L2
open PySem PySem.Spec PyProof.Rows
section
variable {X : Cx} {tg : Expr}
def iList (K : PySem.W.Frag) (tl : TE) : TI := fun σ H R => tl σ H fun x H1 => ∃ a, x = .ref a ∧ (∃ xs, SqL K H1 a xs) ∧ R (Itl K a) H1
def iTup (K : PySem.W.Frag) (tl : TE) : TI := fun σ H R => tl σ H fun x H1 => ∃ a, x = .ref a ∧ (∃ xs, SqT K H1 a xs) ∧ R (Itt K a) H1
theorem pi_list {l : Expr} {tl : TE} (hl : PE X l tl) : PI X tg l (iList X.K tl) := by
  intro pins s σ H R I h
  refine thn (hl pins s σ H _ I h) fun v s1 ⟨x, H1, I1, r1, q1⟩ => ?_
  obtain ⟨a, e, ⟨xs, hq⟩, q⟩ := q1
  subst e
  cases r1
  obtain ⟨its, rv, p, hz⟩ := I1.list hq
  refine wpAny_pyIter_list p.isList ?_
  refine ⟨s1.heap.objs.size, [s1.heap.objs.size], _, _, H1, rfl, I1.kept (t' := s1.toks) fun b o e => Heap.get?_push_of_some _ e, turn_list a _, ⟨_, Heap.get?_push_size _ rfl, rfl, rfl⟩, fun b hb => ?_, q⟩
  have e : b = s1.heap.objs.size := by simpa using hb
  subst e
  exact I1.fpOk (Nat.le_refl _) (I1.hok.fresh (Nat.le_refl _))
theorem pi_tup {l : Expr} {tl : TE} (hl : PE X l tl) : PI X tg l (iTup X.K tl) := by
  intro pins s σ H R I h
  refine thn (hl pins s σ H _ I h) fun v s1 ⟨x, H1, I1, r1, q1⟩ => ?_
  obtain ⟨a, e, ⟨xs, hq⟩, q⟩ := q1
  subst e
  cases r1
  obtain ⟨its, rv, p, hz⟩ := I1.tuple hq
  refine wpAny_pyIter_tuple (show s1.heap.IsTuple a its.toArray from p) ?_
  refine ⟨s1.heap.objs.size, [s1.heap.objs.size], _, _, H1, rfl, I1.kept (t' := s1.toks) fun b o e => Heap.get?_push_of_some _ e, turn_tuple a _, ⟨_, Heap.get?_push_size _ rfl, rfl, rfl⟩, fun b hb => ?_, q⟩
  have e : b = s1.heap.objs.size := by simpa using hb
  subst e
  exact I1.fpOk (Nat.le_refl _) (I1.hok.fresh (Nat.le_refl _))
/-- a range object just made, walked -/
theorem range_it {pins : List (Addr × Obj)} {σ : St} {H : Hp} {s : Shared} {R : It → Hp → Prop} {E : Value → Shared → Prop} {lo hi : Int} {t u v : Tok} {tk : Nat} (I : Inv X pins σ H s) (h1 : -(2 ^ 62) ≤ lo) (h2 : lo < 2 ^ 62) (h3 : -(2 ^ 62) ≤ hi) (h4 : hi < 2 ^ 62)
    (q : R (Itr lo (hi - lo).toNat) H) : wpAny (model X.prog X.w) X.A (pyIter (.ref s.heap.objs.size)) (PIE X pins σ tg R) E { s with heap := s.heap.push { cls := .type "range", data := .fields #[.int lo t, .int hi u, .int 1 v] }, toks := tk } := by
  refine wpAny_pyIter_range (IsRange.new ..) (small_one h1 h2 h3 h4) ?_
  have I1 : Inv X pins σ H { s with heap := s.heap.push { cls := .type "range", data := .fields #[.int lo t, .int hi u, .int 1 v] }, toks := tk } := I.kept fun b o e => Heap.get?_push_of_some _ e
  refine ⟨(s.heap.push { cls := .type "range", data := .fields #[.int lo t, .int hi u, .int 1 v] }).objs.size, [(s.heap.push { cls := .type "range", data := .fields #[.int lo t, .int hi u, .int 1 v] }).objs.size], _, _, H, rfl,
    I1.kept (t' := tk) fun b o e => Heap.get?_push_of_some _ e, turn_range _ lo (hi - lo).toNat, ?_, fun b hb => ?_, q⟩
  · have e1 : lo + ((0 : Nat) : Int) * 1 = lo := by simp
    have e2 : (((hi - lo).toNat : Nat) : Int) - ((0 : Nat) : Int) = Builtin.Range.rangeSize lo hi 1 := by rw [rangeSize_one]; split <;> omega
    show IsRangeIter _ _ (lo + ((0 : Nat) : Int) * 1) ((((hi - lo).toNat : Nat) : Int) - ((0 : Nat) : Int)) 1
    rw [e1, e2]
    exact Heap.get?_push_size _ rfl
  · have e : b = (s.heap.push { cls := .type "range", data := .fields #[.int lo t, .int hi u, .int 1 v] }).objs.size := by simpa using hb
    subst e
    exact I1.fpOk (Nat.le_refl _) (I1.hok.fresh (Nat.le_refl _))
def iRng1 (ta : TA) : TI := fun σ H R => ta σ H fun vs H1 => ∃ j : Int, vs = [.int j] ∧ -(2 ^ 62) ≤ j ∧ j < 2 ^ 62 ∧ R (Itr 0 j.toNat) H1
def iRng2 (ta : TA) : TI := fun σ H R => ta σ H fun vs H1 => ∃ i j : Int, vs = [.int i, .int j] ∧ (-(2 ^ 62) ≤ i ∧ i < 2 ^ 62 ∧ -(2 ^ 62) ≤ j ∧ j < 2 ^ 62) ∧ R (Itr i (j - i).toNat) H1
theorem pi_range1 {a : Expr} {ta : TA} {p pos : Pos} (hg : Gl X "range") (hm : X.mg "range" = none) (ha : PA X [a] ta) (hs : starEach [a] X.env = [(false, eval a X.env)] := by rfl) : PI X tg (.Call (.Name "range" p) [a] [] pos) (iRng1 ta) := by
  intro pins s σ H R I h
  refine Call_ (ld_blt I hg hm boot_range (PyProof.Rows.callWith_type1 (thn (ha pos pins s σ H _ I h) fun us s1 ⟨vs, H1, I1, r1, q1⟩ => ?_) hs rfl))
  obtain ⟨j, e, q1, q2, q⟩ := q1
  subst e
  cases r1 with
  | cons r rr =>
    cases rr
    obtain ⟨t, rfl⟩ := r
    exact call_range_1 (range_it I1 (by omega) (by omega) q1 q2 (by simpa using q))
theorem pi_range2 {a b : Expr} {ta : TA} {p pos : Pos} (hg : Gl X "range") (hm : X.mg "range" = none) (ha : PA X [a, b] ta) (hs : starEach [a, b] X.env = [(false, eval a X.env), (false, eval b X.env)] := by rfl) (hs2 : starEach [b] X.env = [(false, eval b X.env)] := by rfl) :
    PI X tg (.Call (.Name "range" p) [a, b] [] pos) (iRng2 ta) := by
  intro pins s σ H R I h
  refine Call_ (ld_blt I hg hm boot_range (PyProof.Rows.callWith_type1 (thn (ha pos pins s σ H _ I h) fun us s1 ⟨vs, H1, I1, r1, q1⟩ => ?_) (by rw [hs, hs2]) (by rw [hs2]; rfl)))
  obtain ⟨i, j, e, ⟨q1, q2, q3, q4⟩, q⟩ := q1
  subst e
  cases r1 with
  | cons r rr =>
    cases rr with
    | cons r' rr =>
      cases rr
      obtain ⟨t, rfl⟩ := r
      obtain ⟨t', rfl⟩ := r'
      exact call_range_2 (range_it I1 q1 q2 q3 q4 q)

/-! ### for -/
/-- W: the invariant by the turn and a measure; N: what the body is to reach -/
def tFor (wi : TI) (g : TG) (tb : TS) : TS := fun D σ H => wi σ H fun J H1 => ∃ W : Nat → Nat → St → Hp → Prop, (∃ m, W 0 m σ H1) ∧ ∀ i m σ H, W i m σ H →
  (J.stop i H ∧ D.nx σ H) ∨ (J.go i H ∧ ∃ N : St → Hp → Prop, (∀ σ' H', N σ' H' → ∃ m', m' < m ∧ W (i + 1) m' σ' H') ∧ ∀ x H', J.yld i H x H' → g x σ H' fun σ2 H2 => tb { D with nx := N, ct := N, bk := D.nx } σ2 H2)
/-- the records at fp as they stand -/
def pinsAt (fp : List Addr) (h : Heap) : List (Addr × Obj) := fp.filterMap fun b => (h.get? b).map fun o => (b, o)
theorem mem_pinsAt {fp : List Addr} {h : Heap} {b : Addr} {o : Obj} (hb : b ∈ fp) (e : h.get? b = some o) : (b, o) ∈ pinsAt fp h := List.mem_filterMap.mpr ⟨b, hb, by rw [e]; rfl⟩
theorem of_pinsAt {fp : List Addr} {h : Heap} {p : Addr × Obj} (hp : p ∈ pinsAt fp h) : p.1 ∈ fp ∧ h.get? p.1 = some p.2 := by
  obtain ⟨b, hb, e⟩ := List.mem_filterMap.mp hp
  cases q : h.get? b with
  | none => rw [q] at e; cases e
  | some o =>
    rw [q] at e
    have e' : (b, o) = p := Option.some.inj e
    subst e'
    exact ⟨hb, q⟩
theorem Inv.pinned {pins : List (Addr × Obj)} {σ : St} {H : Hp} {s : Shared} {fp : List Addr} (I : Inv X pins σ H s) (hf : ∀ b ∈ fp, FpOk X pins H b) (ho : ∀ b ∈ fp, ∃ o, s.heap.get? b = some o ∧ ∀ v, o.data ≠ .cell v) : Inv X (pins ++ pinsAt fp s.heap) σ H s :=
  I.pins_of fun p hp => (List.mem_append.mp hp).elim (fun z => I.pin p (List.mem_append_right _ z)) fun z => by
    obtain ⟨hb, e⟩ := of_pinsAt z
    obtain ⟨f0, f1, f2, _⟩ := hf p.1 hb
    obtain ⟨o, e', d⟩ := ho p.1 hb
    rw [e] at e'; cases e'
    exact ⟨e, f0, f1, f2, d⟩
theorem Inv.unpinned {pins pl : List (Addr × Obj)} {σ : St} {H : Hp} {s : Shared} (I : Inv X (pins ++ pl) σ H s) : Inv X pins σ H s := I.pins_of fun p hp => I.pin p (List.mem_append_right _ (List.mem_append_left _ hp))
theorem ps_for {iter : Expr} {body : List Stmt} {wi : TI} {g : TG} {tb : TS} {pos : Pos} (hp : PassesOwn (model X.prog X.w) X.A X.env X.xe) (hc : X.calm = true) (hi : PI X tg iter wi) (hg : PG X tg g) (hb : PSs X body tb)
    (hs : ∀ x, foldedSetIterable iter X.env x = pure x := by intro _; rfl) : PS X (.For tg iter body [] pos) (tFor wi g tb) := by
  intro pins s σ H D I h
  refine wpAny_For (thn (hi pins s σ H _ I h) fun v s1 h1 => thn h1 fun itv s2 h2 => ?_) hs
  obtain ⟨it, fp, tn, J, H2, e, I2, T, st2, f2, W, ⟨m0, w0⟩, turn⟩ := h2
  subst e
  -- what stays true of the iterator's objects through the loop
  have stat : ∀ {H' : Hp}, (∀ b ∈ fp, H' b = none) → ∀ b ∈ fp, FpOk X pins H' b := fun hn b hb => ⟨hn b hb, (f2 b hb).2⟩
  refine codeAny_forLoop_any (fun n s' => ∃ i σ' H', Inv X pins σ' H' s' ∧ tn i s'.heap ∧ (∀ b ∈ fp, H' b = none) ∧ W i n σ' H') ?_ m0 ⟨0, σ, H2, I2, st2, fun b hb => (f2 b hb).1, w0⟩
  rintro n s3 ⟨i, σ3, H3, I3, st3, fr3, w3⟩
  rcases turn i n σ3 H3 w3 with ⟨stop, qn⟩ | ⟨go, N, hN, step⟩
  · refine wpAny_passesOwn hp (thn (T.done X rfl rfl rfl hc i pins s3 σ3 H3 X.xe I3 (stat fr3) st3 stop) fun r s4 ⟨hr, I4⟩ => ?_)
    subst hr
    exact wpAny_execs_nil ⟨σ3, H3, I4, qn⟩
  · refine wpAny_passesOwn hp (thn (T.item X rfl rfl rfl hc i pins s3 σ3 H3 X.xe I3 (stat fr3) st3 go) fun r s4 ⟨u, hr, h4⟩ => ?_)
    subst hr
    refine wpAny_passesOwn hp (thn h4 fun _ s5 ⟨x, H5, I5, r5, y5, st5, fr5⟩ => ?_)
    have I5' := I5.pinned (stat fr5) (T.obj _ _ st5)
    refine wpAny_passesOwn hp (thn (hg _ s5 σ3 H5 x u _ I5' r5 (step x H5 y5)) fun _ s6 ⟨σ6, H6, I6, q6⟩ => ?_)
    refine wpAny_passesOwn hp (thn (hb _ s6 σ6 H6 _ I6 q6) fun f s7 q7 => ?_)
    have again : ∀ {σ7 : St} {H7 : Hp}, Inv X (pins ++ pinsAt fp s5.heap) σ7 H7 s7 → N σ7 H7 → ∃ m, m < n ∧ ∃ i σ' H', Inv X pins σ' H' s7 ∧ tn i s7.heap ∧ (∀ b ∈ fp, H' b = none) ∧ W i m σ' H' := fun {σ7 H7} I7 n7 => by
      obtain ⟨m', hm, w7⟩ := hN σ7 H7 n7
      refine ⟨m', hm, i + 1, σ7, H7, I7.unpinned, T.keep _ _ _ st5 fun b hb o e => (I7.pin (b, o) (List.mem_append_right _ (List.mem_append_right _ (mem_pinsAt hb e)))).1, fun b hb => ?_, w7⟩
      obtain ⟨o, e, d⟩ := T.obj _ _ st5 b hb
      exact (I7.pin (b, o) (List.mem_append_right _ (List.mem_append_right _ (mem_pinsAt hb e)))).2.1
    cases f with
    | next => obtain ⟨σ7, H7, I7, n7⟩ := q7; exact again I7 n7
    | cont => obtain ⟨σ7, H7, I7, n7⟩ := q7; exact again I7 n7
    | brk => obtain ⟨σ7, H7, I7, q7⟩ := q7; exact ⟨σ7, H7, I7.unpinned, q7⟩
    | ret v => obtain ⟨x7, σ7, H7, I7, r7, q7⟩ := q7; exact ⟨x7, σ7, H7, I7.unpinned, r7, q7⟩
end

/-! ### the forms one uses -/
/-- over a list that the body leaves as it is -/
theorem for_list {K : PySem.W.Frag} {a : Addr} {xs : List V} {g : TG} {tb : TS} {D : Ends} {σ : St} {H : Hp} (Pv : Nat → St → Hp → Prop) (h0 : Pv 0 σ H) (hl : ∀ i σ H, i ≤ xs.length → Pv i σ H → SqL K H a xs)
    (hs : ∀ i x σ H, xs[i]? = some x → Pv i σ H → g x σ H fun σ2 H2 => tb { D with nx := Pv (i + 1), ct := Pv (i + 1), bk := D.nx } σ2 H2) (hd : ∀ σ H, Pv xs.length σ H → D.nx σ H) :
    ∃ W : Nat → Nat → St → Hp → Prop, (∃ m, W 0 m σ H) ∧ ∀ i m σ H, W i m σ H →
      ((Itl K a).stop i H ∧ D.nx σ H) ∨ ((Itl K a).go i H ∧ ∃ N : St → Hp → Prop, (∀ σ' H', N σ' H' → ∃ m', m' < m ∧ W (i + 1) m' σ' H') ∧ ∀ x H', (Itl K a).yld i H x H' → g x σ H' fun σ2 H2 => tb { D with nx := N, ct := N, bk := D.nx } σ2 H2) := by
  refine ⟨fun i m σ H => m = xs.length - i ∧ i ≤ xs.length ∧ Pv i σ H, ⟨xs.length, by simp, Nat.zero_le _, h0⟩, ?_⟩
  rintro i m σ H ⟨rfl, hi, p⟩
  have q := hl i σ H hi p
  by_cases hlt : i < xs.length
  · refine .inr ⟨⟨xs, xs[i], q, by simp [hlt]⟩, Pv (i + 1), fun σ' H' p' => ⟨xs.length - (i + 1), by omega, rfl, hlt, p'⟩, fun x H' y => ?_⟩
    obtain ⟨e, y⟩ := y
    subst e
    exact hs i x σ _ (y xs q) p
  · have e : i = xs.length := by omega
    subst e
    exact .inl ⟨⟨xs, q, Nat.le_refl _⟩, hd σ H p⟩
theorem for_tup {K : PySem.W.Frag} {a : Addr} {xs : List V} {g : TG} {tb : TS} {D : Ends} {σ : St} {H : Hp} (Pv : Nat → St → Hp → Prop) (h0 : Pv 0 σ H) (hl : ∀ i σ H, i ≤ xs.length → Pv i σ H → SqT K H a xs)
    (hs : ∀ i x σ H, xs[i]? = some x → Pv i σ H → g x σ H fun σ2 H2 => tb { D with nx := Pv (i + 1), ct := Pv (i + 1), bk := D.nx } σ2 H2) (hd : ∀ σ H, Pv xs.length σ H → D.nx σ H) :
    ∃ W : Nat → Nat → St → Hp → Prop, (∃ m, W 0 m σ H) ∧ ∀ i m σ H, W i m σ H →
      ((Itt K a).stop i H ∧ D.nx σ H) ∨ ((Itt K a).go i H ∧ ∃ N : St → Hp → Prop, (∀ σ' H', N σ' H' → ∃ m', m' < m ∧ W (i + 1) m' σ' H') ∧ ∀ x H', (Itt K a).yld i H x H' → g x σ H' fun σ2 H2 => tb { D with nx := N, ct := N, bk := D.nx } σ2 H2) := by
  refine ⟨fun i m σ H => m = xs.length - i ∧ i ≤ xs.length ∧ Pv i σ H, ⟨xs.length, by simp, Nat.zero_le _, h0⟩, ?_⟩
  rintro i m σ H ⟨rfl, hi, p⟩
  have q := hl i σ H hi p
  by_cases hlt : i < xs.length
  · refine .inr ⟨⟨xs, xs[i], q, by simp [hlt]⟩, Pv (i + 1), fun σ' H' p' => ⟨xs.length - (i + 1), by omega, rfl, hlt, p'⟩, fun x H' y => ?_⟩
    obtain ⟨e, y⟩ := y
    subst e
    exact hs i x σ _ (y xs q) p
  · have e : i = xs.length := by omega
    subst e
    exact .inl ⟨⟨xs, q, Nat.le_refl _⟩, hd σ H p⟩
theorem for_range {lo : Int} {n : Nat} {g : TG} {tb : TS} {D : Ends} {σ : St} {H : Hp} (Pv : Nat → St → Hp → Prop) (h0 : Pv 0 σ H)
    (hs : ∀ i σ H, i < n → Pv i σ H → g (.int (lo + i)) σ H fun σ2 H2 => tb { D with nx := Pv (i + 1), ct := Pv (i + 1), bk := D.nx } σ2 H2) (hd : ∀ σ H, Pv n σ H → D.nx σ H) :
    ∃ W : Nat → Nat → St → Hp → Prop, (∃ m, W 0 m σ H) ∧ ∀ i m σ H, W i m σ H →
      ((Itr lo n).stop i H ∧ D.nx σ H) ∨ ((Itr lo n).go i H ∧ ∃ N : St → Hp → Prop, (∀ σ' H', N σ' H' → ∃ m', m' < m ∧ W (i + 1) m' σ' H') ∧ ∀ x H', (Itr lo n).yld i H x H' → g x σ H' fun σ2 H2 => tb { D with nx := N, ct := N, bk := D.nx } σ2 H2) := by
  refine ⟨fun i m σ H => m = n - i ∧ i ≤ n ∧ Pv i σ H, ⟨n, by simp, Nat.zero_le _, h0⟩, ?_⟩
  rintro i m σ H ⟨rfl, hi, p⟩
  by_cases hlt : i < n
  · refine .inr ⟨hlt, Pv (i + 1), fun σ' H' p' => ⟨n - (i + 1), by omega, rfl, hlt, p'⟩, fun x H' y => ?_⟩
    obtain ⟨e, y⟩ := y
    subst e y
    exact hs i σ _ hlt p
  · have e : i = n := by omega
    subst e
    exact .inl ⟨Nat.le_refl _, hd σ H p⟩
/-- while, by a word and a measure of the state -/
theorem while_by {c : TT} {tb : TS} {D : Ends} {σ : St} {H : Hp} (Pv : St → Hp → Prop) (μ : St → Hp → Nat) (h0 : Pv σ H)
    (hs : ∀ σ H, Pv σ H → c σ H fun b H1 => if b = true then tb { D with nx := fun σ' H' => Pv σ' H' ∧ μ σ' H' < μ σ H, ct := fun σ' H' => Pv σ' H' ∧ μ σ' H' < μ σ H, bk := D.nx } σ H1 else D.nx σ H1)
    (mono : ∀ σ H Q Q', (∀ b H1, Q b H1 → Q' b H1) → c σ H Q → c σ H Q') : tWhile c tb D σ H := by
  refine ⟨fun m σ H => m = μ σ H ∧ Pv σ H, ⟨_, rfl, h0⟩, ?_⟩
  rintro m σ H ⟨rfl, p⟩
  refine mono σ H _ _ (fun b H1 q => ?_) (hs σ H p)
  cases b with
  | true => exact ⟨_, fun σ' H' ⟨p', l⟩ => ⟨_, l, rfl, p'⟩, q⟩
  | false => exact q
end L2

namespace L2
open PySem PySem.Spec PyProof.Rows

abbrev R2 := V → V → Hp → VK → Prop
/-- a two-place operation on values: f is binaryOp op, inplaceOp op or compareOp op -/
def OpR (X : Cx) (f : Value → Value → Sem Value) (r : R2) : Prop :=
  ∀ (pins : List (Addr × Obj)) (s : Shared) (σ : St) (H : Hp) (x y : V) (v u : Value) (Q : VK), Inv X pins σ H s → RelV x v → RelV y u → r x y H Q →
    wpAny (model X.prog X.w) X.A (f v u) (EP X pins σ Q) X.xe s
/-- a one-place operation -/
def UnR (X : Cx) (f : Value → Sem Value) (r : V → Hp → VK → Prop) : Prop :=
  ∀ (pins : List (Addr × Obj)) (s : Shared) (σ : St) (H : Hp) (x : V) (v : Value) (Q : VK), Inv X pins σ H s → RelV x v → r x H Q →
    wpAny (model X.prog X.w) X.A (f v) (EP X pins σ Q) X.xe s
/-- a call of a value that is known (a builtin, a type) with values -/
def CallR (X : Cx) (f : Value) (r : List V → Hp → VK → Prop) : Prop :=
  ∀ (pins : List (Addr × Obj)) (s : Shared) (σ : St) (H : Hp) (xs : List V) (us : List Value) (Q : VK), Inv X pins σ H s → Vals xs us → r xs H Q →
    wpAny (model X.prog X.w) X.A (call f us) (EP X pins σ Q) X.xe s
/-- a value's truth -/
def TruR (X : Cx) (r : V → Hp → (Bool → Hp → Prop) → Prop) : Prop :=
  ∀ (pins : List (Addr × Obj)) (s : Shared) (σ : St) (H : Hp) (x : V) (v : Value) (Q : Bool → Hp → Prop), Inv X pins σ H s → RelV x v → r x H Q →
    wpAny (model X.prog X.w) X.A (truthy v) (TP X pins σ Q) X.xe s

def tOp (r : R2) (ta tb : TE) : TE := fun σ H Q => ta σ H fun x H1 => tb σ H1 fun y H2 => r x y H2 Q
def tUn (r : V → Hp → VK → Prop) (ta : TE) : TE := fun σ H Q => ta σ H fun x H1 => r x H1 Q
/-- ints in, under C, and a value out -/
def rI (C : Int → Int → Prop) (g : Int → Int → V) : R2 := fun x y H Q => ∃ i j, x = .int i ∧ y = .int j ∧ C i j ∧ Q (g i j) H
def rI0 (g : Int → Int → V) : R2 := fun x y H Q => ∃ i j, x = .int i ∧ y = .int j ∧ Q (g i j) H
def rU (g : Int → V) : V → Hp → VK → Prop := fun x H Q => ∃ i, x = .int i ∧ Q (g i) H

section
variable {X : Cx} {a b c : Expr} {ta tb tc : TE} {pos : Pos}

theorem binT (ha : PE X a ta) (hb : PE X b tb) {pins : List (Addr × Obj)} {s : Shared} {σ : St} {H : Hp} {R : V → V → Hp → Prop} (I : Inv X pins σ H s)
    (h : ta σ H fun x H1 => tb σ H1 fun y H2 => R x y H2) {Q : Value → Shared → Prop} {f : Value → Value → Sem Value}
    (hf : ∀ v u s2 x y H2, Inv X pins σ H2 s2 → RelV x v → RelV y u → R x y H2 → wpAny (model X.prog X.w) X.A (f v u) Q X.xe s2) :
    wpAny (model X.prog X.w) X.A (eval a X.env) (fun v s₁ => wpAny (model X.prog X.w) X.A (eval b X.env) (fun u s₂ => wpAny (model X.prog X.w) X.A (f v u) Q X.xe s₂) X.xe s₁) X.xe s := by
  refine thn (ha pins s σ H _ I h) fun v s1 ⟨x, H1, I1, r1, q1⟩ => ?_
  refine thn (hb pins s1 σ H1 _ I1 q1) fun u s2 ⟨y, H2, I2, r2, q2⟩ => ?_
  exact hf v u s2 x y H2 I2 r1 r2 q2

theorem pe_op {op : Operator} {r : R2} (ho : OpR X (binaryOp op) r) (ha : PE X a ta) (hb : PE X b tb) : PE X (.BinOp a op b pos) (tOp r ta tb) := by
  intro pins s σ H Q I h
  exact wpAny_BinOp (binT ha hb I h fun v u s2 x y H2 I2 rx ry q => ho pins s2 σ H2 x y v u Q I2 rx ry q)
theorem pe_un {op : UnaryOp} {r : V → Hp → VK → Prop} (ho : UnR X (unaryOp op) r) (ha : PE X a ta) : PE X (.UnaryOp op a pos) (tUn r ta) := by
  intro pins s σ H Q I h
  exact UnaryOp_ (thn (ha pins s σ H _ I h) fun v s1 ⟨x, H1, I1, r1, q1⟩ => ho pins s1 σ H1 x v Q I1 r1 q1)
/-- a op= e at a name: the name's slot i -/
theorem augR {op : Operator} {r : R2} (ho : OpR X (inplaceOp op) r) {pins : List (Addr × Obj)} {s : Shared} {σ : St} {H : Hp} {x y : V} {v u : Value} {Q : VK} (I : Inv X pins σ H s)
    (rx : RelV x v) (ry : RelV y u) (q : r x y H Q) : wpAny (model X.prog X.w) X.A (inplaceOp op v u) (EP X pins σ Q) X.xe s := ho pins s σ H x y v u Q I rx ry q

/-! ### ints -/
theorem opI {f : Value → Value → Sem Value} {C : Int → Int → Prop} {g : Int → Int → Int}
    (rule : ∀ (i j : Int) (t u : Tok) (s : Shared) (Q : Value → Shared → Prop) (E : Value → Shared → Prop), C i j → Q (.int (g i j) s.toks) { s with toks := s.toks + 1 } → wpAny (model X.prog X.w) X.A (f (.int i t) (.int j u)) Q E s) :
    OpR X f (rI C fun i j => .int (g i j)) := by
  intro pins s σ H x y v u Q I rx ry h
  obtain ⟨i, j, rfl, rfl, hc, q⟩ := h
  obtain ⟨t, rfl⟩ := rx
  obtain ⟨t', rfl⟩ := ry
  exact rule i j t t' s _ _ hc ⟨.int (g i j), H, I.tok _, ⟨_, rfl⟩, q⟩
theorem opI0 {f : Value → Value → Sem Value} {g : Int → Int → Int}
    (rule : ∀ (i j : Int) (t u : Tok) (s : Shared) (Q : Value → Shared → Prop) (E : Value → Shared → Prop), Q (.int (g i j) s.toks) { s with toks := s.toks + 1 } → wpAny (model X.prog X.w) X.A (f (.int i t) (.int j u)) Q E s) :
    OpR X f (rI0 fun i j => .int (g i j)) := by
  intro pins s σ H x y v u Q I rx ry h
  obtain ⟨i, j, rfl, rfl, q⟩ := h
  obtain ⟨t, rfl⟩ := rx
  obtain ⟨t', rfl⟩ := ry
  exact rule i j t t' s _ _ ⟨.int (g i j), H, I.tok _, ⟨_, rfl⟩, q⟩
theorem opB0 {f : Value → Value → Sem Value} {g : Int → Int → Bool}
    (rule : ∀ (i j : Int) (t u : Tok) (s : Shared) (Q : Value → Shared → Prop) (E : Value → Shared → Prop), Q (.bool (g i j)) s → wpAny (model X.prog X.w) X.A (f (.int i t) (.int j u)) Q E s) :
    OpR X f (rI0 fun i j => .bl (g i j)) := by
  intro pins s σ H x y v u Q I rx ry h
  obtain ⟨i, j, rfl, rfl, q⟩ := h
  obtain ⟨t, rfl⟩ := rx
  obtain ⟨t', rfl⟩ := ry
  exact rule i j t t' s _ _ ⟨.bl (g i j), H, I, rfl, q⟩

def CDiv (i j : Int) : Prop := 0 < j ∧ j < 1073741824
def CDivN (i j : Int) : Prop := j ≠ 0 ∧ j.natAbs < 1073741824
def CPow (i j : Int) : Prop := 0 ≤ j ∧ j ≤ 1000000 ∧ i.natAbs < 2 ^ 64
def CMul (i j : Int) : Prop := (-(2 ^ 64) < i ∧ i < 2 ^ 64) ∨ (-(2 ^ 64) < j ∧ j < 2 ^ 64)
theorem CMul.ok {i j : Int} (h : CMul i j) : IntMulOk i j := by
  rcases h with ⟨h1, h2⟩ | ⟨h1, h2⟩
  · exact .of_left (intBits_le_64 h1 h2)
  · exact .of_right (intBits_le_64 h1 h2)
theorem two_pow_nn (k : Nat) : (0 : Int) ≤ 2 ^ k := by
  rw [two_pow_cast]
  exact Int.natCast_nonneg _

theorem op_add : OpR X (binaryOp .Add) (rI0 fun i j => .int (i + j)) := opI0 fun _ _ _ _ _ _ _ q => add_int q
theorem op_sub : OpR X (binaryOp .Sub) (rI0 fun i j => .int (i - j)) := opI0 fun _ _ _ _ _ _ _ q => sub_int q
theorem op_mul : OpR X (binaryOp .Mult) (rI CMul fun i j => .int (i * j)) := opI fun _ _ _ _ _ _ _ hc q => mul_int q hc.ok
/-- // by a positive divisor -/
theorem op_fdiv : OpR X (binaryOp .FloorDiv) (rI CDiv fun i j => .int (i / j)) := opI fun i j _ _ _ _ _ hc q => by
  have h1 : (0 : Int) < j := hc.1
  have h2 : j < 1073741824 := hc.2
  exact floordiv_int (by omega) (by rw [Int.fdiv_eq_ediv_of_nonneg i (by omega)]; exact q) (.inl (PyProof.noPylong_small (by omega)))
theorem op_fdivN : OpR X (binaryOp .FloorDiv) (rI CDivN fun i j => .int (i.fdiv j)) := opI fun _ _ _ _ _ _ _ hc q => floordiv_int hc.1 q (.inl (PyProof.noPylong_small hc.2))
/-- % by a positive divisor of any size -/
theorem op_mod : OpR X (binaryOp .Mod) (rI (fun _ j => 0 < j) fun i j => .int (i % j)) := opI fun i j _ _ _ _ _ hc q => by
  have h1 : (0 : Int) < j := hc
  exact mod_int' (by omega) (by rw [Int.fmod_eq_emod_of_nonneg i (by omega)]; exact q)
theorem op_modN : OpR X (binaryOp .Mod) (rI (fun _ j => j ≠ 0) fun i j => .int (i.fmod j)) := opI fun _ _ _ _ _ _ _ hc q => mod_int' hc q
theorem op_pow : OpR X (binaryOp .Pow) (rI CPow fun i j => .int (i ^ j.toNat)) := opI fun _ _ _ _ _ _ _ hc q => pow_int_small hc.1 hc.2.1 hc.2.2 q
theorem op_shl : OpR X (binaryOp .LShift) (rI CPow fun i j => .int (i * 2 ^ j.toNat)) := opI fun _ _ _ _ _ _ _ hc q => lshift_int_small hc.1 hc.2.1 hc.2.2 q
theorem op_shr : OpR X (binaryOp .RShift) (rI (fun _ j => 0 ≤ j) fun i j => .int (i / 2 ^ j.toNat)) := opI fun i j _ _ _ _ _ hc q =>
  rshift_int hc (by rw [Int.fdiv_eq_ediv_of_nonneg i (two_pow_nn _)]; exact q)
theorem op_and : OpR X (binaryOp .BitAnd) (rI0 fun i j => .int (Builtin.bitAnd i j)) := opI0 fun _ _ _ _ _ _ _ q => and_int q
theorem op_or : OpR X (binaryOp .BitOr) (rI0 fun i j => .int (Builtin.bitOr i j)) := opI0 fun _ _ _ _ _ _ _ q => or_int q
theorem op_xor : OpR X (binaryOp .BitXor) (rI0 fun i j => .int (Builtin.bitXor i j)) := opI0 fun _ _ _ _ _ _ _ q => xor_int q

theorem iop_add : OpR X (inplaceOp .Add) (rI0 fun i j => .int (i + j)) := opI0 fun _ _ _ _ _ _ _ q => iadd_int q
theorem iop_sub : OpR X (inplaceOp .Sub) (rI0 fun i j => .int (i - j)) := opI0 fun _ _ _ _ _ _ _ q => isub_int q
theorem iop_mul : OpR X (inplaceOp .Mult) (rI CMul fun i j => .int (i * j)) := opI fun _ _ _ _ _ _ _ hc q => imul_int q hc.ok
theorem iop_fdiv : OpR X (inplaceOp .FloorDiv) (rI CDiv fun i j => .int (i / j)) := opI fun i j _ _ _ _ _ hc q => by
  have h1 : (0 : Int) < j := hc.1
  have h2 : j < 1073741824 := hc.2
  exact ifloordiv_int (by omega) (by rw [Int.fdiv_eq_ediv_of_nonneg i (by omega)]; exact q) (.inl (PyProof.noPylong_small (by omega)))
theorem iop_mod : OpR X (inplaceOp .Mod) (rI (fun _ j => 0 < j) fun i j => .int (i % j)) := opI fun i j _ _ _ _ _ hc q => by
  have h1 : (0 : Int) < j := hc
  exact imod_int (by omega) (by rw [Int.fmod_eq_emod_of_nonneg i (by omega)]; exact q)
theorem iop_shl : OpR X (inplaceOp .LShift) (rI CPow fun i j => .int (i * 2 ^ j.toNat)) := opI fun _ _ _ _ _ _ _ hc q => ilshift_int_small hc.1 hc.2.1 hc.2.2 q
theorem iop_shr : OpR X (inplaceOp .RShift) (rI (fun _ j => 0 ≤ j) fun i j => .int (i / 2 ^ j.toNat)) := opI fun i j _ _ _ _ _ hc q =>
  irshift_int hc (by rw [Int.fdiv_eq_ediv_of_nonneg i (two_pow_nn _)]; exact q)
theorem iop_and : OpR X (inplaceOp .BitAnd) (rI0 fun i j => .int (Builtin.bitAnd i j)) := opI0 fun _ _ _ _ _ _ _ q => iand_int q
theorem iop_or : OpR X (inplaceOp .BitOr) (rI0 fun i j => .int (Builtin.bitOr i j)) := opI0 fun _ _ _ _ _ _ _ q => ior_int q
theorem iop_xor : OpR X (inplaceOp .BitXor) (rI0 fun i j => .int (Builtin.bitXor i j)) := opI0 fun _ _ _ _ _ _ _ q => ixor_int q

theorem unI {f : Value → Sem Value} {g : Int → Int}
    (rule : ∀ (i : Int) (t : Tok) (s : Shared) (Q : Value → Shared → Prop) (E : Value → Shared → Prop), Q (.int (g i) s.toks) { s with toks := s.toks + 1 } → wpAny (model X.prog X.w) X.A (f (.int i t)) Q E s) :
    UnR X f (rU fun i => .int (g i)) := by
  intro pins s σ H x v Q I rx h
  obtain ⟨i, rfl, q⟩ := h
  obtain ⟨t, rfl⟩ := rx
  exact rule i t s _ _ ⟨.int (g i), H, I.tok _, ⟨_, rfl⟩, q⟩
theorem un_neg : UnR X (unaryOp .USub) (rU fun i => .int (-i)) := unI fun _ _ _ _ _ q => neg_int q
theorem un_inv : UnR X (unaryOp .Invert) (rU fun i => .int (Builtin.bitNot i)) := unI fun _ _ _ _ _ q => invert_int q

/-! ### bools among ints: n += (a < b) -/
theorem op_add_ib : OpR X (binaryOp .Add) (fun x y H Q => ∃ i k, x = .int i ∧ y = .bl k ∧ Q (.int (i + b2i k)) H) := by
  intro pins s σ H x y v u Q I rx ry h
  obtain ⟨i, k, rfl, rfl, q⟩ := h
  obtain ⟨t, rfl⟩ := rx
  cases ry
  exact add_int_bool ⟨.int (i + b2i k), H, I.tok _, ⟨_, rfl⟩, q⟩
end

/-! ### comparisons -/
/-- the scalars that == tells apart as data does -/
def scal : V → V → Bool
  | .non, .non => true | .non, .int _ => true | .int _, .non => true | .non, .bl _ => true | .bl _, .non => true | .non, .str _ => true | .str _, .non => true
  | .int _, .int _ => true | .bl _, .bl _ => true | .str _, .str _ => true | .byt _, .byt _ => true
  | .int _, .str _ => true | .str _, .int _ => true | .bl _, .str _ => true | .str _, .bl _ => true
  | _, _ => false
def rEq : R2 := fun x y H Q => scal x y = true ∧ Q (.bl (decide (x = y))) H
def rNe : R2 := fun x y H Q => scal x y = true ∧ Q (.bl (!decide (x = y))) H

theorem dec_int {i j : Int} : decide (V.int i = V.int j) = (i == j) := by
  rw [Bool.eq_iff_iff]
  simp
theorem dec_bl {i j : Bool} : decide (V.bl i = V.bl j) = (i == j) := by
  rw [Bool.eq_iff_iff]
  simp
theorem dec_str {i j : Str} : decide (V.str i = V.str j) = (i == j) := by
  rw [Bool.eq_iff_iff]
  simp
theorem dec_byt {i j : Array UInt8} : decide (V.byt i = V.byt j) = (i.toList == j.toList) := by
  rw [Bool.eq_iff_iff]
  cases i
  cases j
  simp

section
variable {X : Cx} {a b c : Expr} {ta tb tc : TE} {pos : Pos}
theorem fin_bl {pins : List (Addr × Obj)} {σ : St} {H : Hp} {s : Shared} {Q : VK} {k k' : Bool} (I : Inv X pins σ H s) (q : Q (.bl k) H) (e : k = k') : EP X pins σ Q (.bool k') s := by
  subst e
  exact ⟨.bl k, H, I, rfl, q⟩
theorem op_eq : OpR X (compareOp .Eq) rEq := by
  intro pins s σ H x y v u Q I rx ry h
  obtain ⟨hs, q⟩ := h
  cases x with
  | non =>
    cases rx
    cases y with
    | non => cases ry; exact PySem.EqNone.eq_none_none (fin_bl I q (by simp))
    | bl j => cases ry; exact PySem.EqNone.eq_none_bool (fin_bl I q (by simp))
    | int j => obtain ⟨t', rfl⟩ := ry; exact PySem.EqNone.eq_none_int (fin_bl I q (by simp))
    | str j => obtain ⟨t', rfl⟩ := ry; exact PySem.EqNone.eq_none_str (fin_bl I q (by simp))
    | _ => exact absurd (show false = true from hs) Bool.false_ne_true
  | bl i =>
    cases rx
    cases y with
    | non => cases ry; exact PySem.EqNone.eq_bool_none (fin_bl I q (by simp))
    | bl j => cases ry; exact eq_bool (fin_bl I q dec_bl)
    | str j => obtain ⟨t', rfl⟩ := ry; exact PySem.EqMixed.eq_bool_str (fin_bl I q (by simp))
    | _ => exact absurd (show false = true from hs) Bool.false_ne_true
  | int i =>
    obtain ⟨t, rfl⟩ := rx
    cases y with
    | non => cases ry; exact PySem.EqNone.eq_int_none (fin_bl I q (by simp))
    | int j => obtain ⟨t', rfl⟩ := ry; exact eq_int (fin_bl I q dec_int)
    | str j => obtain ⟨t', rfl⟩ := ry; exact PySem.EqMixed.eq_int_str (fin_bl I q (by simp))
    | _ => exact absurd (show false = true from hs) Bool.false_ne_true
  | str i =>
    obtain ⟨t, rfl⟩ := rx
    cases y with
    | non => cases ry; exact PySem.EqNone.eq_str_none (fin_bl I q (by simp))
    | bl j => cases ry; exact PySem.EqMixed.eq_str_bool (fin_bl I q (by simp))
    | int j => obtain ⟨t', rfl⟩ := ry; exact PySem.EqMixed.eq_str_int (fin_bl I q (by simp))
    | str j => obtain ⟨t', rfl⟩ := ry; exact eq_str (fin_bl I q dec_str)
    | _ => exact absurd (show false = true from hs) Bool.false_ne_true
  | byt i =>
    obtain ⟨t, rfl⟩ := rx
    cases y with
    | byt j => obtain ⟨t', rfl⟩ := ry; exact PySem.W.eq_bytes (fin_bl I q dec_byt)
    | _ => exact absurd (show false = true from hs) Bool.false_ne_true
  | _ => cases y <;> exact absurd (show false = true from hs) Bool.false_ne_true
theorem op_ne : OpR X (compareOp .NotEq) rNe := by
  intro pins s σ H x y v u Q I rx ry h
  obtain ⟨hs, q⟩ := h
  cases x with
  | non =>
    cases rx
    cases y with
    | non => cases ry; exact PySem.EqNone.ne_none_none (fin_bl I q (by simp))
    | bl j => cases ry; exact PySem.EqNone.ne_none_bool (fin_bl I q (by simp))
    | int j => obtain ⟨t', rfl⟩ := ry; exact PySem.EqNone.ne_none_int (fin_bl I q (by simp))
    | str j => obtain ⟨t', rfl⟩ := ry; exact PySem.EqNone.ne_none_str (fin_bl I q (by simp))
    | _ => exact absurd (show false = true from hs) Bool.false_ne_true
  | bl i =>
    cases rx
    cases y with
    | non => cases ry; exact PySem.EqNone.ne_bool_none (fin_bl I q (by simp))
    | bl j => cases ry; exact ne_bool (fin_bl I q (congrArg not dec_bl))
    | str j => obtain ⟨t', rfl⟩ := ry; exact PySem.EqMixed.ne_bool_str (fin_bl I q (by simp))
    | _ => exact absurd (show false = true from hs) Bool.false_ne_true
  | int i =>
    obtain ⟨t, rfl⟩ := rx
    cases y with
    | non => cases ry; exact PySem.EqNone.ne_int_none (fin_bl I q (by simp))
    | int j => obtain ⟨t', rfl⟩ := ry; exact ne_int (fin_bl I q (congrArg not dec_int))
    | str j => obtain ⟨t', rfl⟩ := ry; exact PySem.EqMixed.ne_int_str (fin_bl I q (by simp))
    | _ => exact absurd (show false = true from hs) Bool.false_ne_true
  | str i =>
    obtain ⟨t, rfl⟩ := rx
    cases y with
    | non => cases ry; exact PySem.EqNone.ne_str_none (fin_bl I q (by simp))
    | bl j => cases ry; exact PySem.EqMixed.ne_str_bool (fin_bl I q (by simp))
    | int j => obtain ⟨t', rfl⟩ := ry; exact PySem.EqMixed.ne_str_int (fin_bl I q (by simp))
    | str j => obtain ⟨t', rfl⟩ := ry; exact ne_str (fin_bl I q (congrArg not dec_str))
    | _ => exact absurd (show false = true from hs) Bool.false_ne_true
  | byt i =>
    obtain ⟨t, rfl⟩ := rx
    cases y with
    | byt j => obtain ⟨t', rfl⟩ := ry; exact PySem.W.ne_bytes (fin_bl I q (congrArg not dec_byt))
    | _ => exact absurd (show false = true from hs) Bool.false_ne_true
  | _ => cases y <;> exact absurd (show false = true from hs) Bool.false_ne_true

theorem op_lt : OpR X (compareOp .Lt) (rI0 fun i j => .bl (decide (i < j))) := opB0 fun _ _ _ _ _ _ _ q => lt_int q
theorem op_le : OpR X (compareOp .LtE) (rI0 fun i j => .bl (decide (i ≤ j))) := opB0 fun _ _ _ _ _ _ _ q => le_int q
theorem op_gt : OpR X (compareOp .Gt) (rI0 fun i j => .bl (decide (j < i))) := opB0 fun _ _ _ _ _ _ _ q => gt_int q
theorem op_ge : OpR X (compareOp .GtE) (rI0 fun i j => .bl (decide (j ≤ i))) := opB0 fun _ _ _ _ _ _ _ q => ge_int q
theorem op_lt_str : OpR X (compareOp .Lt) (fun x y H Q => ∃ i j, x = .str i ∧ y = .str j ∧ Q (.bl (decide (i.cps.toList < j.cps.toList))) H) := by
  intro pins s σ H x y v u Q I rx ry h
  obtain ⟨i, j, rfl, rfl, q⟩ := h
  obtain ⟨t, rfl⟩ := rx
  obtain ⟨t', rfl⟩ := ry
  exact lt_str (fin_bl I q rfl)
/-- the one string within the other -/
theorem op_in_str : OpR X (compareOp .In) (fun x y H Q => ∃ i j, x = .str i ∧ y = .str j ∧ Q (.bl (!(Builtin.Str.occurrences j i 0 j.length 1).isEmpty)) H) := by
  intro pins s σ H x y v u Q I rx ry h
  obtain ⟨i, j, rfl, rfl, q⟩ := h
  obtain ⟨t, rfl⟩ := rx
  obtain ⟨t', rfl⟩ := ry
  exact in_str (fin_bl I q rfl)

/-- is None, is not None: the right side a value none -/
theorem op_isN : OpR X (compareOp .Is) (fun x y H Q => y = .non ∧ Q (.bl (decide (x = .non))) H) := by
  intro pins s σ H x y v u Q I rx ry h
  obtain ⟨rfl, q⟩ := h
  cases ry
  refine is_none_gen (fin_bl I q ?_)
  cases x <;> first
    | (cases rx; rfl)
    | (obtain ⟨t, rfl⟩ := rx; rfl)
theorem op_notN : OpR X (compareOp .IsNot) (fun x y H Q => y = .non ∧ Q (.bl (!decide (x = .non))) H) := by
  intro pins s σ H x y v u Q I rx ry h
  obtain ⟨rfl, q⟩ := h
  cases ry
  refine isnot_none_gen (fin_bl I q ?_)
  cases x <;> first
    | (cases rx; rfl)
    | (obtain ⟨t, rfl⟩ := rx; rfl)

theorem op_notin_str : OpR X (compareOp .NotIn) (fun x y H Q => ∃ i j, x = .str i ∧ y = .str j ∧ Q (.bl (!(!(Builtin.Str.occurrences j i 0 j.length 1).isEmpty))) H) := by
  intro pins s σ H x y v u Q I rx ry h
  obtain ⟨i, j, rfl, rfl, q⟩ := h
  obtain ⟨t, rfl⟩ := rx
  obtain ⟨t', rfl⟩ := ry
  exact notIn_str (fin_bl I q rfl)
/-- is, is not of two objects that are tracked lists or instances -/
def isObj : HO → Bool
  | .lst _ => true
  | .ins _ _ _ => true
  | _ => false
theorem obj_there {pins : List (Addr × Obj)} {s : Shared} {σ : St} {H : Hp} {a : Addr} {o : HO} (I : Inv X pins σ H s) (h : H a = some o) (p : isObj o = true) : ∃ ob, s.heap.get? a = some ob ∧ ob.cls ≠ .type "tuple" := by
  cases o with
  | lst xs =>
    obtain ⟨_, its, n, _, e⟩ : xs.length ≤ sizeLine ∧ ∃ (its : List Value) (n : Nat), Vals xs its ∧ s.heap.get? a = some { cls := .type "list", data := .seq its.toArray n } := I.hok a _ h
    exact ⟨_, e, (by show Value.type "list" ≠ .type "tuple"; decide +kernel)⟩
  | ins C dx fs =>
    have x := I.hok a _ h
    obtain ⟨_, _, _, e, _⟩ := x
    exact ⟨_, e, (by show Value.ref C ≠ .type "tuple"; exact fun z => by cases z)⟩
  | _ => exact absurd (show false = true from p) Bool.false_ne_true
theorem op_is_ref : OpR X (compareOp .Is) (fun x y H Q => ∃ a b oa ob, x = .ref a ∧ y = .ref b ∧ H a = some oa ∧ isObj oa = true ∧ H b = some ob ∧ isObj ob = true ∧ Q (.bl (decide (a = b))) H) := by
  intro pins s σ H x y v u Q I rx ry h
  obtain ⟨a, b, oa, ob, rfl, rfl, ha, pa, hb, pb, q⟩ := h
  cases rx
  cases ry
  obtain ⟨o1, e1, n1⟩ := obj_there I ha pa
  obtain ⟨o2, e2, _⟩ := obj_there I hb pb
  by_cases z : a = b
  · subst z
    exact wpAny_is_ref_self (fin_bl I q (by simp))
  · exact wpAny_is_ref_other z e1 e2 n1 (fin_bl I q (by simp [z]))
theorem op_isnot_ref : OpR X (compareOp .IsNot) (fun x y H Q => ∃ a b oa ob, x = .ref a ∧ y = .ref b ∧ H a = some oa ∧ isObj oa = true ∧ H b = some ob ∧ isObj ob = true ∧ Q (.bl (!decide (a = b))) H) := by
  intro pins s σ H x y v u Q I rx ry h
  obtain ⟨a, b, oa, ob, rfl, rfl, ha, pa, hb, pb, q⟩ := h
  cases rx
  cases ry
  obtain ⟨o1, e1, n1⟩ := obj_there I ha pa
  obtain ⟨o2, e2, _⟩ := obj_there I hb pb
  by_cases z : a = b
  · subst z
    exact wpAny_isNot_ref_self (fin_bl I q (by simp))
  · exact wpAny_isNot_ref_other z e1 e2 n1 (fin_bl I q (by simp [z]))

/-- two rules for one operation: by cases -/
theorem OpR.or {f : Value → Value → Sem Value} {r r' : R2} (h : OpR X f r) (h' : OpR X f r') : OpR X f (fun x y H Q => r x y H Q ∨ r' x y H Q) := by
  intro pins s σ H x y v u Q I rx ry q
  rcases q with q | q
  · exact h pins s σ H x y v u Q I rx ry q
  · exact h' pins s σ H x y v u Q I rx ry q

theorem nomark (b : Expr) {op : CmpOp} (h : op ≠ .In := by decide) (h2 : op ≠ .NotIn := by decide) : behindInMarks op b = false := by
  have e1 : (op == CmpOp.In) = false := by cases op <;> first | rfl | exact absurd rfl h
  have e2 : (op == CmpOp.NotIn) = false := by cases op <;> first | rfl | exact absurd rfl h2
  cases b <;> simp [behindInMarks, e1, e2]
/-- a comparison as a value; hm: nomark b, or (for in, not in) by with_unfolding_all rfl -/
theorem pe_cmpR {op : CmpOp} {r : R2} (ho : OpR X (compareOp op) r) (ha : PE X a ta) (hb : PE X b tb) (hm : behindInMarks op b = false) : PE X (.Compare a [op] [b] pos) (tOp r ta tb) := by
  intro pins s σ H Q I h
  exact wpAny_Compare1 (binT ha hb I h fun v u s2 x y H2 I2 rx ry q => ho pins s2 σ H2 x y v u Q I2 rx ry q) hm
/-- a reading of a value as a test -/
def tTest (t : TE) : TT := fun σ H Q => t σ H fun x H' => ∃ k, x = .bl k ∧ Q k H'
theorem pt_cmpR {op : CmpOp} {r : R2} (ho : OpR X (compareOp op) r) (ha : PE X a ta) (hb : PE X b tb) (hm : behindInMarks op b = false) : PT X (.Compare a [op] [b] pos) (tTest (tOp r ta tb)) := by
  intro pins s σ H Q I h
  refine wpAny_isTrue_Compare1 (thn (ha pins s σ H _ I h) fun v s1 ⟨x, H1, I1, r1, q1⟩ => thn (hb pins s1 σ H1 _ I1 q1) fun u s2 ⟨y, H2, I2, r2, q2⟩ =>
    thn (ho pins s2 σ H2 x y v u _ I2 r1 r2 q2) fun c s3 ⟨z, H3, I3, r3, k, e, q3⟩ => ?_) hm
  subst e
  cases r3
  exact wpAny_truthy_bool ⟨H3, I3, q3⟩
/-- a op1 b op2 c -/
def tChain (r r' : R2) (ta tb tc : TE) : TE := fun σ H Q => ta σ H fun x H1 => tb σ H1 fun y H2 => r x y H2 fun z H3 => ∃ k, z = .bl k ∧
  (if k = true then tc σ H3 fun w' H4 => r' y w' H4 Q else Q (.bl false) H3)
theorem pe_chain {op op' : CmpOp} {r r' : R2} (ho : OpR X (compareOp op) r) (ho' : OpR X (compareOp op') r') (ha : PE X a ta) (hb : PE X b tb) (hc : PE X c tc)
    (hm : lastMarks [op, op'] [b, c] = false := by with_unfolding_all rfl) : PE X (.Compare a [op, op'] [b, c] pos) (tChain r r' ta tb tc) := by
  intro pins s σ H Q I h
  refine Compare_chain (thn (ha pins s σ H _ I h) fun v s1 ⟨x, H1, I1, r1, q1⟩ => chain_link (thn (hb pins s1 σ H1 _ I1 q1) fun u s2 ⟨y, H2, I2, r2, q2⟩ =>
    thn (ho pins s2 σ H2 x y v u _ I2 r1 r2 q2) fun d s3 ⟨z, H3, I3, r3, k, e, q3⟩ => ?_)) hm
  subst e
  cases r3
  refine wpAny_truthy_bool ?_
  cases k with
  | false => exact ite_ff ⟨.bl false, H3, I3, rfl, q3⟩
  | true => exact ite_tt (chain_last (thn (hc pins s3 σ H3 _ I3 q3) fun w' s4 ⟨z', H4, I4, r4, q4⟩ => ho' pins s4 σ H4 y z' u w' Q I4 r2 r4 q4))
theorem pt_chain {op op' : CmpOp} {r r' : R2} (ho : OpR X (compareOp op) r) (ho' : OpR X (compareOp op') r') (ha : PE X a ta) (hb : PE X b tb) (hc : PE X c tc)
    (hm : lastMarks [op, op'] [b, c] = false := by with_unfolding_all rfl) : PT X (.Compare a [op, op'] [b, c] pos) (tTest (tChain r r' ta tb tc)) := by
  intro pins s σ H Q I h
  refine isTrue_chain (thn (ha pins s σ H _ I h) fun v s1 ⟨x, H1, I1, r1, q1⟩ => test_link (thn (hb pins s1 σ H1 _ I1 q1) fun u s2 ⟨y, H2, I2, r2, q2⟩ =>
    thn (ho pins s2 σ H2 x y v u _ I2 r1 r2 q2) fun d s3 ⟨z, H3, I3, r3, k, e, q3⟩ => ?_)) hm
  subst e
  cases r3
  refine wpAny_truthy_bool ?_
  cases k with
  | false =>
    obtain ⟨k', e', q'⟩ := q3
    cases e'
    exact ite_ff ⟨H3, I3, q'⟩
  | true =>
    refine ite_tt (test_last (thn (hc pins s3 σ H3 _ I3 q3) fun w' s4 ⟨z', H4, I4, r4, q4⟩ => thn (ho' pins s4 σ H4 y z' u w' _ I4 r2 r4 q4) fun d' s5 ⟨z2, H5, I5, r5, k2, e2, q5⟩ => ?_))
    subst e2
    cases r5
    exact wpAny_truthy_bool ⟨H5, I5, q5⟩

/-! ### truth -/
/-- a value's truth by the abstract heap -/
def TruV (K : PySem.W.Frag) (x : V) (H : Hp) (k : Bool) : Prop :=
  match x with
  | .non => k = false
  | .bl b => k = b
  | .int i => k = (i != 0)
  | .str y => y.length ≤ sizeLine ∧ k = ((y.length : Int) != 0)
  | .byt y => y.size ≤ sizeLine ∧ k = ((y.size : Int) != 0)
  | .ref p => (∃ xs, SqL K H p xs ∧ k = !xs.isEmpty) ∨ (∃ xs, SqT K H p xs ∧ k = !xs.isEmpty) ∨ ∃ kvs, H p = some (.dK kvs) ∧ k = !kvs.isEmpty
  | _ => False
theorem isEmpty_kv {κ : Type} {kvs : List (κ × V)} {vs : List (κ × Value)} (r : KV kvs vs) : (!vs.isEmpty) = !kvs.isEmpty := by
  cases r <;> rfl
theorem isEmpty_of {xs : List V} {its : List Value} (r : Vals xs its) : (!its.toArray.isEmpty) = !xs.isEmpty := by
  cases r <;> simp
theorem line63 : (sizeLine : Nat) < 2 ^ 63 := by rw [sizeLine_eq]; decide
theorem tru_ok : TruR X (fun x H Q => ∃ k, TruV X.K x H k ∧ Q k H) := by
  intro pins s σ H x v Q I rx h
  obtain ⟨k, e, q⟩ := h
  have hl := line63
  have hs : sizeLine = 16777216 := sizeLine_eq
  cases x with
  | non =>
    cases rx
    have e' : k = false := e
    subst e'
    exact truthy_none ⟨H, I, q⟩
  | bl b =>
    cases rx
    have e' : k = b := e
    subst e'
    exact wpAny_truthy_bool ⟨H, I, q⟩
  | int i =>
    obtain ⟨t, rfl⟩ := rx
    have e' : k = (i != 0) := e
    subst e'
    exact PySem.P.truthy_int ⟨H, I, q⟩
  | str y =>
    obtain ⟨t, rfl⟩ := rx
    obtain ⟨hy, e'⟩ : y.length ≤ sizeLine ∧ k = ((y.length : Int) != 0) := e
    subst e'
    exact PySem.P.truthy_str (by omega) ⟨H, I.tok _, q⟩
  | byt y =>
    obtain ⟨t, rfl⟩ := rx
    obtain ⟨hy, e'⟩ : y.size ≤ sizeLine ∧ k = ((y.size : Int) != 0) := e
    subst e'
    exact PySem.W.truthy_bytes (by omega) ⟨H, I.tok _, q⟩
  | ref p =>
    cases rx
    have e' : (∃ xs, SqL X.K H p xs ∧ k = !xs.isEmpty) ∨ (∃ xs, SqT X.K H p xs ∧ k = !xs.isEmpty) ∨ ∃ kvs, H p = some (.dK kvs) ∧ k = !kvs.isEmpty := e
    rcases e' with ⟨xs, hx, e'⟩ | ⟨xs, hx, e'⟩ | ⟨kvs, hx, e'⟩
    · subst e'
      obtain ⟨its, r, pl, hz⟩ := I.list hx
      have hlen := r.length
      exact wpAny_truthy_list pl.isList (by simp only [List.size_toArray]; omega) ⟨H, I.tok _, by rw [isEmpty_of r]; exact q⟩
    · subst e'
      obtain ⟨its, r, pl, hz⟩ := I.tuple hx
      have hlen := r.length
      exact truthy_tuple pl (by simp only [List.size_toArray]; omega) ⟨H, I.tok _, by rw [isEmpty_of r]; exact q⟩
    · subst e'
      obtain ⟨hz, hS, vs, r, m⟩ : kvs.length ≤ sizeLine ∧ (p == sysModules) = false ∧ ∃ vs, KV kvs vs ∧ s.heap.DictOf (mixKind X.prog X.w) p vs := I.hok p _ hx
      have hlen : kvs.length = vs.length := Paired.length r
      exact wpAny_truthy_dict hS m (by omega) ⟨H, I.tok _, by rw [isEmpty_kv r]; exact q⟩
  | _ => exact (show False from e).elim
/-- any expression whose test is its value's truth (a name, a call, a subscript, a field ..: he by fun _ => rfl) -/
theorem pt_truth (ha : PE X a ta) (he : ∀ whole, isTrue a X.env whole = (do let v ← whole; standAt a.pos; holding [v] (truthy v))) :
    PT X a (fun σ H Q => ta σ H fun x H' => ∃ k, TruV X.K x H' k ∧ Q k H') := by
  intro pins s σ H Q I h
  exact isTrue_plain (thn (ha pins s σ H _ I h) fun v s1 ⟨x, H1, I1, r1, q1⟩ => tru_ok pins s1 σ H1 x v Q I1 r1 q1) (he _)

/-! ### strs and bytes -/
theorem pe_byt {x : List UInt8} {k : Nat} : PE X (.Constant (.bytes x) k pos) (fun _ H Q => Q (.byt x.toArray) H) := fun _ _ _ H _ I h => PySem.W.Constant_bytes ⟨.byt x.toArray, H, I.tok _, ⟨_, rfl⟩, h⟩
theorem op_add_str : OpR X (binaryOp .Add) (fun x y H Q => ∃ i j, x = .str i ∧ y = .str j ∧ i.length + j.length ≤ sizeLine ∧ Q (.str (i ++ j)) H) := by
  intro pins s σ H x y v u Q I rx ry h
  obtain ⟨i, j, rfl, rfl, hz, q⟩ := h
  obtain ⟨t, rfl⟩ := rx
  obtain ⟨t', rfl⟩ := ry
  exact add_str (fun t' tk => ⟨.str (i ++ j), H, I.tok _, ⟨_, rfl⟩, q⟩) hz
theorem iop_add_str : OpR X (inplaceOp .Add) (fun x y H Q => ∃ i j, x = .str i ∧ y = .str j ∧ i.length + j.length ≤ sizeLine ∧ Q (.str (i ++ j)) H) := by
  intro pins s σ H x y v u Q I rx ry h
  obtain ⟨i, j, rfl, rfl, hz, q⟩ := h
  obtain ⟨t, rfl⟩ := rx
  obtain ⟨t', rfl⟩ := ry
  exact iadd_str (fun t' tk => ⟨.str (i ++ j), H, I.tok _, ⟨_, rfl⟩, q⟩) hz
theorem op_add_byt : OpR X (binaryOp .Add) (fun x y H Q => ∃ i j, x = .byt i ∧ y = .byt j ∧ i.size + j.size ≤ 16777216 ∧ Q (.byt (i ++ j)) H) := by
  intro pins s σ H x y v u Q I rx ry h
  obtain ⟨i, j, rfl, rfl, hz, q⟩ := h
  obtain ⟨t, rfl⟩ := rx
  obtain ⟨t', rfl⟩ := ry
  exact PySem.W.KBy.add_bytes hz (fun t' tk => ⟨.byt (i ++ j), H, I.tok _, ⟨_, rfl⟩, q⟩)

def PlainIxT (b : Expr) : Prop := ∀ o i, subscripted b false o i = operate [o, i] (getItem o i)
/-- s[i], 0 ≤ i < len -/
theorem pe_item_str (ha : PE X a ta) (hb : PE X b tb) (hs : PlainIxT b) :
    PE X (.Subscript a b pos) (tOp (fun x y H Q => ∃ z i c, x = .str z ∧ y = .int i ∧ 0 ≤ i ∧ i < 2 ^ 63 ∧ i < z.length ∧ z.cps[i.toNat]? = some c ∧ Q (.str ⟨#[c]⟩) H) ta tb) := by
  intro pins s σ H Q I h
  refine Subscript_ (binT ha hb I h fun v u s2 x y H2 I2 rx ry q => ?_)
  obtain ⟨z, i, c, rfl, rfl, h0, h63, h1, hc, q⟩ := q
  obtain ⟨t, rfl⟩ := rx
  obtain ⟨t', rfl⟩ := ry
  have e : seqIndex? i z.length = some i.toNat := PySem.StrLaws.seqIndex_nonneg h0 h1
  exact tail_any (typeIs_str s2 z t) slot_str_getitem.lookup (getItem_str (c := c) (by
    have e1 : decide (i < -(2 ^ 63 : Int)) = false := decide_eq_false (by omega)
    have e2 : decide (i ≥ 2 ^ 63) = false := decide_eq_false (by omega)
    rw [e1, e2] <;> rfl) (by rw [e]; exact hc) ⟨.str ⟨#[c]⟩, H2, I2.tok _, ⟨_, rfl⟩, q⟩) (hs _ _)
/-- b[i], 0 ≤ i < len -/
theorem pe_item_byt (ha : PE X a ta) (hb : PE X b tb) (hs : PlainIxT b) :
    PE X (.Subscript a b pos) (tOp (fun x y H Q => ∃ (z : List UInt8) (i : Int), x = .byt z.toArray ∧ y = .int i ∧ z.length ≤ sizeLine ∧ 0 ≤ i ∧ i < z.length ∧ Q (.int ((z.getD i.toNat 0).toNat : Nat)) H) ta tb) := by
  intro pins s σ H Q I h
  refine Subscript_ (binT ha hb I h fun v u s2 x y H2 I2 rx ry q => ?_)
  obtain ⟨z, i, rfl, rfl, hz, h0, h1, q⟩ := q
  obtain ⟨t, rfl⟩ := rx
  obtain ⟨t', rfl⟩ := ry
  have hl : sizeLine = 16777216 := sizeLine_eq
  exact tail_any (PySem.W.typeIs_bytes s2 z.toArray t) PySem.W.FB.slot_bytes_getitem.lookup (PySem.W.getItem_bytes (by omega) h0 h1 ⟨.int ((z.getD i.toNat 0).toNat : Nat), H2, I2.tok _, ⟨_, rfl⟩, q⟩) (hs _ _)

/-! ### scalar builtins, by CallR -/
theorem vals1 {x : V} {us : List Value} (r : Vals [x] us) : ∃ u, us = [u] ∧ RelV x u := by
  cases r with
  | cons r1 r2 => cases r2; exact ⟨_, rfl, r1⟩
theorem vals2 {x y : V} {us : List Value} (r : Vals [x, y] us) : ∃ u w', us = [u, w'] ∧ RelV x u ∧ RelV y w' := by
  cases r with
  | cons r1 r2 =>
    cases r2 with
    | cons r3 r4 => cases r4; exact ⟨_, _, rfl, r1, r3⟩
theorem call_abs : CallR X (.builtin "abs") (fun xs H Q => ∃ i, xs = [.int i] ∧ Q (.int (if i < 0 then -i else i)) H) := by
  intro pins s σ H xs us Q I r h
  obtain ⟨i, rfl, q⟩ := h
  obtain ⟨u, rfl, t, rfl⟩ := vals1 r
  exact call_abs_int fun u tk => ⟨.int (if i < 0 then -i else i), H, I.tok _, ⟨_, rfl⟩, q⟩
theorem call_max2 (hc : X.calm = true) : CallR X (.builtin "max") (fun xs H Q => ∃ i j, xs = [.int i, .int j] ∧ Q (.int (if j > i then j else i)) H) := by
  intro pins s σ H xs us Q I r h
  obtain ⟨i, j, rfl, q⟩ := h
  obtain ⟨u, w', rfl, ⟨t, rfl⟩, ⟨t', rfl⟩⟩ := vals2 r
  refine max_two_ints (I.ok.hd hc) fun h' tk k => ⟨_, H, I.kept k, ?_, q⟩
  by_cases hj : j > i
  · rw [if_pos hj, if_pos hj]; exact ⟨_, rfl⟩
  · rw [if_neg hj, if_neg hj]; exact ⟨_, rfl⟩
theorem call_min2 (hc : X.calm = true) : CallR X (.builtin "min") (fun xs H Q => ∃ i j, xs = [.int i, .int j] ∧ Q (.int (if j < i then j else i)) H) := by
  intro pins s σ H xs us Q I r h
  obtain ⟨i, j, rfl, q⟩ := h
  obtain ⟨u, w', rfl, ⟨t, rfl⟩, ⟨t', rfl⟩⟩ := vals2 r
  refine min_two_ints (I.ok.hd hc) fun h' tk k => ⟨_, H, I.kept k, ?_, q⟩
  by_cases hj : j < i
  · rw [if_pos hj, if_pos hj]; exact ⟨_, rfl⟩
  · rw [if_neg hj, if_neg hj]; exact ⟨_, rfl⟩
theorem call_int1 : CallR X (.type "int") (fun xs H Q => (∃ i, xs = [.int i] ∧ Q (.int i) H) ∨ ∃ k, xs = [.bl k] ∧ Q (.int (if k then 1 else 0)) H) := by
  intro pins s σ H xs us Q I r h
  rcases h with ⟨i, rfl, q⟩ | ⟨k, rfl, q⟩
  · obtain ⟨u, rfl, t, rfl⟩ := vals1 r
    exact call_int_int ⟨.int i, H, I, ⟨_, rfl⟩, q⟩
  · obtain ⟨u, rfl, r1⟩ := vals1 r
    cases r1
    exact call_int_bool ⟨.int (if k then 1 else 0), H, I.tok _, ⟨_, rfl⟩, q⟩
theorem call_bool1 : CallR X (.type "bool") (fun xs H Q => (∃ i, xs = [.int i] ∧ Q (.bl (i != 0)) H) ∨ ∃ k, xs = [.bl k] ∧ Q (.bl k) H) := by
  intro pins s σ H xs us Q I r h
  rcases h with ⟨i, rfl, q⟩ | ⟨k, rfl, q⟩
  · obtain ⟨u, rfl, t, rfl⟩ := vals1 r
    exact call_bool_int ⟨.bl (i != 0), H, I, rfl, q⟩
  · obtain ⟨u, rfl, r1⟩ := vals1 r
    cases r1
    exact call_bool_bool ⟨.bl k, H, I, rfl, q⟩
theorem call_str_int : CallR X (.type "str") (fun xs H Q => ∃ i, xs = [.int i] ∧ i.natAbs.log2 < 1920 ∧ Q (.str (toString i)) H) := by
  intro pins s σ H xs us Q I r h
  obtain ⟨i, rfl, hz, q⟩ := h
  obtain ⟨u, rfl, t, rfl⟩ := vals1 r
  exact PySem.P.str_of_int hz ⟨.str _, H, I.tok _, ⟨_, rfl⟩, q⟩
theorem call_ord : CallR X (.builtin "ord") (fun xs H Q => ∃ x, xs = [.str x] ∧ x.length = 1 ∧ Q (.int (x.cps.getD 0 0 : Nat)) H) := by
  intro pins s σ H xs us Q I r h
  obtain ⟨x, rfl, hz, q⟩ := h
  obtain ⟨u, rfl, t, rfl⟩ := vals1 r
  exact ord_of_one hz ⟨.int _, H, I.tok _, ⟨_, rfl⟩, q⟩
theorem call_chr : CallR X (.builtin "chr") (fun xs H Q => ∃ i, xs = [.int i] ∧ 0 ≤ i ∧ i ≤ 1114111 ∧ Q (.str ⟨#[i.toNat]⟩) H) := by
  intro pins s σ H xs us Q I r h
  obtain ⟨i, rfl, h0, h1, q⟩ := h
  obtain ⟨u, rfl, t, rfl⟩ := vals1 r
  exact chr_of_range h0 h1 ⟨.str _, H, I.tok _, ⟨_, rfl⟩, q⟩
/-- len of a str, a bytes, a list, a tuple -/
def LenV (K : PySem.W.Frag) (x : V) (H : Hp) (n : Nat) : Prop :=
  match x with
  | .str y => y.length ≤ sizeLine ∧ n = y.length
  | .byt y => y.size ≤ sizeLine ∧ n = y.size
  | .ref p => (∃ xs, SqL K H p xs ∧ n = xs.length) ∨ ∃ xs, SqT K H p xs ∧ n = xs.length
  | _ => False
theorem call_len : CallR X (.builtin "len") (fun xs H Q => ∃ x n, xs = [x] ∧ LenV X.K x H n ∧ Q (.int n) H) := by
  intro pins s σ H xs us Q I r h
  obtain ⟨x, n, rfl, e, q⟩ := h
  obtain ⟨u, rfl, rx⟩ := vals1 r
  have hl := line63
  have hs : sizeLine = 16777216 := sizeLine_eq
  cases x with
  | str y =>
    obtain ⟨t, rfl⟩ := rx
    obtain ⟨hy, e'⟩ : y.length ≤ sizeLine ∧ n = y.length := e
    subst e'
    exact len_str (by omega) ⟨.int _, H, I.tok _, ⟨_, rfl⟩, q⟩
  | byt y =>
    obtain ⟨t, rfl⟩ := rx
    obtain ⟨hy, e'⟩ : y.size ≤ sizeLine ∧ n = y.size := e
    subst e'
    exact PySem.W.len_bytes (by omega) ⟨.int _, H, I.tok _, ⟨_, rfl⟩, q⟩
  | ref p =>
    cases rx
    have e' : (∃ xs, SqL X.K H p xs ∧ n = xs.length) ∨ ∃ xs, SqT X.K H p xs ∧ n = xs.length := e
    rcases e' with ⟨xs, hx, e'⟩ | ⟨xs, hx, e'⟩
    · subst e'
      obtain ⟨its, r', pl, hz⟩ := I.list hx
      have hlen := r'.length
      exact Calls.call_len_list pl.isList (by simp only [List.size_toArray]; omega) ⟨.int xs.length, H, I.tok _, ⟨_, by simp only [List.size_toArray]; rw [hlen]⟩, q⟩
    · subst e'
      obtain ⟨its, r', pl, hz⟩ := I.tuple hx
      have hlen := r'.length
      exact len_tuple pl (by simp only [List.size_toArray]; omega) ⟨.int xs.length, H, I.tok _, ⟨_, by simp only [List.size_toArray]; rw [hlen]⟩, q⟩
  | _ => exact (show False from e).elim
/-- divmod: a new tuple -/
theorem call_divmod : CallR X (.builtin "divmod") (fun xs H Q => ∃ i j, xs = [.int i, .int j] ∧ CDiv i j ∧ ∀ p, H p = none → Q (.ref p) (upd H p (.tup [.int (i / j), .int (i % j)]))) := by
  intro pins s σ H xs us Q I r h
  obtain ⟨i, j, rfl, ⟨h1, h2⟩, q⟩ := h
  obtain ⟨u, w', rfl, ⟨t, rfl⟩, ⟨t', rfl⟩⟩ := vals2 r
  refine divmod_int (by omega) ?_ (.inl (PyProof.noPylong_small (by omega)))
  rw [Int.fdiv_eq_ediv_of_nonneg i (by omega), Int.fmod_eq_emod_of_nonneg i (by omega)]
  have hn : H s.heap.objs.size = none := I.hok.fresh (Nat.le_refl _)
  refine ⟨.ref s.heap.objs.size, _, ?_, rfl, q _ hn⟩
  refine I.laid (fun b o e => Heap.get?_push_of_some _ e) (Nat.le_refl _) ⟨by simp only [List.length_cons, List.length_nil]; rw [sizeLine_eq]; decide, [.int (i / j) s.toks, .int (i % j) (s.toks + 1)], .cons ⟨_, rfl⟩ (.cons ⟨_, rfl⟩ .nil), ?_⟩
  exact ⟨_, Heap.get?_push_size s.heap rfl, rfl, 0, rfl⟩
end
end L2

namespace L2
open PySem PySem.Spec PyProof.Rows

/-! ### an instance, its attributes a map -/
structure ObjM (h : Heap) (x dx C : Addr) (mA : Str → Option Value) : Prop where
  obj : h.get? x = some (PySem.W.instObj C dx)
  ns : h.Ns1 dx mA
  ne : dx ≠ x

theorem lookIn_ns {h : Heap} {dx : Addr} {mA : Str → Option Value} (n : h.Ns1 dx mA) : ∃ od, h.get? dx = some od ∧ ∀ name, PySem.W.lookIn name od = some (mA name) := by
  obtain ⟨o, es, ep, ho, hd, hk, _, hm⟩ := n
  refine ⟨o, ho, fun name => ?_⟩
  have e := hm name
  unfold nsFind findBy at e
  rw [← Array.find?_toList] at e
  unfold PySem.W.lookIn
  rw [hd]
  dsimp only
  split
  · rename_i y q
    rw [q] at e
    exact congrArg some e
  · rename_i q
    rw [q] at e
    have a : es.toList.any (·.refKey) = false := by
      rw [List.any_eq_false]
      intro y hy
      obtain ⟨z, t, hkey⟩ := hk y (Array.mem_toList_iff.mp hy)
      simp [DictEntry.refKey, hkey]
    have a' : ¬ es.toList.any (·.refKey) = true := by rw [a]; exact Bool.false_ne_true
    rw [if_neg a']
    exact congrArg some e

theorem ObjM.look {h : Heap} {x dx C : Addr} {mA : Str → Option Value} (I : ObjM h x dx C mA) : ∃ od, PySem.W.InstAt h x (PySem.W.instObj C dx) C (some od) ∧ ∀ name, PySem.W.lookIn name od = some (mA name) :=
  let ⟨od, ho, hl⟩ := lookIn_ns I.ns
  ⟨od, ⟨I.obj, rfl, rfl, ho⟩, hl⟩

section
variable {prog : Program} {w : World} {A : Around} {E : Value → Shared → Prop} {s : Shared} {K : PySem.W.Frag} {x dx C f : Addr} {mA : Str → Option Value} {name : Str} {v : Value}

theorem get_map {expr : Bool} {Q : Value → Shared → Prop} (X : K.In s.heap) (I : ObjM s.heap x dx C mA) (hg : PySem.W.plainGet K C name = true) (hh : PySem.W.hasDictIn K C = true)
    (ha : PySem.W.findIn K (.ref C) name = some none) (hv : mA name = some v) (hv' : PySem.W.handedIn v = true) (h : Q v { s with toks := s.toks + 1 }) :
    wpAny (model prog w) A (getAttr (.ref x) name expr) Q E s := by
  obtain ⟨od, J, hl⟩ := I.look
  exact PySem.W.get_value X J (PySem.W.plainGet_of hg).1 (PySem.W.findObj_own hh ha rfl (by rw [hl, hv])) hv' h

theorem get_const {expr : Bool} {a : Value} {Q : Value → Shared → Prop} (X : K.In s.heap) (I : ObjM s.heap x dx C mA) (hg : PySem.W.plainGet K C name = true) (hh : PySem.W.hasDictIn K C = true)
    (ha : PySem.W.findIn K (.ref C) name = some (some a)) (hn : PySem.W.specialIn K a "__get__" = some none) (hc : PySem.W.copiedNames.contains name = false) (hv : mA name = none) (hv' : PySem.W.handedIn a = true)
    (h : Q a { s with toks := s.toks + 1 }) : wpAny (model prog w) A (getAttr (.ref x) name expr) Q E s := by
  obtain ⟨od, J, hl⟩ := I.look
  exact PySem.W.get_value X J (PySem.W.plainGet_of hg).1 (PySem.W.findObj_cls hh ha hn hv' hc (by rw [hl, hv])) hv' h

theorem get_meth {pl : Sem Bool} {Q : Value × List Value → Shared → Prop} (X : K.In s.heap) (I : ObjM s.heap x dx C mA) (hg : PySem.W.plainGet K C name = true)
    (hf : PySem.W.findIn K (.ref C) name = some (some (.ref f))) (ht : PySem.W.isFn K (.ref f) = true) (hv : mA name = none) (h : Q (.ref f, [.ref x]) s) :
    wpAny (model prog w) A (getMethod (.ref x) name pl) Q E s := by
  obtain ⟨od, J, hl⟩ := I.look
  exact PySem.W.method_fn X J (PySem.W.plainGet_of hg).1 (PySem.W.plainGet_of hg).2 hf (beq_iff_eq.mp ht) (by show (PySem.W.lookIn name od).map (·.isSome) = some false; rw [hl, hv]; rfl) h

theorem set_map {ns : List Str} {Q : Unit → Shared → Prop} (X : K.In s.heap) (I : ObjM s.heap x dx C mA)
    (hs : PySem.W.findIn K (.ref C) "__setattr__" = some (some (.builtin "object.__setattr__"))) (hp : PySem.W.plainOver K C = true) (ht : PySem.W.takerIn K C name = some none) (hh : PySem.W.hasDictIn K C = true)
    (hw : PySem.Within mA ns) (hsz : ns.length ≤ sizeLine)
    (h : ∀ h', ObjM h' x dx C (fun y => if y = name then some v else mA y) → Heap.SameBut dx s.heap h' → Q () { s with heap := h', toks := s.toks + 2 }) :
    wpAny (model prog w) A (setAttr (.ref x) name v) Q E s := by
  obtain ⟨od, J, hl⟩ := I.look
  refine PySem.W.set_plain X J hs (PySem.W.osa_open (s := { s with toks := s.toks + 1 }) (r := none) X J hp ht fun b => ?_)
  obtain ⟨cd, hc, hd'⟩ := PySem.W.any_some hh
  have hx : s.heap.get? x = some ⟨.ref C, some dx, .plain, #[]⟩ := I.obj
  refine wpAny_bind (wpAny_pure (wpAny_bind (wpAny_bind (wpAny_loadPart hx (wpAny_bind (PySem.W.Looks.here (s := { s with toks := s.toks + 1 }) (PySem.W.looks_clsIn X hc) ?_))))))
  rw [hd']
  refine wpAny_pure (a := some dx) (wpAny_bind (wpAny_pure (wpAny_bind ?_)))
  refine wpAny_nsSet1 (s := { s with toks := s.toks + 1 }) I.ns fun h' hn2 hs2 => ?_
  obtain ⟨oD, esD, epD, hoD, hdD, hcD⟩ := hn2.count (PySem.Within.cons name v hw)
  refine wpAny_bind (wpAny_lookBehind hoD (by rw [hdD]; exact pastItsLine_dict (Nat.le_trans hcD (by rw [List.length_cons]; omega))) ?_)
  exact wpAny_pure (h _ ⟨(hs2.2 _ (Ne.symm I.ne)).trans I.obj, hn2, I.ne⟩ hs2)

/-- C(..): the dict at the heap's end, the instance behind it; then its __init__ -/
theorem make_map {R : Result → Shared → Prop} {vs : List Value} {kw : List (Str × Value)} (X : K.In s.heap) (hm : PySem.W.makesIn K C = true)
    (hi : PySem.W.findIn K (.ref C) "__init__" = some (some (.ref f))) (hf : PySem.W.typeIn K (.ref f) = some (.type "function"))
    (h : codeAny (model prog w) (A.under (.builtin "type.__call__" ⟨.ref C :: vs, kw⟩)) (.call (.ref f) ⟨.ref (s.heap.objs.size + 1) :: vs, kw⟩) (PySem.W.InitBack (s.heap.objs.size + 1) R)
      { s with heap := (s.heap.push PySem.W.emptyDict).push (PySem.W.instObj C s.heap.objs.size) }) :
    codeAny (model prog w) A (.call (.ref C) ⟨vs, kw⟩) R s := by
  obtain ⟨hh, g, d, t, os⟩ := s
  exact PySem.W.make_core (PySem.W.makes_of X hm) (PySem.W.looks_findIn X hi) (fun self => PySem.W.bind_fn X self hf) (.inl rfl) h
/-- C() where there is no __init__ but object's -/
theorem make_map0 {R : Result → Shared → Prop} (X : K.In s.heap) (hm : PySem.W.makesIn K C = true)
    (hi : PySem.W.findIn K (.ref C) "__init__" = some (some (.builtin "object.__init__")))
    (hb : ∀ self, PySem.W.Looks (model prog w) s.heap (bindSpecial (.builtin "object.__init__") self) (.builtin "object.__init__", [self]))
    (h : codeAny (model prog w) (A.under (.builtin "type.__call__" ⟨[.ref C], []⟩)) (.call (.builtin "object.__init__") ⟨[.ref (s.heap.objs.size + 1)], []⟩) (PySem.W.InitBack (s.heap.objs.size + 1) R)
      { s with heap := (s.heap.push PySem.W.emptyDict).push (PySem.W.instObj C s.heap.objs.size) }) :
    codeAny (model prog w) A (.call (.ref C) ⟨[], []⟩) R s := by
  obtain ⟨hh, g, d, t, os⟩ := s
  exact PySem.W.make_core (PySem.W.makes_of X hm) (PySem.W.looks_findIn X hi) hb (.inr ⟨rfl, rfl⟩) h
end

/-! ### the attributes as a list of pairs -/
def putF (f : Str) (v : V) : List (Str × V) → List (Str × V)
  | [] => [(f, v)]
  | (g, x) :: r => if g = f then (g, v) :: r else (g, x) :: putF f v r
theorem lookup_putF (f g : Str) (v : V) : ∀ fs : List (Str × V), (putF f v fs).lookup g = if g = f then some v else fs.lookup g
  | [] => by
    show List.lookup g [(f, v)] = _
    by_cases h : g = f
    · have hb : (g == f) = true := beq_iff_eq.mpr h
      simp only [List.lookup, hb, if_pos h]
    · have hb : (g == f) = false := beq_eq_false_iff_ne.mpr h
      simp only [List.lookup, hb, if_neg h]
  | (k, x) :: r => by
    have ih := lookup_putF f g v r
    rw [show putF f v ((k, x) :: r) = (if k = f then (k, v) :: r else (k, x) :: putF f v r) from rfl]
    by_cases hk : k = f
    · rw [if_pos hk]
      by_cases h : g = k
      · have hb : (g == k) = true := beq_iff_eq.mpr h
        simp only [List.lookup, hb, if_pos (h.trans hk)]
      · have hb : (g == k) = false := beq_eq_false_iff_ne.mpr h
        simp only [List.lookup, hb, if_neg (fun e : g = f => h (e.trans hk.symm))]
    · rw [if_neg hk]
      by_cases h : g = k
      · have hb : (g == k) = true := beq_iff_eq.mpr h
        simp only [List.lookup, hb, if_neg (fun e : g = f => hk (h.symm.trans e))]
      · have hb : (g == k) = false := beq_eq_false_iff_ne.mpr h
        simp only [List.lookup, hb]
        exact ih
theorem keys_putF (f : Str) (v : V) : ∀ fs : List (Str × V), f ∈ (putF f v fs).map (·.1) ∧ ∀ g, g ∈ fs.map (·.1) → g ∈ (putF f v fs).map (·.1)
  | [] => ⟨by simp [putF], fun g h => by simp at h⟩
  | (k, x) :: r => by
    obtain ⟨i1, i2⟩ := keys_putF f v r
    rw [show putF f v ((k, x) :: r) = (if k = f then (k, v) :: r else (k, x) :: putF f v r) from rfl]
    by_cases hk : k = f
    · rw [if_pos hk]
      subst hk
      exact ⟨by simp, fun g h => by simpa using h⟩
    · rw [if_neg hk]
      refine ⟨?_, fun g h => ?_⟩
      · rw [List.map_cons]
        exact List.mem_cons_of_mem _ i1
      · rw [List.map_cons] at h ⊢
        rcases List.mem_cons.mp h with e | e
        · exact List.mem_cons.mpr (.inl e)
        · exact List.mem_cons_of_mem _ (i2 g e)
theorem length_putF (f : Str) (v : V) : ∀ fs : List (Str × V), (putF f v fs).length ≤ fs.length + 1
  | [] => by simp [putF]
  | (k, x) :: r => by
    have ih := length_putF f v r
    rw [show putF f v ((k, x) :: r) = (if k = f then (k, v) :: r else (k, x) :: putF f v r) from rfl]
    by_cases hk : k = f
    · rw [if_pos hk, List.length_cons, List.length_cons]; omega
    · rw [if_neg hk, List.length_cons, List.length_cons]; omega

theorem RelO.some_of {v : V} {o : Option Value} (r : RelO (some v) o) : ∃ u, o = some u ∧ RelV v u := by
  cases o with
  | none => exact (show False from r).elim
  | some u => exact ⟨u, rfl, r⟩
theorem RelO.none_of {o : Option Value} (r : RelO none o) : o = none := by
  cases o with
  | none => rfl
  | some u => exact (show False from r).elim
theorem handed_of {v : V} {u : Value} (r : RelV v u) : PySem.W.handedIn u = true := by
  cases v with
  | non => cases (show u = Value.none from r); rfl
  | bl b => cases (show u = Value.bool b from r); rfl
  | int i => obtain ⟨t, e⟩ := (show ∃ t, u = Value.int i t from r); cases e; rfl
  | str x => obtain ⟨t, e⟩ := (show ∃ t, u = Value.str x t from r); cases e; rfl
  | byt b => obtain ⟨t, e⟩ := (show ∃ t, u = Value.bytes b t from r); cases e; rfl
  | flt b => obtain ⟨t, e⟩ := (show ∃ t, u = Value.float b t from r); cases e; rfl
  | ref a => cases (show u = Value.ref a from r); rfl
  | ty n => cases (show u = Value.type n from r); rfl

section
variable {P : Program} {w : World} {H H' : Hp} {h h' : Heap} {a C dx : Addr} {fs fs' : List (Str × V)}
theorem ins_get (hok : HOk P w H h) (e : H a = some (.ins C dx fs)) : ∃ mA, ObjM h a dx C mA ∧ (∀ f, RelO (fs.lookup f) (mA f)) ∧ PySem.Within mA (fs.map (·.1)) ∧ fs.length ≤ 1000 ∧ H dx = some (.own a) := by
  obtain ⟨d, z, ne, ob, mA, n, r, q⟩ := (show ObjOk P w H h a (.ins C dx fs) from hok a _ e)
  exact ⟨mA, ⟨ob, n, ne⟩, r, q, z, d⟩
end

/-! ### what of the text a class must have -/
structure Cls (K : PySem.W.Frag) (C : Addr) : Prop where
  pg : PySem.W.plainGet K C Str.empty = true
  hd : PySem.W.hasDictIn K C = true
  po : PySem.W.plainOver K C = true
  sa : PySem.W.findIn K (.ref C) "__setattr__" = some (some (.builtin "object.__setattr__"))
theorem Cls.get {K : PySem.W.Frag} {C : Addr} (c : Cls K C) (f : Str) : PySem.W.plainGet K C f = true := c.pg
/-- no class of it has the name -/
def NoAttr (K : PySem.W.Frag) (C : Addr) (f : Str) : Prop := PySem.W.findIn K (.ref C) f = some none
theorem NoAttr.taker {K : PySem.W.Frag} {C : Addr} {f : Str} (n : NoAttr K C f) : PySem.W.takerIn K C f = some none := by
  unfold PySem.W.takerIn
  rw [show PySem.W.findIn K (.ref C) f = some none from n]
  rfl
/-- a constant of the class -/
structure Con (K : PySem.W.Frag) (C : Addr) (f : Str) (v : V) (u : Value) : Prop where
  at_ : PySem.W.findIn K (.ref C) f = some (some u)
  rel : RelV v u
  get : PySem.W.specialIn K u "__get__" = some none
  cp : PySem.W.copiedNames.contains f = false
/-- a method: a plain def of the class or of one above it -/
structure Meth (K : PySem.W.Frag) (C : Addr) (m : Str) (f : Addr) : Prop where
  at_ : PySem.W.findIn K (.ref C) m = some (some (.ref f))
  fn : PySem.W.isFn K (.ref f) = true
  kp : PySem.W.keepIn K (.ref f) = true

section
variable {X : Cx} {pins : List (Addr × Obj)} {σ : St} {H : Hp} {s : Shared} {a C dx : Addr} {fs : List (Str × V)} {f : Str} {v : V} {A : Around} {E : Value → Shared → Prop}

theorem getattr_ok {b : Bool} {Q : Value → Shared → Prop} (I : Inv X pins σ H s) (e : H a = some (.ins C dx fs)) (c : Cls X.K C) (n : NoAttr X.K C f) (l : fs.lookup f = some v)
    (h : ∀ u s', Inv X pins σ H s' → RelV v u → Q u s') : wpAny (model X.prog X.w) A (getAttr (.ref a) f b) Q E s := by
  obtain ⟨mA, O, r, _, _, _⟩ := ins_get I.hok e
  obtain ⟨u, hu, ru⟩ := RelO.some_of (v := v) (o := mA f) (by rw [← l]; exact r f)
  exact get_map I.kIn O (c.get f) c.hd n hu (handed_of ru) (h u _ (I.tok _) ru)

theorem getcon_ok {b : Bool} {u : Value} {Q : Value → Shared → Prop} (I : Inv X pins σ H s) (e : H a = some (.ins C dx fs)) (c : Cls X.K C) (k : Con X.K C f v u) (l : fs.lookup f = none)
    (h : ∀ s', Inv X pins σ H s' → Q u s') : wpAny (model X.prog X.w) A (getAttr (.ref a) f b) Q E s := by
  obtain ⟨mA, O, r, _, _, _⟩ := ins_get I.hok e
  have hn : mA f = none := RelO.none_of (by rw [← l]; exact r f)
  exact get_const I.kIn O (c.get f) c.hd k.at_ k.get k.cp hn (handed_of k.rel) (h _ (I.tok _))

theorem getmeth_ok {m : Str} {g : Addr} {pl : Sem Bool} {Q : Value × List Value → Shared → Prop} (I : Inv X pins σ H s) (e : H a = some (.ins C dx fs)) (c : Cls X.K C) (k : Meth X.K C m g) (l : fs.lookup m = none)
    (h : Q (.ref g, [.ref a]) s) : wpAny (model X.prog X.w) A (getMethod (.ref a) m pl) Q E s := by
  obtain ⟨mA, O, r, _, _, _⟩ := ins_get I.hok e
  have hn : mA m = none := RelO.none_of (by rw [← l]; exact r m)
  exact get_meth I.kIn O (c.get m) k.at_ k.fn hn h

theorem setattr_ok {y : V} {u : Value} {Q : Unit → Shared → Prop} (I : Inv X pins σ H s) (e : H a = some (.ins C dx fs)) (c : Cls X.K C) (n : NoAttr X.K C f) (hl : fs.length < 1000) (ry : RelV y u)
    (h : ∀ s', Inv X pins σ (upd H a (.ins C dx (putF f y fs))) s' → Q () s') : wpAny (model X.prog X.w) A (setAttr (.ref a) f u) Q E s := by
  obtain ⟨mA, O, r, wi, _, ho⟩ := ins_get I.hok e
  have hz : (fs.map (·.1)).length ≤ sizeLine := by rw [List.length_map, sizeLine_eq]; omega
  refine set_map I.kIn O c.sa c.po n.taker c.hd wi hz fun h' O' sb => h _ ?_
  have hd : ∃ o, h'.get? dx = some o := let ⟨o, _, _, e', _⟩ := O'.ns; ⟨o, e'⟩
  refine I.write (x := a) (e := dx) (by rw [e]; exact True.intro) (.inr ho) (fun b q hb z => (sb.2 b hb).trans z) hd ?_
  refine ⟨by rw [upd_ne O.ne]; exact ho, ?_, O.ne, O'.obj, _, O'.ns, fun g => ?_, fun g hg => ?_⟩
  · have := length_putF f y fs; omega
  · show RelO ((putF f y fs).lookup g) (if g = f then some u else mA g)
    rw [lookup_putF]
    by_cases q : g = f
    · rw [if_pos q, if_pos q]; exact ry
    · rw [if_neg q, if_neg q]; exact r g
  · by_cases q : g = f
    · rw [q]; exact (keys_putF f y fs).1
    · refine (keys_putF f y fs).2 g (wi g fun z => hg ?_)
      show (if g = f then some u else mA g) = none
      rw [if_neg q]; exact z

/-- a new instance, tracked, without attributes -/
theorem Inv.made (I : Inv X pins σ H s) : Inv X pins σ (upd (upd H s.heap.objs.size (.own (s.heap.objs.size + 1))) (s.heap.objs.size + 1) (.ins C s.heap.objs.size []))
    { s with heap := (s.heap.push PySem.W.emptyDict).push (PySem.W.instObj C s.heap.objs.size) } := by
  have e1 : (s.heap.push PySem.W.emptyDict).get? s.heap.objs.size = some PySem.W.emptyDict := Heap.get?_push_size s.heap rfl
  have e2 : ((s.heap.push PySem.W.emptyDict).push (PySem.W.instObj C s.heap.objs.size)).get? (s.heap.objs.size + 1) = some (PySem.W.instObj C s.heap.objs.size) := by
    have := Heap.get?_push_size (s.heap.push PySem.W.emptyDict) (o := PySem.W.instObj C s.heap.objs.size) rfl
    rwa [Heap.size_push] at this
  have e3 : (s.heap.push PySem.W.emptyDict).Ns s.heap.objs.size (fun _ => none) := ⟨PySem.W.emptyDict, #[], _, e1, rfl, (fun e he => absurd he (by simp)), fun _ => rfl⟩
  have I1 := I.laid (a := s.heap.objs.size) (o := .own (s.heap.objs.size + 1)) (h' := s.heap.push PySem.W.emptyDict) (t' := s.toks) (fun b u q => Heap.get?_push_of_some _ q) (Nat.le_refl _) ⟨_, e1⟩
  refine I1.laid (a := s.heap.objs.size + 1) (o := .ins C s.heap.objs.size []) (t' := s.toks) (fun b u q => Heap.get?_push_of_some _ q) (Nat.le_of_eq (Heap.size_push _ _)) ?_
  have ne : s.heap.objs.size ≠ s.heap.objs.size + 1 := Nat.ne_of_lt (Nat.lt_succ_self _)
  refine ⟨by rw [upd_ne ne, upd_same], Nat.zero_le _, ne, e2, fun _ => none, (Heap.Ns1.of_empty e3).at fun o q => Heap.get?_push_of_some _ q, fun _ => True.intro, fun y hy => absurd rfl hy⟩

/-- e.f where nothing but the object is asked: through attributeBase (super) and the last hold -/
theorem attr_of {prog : Program} {w : World} {env : Env} {e : Expr} {f : Str} {pos : Pos} {s : Shared} {Q : Value → Shared → Prop} (hb : attributeBase e f env (eval e env) = eval e env)
    (h : wpAny (model prog w) A (eval e env) (fun o s₁ => wpAny (model prog w) A (getAttr o f true) Q E s₁) E s) : wpAny (model prog w) A (eval (.Attribute e f pos) env) Q E s :=
  Attribute_any_ h (by rw [arm_eval_Attribute, hb])
end

/-! ### readings and rules -/
/-- e.f, an attribute of the instance -/
def tFld (K : PySem.W.Frag) (ta : TE) (f : Str) : TE := fun σ H Q => ta σ H fun x H1 => ∃ a C dx fs v, x = .ref a ∧ H1 a = some (.ins C dx fs) ∧ Cls K C ∧ NoAttr K C f ∧ fs.lookup f = some v ∧ Q v H1
/-- e.f, a constant of the class -/
def tCon (K : PySem.W.Frag) (ta : TE) (f : Str) : TE := fun σ H Q => ta σ H fun x H1 => ∃ a C dx fs v u, x = .ref a ∧ H1 a = some (.ins C dx fs) ∧ Cls K C ∧ Con K C f v u ∧ fs.lookup f = none ∧ Q v H1
/-- e.f = value -/
def sFld (K : PySem.W.Frag) (ta tv : TE) (f : Str) : TS := fun D σ H => tv σ H fun y H1 => ta σ H1 fun x H2 => ∃ a C dx fs, x = .ref a ∧ H2 a = some (.ins C dx fs) ∧ Cls K C ∧ NoAttr K C f ∧ fs.length < 1000 ∧
  D.nx σ (upd H2 a (.ins C dx (putF f y fs)))
/-- an augmented operator on two values -/
def InOp (X : Cx) (op : Operator) (rd : V → V → Hp → VK → Prop) : Prop :=
  ∀ (pins : List (Addr × Obj)) (s : Shared) (σ : St) (H : Hp) (x y : V) (u v : Value) (Q : VK), Inv X pins σ H s → RelV x u → RelV y v → rd x y H Q → wpAny (model X.prog X.w) X.A (inplaceOp op u v) (EP X pins σ Q) X.xe s
/-- e.f op= value -/
def sFldAug (K : PySem.W.Frag) (ta tv : TE) (rd : V → V → Hp → VK → Prop) (f : Str) : TS := fun D σ H => ta σ H fun x H1 => ∃ a C dx fs v, x = .ref a ∧ H1 a = some (.ins C dx fs) ∧ Cls K C ∧ NoAttr K C f ∧ fs.lookup f = some v ∧
  tv σ H1 fun y H2 => rd v y H2 fun z H3 => ∃ dx' fs', H3 a = some (.ins C dx' fs') ∧ fs'.length < 1000 ∧ D.nx σ (upd H3 a (.ins C dx' (putF f z fs')))

section
variable {X : Cx} {o e value : Expr} {f : Str} {pos pos' tpos : Pos} {ta tv : TE}
theorem pe_fld (he : PE X e ta) (hb : attributeBase e f X.env (eval e X.env) = eval e X.env) : PE X (.Attribute e f pos) (tFld X.K ta f) := by
  intro pins s σ H Q I h
  refine attr_of hb (thn (he pins s σ H _ I h) fun u s1 ⟨x, H1, I1, rx, a, C, dx, fs, v, ex, ea, c, n, l, q⟩ => ?_)
  subst ex
  obtain rfl : u = Value.ref a := rx
  exact getattr_ok I1 ea c n l fun u' s2 I2 ru => ⟨v, H1, I2, ru, q⟩
theorem pe_con (he : PE X e ta) (hb : attributeBase e f X.env (eval e X.env) = eval e X.env) : PE X (.Attribute e f pos) (tCon X.K ta f) := by
  intro pins s σ H Q I h
  refine attr_of hb (thn (he pins s σ H _ I h) fun u s1 ⟨x, H1, I1, rx, a, C, dx, fs, v, u0, ex, ea, c, k, l, q⟩ => ?_)
  subst ex
  obtain rfl : u = Value.ref a := rx
  exact getcon_ok I1 ea c k l fun s2 I2 => ⟨v, H1, I2, k.rel, q⟩
theorem ps_fld (ha : PE X o ta) (hv : PE X value tv) (hs : swapsWith value (some (.Attribute o f pos')) pos.line X.env = pure false) : PS X (.Assign [.Attribute o f pos'] value pos) (sFld X.K ta tv f) := by
  intro pins s σ H D I h
  refine plainObj_wpAny_Assign_Attribute (thn (hv pins s σ H _ I h) fun u s1 ⟨y, H1, I1, ry, q⟩ => thn (ha pins s1 σ H1 _ I1 q) fun ov s2 ⟨x, H2, I2, rx, a, C, dx, fs, ex, ea, c, n, l, q2⟩ => ?_) hs
  subst ex
  obtain rfl : ov = Value.ref a := rx
  exact setattr_ok I2 ea c n l ry fun s3 I3 => ⟨σ, _, I3, q2⟩
theorem ps_fldaug {op : Operator} {rd : V → V → Hp → VK → Prop} (ha : PE X o ta) (hv : PE X value tv) (hop : InOp X op rd) : PS X (.AugAssign (.Attribute o f tpos) op value pos) (sFldAug X.K ta tv rd f) := by
  intro pins s σ H D I h
  refine wpAny_AugAssign_AttributeAny (thn (ha pins s σ H _ I h) fun ov s1 ⟨x, H1, I1, rx, a, C, dx, fs, v, ex, ea, c, n, l, q⟩ => ?_)
  subst ex
  obtain rfl : ov = Value.ref a := rx
  refine getattr_ok I1 ea c n l fun u s2 I2 ru => thn (hv pins s2 σ H1 _ I2 q) fun w3 s3 ⟨y, H2, I3, ry, q3⟩ => thn (hop pins s3 σ H2 v y u w3 _ I3 ru ry q3) fun w4 s4 ⟨z, H3, I4, rz, dx', fs', ea', l', q4⟩ => ?_
  exact setattr_ok I4 ea' c n l' rz fun s5 I5 => ⟨σ, _, I5, q4⟩
def rAdd : V → V → Hp → VK → Prop := fun x y H Q => ∃ i j, x = .int i ∧ y = .int j ∧ Q (.int (i + j)) H
def rSub : V → V → Hp → VK → Prop := fun x y H Q => ∃ i j, x = .int i ∧ y = .int j ∧ Q (.int (i - j)) H
theorem in_add : InOp X .Add rAdd := by
  rintro pins s σ H x y u v Q I rx ry ⟨i, j, rfl, rfl, q⟩
  obtain ⟨t, rfl⟩ := (show ∃ t, u = Value.int i t from rx)
  obtain ⟨t', rfl⟩ := (show ∃ t', v = Value.int j t' from ry)
  exact PyProof.Rows.iadd_int ⟨.int (i + j), H, I.tok _, ⟨_, rfl⟩, q⟩
theorem in_sub : InOp X .Sub rSub := by
  rintro pins s σ H x y u v Q I rx ry ⟨i, j, rfl, rfl, q⟩
  obtain ⟨t, rfl⟩ := (show ∃ t, u = Value.int i t from rx)
  obtain ⟨t', rfl⟩ := (show ∃ t', v = Value.int j t' from ry)
  exact PyProof.Rows.isub_int ⟨.int (i - j), H, I.tok _, ⟨_, rfl⟩, q⟩

/-- what is between an instance and its method: the tree of a method call -/
theorem methcall_of {pl : Sem Bool} {m : Str} {apos : Pos} {args : List Expr} {pins : List (Addr × Obj)} {s : Shared} {σ : St} {H : Hp} {Q : Value → Shared → Prop} {te : TE} (he : PE X e te) (I : Inv X pins σ H s)
    (h : te σ H fun x H1 => ∃ a C dx fs g, x = .ref a ∧ H1 a = some (.ins C dx fs) ∧ Cls X.K C ∧ Meth X.K C m g ∧ fs.lookup m = none ∧
      ∀ s1, Inv X pins σ H1 s1 → wpAny (model X.prog X.w) X.A (callWith pos (.ref g) [.ref a] (backTo pos (starEach args X.env)) (backToKw pos (keywordEach [] X.env))) Q X.xe s1)
    (ht : eval (.Call (.Attribute e m apos) args [] pos) X.env = (do
      let ov ← eval e X.env
      standAt apos.atName
      let (f, first) ← holding [ov] (getMethod ov m pl)
      callWith pos f first (backTo pos (starEach args X.env)) (backToKw pos (keywordEach [] X.env)))) :
    wpAny (model X.prog X.w) X.A (eval (.Call (.Attribute e m apos) args [] pos) X.env) Q X.xe s := by
  refine PySem.W.methodCall_KW (pl := pl) (thn (he pins s σ H _ I h) fun u s1 ⟨x, H1, I1, rx, a, C, dx, fs, g, ex, ea, c, k, l, q⟩ => ?_) ht
  subst ex
  obtain rfl : u = Value.ref a := rx
  exact getmeth_ok I1 ea c k l (q s1 I1)
end

/-! ### isinstance -/
section
variable {X : Cx} {pins : List (Addr × Obj)} {σ : St} {H : Hp} {s : Shared} {A : Around} {E : Value → Shared → Prop} {Q : Value → Shared → Prop} {c : Value} {b : Bool}
/-- the type of a value, as the fragment's deciders take it; for an instance its class -/
inductive TyOf (K : PySem.W.Frag) (H : Hp) : V → Value → Prop where
  | non : TyOf K H .non (.type "NoneType")
  | bl (x : Bool) : TyOf K H (.bl x) (.type "bool")
  | int (i : Int) : TyOf K H (.int i) (.type "int")
  | str (x : Str) : TyOf K H (.str x) (.type "str")
  | flt (x : UInt64) : TyOf K H (.flt x) (.type "float")
  | lst {a : Addr} {xs : List V} (e : H a = some (.lst xs)) : TyOf K H (.ref a) (.type "list")
  | frz {a : Addr} {o : Obj} {xs : List V} (e : H a = some (.frz o (.lst xs))) : TyOf K H (.ref a) (.type "list")
  | tup {a : Addr} {xs : List V} (e : H a = some (.tup xs)) : TyOf K H (.ref a) (.type "tuple")
  | dK {a : Addr} {kvs : List (Key × V)} (e : H a = some (.dK kvs)) : TyOf K H (.ref a) (.type "dict")
  | dT {a : Addr} {kvs : List (List Key × V)} (e : H a = some (.dT kvs)) : TyOf K H (.ref a) (.type "dict")
  | ins {a C dx : Addr} {fs : List (Str × V)} (e : H a = some (.ins C dx fs)) (cl : Cls K C) (ha : PySem.W.findIn K (.ref C) "__class__" = some (some (.builtin "object.__class__")))
      (hn : PySem.W.specialIn K (.builtin "object.__class__") "__get__" = some (some (.builtin "getset_descriptor.__get__"))) (htk : PySem.W.takesIn K (.builtin "object.__class__") = some true)
      (hm : PySem.W.mroIn K C (.type "object") = some true) : TyOf K H (.ref a) (.ref C)
/-- isinstance(x, c) for one class c, a built-in or an own one: kitOne's answer -/
theorem isinst_ok {x : V} {u t : Value} (I : Inv X pins σ H s) (rx : RelV x u) (ty : TyOf X.K H x t) (e : PySem.W.kitOne X.K t c = some b) (h : ∀ tk, Q (.bool b) { s with toks := tk }) :
    wpAny (model X.prog X.w) A (call (.builtin "isinstance") [u, c]) Q E s := by
  cases ty with
  | non => cases (show u = Value.none from rx); exact PySem.W.kia_one PySem.W.kitx_none I.kIn True.intro e (fun z => nomatch z) h
  | bl y => cases (show u = Value.bool y from rx); exact PySem.W.kia_one PySem.W.kitx_bool I.kIn True.intro e (fun z => nomatch z) h
  | int i => obtain ⟨t, q⟩ := (show ∃ t, u = Value.int i t from rx); cases q; exact PySem.W.kia_one PySem.W.kitx_int I.kIn True.intro e (fun z => nomatch z) h
  | str y => obtain ⟨t, q⟩ := (show ∃ t, u = Value.str y t from rx); cases q; exact PySem.W.kia_one PySem.W.kitx_str I.kIn True.intro e (fun z => nomatch z) h
  | flt y => obtain ⟨t, q⟩ := (show ∃ t, u = Value.float y t from rx); cases q; exact PySem.W.kia_one PySem.W.kitx_float I.kIn True.intro e (fun z => nomatch z) h
  | @lst a xs ea =>
    cases (show u = Value.ref a from rx)
    obtain ⟨_, _, n, _, h1⟩ := (show ObjOk X.prog X.w H s.heap a (.lst xs) from I.hok a _ ea)
    exact PySem.W.kia_one PySem.W.kitx_list I.kIn ⟨_, h1, rfl⟩ e (fun z => nomatch z) h
  | @frz a ob xs ea =>
    cases (show u = Value.ref a from rx)
    obtain ⟨_, _, _, n, _, h1⟩ := (show ObjOk X.prog X.w H s.heap a (.frz ob (.lst xs)) from I.hok a _ ea)
    exact PySem.W.kia_one PySem.W.kitx_list I.kIn ⟨_, h1, rfl⟩ e (fun z => nomatch z) h
  | @tup a xs ea =>
    cases (show u = Value.ref a from rx)
    obtain ⟨_, _, _, p⟩ := (show ObjOk X.prog X.w H s.heap a (.tup xs) from I.hok a _ ea)
    obtain ⟨o, h1, h2, _⟩ := p
    exact PySem.W.kia_one PySem.W.kitx_tuple I.kIn ⟨o, h1, h2⟩ e (fun z => nomatch z) h
  | @dK a kvs ea =>
    cases (show u = Value.ref a from rx)
    obtain ⟨_, _, vs, _, p⟩ := (show ObjOk X.prog X.w H s.heap a (.dK kvs) from I.hok a _ ea)
    obtain ⟨o, es, ep, h1, h2, _⟩ := p
    exact PySem.W.kia_one PySem.W.kitx_dict I.kIn ⟨o, h1, h2.1⟩ e (fun z => nomatch z) h
  | @dT a kvs ea =>
    cases (show u = Value.ref a from rx)
    obtain ⟨_, _, xs, _, o, es, ep, h1, h2, _⟩ := (show ObjOk X.prog X.w H s.heap a (.dT kvs) from I.hok a _ ea)
    exact PySem.W.kia_one PySem.W.kitx_dict I.kIn ⟨o, h1, h2.1⟩ e (fun z => nomatch z) h
  | @ins a C dx fs ea cl ha hn htk hm =>
    cases (show u = Value.ref a from rx)
    obtain ⟨mA, O, _⟩ := ins_get I.hok ea
    obtain ⟨od, J, _⟩ := O.look
    exact PySem.W.kia_one (PySem.W.kitx_own (cl.get _) cl.hd ha hn htk hm) I.kIn J e (fun z => nomatch z) h
end
end L2

namespace L2
open PySem PySem.Spec PyProof.Rows

/-! ### room -/
structure Room (k : Nat) (A : Around) : Prop where
  hd : A.handled = none
  dp : A.depth + 3 * k + 5 < recursionLimit
  un : A.units + 16 * k + 200 < cLine
  gd : A.guards = some []
theorem Room.mono {j k : Nat} {A : Around} (r : Room k A) (h : j ≤ k) : Room j A := ⟨r.hd, by have := r.dp; omega, by have := r.un; omega, r.gd⟩
theorem Room.deeper {k : Nat} {A : Around} (r : Room (k + 1) A) (env : Env) : Room k (A.deeper env) :=
  ⟨r.hd, by have := r.dp; show A.depth + 1 + 3 * k + 5 < _; omega, by have := r.un; show A.units + 3 + 16 * k + 200 < _; omega, r.gd⟩
theorem Room.in1 {k : Nat} {A : Around} (r : Room (k + 1) A) : Room k A.in1 :=
  ⟨r.hd, by have := r.dp; show A.depth + 3 * k + 5 < _; omega, by have := r.un; show A.units + 1 + 16 * k + 200 < _; omega, r.gd⟩
theorem make_depth {A : Around} {C : Addr} {us : List Value} {kw : List (Str × Value)} : (A.under (.builtin "type.__call__" ⟨.ref C :: us, kw⟩)).depth = A.depth + 1 := by
  first | rfl | simp [Around.under, Code.weight, Code.isCreation, Code.isGuard, Code.isCaller, Code.frames, Code.isFrame, guardIds]
theorem make_units {A : Around} {C : Addr} {us : List Value} {kw : List (Str × Value)} : (A.under (.builtin "type.__call__" ⟨.ref C :: us, kw⟩)).units = A.units + 1 := by
  first | rfl | simp [Around.under, Code.cUnits, Code.frames, Code.isFrame]
theorem Room.make {k : Nat} {A : Around} (r : Room (k + 1) A) (C : Addr) (us : List Value) (kw : List (Str × Value)) : Room k (A.under (.builtin "type.__call__" ⟨.ref C :: us, kw⟩)) :=
  ⟨r.hd, by have := r.dp; rw [make_depth]; omega, by have := r.un; rw [make_units]; omega, by first | exact r.gd | (have := r.gd; simp [Around.under, Code.guards, Code.isGuard, guardIds, pushGuards, this])⟩
theorem Room.depth {k : Nat} {A : Around} (r : Room k A) : A.depth < recursionLimit := by have := r.dp; omega
theorem Room.units {k : Nat} {A : Around} (r : Room k A) : A.units + 64 < cLine := by have := r.un; omega
theorem Room.units0 {k : Nat} {A : Around} (r : Room k A) : A.units < cLine := by have := r.un; omega

/-! ### argument lists and displays -/
def tNil : TA := fun _ H Q => Q [] H
def tCons (ta : TE) (tr : TA) : TA := fun σ H Q => ta σ H fun x H1 => tr σ H1 fun xs H2 => Q (x :: xs) H2
section
variable {X : Cx} {e : Expr} {es : List Expr} {te : TE} {t : TA} {pos : Pos}
theorem pa_nil : PA X [] tNil := fun _ _ _ _ H Q I h => Calls.spliced_nil ⟨[], H, I, .nil, h⟩
theorem pa_cons (ha : PE X e te) (hr : PA X es t) (hs : starEach (e :: es) X.env = (false, eval e X.env) :: starEach es X.env := by rfl) : PA X (e :: es) (tCons te t) := by
  intro pos pins s σ H Q I h
  rw [hs]
  show wpAny _ _ (spliced ((false, eval e X.env) :: backTo pos (starEach es X.env))) _ _ s
  refine Calls.spliced_cons (thn (ha pins s σ H _ I h) fun u s1 ⟨x, H1, I1, r1, q1⟩ => ?_)
  exact thn (hr pos pins s1 σ H1 _ I1 q1) fun us s2 ⟨xs, H2, I2, r2, q2⟩ => ⟨x :: xs, H2, I2, .cons r1 r2, q2⟩

/-- a tuple, a list of written items -/
def tTup (t : TA) : TE := fun σ H Q => t σ H fun xs H1 => xs.length ≤ sizeLine ∧ ∀ p, H1 p = none → Q (.ref p) (upd H1 p (.tup xs))
def tLst (t : TA) : TE := fun σ H Q => t σ H fun xs H1 => xs.length ≤ sizeLine ∧ ∀ p, H1 p = none → Q (.ref p) (upd H1 p (.lst xs))
theorem pe_tup {x1} (h : PA X es t) : PE X (.Tuple es x1 pos) (tTup t) := by
  intro pins s σ H Q I hq
  refine wpAny_Tuple_spliced (thn (h pos pins s σ H _ I hq) fun us s1 ⟨xs, H1, I1, r, z, q⟩ => ⟨by rw [← r.length]; exact z, ?_⟩)
  have hf : H1 s1.heap.objs.size = none := I1.hok.fresh (Nat.le_refl _)
  refine ⟨.ref s1.heap.objs.size, upd H1 s1.heap.objs.size (.tup xs), I1.laid (t' := s1.toks) (fun b u e => Heap.get?_push_of_some _ e) (Nat.le_refl _) ?_, rfl, q _ hf⟩
  exact ⟨z, us, r, ⟨_, Heap.get?_push_size _ rfl, rfl, _, rfl⟩⟩
theorem pe_lst (h : PA X es t) : PE X (.List es pos) (tLst t) := by
  intro pins s σ H Q I hq
  refine wpAny_List_spliced (thn (h pos pins s σ H _ I hq) fun us s1 ⟨xs, H1, I1, r, z, q⟩ => ⟨by rw [← r.length]; exact z, ?_⟩)
  have hf : H1 s1.heap.objs.size = none := I1.hok.fresh (Nat.le_refl _)
  refine ⟨.ref s1.heap.objs.size, upd H1 s1.heap.objs.size (.lst xs), I1.laid (t' := s1.toks) (fun b u e => Heap.get?_push_of_some _ e) (Nat.le_refl _) ?_, rfl, q _ hf⟩
  exact ⟨z, us, 0, r, Heap.get?_push_size _ rfl⟩
end

/-! ### what a def promises -/
/-- a def's promise: the bound arguments in the parameters' order, the heap, the wanted end, the wanted exception -/
abbrev Sp := List V → Hp → VK → XK → Prop
/-- how an exception lies behind a call (file 08 gives it): the callers' frames, abstract heap and state ahead of the call, the wish, the exception, the state -/
abbrev CXT := List Env → Hp → Shared → XK → Value → Shared → Prop

/-- the state at a call -/
structure Env0 (P : Program) (w : World) (K : PySem.W.Frag) (mg : Str → Option Value) (base : Heap) (A : Around) (outer : List Env) (s : Shared) (H : Hp) : Prop where
  frames : A.frames = some outer
  mod : Mod K mg base
  bs : ∀ b o, base.get? b = some o → s.heap.get? b = some o ∧ H b = none
  bsz : base.objs.size ≤ s.heap.objs.size
  funs : s.heap.FunFrames base outer
  frf : ∀ b ∈ frs outer, H b = none
  hok : HOk P w H s.heap
  bare : AllBare s.gens
/-- a call's end -/
def CE (outer : List Env) (P : Program) (w : World) (H : Hp) (s : Shared) (Q : VK) (u : Value) (s' : Shared) : Prop :=
  ∃ v H', s'.os = s.os ∧ AllBare s'.gens ∧ Un (frs outer) [] H H' s.heap s'.heap ∧ HOk P w H' s'.heap ∧ RelV v u ∧ Q v H'
def CR (CX : CXT) (outer : List Env) (P : Program) (w : World) (H : Hp) (s : Shared) (Q : VK) (E : XK) (r : Result) (s' : Shared) : Prop :=
  match r with
  | .ok (.ret u) => CE outer P w H s Q u s'
  | .ok _ => False
  | .error e => CX outer H s E e s'
structure FnOk (P : Program) (w : World) (K : PySem.W.Frag) (mg : Str → Option Value) (base : Heap) (CX : CXT) (k : Nat) (f : Addr) (fd : FuncData) (ps : List Str) (sp : Sp) : Prop where
  len : ∀ vs H Q E, sp vs H Q E → vs.length = ps.length
  run : ∀ (A : Around) (outer : List Env) (s : Shared) (H : Hp) (args : Args) (us : List Value) (vs : List V) (Q : VK) (E : XK), Room k A → Env0 P w K mg base A outer s H → BindsTo s fd args (ps.zip us) → Vals vs us → sp vs H Q E →
    codeAny (model P w) A (.call (.ref f) args) (CR CX outer P w H s Q E) s
theorem FnOk.mono {P : Program} {w : World} {K : PySem.W.Frag} {mg : Str → Option Value} {base : Heap} {CX : CXT} {j k : Nat} {f : Addr} {fd : FuncData} {ps : List Str} {sp : Sp} (F : FnOk P w K mg base CX j f fd ps sp) (h : j ≤ k) :
    FnOk P w K mg base CX k f fd ps sp := ⟨F.len, fun A outer s H args us vs Q E hr => F.run A outer s H args us vs Q E (hr.mono h)⟩
/-- a weaker promise -/
theorem FnOk.imp {P : Program} {w : World} {K : PySem.W.Frag} {mg : Str → Option Value} {base : Heap} {CX : CXT} {k : Nat} {f : Addr} {fd : FuncData} {ps : List Str} {sp sp' : Sp} (F : FnOk P w K mg base CX k f fd ps sp)
    (h : ∀ vs H Q E, sp' vs H Q E → sp vs H Q E) : FnOk P w K mg base CX k f fd ps sp' :=
  ⟨fun vs H Q E q => F.len vs H Q E (h _ _ _ _ q), fun A outer s H args us vs Q E hr he hb hv hs => F.run A outer s H args us vs Q E hr he hb hv (h _ _ _ _ hs)⟩

theorem Env0.make {P : Program} {w : World} {K : PySem.W.Frag} {mg : Str → Option Value} {base : Heap} {A : Around} {outer : List Env} {s : Shared} {H : Hp} (e : Env0 P w K mg base A outer s H) (C : Addr) (us : List Value) (kw : List (Str × Value)) :
    Env0 P w K mg base (A.under (.builtin "type.__call__" ⟨.ref C :: us, kw⟩)) outer s H := ⟨by first | exact e.frames | (simpa [Around.under, Code.envs, Code.isFrame, pushEnvs] using e.frames), e.mod, e.bs, e.bsz, e.funs, e.frf, e.hok, e.bare⟩
theorem Env0.in1 {P : Program} {w : World} {K : PySem.W.Frag} {mg : Str → Option Value} {base : Heap} {A : Around} {outer : List Env} {s : Shared} {H : Hp} (e : Env0 P w K mg base A outer s H) :
    Env0 P w K mg base A.in1 outer s H := ⟨e.frames, e.mod, e.bs, e.bsz, e.funs, e.frf, e.hok, e.bare⟩

section
variable {X : Cx} {pins : List (Addr × Obj)} {σ : St} {H : Hp} {s s' : Shared}
/-- from a body: what a callee wants -/
theorem Inv.env0 (I : Inv X pins σ H s) : Env0 X.prog X.w X.K X.mg X.base X.A X.stack s H :=
  ⟨I.ok.frames, I.ok.mod, I.bs, Nat.le_trans I.ok.bsz I.sz, I.stack, I.stkFree, I.hok, I.bare⟩
/-- behind a call -/
theorem Inv.after {Q : VK} {u : Value} (I : Inv X pins σ H s) (h : CE X.stack X.prog X.w H s Q u s') : EP X pins σ Q u s' := by
  obtain ⟨v, H', os, bare, un, hok, r, q⟩ := h
  obtain ⟨hh, g, d, t, os'⟩ := s'
  obtain rfl : os' = s.os := os
  exact ⟨v, H', I.call (h' := hh) (g' := g) (d' := d) (t' := t) (ch := []) un hok bare (fun b z => absurd z (by simp)), r, q⟩
end

/-! ### calls -/
/-- f(..): the written arguments, then the defaults dvs; E: what is wanted of an exception -/
def tCall (sp : Sp) (dvs : List V) (E : XK) (t : TA) : TE := fun σ H Q => t σ H fun vs H1 => sp (vs ++ dvs) H1 Q E
/-- o.m(..) of an instance of the class at C -/
def tMeth (C : Addr) (m : Str) (sp : Sp) (dvs : List V) (E : XK) (ta : TE) (t : TA) : TE := fun σ H Q => ta σ H fun x H1 => ∃ a dx fs, x = .ref a ∧ H1 a = some (.ins C dx fs) ∧ fs.lookup m = none ∧
  t σ H1 fun vs H2 => sp (x :: (vs ++ dvs)) H2 Q E
/-- C(..): a new instance and its dict, then __init__ -/
def tMake (C : Addr) (sp : Sp) (dvs : List V) (E : XK) (t : TA) : TE := fun σ H Q => t σ H fun vs H1 => ∀ x dx, H1 x = none → H1 dx = none → dx ≠ x →
  sp (.ref x :: (vs ++ dvs)) (upd (upd H1 dx (.own x)) x (.ins C dx [])) (fun v H2 => v = .non ∧ Q (.ref x) H2) E

/-- how the parameters are bound: us the positional arguments, kw the keywords' values by name, ds the defaults that fill up -/
def Binds (K : PySem.W.Frag) (fd : FuncData) (ps : List Str) (ds : List Value) : Prop :=
  ∀ (s : Shared) (us : List Value), K.In s.heap → (us ++ ds).length = ps.length → BindsTo s fd ⟨us, []⟩ (ps.zip (us ++ ds))
/-- every parameter is given -/
theorem Binds.all {K : PySem.W.Frag} {fd : FuncData} {ps : List Str} (h : ∀ us : List Value, us.length = ps.length → bindArgs fd ⟨us, []⟩ = pure (ps.zip us)) : Binds K fd ps [] := fun s us _ hl => by
  rw [List.append_nil] at hl ⊢
  exact .of_eq (h us hl)

/-- an exception of a callee reaches what this body wants of exceptions -/
def Passes (CX : CXT) (X : Cx) (E : XK) : Prop := ∀ (pins : List (Addr × Obj)) (σ : St) (H : Hp) (s : Shared) (e : Value) (s' : Shared), Inv X pins σ H s → CX X.stack H s E e s' → X.xe e s'

section
variable {X : Cx} {CX : CXT} {k : Nat} {f C : Addr} {fd : FuncData} {ps : List Str} {sp : Sp} {dvs : List V} {ds : List Value} {E : XK} {x m : Str} {p pos apos : Pos} {e o : Expr} {es : List Expr} {ta : TE} {t : TA}

/-- the callee runs -/
theorem run_fn {pins : List (Addr × Obj)} {σ : St} {H : Hp} {s : Shared} {Q : VK} {us : List Value} {vs : List V} (F : FnOk X.prog X.w X.K X.mg X.base CX k f fd ps sp) (hr : Room k X.A) (hb : Binds X.K fd ps ds) (hd : Vals dvs ds) (hx : Passes CX X E)
    (I : Inv X pins σ H s) (r : Vals vs us) (h : sp (vs ++ dvs) H Q E) : wpAny (model X.prog X.w) X.A (call (.ref f) us) (EP X pins σ Q) X.xe s := by
  have r2 : Vals (vs ++ dvs) (us ++ ds) := r.append hd
  have hl : (us ++ ds).length = ps.length := by rw [← r2.length]; exact F.len _ _ _ _ h
  refine wpAny_call (codeAny_mono (F.run X.A X.stack s H ⟨us, []⟩ (us ++ ds) (vs ++ dvs) Q E hr I.env0 (hb s us I.kIn hl) r2 h) fun r s' hq => ?_)
  cases r with
  | error e => exact hx pins σ H s e s' I hq
  | ok fl =>
    cases fl with
    | ret u => exact I.after hq
    | next => exact False.elim hq
    | brk => exact False.elim hq
    | cont => exact False.elim hq

theorem pe_call (F : FnOk X.prog X.w X.K X.mg X.base CX k f fd ps sp) (hr : Room k X.A) (hg : Gl X x) (hm : X.mg x = some (.ref f)) (hk : PySem.W.keepIn X.K (.ref f) = true) (hb : Binds X.K fd ps ds) (hd : Vals dvs ds) (hx : Passes CX X E)
    (ha : PA X (e :: es) t) (hdb : (x == ("__debug__" : Str)) = false := by decide) (he : starEach (e :: es) X.env = (false, eval e X.env) :: starEach es X.env := by rfl) (hpl : (backTo pos (starEach es X.env)).any (·.1) = false := by rfl) :
    PE X (.Call (.Name x p) (e :: es) [] pos) (tCall sp dvs E t) := by
  intro pins s σ H Q I h
  refine wpAny_Call_Name_kw (ld_glob I hg hm ?_ hdb)
  refine PySem.W.callWith_K (h₀ := X.base) I.ok.mod.kin hk (thn (ha pos pins s σ H _ I h) fun us s1 ⟨vs, H1, I1, r, q⟩ => ⟨I1.kIn, ?_⟩) he hpl
  exact run_fn F hr hb hd hx I1 r q
theorem pe_call0 (F : FnOk X.prog X.w X.K X.mg X.base CX k f fd ps sp) (hr : Room k X.A) (hg : Gl X x) (hm : X.mg x = some (.ref f)) (hk : PySem.W.keepIn X.K (.ref f) = true) (hb : Binds X.K fd ps ds) (hd : Vals dvs ds) (hx : Passes CX X E)
    (hdb : (x == ("__debug__" : Str)) = false := by decide) : PE X (.Call (.Name x p) [] [] pos) (tCall sp dvs E tNil) := by
  intro pins s σ H Q I h
  refine wpAny_Call_Name_kw (ld_glob I hg hm ?_ hdb)
  exact PySem.W.callWith_K0 I.kIn hk (run_fn (us := []) F hr hb hd hx I .nil h)

/-- o.m(e, ..) -/
theorem pe_meth {pl : Sem Bool} (he : PE X o ta) (c : Cls X.K C) (hm : Meth X.K C m f) (F : FnOk X.prog X.w X.K X.mg X.base CX k f fd ps sp) (hr : Room k X.A) (hb : Binds X.K fd ps ds) (hd : Vals dvs ds) (hx : Passes CX X E) (ha : PA X (e :: es) t)
    (hst : starEach (e :: es) X.env = (false, eval e X.env) :: starEach es X.env := by rfl) (hpl : (backTo pos (starEach es X.env)).any (·.1) = false := by rfl)
    (ht : eval (.Call (.Attribute o m apos) (e :: es) [] pos) X.env = (do
      let ov ← eval o X.env
      standAt apos.atName
      let (f, first) ← holding [ov] (getMethod ov m pl)
      callWith pos f first (backTo pos (starEach (e :: es) X.env)) (backToKw pos (keywordEach [] X.env))) := by rfl) :
    PE X (.Call (.Attribute o m apos) (e :: es) [] pos) (tMeth C m sp dvs E ta t) := by
  intro pins s σ H Q I h
  refine PySem.W.methodCall_KW (pl := pl) (thn (he pins s σ H _ I h) fun u s1 ⟨x, H1, I1, rx, a, dx, fs, ex, ea, l, q⟩ => ?_) ht
  subst ex
  obtain rfl : u = Value.ref a := rx
  refine getmeth_ok I1 ea c hm l ?_
  refine PySem.W.callWith_K (first := [.ref a]) (h₀ := X.base) I.ok.mod.kin hm.kp (thn (ha pos pins s1 σ H1 _ I1 q) fun us s2 ⟨vs, H2, I2, r, q2⟩ => ⟨I2.kIn, ?_⟩) hst hpl
  exact run_fn (us := .ref a :: us) (vs := .ref a :: vs) F hr hb hd hx I2 (.cons rfl r) q2
/-- o.m() -/
theorem pe_meth0 {pl : Sem Bool} (he : PE X o ta) (c : Cls X.K C) (hm : Meth X.K C m f) (F : FnOk X.prog X.w X.K X.mg X.base CX k f fd ps sp) (hr : Room k X.A) (hb : Binds X.K fd ps ds) (hd : Vals dvs ds) (hx : Passes CX X E)
    (ht : eval (.Call (.Attribute o m apos) [] [] pos) X.env = (do
      let ov ← eval o X.env
      standAt apos.atName
      let (f, first) ← holding [ov] (getMethod ov m pl)
      callWith pos f first (backTo pos (starEach [] X.env)) (backToKw pos (keywordEach [] X.env))) := by rfl) :
    PE X (.Call (.Attribute o m apos) [] [] pos) (tMeth C m sp dvs E ta tNil) := by
  intro pins s σ H Q I h
  refine PySem.W.methodCall_KW (pl := pl) (thn (he pins s σ H _ I h) fun u s1 ⟨x, H1, I1, rx, a, dx, fs, ex, ea, l, q⟩ => ?_) ht
  subst ex
  obtain rfl : u = Value.ref a := rx
  refine getmeth_ok I1 ea c hm l ?_
  exact PySem.W.callWith_K0 (first := [.ref a]) I1.kIn hm.kp (run_fn (us := [.ref a]) (vs := [.ref a]) F hr hb hd hx I1 (.cons rfl .nil) q)

/-- what a class must have to be made -/
structure Mk (K : PySem.W.Frag) (C f : Addr) : Prop where
  makes : PySem.W.makesIn K C = true
  init : PySem.W.findIn K (.ref C) "__init__" = some (some (.ref f))
  fn : PySem.W.isFn K (.ref f) = true
  kp : PySem.W.keepIn K (.ref C) = true

theorem run_make {pins : List (Addr × Obj)} {σ : St} {H : Hp} {s : Shared} {Q : VK} {us : List Value} {vs : List V} (M : Mk X.K C f) (F : FnOk X.prog X.w X.K X.mg X.base CX k f fd ps sp) (hr : Room (k + 1) X.A) (hb : Binds X.K fd ps ds) (hd : Vals dvs ds)
    (hx : Passes CX X E) (I : Inv X pins σ H s) (r : Vals vs us)
    (h : ∀ x dx, H x = none → H dx = none → dx ≠ x → sp (.ref x :: (vs ++ dvs)) (upd (upd H dx (.own x)) x (.ins C dx [])) (fun v H2 => v = .non ∧ Q (.ref x) H2) E) :
    wpAny (model X.prog X.w) X.A (call (.ref C) us) (EP X pins σ Q) X.xe s := by
  have hq := h (s.heap.objs.size + 1) s.heap.objs.size (I.hok.fresh (Nat.le_succ _)) (I.hok.fresh (Nat.le_refl _)) (Nat.ne_of_lt (Nat.lt_succ_self _))
  have I2 := Inv.made (C := C) I
  have r2 : Vals (V.ref (s.heap.objs.size + 1) :: (vs ++ dvs)) (Value.ref (s.heap.objs.size + 1) :: (us ++ ds)) := .cons rfl (r.append hd)
  have hl : (Value.ref (s.heap.objs.size + 1) :: us ++ ds).length = ps.length := by
    have e := r2.length
    rw [F.len _ _ _ _ hq] at e
    exact e.symm
  refine wpAny_call (make_map (f := f) I.kIn M.makes M.init (beq_iff_eq.mp M.fn) (codeAny_mono (F.run _ X.stack _ _ ⟨Value.ref (s.heap.objs.size + 1) :: us, []⟩ (Value.ref (s.heap.objs.size + 1) :: (us ++ ds)) _ _ E (hr.make C us [])
    (I2.env0.make C us []) (hb _ (Value.ref (s.heap.objs.size + 1) :: us) I2.kIn hl) r2 hq) fun r s' hq' => ?_))
  cases r with
  | error e => exact hx pins σ _ _ e s' I2 hq'
  | ok fl =>
    cases fl with
    | ret u =>
      obtain ⟨v, H', I3, rv, ev, q3⟩ := I2.after hq'
      subst ev
      exact ⟨rv, ⟨V.ref (s.heap.objs.size + 1), H', I3, rfl, q3⟩⟩
    | next => exact False.elim hq'
    | brk => exact False.elim hq'
    | cont => exact False.elim hq'
theorem pe_make (M : Mk X.K C f) (F : FnOk X.prog X.w X.K X.mg X.base CX k f fd ps sp) (hr : Room (k + 1) X.A) (hg : Gl X x) (hm : X.mg x = some (.ref C)) (hb : Binds X.K fd ps ds) (hd : Vals dvs ds) (hx : Passes CX X E)
    (ha : PA X (e :: es) t) (hdb : (x == ("__debug__" : Str)) = false := by decide) (he : starEach (e :: es) X.env = (false, eval e X.env) :: starEach es X.env := by rfl) (hpl : (backTo pos (starEach es X.env)).any (·.1) = false := by rfl) :
    PE X (.Call (.Name x p) (e :: es) [] pos) (tMake C sp dvs E t) := by
  intro pins s σ H Q I h
  refine wpAny_Call_Name_kw (ld_glob I hg hm ?_ hdb)
  refine PySem.W.callWith_K (h₀ := X.base) I.ok.mod.kin M.kp (thn (ha pos pins s σ H _ I h) fun us s1 ⟨vs, H1, I1, r, q⟩ => ⟨I1.kIn, ?_⟩) he hpl
  exact run_make M F hr hb hd hx I1 r q
theorem pe_make0 (M : Mk X.K C f) (F : FnOk X.prog X.w X.K X.mg X.base CX k f fd ps sp) (hr : Room (k + 1) X.A) (hg : Gl X x) (hm : X.mg x = some (.ref C)) (hb : Binds X.K fd ps ds) (hd : Vals dvs ds) (hx : Passes CX X E)
    (hdb : (x == ("__debug__" : Str)) = false := by decide) : PE X (.Call (.Name x p) [] [] pos) (tMake C sp dvs E tNil) := by
  intro pins s σ H Q I h
  refine wpAny_Call_Name_kw (ld_glob I hg hm ?_ hdb)
  exact PySem.W.callWith_K0 I.kIn M.kp (run_make (us := []) M F hr hb hd hx I .nil h)
end

/-! ### keywords -/
/-- the values of the keywords, from the left -/
def PK (X : Cx) (kws : List Keyword) (t : TA) : Prop :=
  ∀ (pos : Pos) (pins : List (Addr × Obj)) (s : Shared) (σ : St) (H : Hp) (Q : List V → Hp → Prop), Inv X pins σ H s → t σ H Q → wpAny (model X.prog X.w) X.A (evalAll ((backToKw pos (keywordEach kws X.env)).map (·.2))) (AP X pins σ Q) X.xe s
section
variable {X : Cx} {CX : CXT} {k : Nat} {f C : Addr} {fd : FuncData} {ps ks : List Str} {sp : Sp} {E : XK} {x m : Str} {p pos apos kpos : Pos} {e o : Expr} {es : List Expr} {kws : List Keyword} {te ta : TE} {t tk : TA} {nm : Option Str}
theorem pk_nil : PK X [] tNil := fun _ _ _ _ H Q I h => wpAny_evalAll_nil ⟨[], H, I, .nil, h⟩
theorem pk_cons (ha : PE X e te) (hr : PK X kws t) : PK X (⟨nm, e, kpos⟩ :: kws) (tCons te t) := by
  intro pos pins s σ H Q I h
  show wpAny _ _ (evalAll ((do let v ← eval e X.env; standAt pos; pure v) :: (backToKw pos (keywordEach kws X.env)).map (·.2))) _ _ s
  refine wpAny_evalAll_cons (wpAny_bind (thn (ha pins s σ H _ I h) fun u s1 ⟨x, H1, I1, r1, q1⟩ => wpAny_bind (wpAny_standAt (wpAny_pure ?_))))
  exact thn (hr pos pins s1 σ H1 _ I1 q1) fun us s2 ⟨xs, H2, I2, r2, q2⟩ => ⟨x :: xs, H2, I2, .cons r1 r2, q2⟩

/-- how a call with keywords binds: g puts the positional values us and the keywords' values ws (names ks) in the parameters' order, defaults among them -/
structure KBinds (K : PySem.W.Frag) (fd : FuncData) (ps ks : List Str) (g : List Value → List Value → List Value) (gV : List V → List V → List V) : Prop where
  to : ∀ (s : Shared) (us ws : List Value), K.In s.heap → (g us ws).length = ps.length → BindsTo s fd ⟨us, ks.zip ws⟩ (ps.zip (g us ws))
  rel : ∀ {vs : List V} {us : List Value} {zs : List V} {ws : List Value}, Vals vs us → Vals zs ws → Vals (gV vs zs) (g us ws)
def tCallK (sp : Sp) (gV : List V → List V → List V) (E : XK) (t tk : TA) : TE := fun σ H Q => t σ H fun vs H1 => tk σ H1 fun zs H2 => sp (gV vs zs) H2 Q E
variable {g : List Value → List Value → List Value} {gV : List V → List V → List V}
theorem run_fnk {pins : List (Addr × Obj)} {σ : St} {H : Hp} {s : Shared} {Q : VK} {us ws : List Value} {vs zs : List V} (F : FnOk X.prog X.w X.K X.mg X.base CX k f fd ps sp) (hr : Room k X.A) (hb : KBinds X.K fd ps ks g gV) (hx : Passes CX X E)
    (I : Inv X pins σ H s) (r : Vals vs us) (rz : Vals zs ws) (h : sp (gV vs zs) H Q E) : wpAny (model X.prog X.w) X.A (call (.ref f) us (ks.zip ws)) (EP X pins σ Q) X.xe s := by
  have r2 := hb.rel r rz
  have hl : (g us ws).length = ps.length := by rw [← r2.length]; exact F.len _ _ _ _ h
  refine wpAny_call (codeAny_mono (F.run X.A X.stack s H ⟨us, ks.zip ws⟩ (g us ws) (gV vs zs) Q E hr I.env0 (hb.to s us ws I.kIn hl) r2 h) fun r s' hq => ?_)
  cases r with
  | error e => exact hx pins σ H s e s' I hq
  | ok fl =>
    cases fl with
    | ret u => exact I.after hq
    | next => exact False.elim hq
    | brk => exact False.elim hq
    | cont => exact False.elim hq
/-- f(e, .., k = v, ..) -/
theorem pe_callK (F : FnOk X.prog X.w X.K X.mg X.base CX k f fd ps sp) (hr : Room k X.A) (hg : Gl X x) (hm : X.mg x = some (.ref f)) (hk : PySem.W.keepIn X.K (.ref f) = true) (hb : KBinds X.K fd ps ks g gV) (hx : Passes CX X E)
    (ha : PA X (e :: es) t) (hkw : PK X kws tk) (hall : (backToKw pos (keywordEach kws X.env)).all (·.1.isSome) = true := by rfl) (hks : (backToKw pos (keywordEach kws X.env)).filterMap (·.1) = ks := by rfl)
    (hdb : (x == ("__debug__" : Str)) = false := by decide) (he : starEach (e :: es) X.env = (false, eval e X.env) :: starEach es X.env := by rfl)
    (hpl : ((backTo pos (starEach (e :: es) X.env)).any (·.1) || (backToKw pos (keywordEach kws X.env)).any (·.1.isNone)) = false := by rfl) :
    PE X (.Call (.Name x p) (e :: es) kws pos) (tCallK sp gV E t tk) := by
  intro pins s σ H Q I h
  refine wpAny_Call_Name_kw (ld_glob I hg hm ?_ hdb)
  refine PySem.W.callWith_KW (h₀ := X.base) I.ok.mod.kin hk hall (thn (ha pos pins s σ H _ I h) fun us s1 ⟨vs, H1, I1, r, q⟩ => ?_) hpl he
  refine thn (hkw pos pins s1 σ H1 _ I1 q) fun ws s2 ⟨zs, H2, I2, rz, q2⟩ => ⟨I2.kIn, ?_⟩
  rw [hks]
  exact run_fnk F hr hb hx I2 r rz q2
end

/-! ### a def's body keeps its promise -/
/-- names: the parameters first -/
structure FnScope (N P : List Str) (sc : Scope) : Prop where
  kind : sc.kind = .function
  co : sc.isCoroutine = false
  gen : sc.isGenerator = false
  nd : N.Nodup
  pre : N.take P.length = P
  par : ∀ x ∈ P, sc.names.lookup x = some .local ∨ sc.names.lookup x = some .cell
  nofree : ∀ y ∈ sc.names, y.2 ≠ .free

theorem bindL_out {kindOf : Str → Option NameKind} {x : Str} : ∀ {binds : List (Str × Value)} {m : Str → Option Value}, (∀ v, (x, v) ∉ binds) → bindL kindOf binds m x = m x
  | [], _, _ => rfl
  | (n, v) :: r, m, h => by
    unfold bindL
    rw [bindL_out fun w hw => h w (List.mem_cons_of_mem _ hw)]
    split
    · have : x ≠ n := by rintro rfl; exact h v List.mem_cons_self
      simp [this]
    · rfl
theorem bindC_out {kindOf : Str → Option NameKind} {x : Str} : ∀ {binds : List (Str × Value)} {m : Str → Option Value}, (∀ v, (x, v) ∉ binds) → bindC kindOf binds m x = m x
  | [], _, _ => rfl
  | (n, v) :: r, m, h => by
    unfold bindC
    rw [bindC_out fun w hw => h w (List.mem_cons_of_mem _ hw)]
    split
    · rfl
    · have : x ≠ n := by rintro rfl; exact h v List.mem_cons_self
      simp [this]
theorem bindL_get {kindOf : Str → Option NameKind} {x : Str} {v : Value} : ∀ {P : List Str} {vs : List Value} {i : Nat} {m : Str → Option Value}, P.Nodup → P[i]? = some x → vs[i]? = some v → kindOf x = some .local →
    bindL kindOf (P.zip vs) m x = some v
  | [], _, _, _, _, h, _, _ => by simp at h
  | _ :: _, [], _, _, _, _, h, _ => by simp at h
  | p :: P, w :: vs, 0, m, nd, h1, h2, hk => by
    simp at h1 h2; subst h1; subst h2
    show bindL kindOf ((p, w) :: P.zip vs) m p = _
    unfold bindL
    rw [bindL_out fun v hv => (List.nodup_cons.mp nd).1 (List.of_mem_zip hv).1, if_pos hk]
    simp
  | p :: P, w :: vs, i + 1, m, nd, h1, h2, hk => by
    show bindL kindOf ((p, w) :: P.zip vs) m x = _
    unfold bindL
    exact bindL_get (i := i) (List.nodup_cons.mp nd).2 (by simpa using h1) (by simpa using h2) hk
theorem bindC_get {kindOf : Str → Option NameKind} {x : Str} {v : Value} : ∀ {P : List Str} {vs : List Value} {i : Nat} {m : Str → Option Value}, P.Nodup → P[i]? = some x → vs[i]? = some v → kindOf x ≠ some .local →
    bindC kindOf (P.zip vs) m x = some v
  | [], _, _, _, _, h, _, _ => by simp at h
  | _ :: _, [], _, _, _, _, h, _ => by simp at h
  | p :: P, w :: vs, 0, m, nd, h1, h2, hk => by
    simp at h1 h2; subst h1; subst h2
    show bindC kindOf ((p, w) :: P.zip vs) m p = _
    unfold bindC
    rw [bindC_out fun v hv => (List.nodup_cons.mp nd).1 (List.of_mem_zip hv).1, if_neg hk]
    simp
  | p :: P, w :: vs, i + 1, m, nd, h1, h2, hk => by
    show bindC kindOf ((p, w) :: P.zip vs) m x = _
    unfold bindC
    exact bindC_get (i := i) (List.nodup_cons.mp nd).2 (by simpa using h1) (by simpa using h2) hk

/-- the names' values at the entry -/
def start (N : List Str) (vs : List V) : St := vs.map some ++ List.replicate (N.length - vs.length) none

/-- the context of a def's body, at its entry; an exception leaves the frame, then lies as CX says -/
def cxOf (CX : CXT) (P : Program) (w : World) (K : PySem.W.Frag) (mg : Str → Option Value) (base : Heap) (N : List Str) (qual : Str) (scope : Scope) (f : Addr) (cd : Value) (A : Around) (outer : List Env) (s : Shared) (H : Hp) (E : XK) : Cx where
  prog := P
  w := w
  K := K
  mg := mg
  base := base
  A := A.deeper (envOfC qual scope s.heap.objs.size f cd)
  N := N
  s₀ := s
  H₀ := H
  env := envOfC qual scope s.heap.objs.size f cd
  outer := outer
  stack := envOfC qual scope s.heap.objs.size f cd :: outer
  ex := []
  calm := true
  fn := fun _ => true
  pn := []
  xe := fun e s' => wpAny (model P w) (A.deeper (envOfC qual scope s.heap.objs.size f cd)) (leaving (envOfC qual scope s.heap.objs.size f cd) e) (fun _ s'' => CX outer H s E e s'') (fun e' s'' => CX outer H s E e' s'') s'

theorem cell_has {sc : Scope} {n : Nat} {x : Str} (h : sc.names.lookup x = some .cell) : ∃ c, (cellsFrom n sc.names []).lookup x = some c := by
  have q := PySem.W.cellsFrom_some sc.names n [] (.inl h)
  exact Option.isSome_iff_exists.mp q

theorem inv_start {CX : CXT} {P : Program} {w : World} {K : PySem.W.Frag} {mg : Str → Option Value} {base : Heap} {N ps : List Str} {qual : Str} {scope : Scope} {f : Addr} {cd : Value} {A : Around} {outer : List Env} {s s1 : Shared} {H : Hp} {E : XK} {us : List Value} {vs : List V}
    (S : FnScope N ps scope) (hd : A.handled = none) (e0 : Env0 P w K mg base A outer s H) (hl : vs.length = ps.length) (r : Vals vs us)
    (x : InCallC s s.heap.objs.size (bindL (envOfC qual scope s.heap.objs.size f cd).kindOf (ps.zip us) fun _ => none) (cellsFrom (s.heap.objs.size + 1) scope.names []) (bindC (envOfC qual scope s.heap.objs.size f cd).kindOf (ps.zip us) fun _ => none) s1) :
    Inv (cxOf CX P w K mg base N qual scope f cd A outer s H E) [] (start N vs) H s1 := by
  have hpl : ps.length ≤ N.length := by have := congrArg List.length S.pre; rw [List.length_take] at this; omega
  obtain ⟨h1, tk, rfl, hk⟩ := x.done
  have noA : ∀ b : Addr, b ∉ (cxOf CX P w K mg base N qual scope f cd A outer s H E).ex := fun b z => absurd (show b ∈ ([] : List Addr) from z) (by simp)
  refine ⟨⟨e0.mod, S.kind, rfl, rfl, Nat.le_refl _, fun y z c h1 h2 => ?_, fun y hy => ?_, fun y c _ h => ?_, fun _ => hd, Around.frames_deeper e0.frames, .inr ⟨rfl, rfl⟩, fun b z => absurd z (noA b), e0.bs, e0.bsz, fun b _ _ => noA b, fun b z => absurd z (noA b), e0.funs, e0.frf⟩,
    rfl, e0.bare, Un.kept hk, ⟨_, x.toInCall.ns, fun i y v h1 h2 h3 => ?_⟩, fun y c h => ⟨_, x.cell y c h⟩, e0.hok.fresh (Nat.le_refl _), fun y c h => ?_, fun p hp => absurd (show p ∈ ([] : List (Addr × Obj)) from hp) (by simp), e0.hok.kept hk, ?_⟩
  · exact name_of_addr x.apart (PySem.mem_of_lookup h1) (PySem.mem_of_lookup h2)
  · have hy : scope.names.lookup y = some .cell ∨ scope.names.lookup y = some .free := hy
    rcases hy with hy | hy
    · exact cell_has hy
    · exact absurd rfl (S.nofree _ (PySem.mem_of_lookup hy))
  · exact Nat.le_of_lt (x.above y c (PySem.mem_of_lookup h))
  · have hi : i < vs.length := by
      unfold start at h2
      by_cases hi : i < vs.length
      · exact hi
      · rw [List.getElem?_append_right (by simpa using hi)] at h2
        rw [List.getElem?_replicate] at h2
        split at h2 <;> cases h2
    have ha : vs[i]? = some v := by
      unfold start at h2
      rw [List.getElem?_append_left (by simpa using hi), List.getElem?_map] at h2
      cases e : vs[i]? with
      | none => rw [e] at h2; cases h2
      | some a => rw [e] at h2; cases h2; rfl
    obtain ⟨u, hu, rv⟩ := r.get ha
    have hp : ps[i]? = some y := by
      rw [← S.pre, List.getElem?_take_of_lt (by omega)]; exact h1
    have ndP : ps.Nodup := by rw [← S.pre]; exact S.nd.sublist (List.take_sublist _ _)
    refine ⟨u, rv, ?_⟩
    rcases S.par y (List.mem_of_getElem? hp) with k | k
    · exact .inl ⟨k, bindL_get ndP hp hu k⟩
    · obtain ⟨c, e⟩ := cell_has (n := s.heap.objs.size + 1) k
      refine .inr ⟨.inl k, c, e, ?_⟩
      have q := x.cell y c e
      rw [bindC_get ndP hp hu (by show scope.names.lookup y ≠ _; rw [k]; decide)] at q
      exact q
  · exact e0.hok.fresh (Nat.le_of_lt (x.above y c (PySem.mem_of_lookup h)))
  · unfold start
    show _ = N.length
    rw [List.length_append, List.length_map, List.length_replicate]
    omega

/-- THE RULE: a def (or a method) of the text, by its body. The body's reading t is chosen for each entry; it is run at the parameters' values -/
theorem fn_of {CX : CXT} {P : Program} {w : World} {K : PySem.W.Frag} {mg : Str → Option Value} {base : Heap} {k : Nat} {f : Addr} {name qual : Str} {params : Arguments} {body : List Stmt} {scope : Scope} {dV kV doc pm cdv ct oc : Value} {an od : Option Addr}
    {osl : Array (Option Value)} {N ps : List Str} {sp : Sp} (lk : K.lookup f = some ⟨oc, od, .func (PySem.W.fnOf name qual params body scope dV kV doc pm an cdv ct), osl⟩) (hcd : PySem.W.codeIn K cdv qual = true) (S : FnScope N ps scope)
    (len : ∀ vs H Q E, sp vs H Q E → vs.length = ps.length)
    (hbody : ∀ (A : Around) (outer : List Env) (s : Shared) (H : Hp) (vs : List V) (Q : VK) (E : XK), Room k (A.deeper (envOfC qual scope s.heap.objs.size f cdv)) → sp vs H Q E →
      ∃ t, PSs (cxOf CX P w K mg base N qual scope f cdv A outer s H E) body t ∧ t { nx := fun _ H' => Q .non H', rt := Q } (start N vs) H) :
    FnOk P w K mg base CX (k + 1) f (PySem.W.fnOf name qual params body scope dV kV doc pm an cdv ct) ps sp := by
  refine ⟨len, fun A outer s H args us vs Q E hr e0 hb r hsp => ?_⟩
  have hl := len _ _ _ _ hsp
  have KX : K.In s.heap := e0.mod.kin.keeps fun b o e => (e0.bs b o e).1
  have lim : s.heap.NoLimit := e0.mod.nolimit.keeps fun b o e => (e0.bs b o e).1
  have hkind : ∀ y ∈ ps.zip us, scope.names.lookup y.1 = some .local ∨ (scope.names.lookup y.1 = some .cell ∧ ((cellsFrom (s.heap.objs.size + 1) scope.names []).lookup y.1).isSome = true) := fun ⟨n, v⟩ hy => by
    rcases S.par n (List.of_mem_zip hy).1 with q | q
    · exact .inl q
    · exact .inr ⟨q, PySem.W.cellsFrom_some _ _ _ (.inl q)⟩
  refine codeAny_call_function hr.depth (KX _ _ lk) rfl S.co S.gen rfl (PySem.W.codeRec_of KX hcd) (hb _ _ _ _ ?_)
  refine wpAny_newFunctionEnv_cells S.kind hkind fun env he s1 x => ?_
  subst he
  refine ⟨lim.keeps x.toInCall.keep, codeAny_func ?_⟩
  obtain ⟨t, ht, hq⟩ := hbody A outer s H vs Q E (hr.deeper _) hsp
  have I : Inv (cxOf CX P w K mg base N qual scope f cdv A outer s H E) [] (start N vs) H s1 := inv_start S hr.hd e0 hl r x
  refine wpAny_mono (ht [] s1 (start N vs) H _ I hq) (fun fl s' hs => ?_) fun e s' hs => hs
  have fin : ∀ {σ' : St} {H' : Hp} {v : V} {u : Value}, Inv (cxOf CX P w K mg base N qual scope f cdv A outer s H E) [] σ' H' s' → RelV v u → Q v H' → CE outer P w H s Q u s' :=
    fun {σ' H' v u} J rv q => ⟨v, H', J.os, J.bare, J.base, J.hok, rv, q⟩
  cases fl with
  | ret u =>
    obtain ⟨v, σ', H', J, rv, q⟩ := hs
    exact fin J rv q
  | next =>
    obtain ⟨σ', H', J, q⟩ := hs
    exact fin (v := V.non) (u := Value.none) J rfl q
  | brk =>
    obtain ⟨_, _, _, q⟩ := hs
    exact False.elim q
  | cont =>
    obtain ⟨_, _, _, q⟩ := hs
    exact False.elim q
end L2

namespace L2
open PySem PySem.Spec PyProof.Rows
section
variable {X : Cx} {x : Str} {p pos : Pos} {e : Expr} {es : List Expr} {t : TA} {id T : String} {r : List V → Hp → VK → Prop}

def tCB (r : List V → Hp → VK → Prop) (t : TA) : TE := fun σ H Q => t σ H fun vs H1 => r vs H1 Q
/-- f(e, ..), f a built-in function -/
theorem pe_callB (hc : CallR X (.builtin id) r) (hg : Gl X x) (hm : X.mg x = none) (hv : bootBuiltins x = some (.builtin id)) (ha : PA X (e :: es) t) (hn : x ≠ "__name__" := by decide) (hdb : (x == ("__debug__" : Str)) = false := by decide)
    (he : starEach (e :: es) X.env = (false, eval e X.env) :: starEach es X.env := by rfl) (hpl : (backTo pos (starEach es X.env)).any (·.1) = false := by rfl) : PE X (.Call (.Name x p) (e :: es) [] pos) (tCB r t) := by
  intro pins s σ H Q I h
  refine wpAny_Call_Name_kw (ld_blt I hg hm hv ?_ hn hdb)
  exact PyProof.Rows.callWith_builtin1 (thn (ha pos pins s σ H _ I h) fun us s1 ⟨vs, H1, I1, r1, q1⟩ => hc pins s1 σ H1 vs us Q I1 r1 q1) he hpl
/-- T(e, ..), T a built-in type -/
theorem pe_callTy (hc : CallR X (.type T) r) (hg : Gl X x) (hm : X.mg x = none) (hv : bootBuiltins x = some (.type T)) (ha : PA X (e :: es) t) (hn : x ≠ "__name__" := by decide) (hdb : (x == ("__debug__" : Str)) = false := by decide)
    (he : starEach (e :: es) X.env = (false, eval e X.env) :: starEach es X.env := by rfl) (hpl : (backTo pos (starEach es X.env)).any (·.1) = false := by rfl) : PE X (.Call (.Name x p) (e :: es) [] pos) (tCB r t) := by
  intro pins s σ H Q I h
  refine wpAny_Call_Name_kw (ld_blt I hg hm hv ?_ hn hdb)
  exact PyProof.Rows.callWith_type1 (thn (ha pos pins s σ H _ I h) fun us s1 ⟨vs, H1, I1, r1, q1⟩ => hc pins s1 σ H1 vs us Q I1 r1 q1) he hpl
/-- T() -/
theorem pe_callTy0 (hc : CallR X (.type T) r) (hg : Gl X x) (hm : X.mg x = none) (hv : bootBuiltins x = some (.type T)) (hn : x ≠ "__name__" := by decide) (hdb : (x == ("__debug__" : Str)) = false := by decide) :
    PE X (.Call (.Name x p) [] [] pos) (tCB r tNil) := by
  intro pins s σ H Q I h
  refine wpAny_Call_Name_kw (ld_blt I hg hm hv ?_ hn hdb)
  exact PyProof.Rows.callWith_type0 (hc pins s σ H [] [] Q I .nil h)
end
end L2


namespace HT
open PySem PyProof.Rows

/-- t < u of tuples of ints -/
def lexLt : List Int → List Int → Bool
  | [], [] => false
  | [], _ :: _ => true
  | _ :: _, [] => false
  | x :: xs, y :: ys => if x = y then lexLt xs ys else decide (x < y)
theorem lexLt_cons (x y : Int) (xs ys : List Int) : lexLt (x :: xs) (y :: ys) = if x = y then lexLt xs ys else decide (x < y) := rfl
theorem lexLt_nil_nil : lexLt [] [] = false := rfl
theorem lexLt_nil_cons (y : Int) (ys : List Int) : lexLt [] (y :: ys) = true := rfl
theorem lexLt_cons_nil (x : Int) (xs : List Int) : lexLt (x :: xs) [] = false := rfl

theorem eqAt_int (A : Around) (s : Shared) (a : Int) (t : Tok) (c : Int) (u : Tok) : ∃ e, SeqAt.EqAt A s (.int a t) (.int c u) e ∧ (e = true ↔ a = c) :=
  ⟨(a == c), SeqAt.EqAt.int_int a t c u, by simp⟩
theorem rcLt_int (A : Around) (s : Shared) (a : Int) (t : Tok) (c : Int) (u : Tok) (prog : Program) (w : World) (E : Value → Shared → Prop) (Q : Value → Shared → Prop) (h : Q (.bool (decide (a < c))) s) :
    wpAny (model prog w) A (richCompare .Lt (.int a t) (.int c u)) Q E s :=
  (PyProof.Rows.lt_int h : wpAny (model prog w) A (compareOp .Lt (.int a t) (.int c u)) Q E s)

section
open PySem.SeqAt
open PySem.AutoSeq1 (wpAny_loadPart')
open PySem.MeetsSeq PySem.MeetsSeq2 PySem.MeetsSeq3

theorem tuple_lt_ints (l b : Addr) (items items2 : Array Value) (n n2 : Nat) (dd dd2 : Option Addr) (sl sl2 : Array (Option Value)) (ns ms : List Int) (hi : IntsAre items.toList ns) (hj : IntsAre items2.toList ms) :
    Meets (Builtin.«tuple.__lt__» ⟨[.ref l, .ref b], []⟩)
      (fun _ R s => s.heap.get? l = some { cls := .type "tuple", dict := dd, data := .seq items n, slots := sl } ∧ s.heap.get? b = some { cls := .type "tuple", dict := dd2, data := .seq items2 n2, slots := sl2 } ∧
        R (.ok (.ret (.bool (lexLt ns ms)))) s) :=
  .of_wp fun prog w A R s h => by
    obtain ⟨hp, g, d, tk, os⟩ := s; obtain ⟨hl, hb, h⟩ := h
    have f2 := AutoSeq1.sub_tuple_tuple
    have z1 : items.size = ns.length := by rw [← hi.length]; simp
    have z2 : items2.size = ms.length := by rw [← hj.length]; simp
    wp_walk using wpAny_loadPart' hl, wpAny_loadPart' hb, wpAny_forIn_list _ (fun rest b s' => b.1 = none ∧ s' = ⟨hp, g, d, tk, os⟩ ∧ ∃ (vs ws : List Value) (ns' ms' : List Int), rest = vs.zip ws ∧
      IntsAre vs ns' ∧ IntsAre ws ms' ∧ ns'.length + items2.size = ms'.length + items.size ∧ R (.ok (.ret (.bool (lexLt ns' ms')))) ⟨hp, g, d, tk, os⟩) _
    case turn =>
      rintro ⟨y, x⟩ rest b s' ⟨hb', rfl, vs, ws, ns', ms', hz, hvi, hwi, hlen, hR⟩
      cases hvi with
      | nil => rw [List.zip_nil_left] at hz; cases hz
      | cons a t hvi' =>
        cases hwi with
        | nil => rw [List.zip_nil_right] at hz; cases hz
        | cons c u hwi' =>
          rw [List.zip_cons_cons] at hz
          injection hz with hyx hrest
          injection hyx with hy hx
          subst hy hx
          rw [lexLt_cons] at hR
          simp only [List.length_cons] at hlen
          obtain ⟨e, he, hiff⟩ := eqAt_int A.in1 ⟨hp, g, d, tk, os⟩ a t c u
          refine wpAny_bind (he prog w _ _ ?_)
          cases e with
          | true =>
            rw [if_pos (hiff.mp rfl)] at hR
            wp_walk
            exact ⟨rfl, rfl, _, _, _, _, hrest, hvi', hwi', by omega, hR⟩
          | false =>
            rw [if_neg (fun q => absurd (hiff.mpr q) Bool.false_ne_true)] at hR
            have hri := rcLt_int A.in1 ⟨hp, g, d, tk, os⟩ a t c u prog w
            wp_walk using hri
            exact ⟨_, rfl, by simpa using hR⟩
    case fin =>
      rintro ⟨b1, b2⟩ s' ⟨hb', rfl, vs, ws, ns', ms', hz, hvi, hwi, hlen, hR⟩
      simp only at hb'
      subst hb'
      have hv : lexLt ns' ms' = decide (items.size < items2.size) := by
        cases hvi with
        | nil =>
          cases hwi with
          | nil =>
            simp only [List.length_nil] at hlen
            rw [lexLt_nil_nil]
            exact (decide_eq_false (by omega)).symm
          | cons c u hw =>
            simp only [List.length_nil, List.length_cons] at hlen
            rw [lexLt_nil_cons]
            exact (decide_eq_true (by omega)).symm
        | cons a t hv =>
          cases hwi with
          | nil =>
            simp only [List.length_nil, List.length_cons] at hlen
            rw [lexLt_cons_nil]
            exact (decide_eq_false (by omega)).symm
          | cons c u hw =>
            rw [List.zip_cons_cons] at hz
            cases hz
      rw [hv] at hR
      wp_walk
      exact ⟨_, rfl, by simpa [Builtin.Tuple.tupleCompareSizes] using hR⟩
    case h =>
      exact ⟨rfl, rfl, items.toList, items2.toList, ns, ms, rfl, hi, hj, by omega, h⟩
end

section
variable {prog : Program} {w : World} {A : Around} {E : Value → Shared → Prop} {s : Shared}

theorem lt_tupInts {l b : Addr} {items items2 : Array Value} {ns ms : List Int} {Q : Value → Shared → Prop} (hl : IsTup s.heap l items) (hb : IsTup s.heap b items2) (hi : IntsAre items.toList ns) (hj : IntsAre items2.toList ms)
    (hu : A.units < cLine) (h : Q (.bool (lexLt ns ms)) s) : wpAny (model prog w) A (compareOp .Lt (.ref l) (.ref b)) Q E s := by
  obtain ⟨⟨cls, dd, data, sl⟩, ho, hc, n, hd⟩ := id hl
  obtain ⟨⟨cls2, dd2, data2, sl2⟩, ho2, hc2, n2, hd2⟩ := id hb
  simp only at hc hd hc2 hd2
  subst hc hd hc2 hd2
  exact richCompare_meets_room (op := .Lt) ⟨_, ho, rfl⟩ ⟨_, ho2, rfl⟩ PySem.F.slot_tuple_lt PySem.F.entry_tuple_lt (PySem.F.args_tuple_lt_2 _ _) (tuple_lt_ints l b items items2 n n2 dd dd2 sl sl2 ns ms hi hj)
    ⟨ho, ho2, show Value.bool (lexLt ns ms) ≠ Value.notImplemented ∧ Q (.bool (lexLt ns ms)) s from ⟨(fun x => nomatch x), h⟩⟩ hu

/-- t + u, t not empty -/
theorem cat_tup {t b : Addr} {vs ws : List Value} {Q : Value → Shared → Prop} (ht : IsTup s.heap t vs.toArray) (hb : IsTup s.heap b ws.toArray) (hv : vs ≠ [])
    (h1 : ws = [] → Q (.ref t) s) (h2 : ws ≠ [] → Q (.ref s.heap.objs.size) { s with heap := s.heap.push { cls := .type "tuple", data := .seq (vs ++ ws).toArray } })
    (hsz : vs.length + ws.length ≤ sizeLine) : wpAny (model prog w) A (binaryOp .Add (.ref t) (.ref b)) Q E s := by
  obtain ⟨⟨cls, dd, data, sl⟩, ho, hc, n, hd⟩ := id ht
  obtain ⟨⟨cls2, dd2, data2, sl2⟩, ho2, hc2, n2, hd2⟩ := id hb
  simp only at hc hd hc2 hd2
  subst hc hd hc2 hd2
  have e : vs.toArray ++ ws.toArray = (vs ++ ws).toArray := by simp
  by_cases hw : ws = []
  · exact concat_meets ⟨_, ho, rfl⟩ ⟨_, ho2, rfl⟩ noFill_tuple_add seq_tuple_add PySem.F.slot_tuple_add PySem.F.entry_tuple_add (PySem.F.args_tuple_add_2 _ _)
      (tuple_addW1 t b vs.toArray ws.toArray n n2 dd dd2 sl sl2 (by simpa using hv) (by simp [hw])) ⟨ho, ho2, h1 hw⟩
  · refine concat_meets ⟨_, ho, rfl⟩ ⟨_, ho2, rfl⟩ noFill_tuple_add seq_tuple_add PySem.F.slot_tuple_add PySem.F.entry_tuple_add (PySem.F.args_tuple_add_2 _ _)
      (tuple_addW2 t b vs.toArray ws.toArray n n2 dd dd2 sl sl2 (by simpa using hv) (by simpa using hw) (by rw [List.size_toArray, List.size_toArray]; exact hsz)) ⟨ho, ho2, ?_⟩
    rw [e]
    exact h2 hw

/-! ### t[a:b], not the whole -/
/-- a slice's bound as a place among n (d where it is left out) -/
def sIx (n d : Nat) : Option Int → Nat
  | none => d
  | some v => if v < 0 then (v + (n : Int)).toNat else min v.toNat n
theorem sIx_none (n d : Nat) : sIx n d none = d := rfl
theorem sIx_nat (n d k : Nat) : sIx n d (some (k : Int)) = min k n := by
  show (if (k : Int) < 0 then ((k : Int) + (n : Int)).toNat else min (k : Int).toNat n) = min k n
  rw [if_neg (by omega), Int.toNat_natCast]
theorem sIx_le (n d : Nat) (hd : d ≤ n) (o : Option Int) : sIx n d o ≤ n := by
  cases o with
  | none => exact hd
  | some v =>
    show (if v < 0 then (v + (n : Int)).toNat else min v.toNat n) ≤ n
    by_cases hv : v < 0
    · rw [if_pos hv]; omega
    · rw [if_neg hv]; exact Nat.min_le_right _ _
theorem clip_eq (v : Int) (n d : Nat) : (if v < 0 then max (v + (n : Int)) 0 else min v (n : Int)) = ((sIx n d (some v) : Nat) : Int) := by
  show (if v < 0 then max (v + (n : Int)) 0 else min v (n : Int)) = (((if v < 0 then (v + (n : Int)).toNat else min v.toNat n) : Nat) : Int)
  by_cases hv : v < 0
  · simp only [if_pos hv]; omega
  · simp only [if_neg hv]; omega
theorem adjust_gen (lo hi : Option Int) (n : Nat) : Builtin.Slice.sliceAdjust lo hi 1 (n : Int) = (((sIx n 0 lo : Nat) : Int), ((sIx n n hi : Nat) : Int)) := by
  have h1 : ¬ ((1 : Int) < 0) := by omega
  unfold Builtin.Slice.sliceAdjust
  simp only [h1, if_false]
  refine Prod.ext ?_ ?_
  · cases lo with
    | none => rfl
    | some v => exact clip_eq v n 0
  · cases hi with
    | none => rfl
    | some v => exact clip_eq v n n
theorem places_gen (i j : Nat) : Builtin.Slice.slicePlaces (i : Int) (j : Int) 1 = j - i := by
  unfold Builtin.Slice.slicePlaces
  have h1 : (1 : Int) > 0 := by omega
  simp only [h1, if_true, Int.ediv_one]
  split <;> omega
theorem slicePart_ {v : Value} {o : Option Int} {Q : Option Int → Shared → Prop} (p : IsPart v o) (h : Q o s) : wpAny (model prog w) A (Builtin.Slice.slicePartIndex v) Q E s := by
  cases p with
  | none => exact slicePart_none h
  | int i t => exact slicePart_int h
theorem sliceApplied_gen {sl : Addr} {vl vu : Value} {lo hi : Option Int} {n : Nat} {Q : Int × Int × Nat → Shared → Prop} (hs : s.heap.IsSliceOf sl vl vu .none) (pl : IsPart vl lo) (pu : IsPart vu hi)
    (h : Q (((sIx n 0 lo : Nat) : Int), 1, sIx n n hi - sIx n 0 lo) s) : wpAny (model prog w) A (Builtin.Slice.sliceApplied (.ref sl) (pure (n : Int))) Q E s := by
  obtain ⟨os, hos, hcs, hds⟩ := id hs
  unfold Builtin.Slice.sliceApplied Builtin.Slice.sliceFields
  refine wpAny_bind (wpAny_bind (wpAny_field hos hds (x := vl) rfl (wpAny_bind (wpAny_field hos hds (x := vu) rfl (wpAny_bind (wpAny_field hos hds (x := .none) rfl (wpAny_pure ?_)))))))
  refine wpAny_bind (slicePart_none ?_)
  show wpAny _ _ (if ((1 : Int) == 0) = true then _ else _) _ _ s
  rw [if_neg (by decide)]
  refine wpAny_bind (slicePart_ pl (wpAny_bind (slicePart_ pu (wpAny_bind (wpAny_pure ?_)))))
  show wpAny _ _ (match Builtin.Slice.sliceAdjust lo hi 1 (n : Int) with | (lo, hi) => pure (lo, (1 : Int), Builtin.Slice.slicePlaces lo hi 1)) _ _ s
  rw [adjust_gen lo hi n]
  show wpAny _ _ (pure (((sIx n 0 lo : Nat) : Int), (1 : Int), Builtin.Slice.slicePlaces ((sIx n 0 lo : Nat) : Int) ((sIx n n hi : Nat) : Int) 1)) _ _ s
  rw [places_gen]
  exact wpAny_pure h
theorem pick_gen (xs : Array Value) (i k : Nat) : ((List.range k).filterMap fun (m : Nat) => xs[((i : Int) + (m : Int) * 1).toNat]?).toArray = ((xs.toList.drop i).take k).toArray := by
  have e : (fun (m : Nat) => xs[((i : Int) + (m : Int) * 1).toNat]?) = fun m => xs[i + m]? := by
    funext m
    have : ((i : Int) + (m : Int) * 1).toNat = i + m := by omega
    rw [this]
  rw [e]
  have := pick_run xs i k
  rw [List.filterMap_map] at this
  have e2 : ((fun x => xs[x]?) ∘ fun x => i + x) = fun m => xs[i + m]? := rfl
  rw [e2] at this
  rw [this]

theorem getItem_tuple_cut {t sl : Addr} {items : Array Value} {vl vu : Value} {lo hi : Option Int} {Q : Value → Shared → Prop} (ht : IsTup s.heap t items) (hs : s.heap.IsSliceOf sl vl vu .none) (pl : IsPart vl lo) (pu : IsPart vu hi)
    (hw : ¬ (sIx items.size 0 lo = 0 ∧ sIx items.size items.size hi = items.size))
    (h : Q (.ref s.heap.objs.size) { s with heap := s.heap.push { cls := .type "tuple", data := .seq ((items.toList.drop (sIx items.size 0 lo)).take (sIx items.size items.size hi - sIx items.size 0 lo)).toArray } })
    (hsz : items.size ≤ sizeLine) : wpAny (model prog w) A (getItem (.ref t) (.ref sl)) Q E s := by
  have htake : sizeOk (.seq ((items.toList.drop (sIx items.size 0 lo)).take (sIx items.size items.size hi - sIx items.size 0 lo)).toArray) := by
    show ((items.toList.drop (sIx items.size 0 lo)).take (sIx items.size items.size hi - sIx items.size 0 lo)).toArray.size ≤ sizeLine
    rw [List.size_toArray, List.length_take, List.length_drop, Array.length_toList]
    omega
  have hj : sIx items.size items.size hi ≤ items.size := sIx_le _ _ (Nat.le_refl _) hi
  obtain ⟨os, hos, hcs, hds⟩ := id hs
  have hTs : s.TypeIs (.ref sl) "slice" := ⟨os, hos, hcs⟩
  unfold getItem
  try with_reducible refine wpAny_holding ?_
  first | refine wpAny_bind (wpAny_pure ?_) | skip
  refine wpAny_bind (wpAny_sequenceKey ht.typeIs (by decide) ?_)
  refine wpAny_bind (wpAny_callSpecial?_slot (name := Str.ofString "__getitem__") ht.typeIs PyProof.Rows.slot_tuple_getitem
    (wpAny_call_entry PyProof.Rows.slot_tuple_getitem ht.typeIs entry_tuple_getitem ?_ (args_tuple_getitem _ _)))
  show wpAny _ _ (Builtin.Tuple.tupleItemsOf (.ref t) >>= _) _ _ s
  refine wpAny_bind (tupleItemsOf_ ht ?_)
  refine wpAny_bind (wpAny_typeOf hTs ?_)
  rw [if_pos (by decide)]
  refine wpAny_bind (sliceApplied_gen hs pl pu ?_)
  have hno : ¬ ((((sIx items.size 0 lo : Nat) : Int) == 0 && (1 : Int) == 1 && (sIx items.size items.size hi - sIx items.size 0 lo) == items.size) = true) := by
    intro q
    rw [Bool.and_eq_true, Bool.and_eq_true] at q
    have q1 : ((sIx items.size 0 lo : Nat) : Int) = 0 := eq_of_beq q.1.1
    have q2 : sIx items.size items.size hi - sIx items.size 0 lo = items.size := eq_of_beq q.2
    exact hw ⟨by omega, by omega⟩
  show wpAny _ _ (if (((sIx items.size 0 lo : Nat) : Int) == 0 && (1 : Int) == 1 && (sIx items.size items.size hi - sIx items.size 0 lo) == items.size) = true then _ else _) _ _ s
  rw [if_neg hno, pick_gen]
  first
    | exact wpAny_bind (m := Builtin.Tuple.tupleExact _) (wpAny_newObj_type (wpAny_pure ⟨_, rfl, wpAny_pure h⟩) htake)
    | exact wpAny_bind (m := Builtin.Tuple.tupleExact _) (wpAny_newObj_type (wpAny_bind (wpAny_pure (wpAny_pure ⟨_, rfl, wpAny_pure h⟩))) htake)
    | exact wpAny_bind (wpAny_bind (m := Builtin.Tuple.tupleExact _) (wpAny_newObj_type (wpAny_pure (wpAny_pure ⟨_, rfl, wpAny_pure h⟩)) htake))
    | exact wpAny_bind (wpAny_bind (m := Builtin.Tuple.tupleExact _) (wpAny_newObj_type (wpAny_pure ⟨_, rfl, wpAny_pure h⟩) htake))
end
end HT

namespace L2
open PySem PySem.Spec PyProof.Rows

/-! ### the parts of a slice -/
abbrev TO := St → Hp → (Option Int → Hp → Prop) → Prop
/-- a slice's part (left out, or an int) -/
def PO (X : Cx) (e : Option Expr) (t : TO) : Prop :=
  ∀ (pins : List (Addr × Obj)) (s : Shared) (σ : St) (H : Hp) (Q : Option Int → Hp → Prop), Inv X pins σ H s → t σ H Q →
    wpAny (model X.prog X.w) X.A (evalPart e X.env) (fun u s' => ∃ o H', Inv X pins σ H' s' ∧ IsPart u o ∧ Q o H') X.xe s
def tNoPart : TO := fun _ H Q => Q none H
def tPart (t : TE) : TO := fun σ H Q => t σ H fun x H1 => ∃ i, x = .int i ∧ Q (some i) H1

theorem intsAre_of {ns : List Int} : ∀ {us : List Value}, Vals (ns.map V.int) us → IntsAre us ns := by
  induction ns with
  | nil => intro us r; rw [List.map_nil] at r; cases r; exact .nil
  | cons n ns ih =>
    intro us r
    rw [List.map_cons] at r
    cases r with
    | cons r1 r2 =>
      obtain ⟨t, e⟩ := r1
      subst e
      exact .cons n t (ih r2)

section
variable {X : Cx} {e : Expr} {te : TE} {lo hi : Option Expr} {tl th : TO} {pos p2 : Pos}

theorem po_none : PO X none tNoPart := by
  intro pins s σ H Q I h
  rw [evalPart_none]
  exact wpAny_pure ⟨none, H, I, .none, h⟩
theorem po_some (h : PE X e te) : PO X (some e) (tPart te) := by
  intro pins s σ H Q I hw
  rw [evalPart_some]
  refine thn (h pins s σ H _ I hw) fun u s1 ⟨x, H1, I1, r1, q1⟩ => ?_
  obtain ⟨i, rfl, q⟩ := q1
  obtain ⟨t, rfl⟩ := r1
  exact ⟨some i, H1, I1, .int i t, q⟩

/-- what a slice of a value is, by values: the slice object stands at sl -/
def SlR (X : Cx) (r : V → Option Int → Option Int → Hp → VK → Prop) : Prop :=
  ∀ (pins : List (Addr × Obj)) (s : Shared) (σ : St) (H : Hp) (x : V) (v vl vu : Value) (lo hi : Option Int) (sl : Addr) (Q : VK), Inv X pins σ H s → RelV x v → s.heap.IsSliceOf sl vl vu .none → IsPart vl lo → IsPart vu hi → r x lo hi H Q →
    ∃ T id, typeLookup (.type T) "__getitem__" = pure (some (.builtin id)) ∧ s.TypeIs v T ∧ wpAny (model X.prog X.w) X.A (getItem v (.ref sl)) (EP X pins σ Q) X.xe s
theorem SlR.or {r r' : V → Option Int → Option Int → Hp → VK → Prop} (h : SlR X r) (h' : SlR X r') : SlR X (fun x lo hi H Q => r x lo hi H Q ∨ r' x lo hi H Q) := by
  intro pins s σ H x v vl vu lo hi sl Q I rx hs pl pu q
  rcases q with q | q
  · exact h pins s σ H x v vl vu lo hi sl Q I rx hs pl pu q
  · exact h' pins s σ H x v vl vu lo hi sl Q I rx hs pl pu q
def tSl (r : V → Option Int → Option Int → Hp → VK → Prop) (te : TE) (tl th : TO) : TE := fun σ H Q => te σ H fun x H1 => tl σ H1 fun l H2 => th σ H2 fun u H3 => r x l u H3 Q
/-- a[lo:hi], any a -/
theorem pe_slice {r : V → Option Int → Option Int → Hp → VK → Prop} (hr : SlR X r) (he : PE X e te) (hl : PO X lo tl) (hu : PO X hi th) : PE X (.Subscript e (.Slice lo hi none p2) pos) (tSl r te tl th) := by
  intro pins s σ H Q I h
  refine Subscript_ (thn (he pins s σ H _ I h) fun v s1 ⟨x, H1, I1, r1, q1⟩ => ?_)
  refine wpAny_Slice (thn (hl pins s1 σ H1 _ I1 q1) fun vl s2 ⟨l, H2, I2, pl, q2⟩ => thn (hu pins s2 σ H2 _ I2 q2) fun vu s3 ⟨u, H3, I3, pu, q3⟩ => ?_)
  rw [evalPart_none]
  refine wpAny_pure ?_
  have I4 : Inv X pins σ H3 { s3 with heap := s3.heap.push { cls := .type "slice", data := .fields #[vl, vu, .none] } } := I3.kept (t' := s3.toks) fun b ob q => Heap.get?_push_of_some _ q
  obtain ⟨T, id, hT, ht, hg⟩ := hr pins { s3 with heap := s3.heap.push { cls := .type "slice", data := .fields #[vl, vu, .none] } } σ H3 x v vl vu l u s3.heap.objs.size Q I4 r1 (Heap.IsSliceOf.new ..) pl pu q3
  show wpAny (model X.prog X.w) X.A (subscriptTail e (.Slice lo hi none p2) v (.ref s3.heap.objs.size)) (EP X pins σ Q) X.xe { s3 with heap := s3.heap.push { cls := .type "slice", data := .fields #[vl, vu, .none] } }
  exact tail_any (ops := [.ref s3.heap.objs.size, v]) ht hT hg (by with_unfolding_all rfl)

/-- the items of xs[lo:hi] -/
def cutV (xs : List V) (lo hi : Option Int) : List V := (xs.drop (HT.sIx xs.length 0 lo)).take (HT.sIx xs.length xs.length hi - HT.sIx xs.length 0 lo)
theorem cutV_length (xs : List V) (lo hi : Option Int) : (cutV xs lo hi).length ≤ xs.length := by
  unfold cutV
  rw [List.length_take, List.length_drop]
  omega
/-- t[lo:hi], not the whole of it (the whole would be t itself) -/
def rSlT (K : PySem.W.Frag) : V → Option Int → Option Int → Hp → VK → Prop := fun x lo hi H Q => ∃ a xs, x = .ref a ∧ SqT K H a xs ∧
  ¬ (HT.sIx xs.length 0 lo = 0 ∧ HT.sIx xs.length xs.length hi = xs.length) ∧ ∀ p, H p = none → Q (.ref p) (upd H p (.tup (cutV xs lo hi)))
theorem sl_tup : SlR X (rSlT X.K) := by
  intro pins s σ H x v vl vu lo hi sl Q I rx hs pl pu h
  obtain ⟨a, xs, rfl, hx, hw, q⟩ := h
  cases rx
  obtain ⟨its, r, ht, hz⟩ := I.tuple hx
  have hlen : its.toArray.size = xs.length := by rw [List.size_toArray]; exact r.length.symm
  refine ⟨"tuple", _, PyProof.Rows.slot_tuple_getitem.lookup, ht.typeIs, ?_⟩
  refine HT.getItem_tuple_cut ht hs pl pu (by rw [hlen]; exact hw) ?_ (by rw [hlen]; exact hz)
  rw [hlen]
  refine ⟨.ref s.heap.objs.size, _, I.laid (t' := s.toks) (o := .tup (cutV xs lo hi)) (fun b ob q => Heap.get?_push_of_some _ q) (Nat.le_refl _) ?_, rfl, q _ (I.hok.fresh (Nat.le_refl _))⟩
  exact ⟨Nat.le_trans (cutV_length xs lo hi) hz, _, (r.drop (HT.sIx xs.length 0 lo)).take (HT.sIx xs.length xs.length hi - HT.sIx xs.length 0 lo), IsTup.new _ _⟩

/-! ### t < u, t + u -/
def rLtT (K : PySem.W.Frag) : R2 := fun x y H Q => ∃ a b ns ms, x = .ref a ∧ y = .ref b ∧ SqT K H a (ns.map V.int) ∧ SqT K H b (ms.map V.int) ∧ Q (.bl (HT.lexLt ns ms)) H
theorem op_ltT (hu : X.A.units < cLine) : OpR X (compareOp .Lt) (rLtT X.K) := by
  intro pins s σ H x y v u Q I rx ry h
  obtain ⟨a, b, ns, ms, rfl, rfl, ha, hb, q⟩ := h
  cases rx
  cases ry
  obtain ⟨its, r1, p1, _⟩ := I.tuple ha
  obtain ⟨its2, r2, p2, _⟩ := I.tuple hb
  have i1 : IntsAre its.toArray.toList ns := intsAre_of r1
  have i2 : IntsAre its2.toArray.toList ms := intsAre_of r2
  exact HT.lt_tupInts p1 p2 i1 i2 hu ⟨.bl (HT.lexLt ns ms), H, I, rfl, q⟩
/-- t + u, t not empty: u empty gives t itself -/
def rCatT (K : PySem.W.Frag) : R2 := fun x y H Q => ∃ a b xs ys, x = .ref a ∧ y = .ref b ∧ SqT K H a xs ∧ SqT K H b ys ∧ xs ≠ [] ∧ xs.length + ys.length ≤ sizeLine ∧
  (ys = [] → Q (.ref a) H) ∧ (ys ≠ [] → ∀ p, H p = none → Q (.ref p) (upd H p (.tup (xs ++ ys))))
theorem Vals.nil_iff {xs : List V} {us : List Value} (r : Vals xs us) : us = [] ↔ xs = [] := by
  cases r with
  | nil => simp
  | cons _ _ => simp
theorem op_catT : OpR X (binaryOp .Add) (rCatT X.K) := by
  intro pins s σ H x y v u Q I rx ry h
  obtain ⟨a, b, xs, ys, rfl, rfl, ha, hb, hx, hz, q1, q2⟩ := h
  cases rx
  cases ry
  obtain ⟨its, r1, p1, _⟩ := I.tuple ha
  obtain ⟨its2, r2, p2, _⟩ := I.tuple hb
  refine HT.cat_tup p1 p2 (fun z => hx (r1.nil_iff.mp z)) (fun z => ⟨.ref a, H, I, rfl, q1 (r2.nil_iff.mp z)⟩) (fun z => ?_) (by rw [← r1.length, ← r2.length]; exact hz)
  refine ⟨.ref s.heap.objs.size, _, I.laid (t' := s.toks) (o := .tup (xs ++ ys)) (fun b ob q => Heap.get?_push_of_some _ q) (Nat.le_refl _) ?_, rfl, q2 (fun w => z (r2.nil_iff.mpr w)) _ (I.hok.fresh (Nat.le_refl _))⟩
  exact ⟨by rw [List.length_append]; exact hz, _, r1.append r2, IsTup.new _ _⟩
/-- tuple(t) -/
theorem call_tupleT : CallR X (.type "tuple") (fun xs H Q => ∃ a ys, xs = [.ref a] ∧ SqT X.K H a ys ∧ Q (.ref a) H) := by
  intro pins s σ H xs us Q I r h
  obtain ⟨a, ys, rfl, ha, q⟩ := h
  obtain ⟨u, rfl, ru⟩ := vals1 r
  cases ru
  obtain ⟨its, _, p1, _⟩ := I.tuple ha
  exact call_tuple_same (items := its.toArray) p1 ⟨.ref a, H, I, rfl, q⟩
end
end L2

namespace L2
open PySem PySem.Spec PyProof.Rows

/-! ### places -/
/-- the place that an index of any sign means -/
def ixN (n : Nat) (i : Int) : Option Nat := if 0 ≤ i then (if i < n then some i.toNat else none) else if -(n : Int) ≤ i then some (i + n).toNat else none
def atI {α : Type} (xs : List α) (i : Int) : Option α := (ixN xs.length i).bind fun j => xs[j]?
theorem ixN_seq {n : Nat} {i : Int} {j : Nat} (h : ixN n i = some j) : seqIndex? i n = some j ∧ j < n ∧ -(n : Int) ≤ i ∧ i < n := by
  unfold ixN at h
  by_cases h0 : 0 ≤ i
  · rw [if_pos h0] at h
    by_cases h1 : i < n
    · rw [if_pos h1] at h
      have e : i.toNat = j := Option.some.inj h
      exact ⟨by rw [seqIndex_of h0 h1, e], by omega, by omega, h1⟩
    · rw [if_neg h1] at h; cases h
  · rw [if_neg h0] at h
    by_cases h1 : -(n : Int) ≤ i
    · rw [if_pos h1] at h
      have e : (i + n).toNat = j := Option.some.inj h
      exact ⟨by rw [seqIndex_neg (by omega) h1, e], by omega, h1, by omega⟩
    · rw [if_neg h1] at h; cases h
theorem atI_get {α : Type} {xs : List α} {i : Int} {v : α} (h : atI xs i = some v) : ∃ j, seqIndex? i xs.length = some j ∧ xs[j]? = some v ∧ j < xs.length ∧ -(xs.length : Int) ≤ i ∧ i < xs.length := by
  unfold atI at h
  cases e : ixN xs.length i with
  | none => rw [e] at h; cases h
  | some j =>
    rw [e] at h
    obtain ⟨h1, h2, h3, h4⟩ := ixN_seq e
    exact ⟨j, h1, h, h2, h3, h4⟩
theorem atI_nat {α : Type} {xs : List α} {j : Nat} {v : α} (h : xs[j]? = some v) : atI xs (j : Int) = some v := by
  have hj : j < xs.length := (List.getElem?_eq_some_iff.mp h).1
  have e : ixN xs.length (j : Int) = some j := by
    unfold ixN
    rw [if_pos (by omega), if_pos (by omega)]; simp
  unfold atI; rw [e]; exact h
theorem atI_last {α : Type} (xs : List α) (v : α) : atI (xs ++ [v]) (-1) = some v := by
  have hl : (xs ++ [v]).length = xs.length + 1 := by simp
  have e : ixN (xs ++ [v]).length (-1) = some xs.length := by
    unfold ixN
    rw [hl, if_neg (by decide), if_pos (by omega)]
    congr 1
    omega
  unfold atI
  rw [e]
  show (xs ++ [v])[xs.length]? = some v
  simp

/-! ### what may be subscripted -/
/-- what stands as an index of a plain subscript -/
def PlainIx (b : Expr) : Prop := ∀ o i, subscripted b false o i = operate [o, i] (getItem o i)
/-- a subscript by values -/
def IxR (X : Cx) (r : R2) : Prop :=
  ∀ (value slice : Expr) (pins : List (Addr × Obj)) (s : Shared) (σ : St) (H : Hp) (x y : V) (v u : Value) (Q : VK), Inv X pins σ H s → RelV x v → RelV y u → r x y H Q →
    subscripted slice false v u = operate [v, u] (getItem v u) → wpAny (model X.prog X.w) X.A (subscriptTail value slice v u) (EP X pins σ Q) X.xe s
/-- a call of a builtin's method by values: the receiver, the arguments -/
def MtR (X : Cx) (id : String) (r : V → List V → Hp → VK → Prop) : Prop :=
  ∀ (pins : List (Addr × Obj)) (s : Shared) (σ : St) (H : Hp) (x : V) (xs : List V) (v : Value) (us : List Value) (Q : VK), Inv X pins σ H s → RelV x v → Vals xs us → r x xs H Q →
    wpAny (model X.prog X.w) X.A (call (.builtin id) (v :: us)) (EP X pins σ Q) X.xe s
section
variable {X : Cx} {a b : Expr} {ta tb : TE} {pos : Pos}
theorem IxR.or {r r' : R2} (h : IxR X r) (h' : IxR X r') : IxR X (fun x y H Q => r x y H Q ∨ r' x y H Q) := by
  intro value slice pins s σ H x y v u Q I rx ry q hs
  rcases q with q | q
  · exact h value slice pins s σ H x y v u Q I rx ry q hs
  · exact h' value slice pins s σ H x y v u Q I rx ry q hs
theorem MtR.or {id : String} {r r' : V → List V → Hp → VK → Prop} (h : MtR X id r) (h' : MtR X id r') : MtR X id (fun x xs H Q => r x xs H Q ∨ r' x xs H Q) := by
  intro pins s σ H x xs v us Q I rx rs q
  rcases q with q | q
  · exact h pins s σ H x xs v us Q I rx rs q
  · exact h' pins s σ H x xs v us Q I rx rs q
/-- a[b] -/
theorem pe_ix {r : R2} (hr : IxR X r) (ha : PE X a ta) (hb : PE X b tb) (hs : PlainIx b) : PE X (.Subscript a b pos) (tOp r ta tb) := by
  intro pins s σ H Q I h
  exact Subscript_ (binT ha hb I h fun v u s2 x y H2 I2 rx ry q => hr a b pins s2 σ H2 x y v u Q I2 rx ry q (hs _ _))

def rIxL (K : PySem.W.Frag) : R2 := fun x y H Q => ∃ p xs i v, x = .ref p ∧ y = .int i ∧ SqL K H p xs ∧ atI xs i = some v ∧ Q v H
def rIxT (K : PySem.W.Frag) : R2 := fun x y H Q => ∃ p xs i v, x = .ref p ∧ y = .int i ∧ SqT K H p xs ∧ atI xs i = some v ∧ Q v H
def rIxS : R2 := fun x y H Q => ∃ z i c, x = .str z ∧ y = .int i ∧ z.length ≤ sizeLine ∧ atI z.cps.toList i = some c ∧ Q (.str ⟨#[c]⟩) H
theorem ix_list : IxR X (rIxL X.K) := by
  intro value slice pins s σ H x y v u Q I rx ry h hs
  obtain ⟨p, xs, i, z, rfl, rfl, hq, he, q⟩ := h
  cases rx
  obtain ⟨t, rfl⟩ := ry
  obtain ⟨its, r, pl, hz⟩ := I.list hq
  obtain ⟨j, h1, h2, h3, h4, h5⟩ := atI_get he
  obtain ⟨w, ew, rw'⟩ := r.get h2
  have hl := r.length
  have hn := line63
  have fin : EP X pins σ Q w s := ⟨z, H, I, rw', q⟩
  by_cases h0 : 0 ≤ i
  · have hj : i.toNat = j := by
      rw [seqIndex_of h0 h5] at h1
      exact Option.some.inj h1
    exact item_listR pl.isList h0 (by omega) (by rw [hj]; simpa using ew) fin hs
  · have hj : (i + (its.toArray.size : Int)).toNat = j := by
      rw [seqIndex_neg (by omega) h4] at h1
      rw [List.size_toArray, ← hl]
      exact Option.some.inj h1
    exact subscriptTail_builtinR (x := w) pl.isList.typeIs slot_list_getitem.lookup
      (wpAny_getItem_list_neg (Q := fun r s' => r = w ∧ EP X pins σ Q r s') pl.isList (by omega) (by rw [List.size_toArray] <;> omega) (by omega) (by rw [hj]; simpa using ew) ⟨rfl, fin⟩) hs
theorem ix_tup : IxR X (rIxT X.K) := by
  intro value slice pins s σ H x y v u Q I rx ry h hs
  obtain ⟨p, xs, i, z, rfl, rfl, hq, he, q⟩ := h
  cases rx
  obtain ⟨t, rfl⟩ := ry
  obtain ⟨its, r, pl, hz⟩ := I.tuple hq
  obtain ⟨j, h1, h2, h3, h4, h5⟩ := atI_get he
  obtain ⟨w, ew, rw'⟩ := r.get h2
  have hl := r.length
  have hn := line63
  have fin : EP X pins σ Q w s := ⟨z, H, I, rw', q⟩
  exact subscriptTail_builtinR (x := w) pl.typeIs slot_tuple_getitem.lookup
    (getItem_tuple (j := j) (Q := fun r s' => r = w ∧ EP X pins σ Q r s') pl (by omega) (by omega) (by rw [List.size_toArray, ← hl]; exact h1) (by simpa using ew) ⟨rfl, fin⟩) hs
theorem ix_str : IxR X rIxS := by
  intro value slice pins s σ H x y v u Q I rx ry h hs
  obtain ⟨z, i, c, rfl, rfl, hz, he, q⟩ := h
  obtain ⟨t, rfl⟩ := rx
  obtain ⟨t', rfl⟩ := ry
  obtain ⟨j, h1, h2, h3, h4, h5⟩ := atI_get he
  have hl : z.cps.toList.length = z.length := by simp [Str.length]
  rw [hl] at h1 h4 h5
  have hn := line63
  exact tail_any (typeIs_str s z t) slot_str_getitem.lookup (getItem_str (c := c) (by
    have e1 : decide (i < -(2 ^ 63 : Int)) = false := decide_eq_false (by omega)
    have e2 : decide (i ≥ 2 ^ 63) = false := decide_eq_false (by omega)
    rw [e1, e2, Bool.or_false]) (by rw [h1]; simpa using h2) ⟨.str ⟨#[c]⟩, H, I.tok _, ⟨_, rfl⟩, q⟩) hs
/-- list, tuple or str -/
def rIx (K : PySem.W.Frag) : R2 := fun x y H Q => rIxL K x y H Q ∨ rIxT K x y H Q ∨ rIxS x y H Q
theorem ix_seq : IxR X (rIx X.K) := ix_list.or (ix_tup.or ix_str)

/-! ### xs[i] = v, any sign -/
/-- the list's object behind a store -/
theorem mapSeq_set (its : List Value) (n j : Nat) (u : Value) : Obj.mapSeq (·.setIfInBounds j u) { cls := .type "list", data := .seq its.toArray n } = { cls := .type "list", data := .seq (its.set j u).toArray n } := by
  simp [Obj.mapSeq]
theorem Inv.lst {pins : List (Addr × Obj)} {σ : St} {H : Hp} {s : Shared} {p : Addr} {xs : List V} (I : Inv X pins σ H s) (h : H p = some (.lst xs)) :
    ∃ (its : List Value) (n : Nat), Vals xs its ∧ s.heap.get? p = some { cls := .type "list", data := .seq its.toArray n } ∧ xs.length ≤ sizeLine := by
  obtain ⟨z, its, n, r, e⟩ := I.hok p _ h
  exact ⟨its, n, r, e, z⟩
/-- the list at p is written by an update of its object -/
theorem Inv.lstUpd {pins : List (Addr × Obj)} {σ : St} {H : Hp} {s : Shared} {p : Addr} {xs ys : List V} {its its' : List Value} {n n' : Nat} {f : Obj → Obj} (I : Inv X pins σ H s) (h : H p = some (.lst xs))
    (ho : s.heap.get? p = some { cls := .type "list", data := .seq its.toArray n }) (hf : f { cls := .type "list", data := .seq its.toArray n } = { cls := .type "list", data := .seq its'.toArray n' }) (r : Vals ys its') (hz : ys.length ≤ sizeLine) (t : Nat) :
    Inv X pins σ (upd H p (.lst ys)) { s with heap := s.heap.update p f, toks := t } := by
  have e : (s.heap.update p f).get? p = some { cls := .type "list", data := .seq its'.toArray n' } := by
    rw [Heap.get?_update_self f ho (by rw [hf] <;> rfl), hf]
  refine I.write (x := p) (e := p) (by rw [h]; trivial) (.inl rfl) (fun b u hb q => (Heap.get?_update_other _ _ (Ne.symm hb)).trans q) ⟨_, e⟩ ?_
  exact ⟨hz, its', n', r, e⟩
def rSetL : V → V → V → Hp → (Hp → Prop) → Prop := fun o i v H Q => ∃ p xs k j, o = .ref p ∧ i = .int k ∧ H p = some (.lst xs) ∧ ixN xs.length k = some j ∧ Q (upd H p (.lst (xs.set j v)))
theorem set_list : PSet X rSetL := by
  intro pins s σ H o i v ov iv u Q I ro ri rv h
  obtain ⟨p, xs, k, j, rfl, rfl, hp, hj, q⟩ := h
  cases ro
  obtain ⟨t, rfl⟩ := ri
  obtain ⟨its, n, r, ho, hz⟩ := I.lst hp
  obtain ⟨h1, h2, h3, h4⟩ := ixN_seq hj
  have hl := r.length
  have hn := line63
  have I' : Inv X pins σ (upd H p (.lst (xs.set j v))) { s with heap := s.heap.update p (Obj.mapSeq (·.setIfInBounds j u)) } :=
    I.lstUpd hp ho (mapSeq_set its n j u) (r.set rv j) (by rw [List.length_set]; exact hz) s.toks
  by_cases h0 : 0 ≤ k
  · have hk : k.toNat = j := by
      rw [seqIndex_of h0 h4] at h1
      exact Option.some.inj h1
    exact PySem.W.ki_setAt ho h0 (by omega) (by rw [List.size_toArray, ← hl]; exact h4) (by rw [hk]; exact ⟨_, I', q⟩)
  · have hk : (k + (its.toArray.size : Int)).toNat = j := by
      rw [seqIndex_neg (by omega) h3] at h1
      rw [List.size_toArray, ← hl]
      exact Option.some.inj h1
    exact PySem.W.ki_setBack ho (by omega) (by rw [List.size_toArray, ← hl]; exact h3) (by omega) (by rw [hk]; exact ⟨_, I', q⟩)

/-! ### slices -/
theorem slice_bounds (lo hi : Option Int) (n : Nat) : (sliceBounds lo hi none n).1 = ((HT.sIx n 0 lo : Nat) : Int) ∧ (sliceBounds lo hi none n).2.1 = ((HT.sIx n n hi : Nat) : Int) ∧ (sliceBounds lo hi none n).2.2 = 1 := by
  refine ⟨?_, ?_, rfl⟩
  · cases lo with
    | none => simp [sliceBounds, HT.sIx]
    | some i =>
      simp only [sliceBounds, HT.sIx, Option.getD_none, show (1 : Int) > 0 by decide, if_true]
      by_cases h : i < 0
      · simp only [h, if_true] <;> omega
      · simp only [h, if_false] <;> omega
  · cases hi with
    | none => simp [sliceBounds, HT.sIx]
    | some i =>
      simp only [sliceBounds, HT.sIx, Option.getD_none, show (1 : Int) > 0 by decide, if_true]
      by_cases h : i < 0
      · simp only [h, if_true] <;> omega
      · simp only [h, if_false] <;> omega
theorem slicePick_cut (its : List Value) (lo hi : Option Int) : slicePick its.toArray lo hi none = ((its.drop (HT.sIx its.length 0 lo)).take (HT.sIx its.length its.length hi - HT.sIx its.length 0 lo)).toArray := by
  obtain ⟨h1, h2, h3⟩ := slice_bounds lo hi its.toArray.size
  unfold slicePick
  rw [h1, h2, h3]
  simp only [sliceRange_one, pick_run, List.size_toArray] <;> rfl
/-- xs[lo:hi] of a list: a new list -/
def rSlL (K : PySem.W.Frag) : V → Option Int → Option Int → Hp → VK → Prop := fun x lo hi H Q => ∃ a xs, x = .ref a ∧ SqL K H a xs ∧ ∀ p, H p = none → Q (.ref p) (upd H p (.lst (cutV xs lo hi)))
theorem sl_list : SlR X (rSlL X.K) := by
  intro pins s σ H x v vl vu lo hi sl Q I rx hs pl pu h
  obtain ⟨a, xs, rfl, hx, q⟩ := h
  cases rx
  obtain ⟨its, r, ht, hz⟩ := I.list hx
  have hlen := r.length
  refine ⟨"list", _, slot_list_getitem.lookup, ht.isList.typeIs, ?_⟩
  refine wpAny_getItem_list_slice ht.isList hs pl pu .none (by simp) ?_ (by rw [List.size_toArray] <;> omega)
  rw [slicePick_cut, ← hlen]
  refine ⟨.ref s.heap.objs.size, _, I.laid (t' := s.toks) (o := .lst (cutV xs lo hi)) (fun b ob q => Heap.get?_push_of_some _ q) (Nat.le_refl _) ?_, rfl, q _ (I.hok.fresh (Nat.le_refl _))⟩
  exact ⟨Nat.le_trans (cutV_length xs lo hi) hz, _, 0, (r.drop (HT.sIx xs.length 0 lo)).take (HT.sIx xs.length xs.length hi - HT.sIx xs.length 0 lo), Heap.get?_push_size _ rfl⟩

/-! ### in, not in: flat items -/
def flatV : V → Bool
  | .non => true
  | .bl _ => true
  | .int _ => true
  | .str _ => true
  | _ => false
/-- == of flat values -/
def eqV : V → V → Bool
  | .non, .non => true
  | .bl a, .bl b => a == b
  | .bl a, .int b => (if a then 1 else 0) == b
  | .int a, .bl b => a == (if b then 1 else 0)
  | .int a, .int b => a == b
  | .str a, .str b => a == b
  | _, _ => false
theorem eqAt_V {A : Around} {s : Shared} {y x : V} {u v : Value} (ry : RelV y u) (rx : RelV x v) (fy : flatV y = true) (fx : flatV x = true) : SeqAt.EqAt A s u v (eqV y x) := by
  cases y with
  | non =>
    cases ry
    cases x with
    | non => cases rx; exact SeqAt.EqAt.same _
    | bl b => cases rx; exact SeqAt.EqAt.none_bool b
    | int b => obtain ⟨t, rfl⟩ := rx; exact SeqAt.EqAt.none_int b t
    | str b => obtain ⟨t, rfl⟩ := rx; exact SeqAt.EqAt.none_str b t
    | _ => exact absurd (show false = true from fx) Bool.false_ne_true
  | bl a =>
    cases ry
    cases x with
    | non => cases rx; exact SeqAt.EqAt.bool_none a
    | bl b => cases rx; exact SeqAt.EqAt.bool_bool a b
    | int b => obtain ⟨t, rfl⟩ := rx; exact SeqAt.EqAt.bool_int a b t
    | str b => obtain ⟨t, rfl⟩ := rx; exact SeqAt.EqAt.bool_str a b t
    | _ => exact absurd (show false = true from fx) Bool.false_ne_true
  | int a =>
    obtain ⟨t', rfl⟩ := ry
    cases x with
    | non => cases rx; exact SeqAt.EqAt.int_none a t'
    | bl b => cases rx; exact SeqAt.EqAt.int_bool a t' b
    | int b => obtain ⟨t, rfl⟩ := rx; exact SeqAt.EqAt.int_int a t' b t
    | str b => obtain ⟨t, rfl⟩ := rx; exact SeqAt.EqAt.int_str a t' b t
    | _ => exact absurd (show false = true from fx) Bool.false_ne_true
  | str a =>
    obtain ⟨t', rfl⟩ := ry
    cases x with
    | non => cases rx; exact SeqAt.EqAt.str_none a t'
    | bl b => cases rx; exact SeqAt.EqAt.str_bool a t' b
    | int b => obtain ⟨t, rfl⟩ := rx; exact SeqAt.EqAt.str_int a t' b t
    | str b => obtain ⟨t, rfl⟩ := rx; exact SeqAt.EqAt.str_str a t' b t
    | _ => exact absurd (show false = true from fx) Bool.false_ne_true
  | _ => exact absurd (show false = true from fy) Bool.false_ne_true
/-- the items' answers, read off the values (a value's own answer does not lean on its token) -/
def eqU (x : V) (u : Value) : Bool := match u with
  | .none => eqV .non x
  | .bool b => eqV (.bl b) x
  | .int i _ => eqV (.int i) x
  | .str z _ => eqV (.str z) x
  | _ => false
theorem eqU_of {x y : V} {u : Value} (r : RelV y u) (f : flatV y = true) : eqU x u = eqV y x := by
  cases y with
  | non => cases r; rfl
  | bl b => cases r; rfl
  | int i => obtain ⟨t, rfl⟩ := r; rfl
  | str z => obtain ⟨t, rfl⟩ := r; rfl
  | _ => exact absurd (show false = true from f) Bool.false_ne_true
theorem any_eqU {x : V} : ∀ {xs : List V} {us : List Value}, Vals xs us → xs.all flatV = true → us.any (eqU x) = xs.any fun y => eqV y x
  | _, _, .nil, _ => rfl
  | y :: xs, u :: us, .cons r t, f => by
    rw [List.all_cons, Bool.and_eq_true] at f
    rw [List.any_cons, List.any_cons, eqU_of r f.1, any_eqU t f.2]
theorem mem_eqAt {A : Around} {s : Shared} {x : V} {v : Value} (rx : RelV x v) (fx : flatV x = true) : ∀ {xs : List V} {us : List Value}, Vals xs us → xs.all flatV = true → ∀ u ∈ us, SeqAt.EqAt A s u v (eqU x u)
  | _, _, .nil, _ => fun u hu => by cases hu
  | y :: xs, u :: us, .cons r t, f => fun u' hu => by
    rw [List.all_cons, Bool.and_eq_true] at f
    rcases List.mem_cons.mp hu with rfl | hu
    · rw [eqU_of r f.1]; exact eqAt_V r rx f.1 fx
    · exact mem_eqAt rx fx t f.2 u' hu
def inV (x : V) (xs : List V) : Bool := xs.any fun y => eqV y x
/-- x in a list or tuple of flat items -/
def rIn (K : PySem.W.Frag) (neg : Bool) : R2 := fun x y H Q => ∃ p xs, y = .ref p ∧ (SqL K H p xs ∨ SqT K H p xs) ∧ flatV x = true ∧ xs.all flatV = true ∧ Q (.bl (if neg then !inV x xs else inV x xs)) H
theorem op_in_seq : OpR X (compareOp .In) (rIn X.K false) := by
  intro pins s σ H x y v u Q I rx ry h
  obtain ⟨p, xs, rfl, hq, fx, fs, q⟩ := h
  cases ry
  rcases hq with hq | hq
  · obtain ⟨its, r, pl, hz⟩ := I.list hq
    refine SeqAt.in_listAt (eqU x) pl.isList (fun w hw => mem_eqAt rx fx r fs w (by simpa using hw)) ⟨.bl _, H, I, rfl, ?_⟩
    rw [show its.toArray.any (eqU x) = its.any (eqU x) by simp, any_eqU r fs]
    exact q
  · obtain ⟨its, r, pl, hz⟩ := I.tuple hq
    refine SeqAt.in_tupleAt (eqU x) pl (fun w hw => mem_eqAt rx fx r fs w (by simpa using hw)) ⟨.bl _, H, I, rfl, ?_⟩
    rw [show its.toArray.any (eqU x) = its.any (eqU x) by simp, any_eqU r fs]
    exact q
theorem op_notIn_seq : OpR X (compareOp .NotIn) (rIn X.K true) := by
  intro pins s σ H x y v u Q I rx ry h
  obtain ⟨p, xs, rfl, hq, fx, fs, q⟩ := h
  cases ry
  rcases hq with hq | hq
  · obtain ⟨its, r, pl, hz⟩ := I.list hq
    refine SeqAt.notIn_listAt (eqU x) pl.isList (fun w hw => mem_eqAt rx fx r fs w (by simpa using hw)) ⟨.bl _, H, I, rfl, ?_⟩
    rw [show its.toArray.any (eqU x) = its.any (eqU x) by simp, any_eqU r fs]
    exact q
  · obtain ⟨its, r, pl, hz⟩ := I.tuple hq
    refine SeqAt.notIn_tupleAt (eqU x) pl (fun w hw => mem_eqAt rx fx r fs w (by simpa using hw)) ⟨.bl _, H, I, rfl, ?_⟩
    rw [show its.toArray.any (eqU x) = its.any (eqU x) by simp, any_eqU r fs]
    exact q
theorem op_notIn_str : OpR X (compareOp .NotIn) (fun x y H Q => ∃ i j, x = .str i ∧ y = .str j ∧ Q (.bl (!(!(Builtin.Str.occurrences j i 0 j.length 1).isEmpty))) H) := by
  intro pins s σ H x y v u Q I rx ry h
  obtain ⟨i, j, rfl, rfl, q⟩ := h
  obtain ⟨t, rfl⟩ := rx
  obtain ⟨t', rfl⟩ := ry
  exact notIn_str ⟨.bl _, H, I, rfl, q⟩

/-! ### len, list(x), tuple(x) of any list or tuple that is read -/
theorem call_len_seq : CallR X (.builtin "len") (fun xs H Q => ∃ p ys, xs = [.ref p] ∧ (SqL X.K H p ys ∨ SqT X.K H p ys) ∧ Q (.int ys.length) H) := by
  intro pins s σ H xs us Q I r h
  obtain ⟨p, ys, rfl, hq, q⟩ := h
  obtain ⟨u, rfl, rx⟩ := vals1 r
  cases rx
  have hn := line63
  rcases hq with hq | hq
  · obtain ⟨its, r', pl, hz⟩ := I.list hq
    have hlen := r'.length
    exact Calls.call_len_list pl.isList (by simp only [List.size_toArray] <;> omega) ⟨.int ys.length, H, I.tok _, ⟨s.toks + 1, by rw [List.size_toArray, hlen]⟩, q⟩
  · obtain ⟨its, r', pl, hz⟩ := I.tuple hq
    have hlen := r'.length
    exact len_tuple pl (by simp only [List.size_toArray] <;> omega) ⟨.int ys.length, H, I.tok _, ⟨s.toks + 1, by rw [List.size_toArray, hlen]⟩, q⟩
theorem call_len_str : CallR X (.builtin "len") (fun xs H Q => ∃ z, xs = [.str z] ∧ z.length ≤ sizeLine ∧ Q (.int z.length) H) := by
  intro pins s σ H xs us Q I r h
  obtain ⟨z, rfl, hz, q⟩ := h
  obtain ⟨u, rfl, t, rfl⟩ := vals1 r
  have hn := line63
  exact len_str (by omega) ⟨.int z.length, H, I.tok _, ⟨_, rfl⟩, q⟩
theorem CallR.or {f : Value} {r r' : List V → Hp → VK → Prop} (h : CallR X f r) (h' : CallR X f r') : CallR X f (fun xs H Q => r xs H Q ∨ r' xs H Q) := by
  intro pins s σ H xs us Q I rs q
  rcases q with q | q
  · exact h pins s σ H xs us Q I rs q
  · exact h' pins s σ H xs us Q I rs q
theorem call_list_of : CallR X (.type "list") (fun xs H Q => ∃ p ys, xs = [.ref p] ∧ (SqL X.K H p ys ∨ SqT X.K H p ys) ∧ ∀ l, H l = none → Q (.ref l) (upd H l (.lst ys))) := by
  intro pins s σ H xs us Q I r h
  obtain ⟨p, ys, rfl, hq, q⟩ := h
  obtain ⟨u, rfl, rx⟩ := vals1 r
  cases rx
  have fin : ∀ (its : List Value), Vals ys its → ys.length ≤ sizeLine → ∀ (h' : Heap) (c' : Nat), (∀ b o', s.heap.get? b = some o' → h'.get? b = some o') →
      h'.get? s.heap.objs.size = some { cls := .type "list", dict := none, data := .seq its.toArray c', slots := #[] } → EP X pins σ Q (.ref s.heap.objs.size) { s with heap := h' } := fun its r' hz h' c' kp e =>
    ⟨.ref s.heap.objs.size, _, I.laid (t' := s.toks) kp (Nat.le_refl _) (show ObjOk X.prog X.w _ h' _ (.lst ys) from ⟨hz, its, c', r', e⟩), rfl, q _ (I.hok.fresh (Nat.le_refl _))⟩
  rcases hq with hq | hq
  · obtain ⟨its, r', pl, hz⟩ := I.list hq
    have hlen := r'.length
    obtain ⟨o, ho, hc, n, hd⟩ := pl.isList
    exact call_list_seq p (.inl rfl) ho hc hd (fun h' c' kp e => fin its r' hz h' c' kp e) (by simp only [List.size_toArray] <;> omega)
  · obtain ⟨its, r', pl, hz⟩ := I.tuple hq
    have hlen := r'.length
    obtain ⟨o, ho, hc, n, hd⟩ := pl
    exact call_list_seq p (.inr rfl) ho hc hd (fun h' c' kp e => fin its r' hz h' c' kp e) (by simp only [List.size_toArray] <;> omega)
theorem call_tuple_of : CallR X (.type "tuple") (fun xs H Q => ∃ p ys, xs = [.ref p] ∧ ((SqL X.K H p ys ∧ ∀ l, H l = none → Q (.ref l) (upd H l (.tup ys))) ∨ (SqT X.K H p ys ∧ Q (.ref p) H))) := by
  intro pins s σ H xs us Q I r h
  obtain ⟨p, ys, rfl, h⟩ := h
  obtain ⟨u, rfl, rx⟩ := vals1 r
  cases rx
  rcases h with ⟨hq, q⟩ | ⟨hq, q⟩
  · obtain ⟨its, r', pl, hz⟩ := I.list hq
    have hlen := r'.length
    refine call_tuple_list pl.isList (fun h' kp => ?_) (by simp only [List.size_toArray] <;> omega)
    have I1 : Inv X pins σ H { s with heap := h' } := I.kept (t' := s.toks) kp
    have I2 : Inv X pins σ (upd H h'.objs.size (.tup ys)) { s with heap := h'.push { cls := .type "tuple", data := .seq its.toArray } } :=
      I1.laid (t' := s.toks) (fun b o e => Heap.get?_push_of_some _ e) (Nat.le_refl _) (show ObjOk X.prog X.w _ _ _ (.tup ys) from ⟨hz, its, r', IsTup.new _ _⟩)
    exact ⟨.ref h'.objs.size, _, I2, rfl, q _ (I1.hok.fresh (Nat.le_refl _))⟩
  · obtain ⟨its, r', pl, hz⟩ := I.tuple hq
    exact call_tuple_same pl ⟨.ref p, H, I, rfl, q⟩

/-! ### the call of a builtin's method: o.m(..) -/
/-- the value is of that builtin type -/
def tyV (K : PySem.W.Frag) (T : String) (x : V) (H : Hp) : Prop := match x with
  | .str _ => T = "str"
  | .int _ => T = "int"
  | .ref p => (T = "list" ∧ ∃ xs, SqL K H p xs) ∨ (T = "tuple" ∧ ∃ o, K.lookup p = some o ∧ o.cls = .type "tuple" ∧ o.dict = none) ∨
      (T = "dict" ∧ ((∃ kvs, H p = some (.dK kvs)) ∨ ∃ kvs, H p = some (.dT kvs))) ∨ (T = "set" ∧ ∃ S n, H p = some (.set S n))
  | _ => False
theorem tyV_is {pins : List (Addr × Obj)} {σ : St} {H : Hp} {s : Shared} {T : String} {x : V} {v : Value} (I : Inv X pins σ H s) (r : RelV x v) (ty : tyV X.K T x H) :
    s.TypeIs v T ∧ ∀ a, v = .ref a → ∃ ob, s.heap.get? a = some ob ∧ ob.dict = none := by
  cases x with
  | str z =>
    obtain ⟨t, rfl⟩ := r
    cases (show T = "str" from ty)
    exact ⟨typeIs_str s z t, fun _ e => nomatch e⟩
  | int i =>
    obtain ⟨t, rfl⟩ := r
    cases (show T = "int" from ty)
    exact ⟨typeIs_int s i t, fun _ e => nomatch e⟩
  | ref p =>
    cases r
    rcases ty with ⟨rfl, xs, hq⟩ | ⟨rfl, o, hk, hc, hd⟩ | ⟨rfl, hk⟩ | ⟨rfl, S, n, hk⟩
    · obtain ⟨its, _, pl, _⟩ := I.list hq
      refine ⟨pl.isList.typeIs, fun a e => ?_⟩
      cases e
      obtain ⟨o, n, e, c, hd, _⟩ := pl
      exact ⟨o, e, hd⟩
    · refine ⟨⟨o, I.kIn p o hk, hc⟩, fun a e => ?_⟩
      cases e
      exact ⟨o, I.kIn _ o hk, hd⟩
    · have z : ∃ o, s.heap.get? p = some o ∧ o.ExactDict := by
        rcases hk with ⟨kvs, hk⟩ | ⟨kvs, hk⟩
        · obtain ⟨_, _, _, _, o, _, _, e, ex, _⟩ := I.hok p _ hk
          exact ⟨o, e, ex⟩
        · obtain ⟨_, _, _, _, o, _, _, e, ex, _⟩ := I.hok p _ hk
          exact ⟨o, e, ex⟩
      obtain ⟨o, e, ex⟩ := z
      refine ⟨⟨o, e, ex.1⟩, fun a e2 => ?_⟩
      cases e2
      exact ⟨o, e, ex.2.1⟩
    · obtain ⟨o, _, _, _, e, ex, _⟩ := I.hok p _ hk
      refine ⟨⟨o, e, ex.1⟩, fun a e2 => ?_⟩
      cases e2
      exact ⟨o, e, ex.2.1⟩
  | _ => exact False.elim ty
def tBM0 (K : PySem.W.Frag) (T : String) (r : V → List V → Hp → VK → Prop) (to : TE) : TE := fun σ H Q => to σ H fun x H1 => tyV K T x H1 ∧ r x [] H1 Q
def tBM (K : PySem.W.Frag) (T : String) (r : V → List V → Hp → VK → Prop) (to : TE) (t : TA) : TE := fun σ H Q => to σ H fun x H1 => tyV K T x H1 ∧ t σ H1 fun xs H2 => r x xs H2 Q
variable {o e : Expr} {es : List Expr} {to : TE} {t : TA} {name : Str} {apos cpos : Pos} {T id : String} {r : V → List V → Hp → VK → Prop}
theorem pe_bm0 (pa : PlainAttrs T) (slot : Slot T name id) (hty : typeOf (.builtin id) = pure (.type "method_descriptor")) (hm : MtR X id r) (ho : PE X o to)
    (hbase : attributeBase o name X.env (eval o X.env) = eval o X.env := by rfl) (hline : (apos.endLine == cpos.line) = true := by rfl) : PE X (.Call (.Attribute o name apos) [] [] cpos) (tBM0 X.K T r to) := by
  intro pins s σ H Q I h
  refine wpAny_Call_method0_late hbase hline (thn (ho pins s σ H _ I h) fun v s1 ⟨x, H1, I1, r1, ty, q1⟩ => ?_)
  obtain ⟨h1, h2⟩ := tyV_is I1 r1 ty
  exact ⟨T, id, pa, slot, hty, h1, h2, Calls.callWith_builtin rfl (PySem.evalArgs_none (hm pins s1 σ H1 x [] v [] Q I1 r1 .nil q1))⟩
theorem pe_bm (pa : PlainAttrs T) (slot : Slot T name id) (hty : typeOf (.builtin id) = pure (.type "method_descriptor")) (hm : MtR X id r) (ho : PE X o to) (ha : PA X (e :: es) t)
    (hbase : attributeBase o name X.env (eval o X.env) = eval o X.env := by rfl)
    (hfew : ((backTo cpos (starEach (e :: es) X.env)).all (fun x => !x.1) && (backToKw cpos (keywordEach [] X.env)).all (fun x => x.1.isSome)
      && decide ((e :: es).length + ([] : List Keyword).length + (if ([] : List Keyword).isEmpty then 0 else 1) < 30)) = true := by rfl)
    (hline : (apos.endLine == cpos.line) = true := by rfl) (hs : starEach (e :: es) X.env = (false, eval e X.env) :: starEach es X.env := by rfl) (hplain : (backTo cpos (starEach es X.env)).any (·.1) = false := by rfl) :
    PE X (.Call (.Attribute o name apos) (e :: es) [] cpos) (tBM X.K T r to t) := by
  intro pins s σ H Q I h
  refine wpAny_Call_method_late hbase hfew hline rfl (thn (ho pins s σ H _ I h) fun v s1 ⟨x, H1, I1, r1, ty, q1⟩ => ?_)
  obtain ⟨h1, h2⟩ := tyV_is I1 r1 ty
  refine ⟨T, id, pa, slot, hty, h1, h2, ?_⟩
  have hA := ha cpos pins s1 σ H1 _ I1 q1
  rw [hs] at hA ⊢
  refine Calls.callWith_builtin (by show (false || (backTo cpos (starEach es X.env)).any (·.1)) = false; rw [hplain] <;> rfl) (Calls.evalArgs_plain ?_)
  exact thn hA fun us s2 ⟨vs, H2, I2, r2, q2⟩ => hm pins s2 σ H2 x vs v us Q I2 r1 r2 q2
/- xs.append(e), list.index on a module's tuple .. are MtR facts of 06m -/
end
end L2

namespace L2
open PySem PySem.Spec PyProof.Rows

def MtM (X : Cx) (id : String) (r : V → List V → Hp → VK → Prop) : Prop :=
  ∀ (pins : List (Addr × Obj)) (s : Shared) (σ : St) (H : Hp) (x : V) (xs : List V) (v : Value) (us : List Value) (Q : VK), Inv X pins σ H s → RelV x v → Vals xs us → r x xs H Q →
    wpAny (model X.prog X.w) X.A (call (.builtin id) (v :: us)) (EP X pins σ Q) X.xe s

/-! ### lists of values -/
theorem Vals.one : ∀ {x : V} {us : List Value}, Vals [x] us → ∃ u, us = [u] ∧ RelV x u
  | _, _, .cons r .nil => ⟨_, rfl, r⟩
theorem Vals.two : ∀ {x y : V} {us : List Value}, Vals [x, y] us → ∃ u v, us = [u, v] ∧ RelV x u ∧ RelV y v
  | _, _, _, .cons r (.cons q .nil) => ⟨_, _, rfl, r, q⟩
theorem Vals.zero : ∀ {us : List Value}, Vals [] us → us = []
  | _, .nil => rfl
theorem Vals.dropLast {xs : List V} {us : List Value} (h : Vals xs us) : Vals xs.dropLast us.dropLast := by
  induction h with
  | nil => exact .nil
  | cons r t ih =>
    cases t with
    | nil => exact .nil
    | cons q t' => exact .cons r ih
theorem Vals.eraseIdx : ∀ {xs : List V} {us : List Value} (i : Nat), Vals xs us → Vals (xs.eraseIdx i) (us.eraseIdx i)
  | _, _, _, .nil => .nil
  | _, _, 0, .cons _ t => t
  | _, _, i + 1, .cons r t => .cons r (Vals.eraseIdx i t)
theorem Vals.reverse {xs : List V} {us : List Value} (h : Vals xs us) : Vals xs.reverse us.reverse := by
  induction h with
  | nil => exact .nil
  | cons r t ih => rw [List.reverse_cons, List.reverse_cons]; exact Vals.append ih (.cons r .nil)
theorem Vals.rep {xs : List V} {us : List Value} (h : Vals xs us) : ∀ k : Nat, Vals (List.replicate k xs).flatten (List.replicate k us).flatten
  | 0 => .nil
  | k + 1 => by
    rw [List.replicate_succ, List.replicate_succ, List.flatten_cons, List.flatten_cons]
    exact Vals.append h (Vals.rep h k)
theorem erase_last {α : Type} (l : List α) : l.eraseIdx (l.length - 1) = l.dropLast := by
  induction l with
  | nil => rfl
  | cons a r ih =>
    cases r with
    | nil => rfl
    | cons b r =>
      have e : (a :: b :: r).length - 1 = ((b :: r).length - 1) + 1 := by
        have h1 : (a :: b :: r).length = r.length + 2 := rfl
        have h2 : (b :: r).length = r.length + 1 := rfl
        omega
      rw [e, List.eraseIdx_cons_succ, ih]
      all_goals rfl
theorem len_erase {α : Type} : ∀ (l : List α) (i : Nat), (l.eraseIdx i).length ≤ l.length
  | [], _ => Nat.le_refl _
  | _ :: _, 0 => Nat.le_succ _
  | _ :: r, i + 1 => Nat.succ_le_succ (len_erase r i)
theorem foldl_rep (its : List Value) : ∀ (k : Nat) (acc : List Value),
    List.foldl (fun x1 x2 => x1 ++ x2) acc.toArray (List.replicate k its.toArray) = (acc ++ (List.replicate k its).flatten).toArray
  | 0, acc => by simp
  | k + 1, acc => by
    have e : acc.toArray ++ its.toArray = (acc ++ its).toArray := by simp
    have e2 : (acc ++ its) ++ (List.replicate k its).flatten = acc ++ (List.replicate (k + 1) its).flatten := by
      rw [List.replicate_succ, List.flatten_cons, List.append_assoc]
    rw [← e2, ← foldl_rep its k (acc ++ its), ← e, List.replicate_succ, List.foldl_cons]

section
variable {X : Cx} {pins : List (Addr × Obj)} {σ : St} {H : Hp} {s : Shared} {l b : Addr} {xs ys zs : List V}

/-! ### the two steps: a tracked list is rewritten, a new list is laid -/
theorem Inv.lset {its its' : List Value} {n : Nat} {f : Array Value → Array Value} {t' : Nat} (I : Inv X pins σ H s) (hH : H l = some (.lst xs))
    (e : s.heap.get? l = some { cls := .type "list", data := .seq its.toArray n }) (hf : f its.toArray = its'.toArray) (hv : Vals ys its') (hz : ys.length ≤ sizeLine) :
    Inv X pins σ (upd H l (.lst ys)) { s with heap := s.heap.update l (Obj.mapSeq f), toks := t' } := by
  have q := PySem.IsL.update e f
  rw [hf] at q
  refine I.write (x := l) (e := l) (by rw [hH]; exact trivial) (.inl rfl) (fun b' u hb hu => (Heap.get?_update_other s.heap (Obj.mapSeq f) (Ne.symm hb)).trans hu) ⟨_, q⟩ ?_
  exact ⟨hz, its', _, hv, q⟩
theorem Inv.lnew {its : List Value} {t' : Nat} (I : Inv X pins σ H s) (hv : Vals ys its) (hz : ys.length ≤ sizeLine) :
    Inv X pins σ (upd H s.heap.objs.size (.lst ys)) { s with heap := s.heap.push { cls := .type "list", data := .seq its.toArray }, toks := t' } :=
  I.laid (fun _ _ q => Heap.get?_push_of_some _ q) (Nat.le_refl _) ⟨hz, its, 0, hv, Heap.get?_push_size _ rfl⟩
theorem Inv.fresh (I : Inv X pins σ H s) : H s.heap.objs.size = none := I.hok.fresh (Nat.le_refl _)
theorem Inv.lstM (I : Inv X pins σ H s) (hH : H l = some (.lst xs)) : xs.length ≤ sizeLine ∧ ∃ (its : List Value) (n : Nat), Vals xs its ∧ xs.length = its.length ∧ s.heap.get? l = some { cls := .type "list", data := .seq its.toArray n } := by
  obtain ⟨z, its, n, r, e⟩ := I.hok l _ hH
  exact ⟨z, its, n, r, r.length, e⟩

theorem notLongL {n : Nat} (h : n ≤ sizeLine) : Builtin.List.listTooLong n = false := by
  unfold Builtin.List.listTooLong
  exact decide_eq_false (by omega)
end

section
variable {X : Cx}

/-! ### methods -/
def rAppend : V → List V → Hp → VK → Prop := fun x vs H Q => ∃ l xs y, x = .ref l ∧ vs = [y] ∧ H l = some (.lst xs) ∧ xs.length < sizeLine ∧ Q .non (upd H l (.lst (xs ++ [y])))
theorem mt_append : MtM X "list.append" rAppend := by
  intro pins s σ H x vs v us Q I rx rv h
  obtain ⟨l, xs, y, rfl, rfl, hH, hz, q⟩ := h
  cases rx
  obtain ⟨u, rfl, ru⟩ := rv.one
  obtain ⟨z, its, n, r, hl, e⟩ := I.lstM hH
  refine call_meets F.slot_list_append ⟨_, e, rfl⟩ F.entry_list_append (F.args_list_append_2 _ _) (PySem.list_append l its.toArray n u (by rw [List.size_toArray]; omega)) ⟨e, ?_⟩
  refine ⟨.non, _, I.lset (its' := its ++ [u]) hH e (by simp) (r.append (.cons ru .nil)) ?_, rfl, q⟩
  rw [List.length_append, List.length_singleton]
  omega

def rExtend : V → List V → Hp → VK → Prop := fun x vs H Q => ∃ l b xs zs, x = .ref l ∧ vs = [.ref b] ∧ H l = some (.lst xs) ∧ H b = some (.lst zs) ∧ xs.length + zs.length ≤ sizeLine ∧ Q .non (upd H l (.lst (xs ++ zs)))
theorem mt_extend : MtM X "list.extend" rExtend := by
  intro pins s σ H x vs v us Q I rx rv h
  obtain ⟨l, b, xs, zs, rfl, rfl, hH, hB, hz, q⟩ := h
  cases rx
  obtain ⟨u, rfl, ru⟩ := rv.one
  cases ru
  obtain ⟨z, its, n, r, hl, e⟩ := I.lstM hH
  obtain ⟨z2, its2, n2, r2, hl2, e2⟩ := I.lstM hB
  have hsz : its.toArray.size + its2.toArray.size ≤ sizeLine := by rw [List.size_toArray, List.size_toArray]; omega
  have hlong : ¬ (!its.toArray.isEmpty && Builtin.List.listTooLong (its.toArray.size + its2.toArray.size)) = true := by
    rw [notLongL hsz, Bool.and_false]
    exact Bool.false_ne_true
  refine call_meets F.slot_list_extend ⟨_, e, rfl⟩ F.entry_list_extend (F.args_list_extend_2 _ _)
    (AutoSeq1.list_extend_list_list_0 l its.toArray n b its2.toArray n2 hlong (by rw [List.size_toArray]; omega) (by omega)) ⟨e, e2, ?_⟩
  refine ⟨.non, _, I.lset (its' := its ++ its2) hH e (by simp) (r.append r2) ?_, rfl, q⟩
  rw [List.length_append]
  omega

def rPop : V → List V → Hp → VK → Prop := fun x vs H Q => ∃ l xs y, x = .ref l ∧ vs = [] ∧ H l = some (.lst xs) ∧ xs[xs.length - 1]? = some y ∧ Q y (upd H l (.lst xs.dropLast))
theorem mt_pop : MtM X "list.pop" rPop := by
  intro pins s σ H x vs v us Q I rx rv h
  obtain ⟨l, xs, y, rfl, rfl, hH, hy, q⟩ := h
  cases rx
  have hus := rv.zero
  subst hus
  obtain ⟨z, its, n, r, hl, e⟩ := I.lstM hH
  obtain ⟨u, hu, ru⟩ := r.get hy
  have hy' : its.toArray[its.toArray.size - 1]? = some u := by
    show its.toArray[its.length - 1]? = some u
    rw [← Array.getElem?_toList, ← hl]
    exact hu
  refine call_meets F.slot_list_pop ⟨_, e, rfl⟩ F.entry_list_pop (F.args_list_pop_1 _) (MeetsSeq.list_pop_last l its.toArray n u hy' (by rw [List.size_toArray]; omega)) ⟨e, ?_⟩
  refine ⟨y, _, I.lset (its' := its.dropLast) hH e ?_ r.dropLast ?_, ru, q⟩
  · show its.toArray.eraseIdxIfInBounds (its.toArray.size - 1) = its.dropLast.toArray
    rw [List.size_toArray, List.eraseIdxIfInBounds_toArray, erase_last]
  · rw [List.length_dropLast]
    omega

def rPopAt : V → List V → Hp → VK → Prop := fun x vs H Q => ∃ l xs i k y, x = .ref l ∧ vs = [.int i] ∧ H l = some (.lst xs) ∧ -(2 ^ 63) ≤ i ∧ i < 2 ^ 63 ∧ seqIndex? i xs.length = some k ∧ xs[k]? = some y ∧ Q y (upd H l (.lst (xs.eraseIdx k)))
theorem mt_popAt : MtM X "list.pop" rPopAt := by
  intro pins s σ H x vs v us Q I rx rv h
  obtain ⟨l, xs, i, k, y, rfl, rfl, hH, h1, h2, hk, hy, q⟩ := h
  cases rx
  obtain ⟨u, rfl, ru⟩ := rv.one
  obtain ⟨t, rfl⟩ := ru
  obtain ⟨z, its, n, r, hl, e⟩ := I.lstM hH
  obtain ⟨w, hw, rw'⟩ := r.get hy
  refine call_meets F.slot_list_pop ⟨_, e, rfl⟩ F.entry_list_pop (F.args_list_pop_2 _ _)
    (MeetsSeq.list_pop_at l its.toArray n i t k w (fitsIndex_both h1 h2) (by rw [List.size_toArray, ← hl]; exact hk) (by rw [← Array.getElem?_toList]; exact hw) (by rw [List.size_toArray]; omega)) ⟨e, ?_⟩
  refine ⟨y, _, I.lset (its' := its.eraseIdx k) hH e ?_ (r.eraseIdx k) ?_, rw', q⟩
  · show its.toArray.eraseIdxIfInBounds k = (its.eraseIdx k).toArray
    rw [List.eraseIdxIfInBounds_toArray]
  · have := len_erase xs k
    omega

def rReverse : V → List V → Hp → VK → Prop := fun x vs H Q => ∃ l xs, x = .ref l ∧ vs = [] ∧ H l = some (.lst xs) ∧ Q .non (upd H l (.lst xs.reverse))
theorem mt_reverse : MtM X "list.reverse" rReverse := by
  intro pins s σ H x vs v us Q I rx rv h
  obtain ⟨l, xs, rfl, rfl, hH, q⟩ := h
  cases rx
  have hus := rv.zero
  subst hus
  obtain ⟨z, its, n, r, hl, e⟩ := I.lstM hH
  refine call_meets F.slot_list_reverse ⟨_, e, rfl⟩ F.entry_list_reverse (F.args_list_reverse_1 _) (AutoSeq1.list_reverse_list_0 l its.toArray n (by rw [List.size_toArray]; omega)) ⟨e, ?_⟩
  refine ⟨.non, _, I.lset (its' := its.reverse) hH e (by simp) r.reverse ?_, rfl, q⟩
  rw [List.length_reverse]
  omega

def rClear : V → List V → Hp → VK → Prop := fun x vs H Q => ∃ l xs, x = .ref l ∧ vs = [] ∧ H l = some (.lst xs) ∧ Q .non (upd H l (.lst []))
theorem mt_clear : MtM X "list.clear" rClear := by
  intro pins s σ H x vs v us Q I rx rv h
  obtain ⟨l, xs, rfl, rfl, hH, q⟩ := h
  cases rx
  have hus := rv.zero
  subst hus
  obtain ⟨z, its, n, r, hl, e⟩ := I.lstM hH
  refine call_meets F.slot_list_clear ⟨_, e, rfl⟩ F.entry_list_clear (F.args_list_clear_1 _) (AutoSeq1.list_clear_list_0 l its.toArray n (by rw [List.size_toArray]; omega)) ⟨e, ?_⟩
  exact ⟨.non, _, I.lset (its' := []) (ys := []) hH e rfl .nil (Nat.zero_le _), rfl, q⟩

/-! ### list + list, list += list, list * int -/
def rCat : R2 := fun x y H Q => ∃ l b xs zs, x = .ref l ∧ y = .ref b ∧ H l = some (.lst xs) ∧ H b = some (.lst zs) ∧ xs.length + zs.length ≤ sizeLine ∧ ∀ p, H p = none → Q (.ref p) (upd H p (.lst (xs ++ zs)))
theorem op_cat : OpR X (binaryOp .Add) rCat := by
  intro pins s σ H x y v u Q I rx ry h
  obtain ⟨l, b, xs, zs, rfl, rfl, hH, hB, hz, q⟩ := h
  cases rx
  cases ry
  obtain ⟨z, its, n, r, hl, e⟩ := I.lstM hH
  obtain ⟨z2, its2, n2, r2, hl2, e2⟩ := I.lstM hB
  refine PySem.P.add_list e e2 ?_ (by rw [List.size_toArray, List.size_toArray]; omega)
  have ea : its.toArray ++ its2.toArray = (its ++ its2).toArray := by simp
  rw [ea]
  exact ⟨.ref _, _, I.lnew (t' := s.toks) (r.append r2) (by rw [List.length_append]; omega), rfl, q _ I.fresh⟩
/-- a list times an int (a negative one is nothing) -/
def rRep : R2 := fun x y H Q => ∃ l k xs, x = .ref l ∧ y = .int k ∧ H l = some (.lst xs) ∧ -(2 ^ 63) ≤ k ∧ k < 2 ^ 63 ∧ xs.length * k.toNat ≤ sizeLine ∧
  ∀ p, H p = none → Q (.ref p) (upd H p (.lst (List.replicate k.toNat xs).flatten))
theorem len_rep {α : Type} (xs : List α) (k : Nat) : (List.replicate k xs).flatten.length = k * xs.length := by
  induction k with
  | zero => simp
  | succ k ih => rw [List.replicate_succ, List.flatten_cons, List.length_append, ih, Nat.succ_mul, Nat.add_comm]
theorem op_rep : OpR X (binaryOp .Mult) rRep := by
  intro pins s σ H x y v u Q I rx ry h
  obtain ⟨l, k, xs, rfl, rfl, hH, h1, h2, hz, q⟩ := h
  cases rx
  obtain ⟨t, rfl⟩ := ry
  obtain ⟨z, its, n, r, hl, e⟩ := I.lstM hH
  have hlen : its.toArray.size * k.toNat ≤ sizeLine := by rw [List.size_toArray, ← hl]; exact hz
  have hcap : ¬ its.toArray.size * k.toNat > (2 ^ 63 - 1) / 8 := by
    have : (sizeLine : Nat) ≤ (2 ^ 63 - 1) / 8 := by decide
    omega
  have hfit : ¬ (!Builtin.List.listFitsIndex k) = true := by
    rw [fitsIndex_both h1 h2]
    exact Bool.false_ne_true
  have hlong : ¬ Builtin.List.listTooLong (its.toArray.size * k.toNat) = true := by
    rw [notLongL hlen]
    exact Bool.false_ne_true
  have hnew : List.foldl (fun x1 x2 => x1 ++ x2) #[] (List.replicate (if its.toArray.isEmpty = true then 0 else k.toNat) its.toArray) = (List.replicate k.toNat its).flatten.toArray := by
    have f0 : ∀ m : Nat, List.foldl (fun x1 x2 => x1 ++ x2) #[] (List.replicate m its.toArray) = (List.replicate m its).flatten.toArray := fun m => by
      have := foldl_rep its m []
      rw [List.nil_append] at this
      exact this
    rw [f0]
    cases its with
    | nil => simp
    | cons a r' => rw [if_neg (by simp)]
  refine wpAny_binaryOp_repeat_ref (T := "list") (U := "int") (by decide) ⟨_, e, rfl⟩ (fun s' => typeIs_int s' k t) noFill_list_mul F.fills_int_mul F.slot_int_rmul repeat_list F.slot_int_index.lookup
    (call_meets F.slot_int_rmul (typeIs_int s k t) F.entry_int_rmul (F.args_int_rmul_2 _ _) (int___rmul___int_list k t l its.toArray n)
      ⟨e, rfl, ⟨_, e, rfl⟩, call_meets F.slot_list_mul ⟨_, e, rfl⟩ F.entry_list_mul (F.args_list_mul_2 _ _) (AutoListH.list___mul___list_int_3 l its.toArray n k t hfit hcap hlong) ⟨e, ?_⟩⟩)
  rw [hnew]
  exact ⟨.ref _, _, I.lnew (t' := s.toks) (r.rep k.toNat) (by rw [len_rep, Nat.mul_comm]; exact hz), rfl, q _ I.fresh⟩

/-! ### del xs[i] -/
theorem del_list {pins : List (Addr × Obj)} {s : Shared} {σ : St} {H : Hp} {l : Addr} {xs : List V} {i : Int} {t : Tok} {k : Nat} {Q : Unit → Shared → Prop} (I : Inv X pins σ H s) (hH : H l = some (.lst xs))
    (h1 : -(2 ^ 63) ≤ i) (h2 : i < 2 ^ 63) (hk : seqIndex? i xs.length = some k) (h : ∀ s', Inv X pins σ (upd H l (.lst (xs.eraseIdx k))) s' → Q () s') :
    wpAny (model X.prog X.w) X.A (delItem (.ref l) (.int i t)) Q X.xe s := by
  obtain ⟨z, its, n, r, hl, e⟩ := I.lstM hH
  refine PySem.P.delItem_list (k := k) e (fitsIndex_both h1 h2) (by rw [List.size_toArray, ← hl]; exact hk) (h _ ?_) (by rw [List.size_toArray]; omega)
  refine I.lset (its' := its.eraseIdx k) (t' := s.toks) hH e ?_ (r.eraseIdx k) ?_
  · show its.toArray.eraseIdxIfInBounds k = (its.eraseIdx k).toArray
    rw [List.eraseIdxIfInBounds_toArray]
  · have := len_erase xs k
    omega
end

/-! ### xs[a:b] = ys -/
section
variable {prog : Program} {w : World} {A : Around} {E : Value → Shared → Prop} {s : Shared}
theorem splice_eq (its its2 : List Value) (a c : Nat) : its.toArray.extract 0 a ++ its2.toArray ++ its.toArray.extract c its.toArray.size = (its.take a ++ its2 ++ its.drop c).toArray := by
  apply Array.toList_inj.mp
  first
    | (simp
       exact List.take_of_length_le (by simp))
    | simp [List.take_of_length_le]
    | simp
theorem bounds_run {a c n : Nat} (hac : a ≤ c) (hc : c ≤ n) : sliceBounds (some (a : Int)) (some (c : Int)) none n = ((a : Int), (c : Int), 1) := by
  simp only [sliceBounds, Option.getD_none]
  have h1 : ¬ ((a : Int) < 0) := by omega
  have h2 : ¬ ((c : Int) < 0) := by omega
  simp only [h1, h2, if_false, show (1 : Int) > 0 by decide, if_true]
  congr 1
  · omega
  · congr 1; omega
set_option maxRecDepth 100000 in
/-- list.__setitem__ with a slice of step one and another list -/
theorem setItem_slice {l b sl : Addr} {items new : Array Value} {n n2 : Nat} {vl vu : Value} {a c : Nat} {Q : Unit → Shared → Prop}
    (e : s.heap.get? l = some { cls := .type "list", data := .seq items n }) (e2 : s.heap.get? b = some { cls := .type "list", data := .seq new n2 }) (hne : l ≠ b)
    (hs : s.heap.IsSliceOf sl vl vu .none) (pl : IsPart vl (some (a : Int))) (pu : IsPart vu (some (c : Int))) (hac : a ≤ c) (hc : c ≤ items.size)
    (hsz : items.size + new.size ≤ sizeLine) (h : Q () { s with heap := s.heap.update l (Obj.mapSeq fun xs => xs.extract 0 a ++ new ++ xs.extract c xs.size) }) :
    wpAny (model prog w) A (setItem (.ref l) (.ref sl) (.ref b)) Q E s := by
  have hl : s.heap.IsList l items := PySem.IsL.isList e
  have hb : s.heap.IsList b new := PySem.IsL.isList e2
  obtain ⟨os, hos, hcs, hds⟩ := id hs
  have hTs : s.TypeIs (.ref sl) "slice" := ⟨os, hos, hcs⟩
  have hstep : ¬ ((rawPart none == rawInt 0) = true) := Bool.false_ne_true
  have hsame : Builtin.List.listSameRef (.ref l) (.ref b) = false := by
    unfold Builtin.List.listSameRef
    exact beq_eq_false_iff_ne.mpr hne
  have hmax : (max (a : Int) (c : Int)).toNat = c := by omega
  have hz' : ((fun xs : Array Value => xs.extract 0 a ++ new ++ xs.extract c xs.size) items).size ≤ sizeLine + 1 := by
    simp only [Array.size_append, Array.size_extract]
    omega
  unfold setItem
  try with_reducible refine wpAny_holding ?_
  first | refine wpAny_bind (wpAny_pure ?_) | skip
  refine wpAny_bind (wpAny_sequenceKey hl.typeIs (by decide) ?_)
  refine wpAny_bind (wpAny_callSpecial?_slot (name := Str.ofString "__setitem__") hl.typeIs slot_list_setitem
    (wpAny_call_entry slot_list_setitem hl.typeIs entry_list_setitem ?_ (args_list_setitem _ _ _)))
  show wpAny _ _ (Builtin.List.listSubscript? (.ref sl) >>= _) _ _ s
  refine wpAny_bind ?_
  unfold Builtin.List.listSubscript?
  refine wpAny_bind (wpAny_specialOf hTs slice_no_index ?_)
  simp only [Option.isNone_none, if_true]
  refine wpAny_pure ?_
  show wpAny _ _ (typeOf (.ref sl) >>= _) _ _ s
  refine wpAny_bind (wpAny_typeOf hTs ?_)
  first
    | rw [if_neg (by decide)]
    | refine PySem.W.KFB.if_not (by decide) ?_
  rw [listSliceParts_eq]
  refine wpAny_bind (wpAny_bind (wpAny_field hos hds (x := .none) rfl (wpAny_bind (wpAny_listPart .none ?_))))
  rw [if_neg hstep]
  refine wpAny_bind (wpAny_field hos hds (x := vl) rfl (wpAny_bind (wpAny_listPart pl ?_)))
  refine wpAny_bind (wpAny_field hos hds (x := vu) rfl (wpAny_bind (wpAny_listPart pu (wpAny_pure ?_))))
  first
    | simp only [hsame, Bool.false_eq_true, if_false]
    | refine PySem.W.KFB.if_not hsame ?_
    | (dsimp only
       rw [if_neg (by rw [hsame]; exact Bool.false_ne_true)])
  refine wpAny_bind (m := Builtin.List.listAllItems (.ref b) "must assign iterable to extended slice") ?_
  unfold Builtin.List.listAllItems
  refine wpAny_bind (wpAny_typeOf hb.typeIs ?_)
  first
    | refine PySem.W.KFB.if_so (by decide) ?_
    | rw [if_pos (by decide)]
    | simp only [beq_self_eq_true, Bool.true_or, if_true]
  unfold Builtin.List.listItems
  refine wpAny_bind (wpAny_seqItems e2 rfl (wpAny_pure ?_))
  refine wpAny_bind (wpAny_bind (wpAny_seqItems e rfl (wpAny_pure ?_)))
  refine wpAny_bind (wpAny_of_eq ((sliceIndices_raw (some (a : Int)) (some (c : Int)) none items.size (by simp)).trans (congrArg (pure : Int × Int × Int → Sem (Int × Int × Int)) (bounds_run hac hc))) ?_)
  show wpAny _ _ (if ((1 : Int) == 1) = true then _ else _) _ _ s
  rw [if_pos (by decide)]
  refine wpAny_bind (wpAny_rule ?_)
  first
    | simp only [notLongL hsz, Bool.false_eq_true, if_false]
    | refine PySem.W.KFB.if_not (notLongL hsz) ?_
  first | refine wpAny_bind (wpAny_pure ?_) | skip
  show wpAny _ _ (updateSeq l (fun xs => xs.extract 0 ((a : Int)).toNat ++ new ++ xs.extract (max (a : Int) (c : Int)).toNat xs.size) >>= _) _ _ s
  rw [hmax, Int.toNat_natCast]
  refine wpAny_bind (wpAny_updateSeq (hz := Nat.le_trans (Nat.le_add_right _ _) hsz) (_hz' := hz') e rfl ?_)
  refine wpAny_bind (wpAny_letGo ?_)
  first
    | exact wpAny_bind (wpAny_pure (wpAny_pure ⟨.none, rfl, wpAny_pure h⟩))
    | exact wpAny_pure ⟨.none, rfl, wpAny_pure h⟩
end

section
variable {X : Cx}
/-- xs[a:c] = ys of another list, at the value level: sl is the slice object that was just made -/
theorem set_slice {pins : List (Addr × Obj)} {s : Shared} {σ : St} {H : Hp} {l b sl : Addr} {xs ys : List V} {a c : Int} {vl vu : Value} {Q : Unit → Shared → Prop} (I : Inv X pins σ H s)
    (hH : H l = some (.lst xs)) (hB : H b = some (.lst ys)) (hne : l ≠ b) (hs : s.heap.IsSliceOf sl vl vu .none) (ra : RelV (.int a) vl) (rc : RelV (.int c) vu) (h0 : 0 ≤ a) (hac : a ≤ c) (hc : c ≤ xs.length)
    (hz : xs.length + ys.length ≤ sizeLine) (h : ∀ s', Inv X pins σ (upd H l (.lst (xs.take a.toNat ++ ys ++ xs.drop c.toNat))) s' → Q () s') :
    wpAny (model X.prog X.w) X.A (setItem (.ref l) (.ref sl) (.ref b)) Q X.xe s := by
  obtain ⟨ta, rfl⟩ := ra
  obtain ⟨tc, rfl⟩ := rc
  obtain ⟨z, its, n, r, hl, e⟩ := I.lstM hH
  obtain ⟨z2, its2, n2, r2, hl2, e2⟩ := I.lstM hB
  obtain ⟨a', rfl⟩ := Int.eq_ofNat_of_zero_le h0
  obtain ⟨c', rfl⟩ := Int.eq_ofNat_of_zero_le (Int.le_trans h0 hac)
  simp only [Int.toNat_natCast] at h
  refine setItem_slice (a := a') (c := c') e e2 hne hs (.int _ _) (.int _ _) (by omega) (by rw [List.size_toArray]; omega) (by rw [List.size_toArray, List.size_toArray]; omega) (h _ ?_)
  refine I.lset (its' := its.take a' ++ its2 ++ its.drop c') (t' := s.toks) hH e ?_ (Vals.append (Vals.append (r.take _) r2) (r.drop _)) ?_
  · exact splice_eq its its2 a' c'
  · rw [List.length_append, List.length_append, List.length_take, List.length_drop]
    omega
end
end L2



namespace L2
open PySem PySem.Spec PyProof.Rows

/-! ### lists of pairs as tables -/
section
variable {κ : Type} [DecidableEq κ]
def valV (kvs : List (κ × V)) (k : κ) : Option V := (kvs.find? fun kv => decide (kv.1 = k)).map (·.2)
/-- in its place, or at the end -/
def putK (kvs : List (κ × V)) (k : κ) (v : V) : List (κ × V) :=
  if (kvs.any fun kv => decide (kv.1 = k)) = true then kvs.map (fun kv => if kv.1 = k then (kv.1, v) else kv) else kvs ++ [(k, v)]
def dropK (kvs : List (κ × V)) (k : κ) : List (κ × V) := kvs.filter fun kv => decide (kv.1 ≠ k)

theorem valV_nil {k : κ} : valV ([] : List (κ × V)) k = none := rfl
theorem valV_pos {p : κ × V} {r : List (κ × V)} {k : κ} (e : p.1 = k) : valV (p :: r) k = some p.2 := by simp [valV, List.find?_cons, e]
theorem valV_neg {p : κ × V} {r : List (κ × V)} {k : κ} (e : ¬ p.1 = k) : valV (p :: r) k = valV r k := by simp [valV, List.find?_cons, e]
theorem valV_any (k : κ) : ∀ kvs : List (κ × V), (kvs.any fun kv => decide (kv.1 = k)) = (valV kvs k).isSome
  | [] => rfl
  | p :: r => by
    rw [List.any_cons]
    by_cases e : p.1 = k
    · simp only [valV_pos e, decide_eq_true e, Bool.true_or, Option.isSome_some]
    · rw [valV_neg e, decide_eq_false e, Bool.false_or]; exact valV_any k r
theorem valV_map (k j : κ) (y : V) : ∀ kvs : List (κ × V), valV (kvs.map fun kv => if kv.1 = k then (kv.1, y) else kv) j = (valV kvs j).map fun x => if j = k then y else x
  | [] => rfl
  | p :: r => by
    have ih := valV_map k j y r
    rw [List.map_cons]
    by_cases h : p.1 = k
    · rw [if_pos h]
      by_cases e : p.1 = j
      · rw [valV_pos (p := (p.1, y)) e, valV_pos e, Option.map_some, if_pos (e.symm.trans h)]
      · rw [valV_neg (p := (p.1, y)) e, valV_neg e, ih]
    · rw [if_neg h]
      by_cases e : p.1 = j
      · rw [valV_pos (p := p) e, valV_pos e, Option.map_some, if_neg (fun z => h (e.trans z))]
      · rw [valV_neg (p := p) e, valV_neg e, ih]
theorem valV_snoc (k j : κ) (y : V) : ∀ kvs : List (κ × V), valV kvs k = none → valV (kvs ++ [(k, y)]) j = if j = k then some y else valV kvs j
  | [], _ => by
    by_cases e : k = j
    · rw [if_pos e.symm]; exact valV_pos (p := (k, y)) e
    · rw [if_neg (fun z => e z.symm)]; exact valV_neg (p := (k, y)) e
  | p :: r, hn => by
    rw [List.cons_append]
    have hk : ¬ p.1 = k := fun z => by rw [valV_pos z] at hn; cases hn
    rw [valV_neg hk] at hn
    have ih := valV_snoc k j y r hn
    by_cases e : p.1 = j
    · rw [valV_pos e, valV_pos e, if_neg (fun z => hk (e.trans z))]
    · rw [valV_neg e, valV_neg e, ih]
theorem valV_put (kvs : List (κ × V)) (k j : κ) (y : V) : valV (putK kvs k y) j = if j = k then some y else valV kvs j := by
  unfold putK
  by_cases a : (kvs.any fun kv => decide (kv.1 = k)) = true
  · rw [if_pos a, valV_map]
    rw [valV_any] at a
    by_cases e : j = k
    · obtain ⟨x, hx⟩ := Option.isSome_iff_exists.mp a
      rw [if_pos e, e, hx, Option.map_some, if_pos rfl]
    · rw [if_neg e]
      cases valV kvs j with
      | none => rfl
      | some x => rw [Option.map_some, if_neg e]
  · rw [if_neg a]
    refine valV_snoc k j y kvs ?_
    rw [valV_any] at a
    cases q : valV kvs k with
    | none => rfl
    | some x => rw [q] at a; exact (a rfl).elim
theorem length_putK (kvs : List (κ × V)) (k : κ) (v : V) : (putK kvs k v).length ≤ kvs.length + 1 := by
  unfold putK
  split
  · rw [List.length_map]; omega
  · rw [List.length_append, List.length_cons, List.length_nil]; omega
theorem putK_new {kvs : List (κ × V)} {k : κ} (v : V) (h : valV kvs k = none) : putK kvs k v = kvs ++ [(k, v)] := by
  unfold putK
  rw [valV_any, h]
  exact if_neg (by decide)

theorem RelO.isSome_eq {o : Option V} {u : Option Value} (r : RelO o u) : o.isSome = u.isSome := by
  cases o with
  | none => cases u with
    | none => rfl
    | some _ => exact (show False from r).elim
  | some _ => cases u with
    | none => exact (show False from r).elim
    | some _ => rfl
theorem RelO.getD {o : Option V} {u : Option Value} {d : V} {d' : Value} (r : RelO o u) (rd : RelV d d') : RelV (o.getD d) (u.getD d') := by
  cases o with
  | none => cases u with
    | none => exact rd
    | some _ => exact (show False from r).elim
  | some _ => cases u with
    | none => exact (show False from r).elim
    | some _ => exact r

/-- raw tables of the same keys -/
theorem KV.val {kvs : List (κ × V)} {vs : List (κ × Value)} (r : KV kvs vs) (k : κ) : RelO (valV kvs k) (valueAt vs k) := by
  unfold KV at r
  induction r with
  | nil => exact True.intro
  | @cons p q ps qs h t ih =>
    obtain ⟨h1, h2⟩ := h
    by_cases e : p.1 = k
    · have e' : q.1 = k := h1.symm.trans e
      have b : valueAt (q :: qs) k = some q.2 := by simp [valueAt, List.find?_cons, e']
      rw [valV_pos e, b]; exact h2
    · have e' : ¬ q.1 = k := fun z => e (h1.trans z)
      have b : valueAt (q :: qs) k = valueAt qs k := by simp [valueAt, List.find?_cons, e']
      rw [valV_neg e, b]; exact ih
theorem KV.any {kvs : List (κ × V)} {vs : List (κ × Value)} (r : KV kvs vs) (k : κ) : (kvs.any fun kv => decide (kv.1 = k)) = vs.any fun kv => decide (kv.1 = k) := by
  unfold KV at r
  induction r with
  | nil => rfl
  | cons h t ih => rw [List.any_cons, List.any_cons, ih, h.1]
theorem KV.repl {kvs : List (κ × V)} {vs : List (κ × Value)} (r : KV kvs vs) (k : κ) {y : V} {u : Value} (ry : RelV y u) :
    KV (kvs.map fun kv => if kv.1 = k then (kv.1, y) else kv) (vs.map fun kv => if kv.1 = k then (kv.1, u) else kv) := by
  unfold KV at r ⊢
  induction r with
  | nil => exact .nil
  | @cons p q ps qs h t ih =>
    rw [List.map_cons, List.map_cons]
    refine .cons ?_ ih
    obtain ⟨h1, h2⟩ := h
    by_cases e : p.1 = k
    · rw [if_pos e, if_pos (h1.symm.trans e)]; exact ⟨h1, ry⟩
    · rw [if_neg e, if_neg (fun z => e (h1.trans z))]; exact ⟨h1, h2⟩
theorem KV.put {kvs : List (κ × V)} {vs : List (κ × Value)} (r : KV kvs vs) (k : κ) {y : V} {u : Value} (ry : RelV y u) : KV (putK kvs k y) (stored vs k u) := by
  unfold putK stored
  rw [r.any k]
  by_cases e : (vs.any fun kv => decide (kv.1 = k)) = true
  · rw [if_pos e, if_pos e]; exact r.repl k ry
  · rw [if_neg e, if_neg e]; exact Paired.snoc r ⟨rfl, ry⟩
theorem KV.drop {kvs : List (κ × V)} {vs : List (κ × Value)} (r : KV kvs vs) (k : κ) : KV (dropK kvs k) (without vs k) := by
  unfold KV at r ⊢
  unfold dropK without
  induction r with
  | nil => exact .nil
  | @cons p q ps qs h t ih =>
    obtain ⟨h1, h2⟩ := h
    rw [List.filter_cons, List.filter_cons]
    by_cases e : p.1 = k
    · have a : ¬ decide (p.1 ≠ k) = true := by simp [e]
      have b : ¬ decide (q.1 ≠ k) = true := by simp [h1.symm.trans e]
      rw [if_neg a, if_neg b]; exact ih
    · have e' : ¬ q.1 = k := fun z => e (h1.trans z)
      have a : decide (p.1 ≠ k) = true := by simp [e]
      have b : decide (q.1 ≠ k) = true := by simp [e']
      rw [if_pos a, if_pos b]; exact .cons ⟨h1, h2⟩ ih
theorem KV.keys {kvs : List (κ × V)} {vs : List (κ × Value)} (r : KV kvs vs) : kvs.map (·.1) = vs.map (·.1) := by
  unfold KV at r
  induction r with
  | nil => rfl
  | cons h t ih => rw [List.map_cons, List.map_cons, ih, h.1]
theorem KV.length {kvs : List (κ × V)} {vs : List (κ × Value)} (r : KV kvs vs) : kvs.length = vs.length := Paired.length r
theorem dropK_le (kvs : List (κ × V)) (k : κ) : (dropK kvs k).length ≤ kvs.length := List.length_filter_le _ _
end


/-! ### a tracked dict, its keys ints and texts or tuples of these -/
theorem kV_is {P : Program} {w : World} {k : Key} {u : Value} (r : RelV (kV k) u) : (mixKind P w).is k u = true := by
  cases k with
  | inl i => obtain ⟨t, e⟩ := (show ∃ t, u = Value.int i t from r); subst e; exact mixKind_int P w i t
  | inr x => obtain ⟨t, e⟩ := (show ∃ t, u = Value.str x t from r); subst e; exact mixKind_str P w x t
theorem kV_inj {a b : Key} (e : kV a = kV b) : a = b := by
  cases a with
  | inl i => cases b with
    | inl j => have e' : V.int i = V.int j := e; injection e' with e'; rw [e']
    | inr y => exact nomatch (show V.int i = V.str y from e)
  | inr x => cases b with
    | inl j => exact nomatch (show V.str x = V.int j from e)
    | inr y => have e' : V.str x = V.str y := e; injection e' with e'; rw [e']
theorem kVs_inj : ∀ {a b : List Key}, a.map kV = b.map kV → a = b
  | [], [], _ => rfl
  | [], _ :: _, e => by simp at e
  | _ :: _, [], e => by simp at e
  | x :: xs, y :: ys, e => by
    rw [List.map_cons, List.map_cons] at e
    injection e with e1 e2
    rw [kV_inj e1, kVs_inj e2]
theorem items_are {P : Program} {w : World} : ∀ {ks : List Key} {us : List Value}, Vals (ks.map kV) us → ItemsAre (mixKind P w) ks us
  | [], _, r => by rw [List.map_nil] at r; cases r; exact .nil
  | k :: ks, _, r => by
    rw [List.map_cons] at r
    cases r with
    | cons h t => exact .cons (kV_is h) (items_are t)

/-- raw entries of a dict with tuple keys -/
abbrev KT (H : Hp) : List (List Key × V) → List (List Key × Addr × Value) → Prop := Paired fun p q => p.1 = q.1 ∧ H q.2.1 = some (.tup (p.1.map kV)) ∧ RelV p.2 q.2.2
theorem KT.val {H : Hp} {kvs : List (List Key × V)} {xs : List (List Key × Addr × Value)} (r : KT H kvs xs) (k : List Key) : RelO (valV kvs k) ((atKey xs k).map (·.2)) := by
  induction r with
  | nil => exact True.intro
  | @cons p q ps qs h t ih =>
    obtain ⟨h1, _, h2⟩ := h
    by_cases e : p.1 = k
    · have e' : q.1 = k := h1.symm.trans e
      have b : atKey (q :: qs) k = some q.2 := by simp [atKey, List.find?_cons, e']
      rw [valV_pos e, b]; exact h2
    · have e' : ¬ q.1 = k := fun z => e (h1.trans z)
      have b : atKey (q :: qs) k = atKey qs k := by simp [atKey, List.find?_cons, e']
      rw [valV_neg e, b]; exact ih
theorem KT.repl {H : Hp} {kvs : List (List Key × V)} {xs : List (List Key × Addr × Value)} (r : KT H kvs xs) (k : List Key) {y : V} {u : Value} (ry : RelV y u) :
    KT H (kvs.map fun kv => if kv.1 = k then (kv.1, y) else kv) (xs.map (putAt k u)) := by
  induction r with
  | nil => exact .nil
  | @cons p q ps qs h t ih =>
    rw [List.map_cons, List.map_cons]
    refine .cons ?_ ih
    obtain ⟨h1, h2, h3⟩ := h
    unfold putAt
    by_cases e : p.1 = k
    · rw [if_pos e, if_pos (h1.symm.trans e)]; exact ⟨h1, h2, ry⟩
    · rw [if_neg e, if_neg (fun z => e (h1.trans z))]; exact ⟨h1, h2, h3⟩
theorem KT.put {H : Hp} {kvs : List (List Key × V)} {xs : List (List Key × Addr × Value)} (r : KT H kvs xs) (k : List Key) {b : Addr} {y : V} {u : Value} (hb : H b = some (.tup (k.map kV))) (ry : RelV y u) :
    KT H (putK kvs k y) (storedH xs k b u) := by
  have e : (kvs.any fun kv => decide (kv.1 = k)) = (atKey xs k).isSome := by
    rw [valV_any, (r.val k).isSome_eq, Option.isSome_map]
  unfold putK storedH
  rw [e]
  by_cases q : (atKey xs k).isSome = true
  · rw [if_pos q, if_pos q]; exact r.repl k ry
  · rw [if_neg q, if_neg q]; exact Paired.snoc r ⟨rfl, hb, ry⟩
theorem KT.keeps {H H' : Hp} {kvs : List (List Key × V)} {xs : List (List Key × Addr × Value)} (r : KT H kvs xs) (ht : ∀ b ys, H b = some (.tup ys) → H' b = some (.tup ys)) : KT H' kvs xs :=
  Paired.mapP r fun _ _ z => ⟨z.1, ht _ _ z.2.1, z.2.2⟩

section
variable {P : Program} {w : World} {H : Hp} {h : Heap} {a : Addr}
theorem rd_of {u : HO} (ok : HOk P w H h) (e : Rd H a u) : ObjOk P w H h a u := e.ok ok
theorem dk_rd {kvs : List (Key × V)} (ok : HOk P w H h) (e : Rd H a (.dK kvs)) : kvs.length ≤ sizeLine ∧ (a == sysModules) = false ∧ ∃ vs, KV kvs vs ∧ h.DictOf (mixKind P w) a vs :=
  show ObjOk P w H h a (.dK kvs) from rd_of ok e
theorem dk_of {kvs : List (Key × V)} (ok : HOk P w H h) (e : H a = some (.dK kvs)) : kvs.length ≤ sizeLine ∧ (a == sysModules) = false ∧ ∃ vs, KV kvs vs ∧ h.DictOf (mixKind P w) a vs := dk_rd ok (.inl e)
/-- a tracked tuple of ints and texts is a key -/
theorem key_of {ks : List Key} (ok : HOk P w H h) (e : H a = some (.tup (ks.map kV))) : (tupleKind (mixKind P w)).is h ks a := by
  obtain ⟨_, its, r, o, h1, h2, n, h3⟩ := (show ObjOk P w H h a (.tup (ks.map kV)) from ok a _ e)
  exact ⟨o, its.toArray, n, h1, h2, h3, by simpa using items_are r⟩
theorem dt_rd {kvs : List (List Key × V)} (ok : HOk P w H h) (e : Rd H a (.dT kvs)) : kvs.length ≤ sizeLine ∧ (a == sysModules) = false ∧
    ∃ xs, KT H kvs xs ∧ h.DictOfH (tupleKind (mixKind P w)) a xs := by
  obtain ⟨z, y, xs, r, o, es, ep, h1, h2, h3, h4, h5⟩ := (show ObjOk P w H h a (.dT kvs) from rd_of ok e)
  refine ⟨z, y, xs, r, o, es, ep, h1, h2, h3, h4, fun x hx => ?_, h5⟩
  have all : ∀ {l : List (List Key × V)} {m : List (List Key × Addr × Value)}, KT H l m → ∀ x ∈ m, (tupleKind (mixKind P w)).is h x.1 x.2.1 := by
    intro l m q
    induction q with
    | nil => intro x hx; exact nomatch hx
    | @cons p q ps qs hq t ih =>
      intro x hx
      rcases List.mem_cons.mp hx with e | hx
      · subst e
        exact key_of ok (by rw [← hq.1]; exact hq.2.1)
      · exact ih x hx
  exact all r x hx
theorem dt_of {kvs : List (List Key × V)} (ok : HOk P w H h) (e : H a = some (.dT kvs)) : kvs.length ≤ sizeLine ∧ (a == sysModules) = false ∧
    ∃ xs, KT H kvs xs ∧ h.DictOfH (tupleKind (mixKind P w)) a xs := dt_rd ok (.inl e)
end

/-- what the dict at a holds at the key y -/
def DGet (H : Hp) (a : Addr) (y : V) (r : Option V) : Prop :=
  (∃ kvs k, Rd H a (.dK kvs) ∧ y = kV k ∧ r = valV kvs k) ∨ ∃ kvs k b, Rd H a (.dT kvs) ∧ y = .ref b ∧ H b = some (.tup (k.map kV)) ∧ r = valV kvs k
/-- the heap behind a[y] = v -/
def DPut (H : Hp) (a : Addr) (y v : V) (H' : Hp) : Prop :=
  (∃ kvs k, H a = some (.dK kvs) ∧ y = kV k ∧ kvs.length < sizeLine ∧ H' = upd H a (.dK (putK kvs k v))) ∨
  ∃ kvs k b, H a = some (.dT kvs) ∧ y = .ref b ∧ H b = some (.tup (k.map kV)) ∧ kvs.length < sizeLine ∧ H' = upd H a (.dT (putK kvs k v))
theorem DGet.k {H : Hp} {a : Addr} {kvs : List (Key × V)} {k : Key} (e : H a = some (.dK kvs)) : DGet H a (kV k) (valV kvs k) := .inl ⟨kvs, k, .inl e, rfl, rfl⟩
theorem DGet.t {H : Hp} {a b : Addr} {kvs : List (List Key × V)} {k : List Key} (e : H a = some (.dT kvs)) (eb : H b = some (.tup (k.map kV))) : DGet H a (.ref b) (valV kvs k) := .inr ⟨kvs, k, b, .inl e, rfl, eb, rfl⟩
theorem DPut.k {H : Hp} {a : Addr} {kvs : List (Key × V)} {k : Key} {v : V} (e : H a = some (.dK kvs)) (hl : kvs.length < sizeLine) : DPut H a (kV k) v (upd H a (.dK (putK kvs k v))) := .inl ⟨kvs, k, e, rfl, hl, rfl⟩
theorem DPut.t {H : Hp} {a b : Addr} {kvs : List (List Key × V)} {k : List Key} {v : V} (e : H a = some (.dT kvs)) (eb : H b = some (.tup (k.map kV))) (hl : kvs.length < sizeLine) :
    DPut H a (.ref b) v (upd H a (.dT (putK kvs k v))) := .inr ⟨kvs, k, b, e, rfl, eb, hl, rfl⟩


section
variable {X : Cx} {pins : List (Addr × Obj)} {σ : St} {H : Hp} {s : Shared} {a : Addr} {y v : V} {u r : Value} {o : Option V} {A : Around} {E : Value → Shared → Prop}

theorem Inv.big (I : Inv X pins σ H s) : sysModules < s.heap.objs.size := by
  have h : mainGlobals < s.heap.objs.size := (I.mod.glob.keeps I.bk).lt
  exact Nat.lt_trans (by decide) h

/-- d[y], there -/
theorem d_getItem {Q : Value → Shared → Prop} (hu : A.units + 1 < cLine) (I : Inv X pins σ H s) (g : DGet H a y (some v)) (ry : RelV y u) (h : ∀ w' s', Inv X pins σ H s' → RelV v w' → Q w' s') :
    wpAny (model X.prog X.w) A (getItem (.ref a) u) Q E s := by
  rcases g with ⟨kvs, k, e, ey, l⟩ | ⟨kvs, k, b, e, ey, eb, l⟩
  · subst ey
    obtain ⟨z, hd, vs, rel, dd⟩ := dk_rd I.hok e
    obtain ⟨w', hw, rw'⟩ := RelO.some_of (v := v) (o := valueAt vs k) (by rw [l]; exact rel.val k)
    exact wpAny_getItem_of (kV_is ry) dd.mapOf hw (h w' _ (I.tok _) rw')
  · subst ey
    cases (show u = Value.ref b from ry)
    obtain ⟨z, hd, xs, rel, dd⟩ := dt_rd I.hok e
    obtain ⟨w', hw, rw'⟩ := RelO.some_of (v := v) (o := (atKey xs k).map (·.2)) (by rw [l]; exact rel.val k)
    obtain ⟨p, hp, hp2⟩ := Option.map_eq_some_iff.mp hw
    refine wpAny_getItem_heap (tupleKind_room_in1 hu) (key_of I.hok eb) dd hp ?_
    rw [hp2]
    exact h w' _ (I.tok _) rw'
/-- y in d -/
theorem d_in {Q : Value → Shared → Prop} (hu : A.units + 1 < cLine) (I : Inv X pins σ H s) (g : DGet H a y o) (ry : RelV y u) (h : ∀ s', Inv X pins σ H s' → Q (.bool o.isSome) s') :
    wpAny (model X.prog X.w) A (compareOp .In u (.ref a)) Q E s := by
  rcases g with ⟨kvs, k, e, ey, l⟩ | ⟨kvs, k, b, e, ey, eb, l⟩
  · subst ey
    obtain ⟨z, hd, vs, rel, dd⟩ := dk_rd I.hok e
    refine wpAny_in_of (kV_is ry) hd dd.mapOf ?_
    rw [← (rel.val k).isSome_eq, ← l]
    exact h _ (I.tok _)
  · subst ey
    cases (show u = Value.ref b from ry)
    obtain ⟨z, hd, xs, rel, dd⟩ := dt_rd I.hok e
    refine wpAny_in_heap (tupleKind_room_in1 hu) (key_of I.hok eb) hd dd ?_
    have q := (rel.val k).isSome_eq
    rw [Option.isSome_map] at q
    rw [← q, ← l]
    exact h _ (I.tok _)
theorem d_notIn {Q : Value → Shared → Prop} (hu : A.units + 1 < cLine) (I : Inv X pins σ H s) (g : DGet H a y o) (ry : RelV y u) (h : ∀ s', Inv X pins σ H s' → Q (.bool (!o.isSome)) s') :
    wpAny (model X.prog X.w) A (compareOp .NotIn u (.ref a)) Q E s := by
  rcases g with ⟨kvs, k, e, ey, l⟩ | ⟨kvs, k, b, e, ey, eb, l⟩
  · subst ey
    obtain ⟨z, hd, vs, rel, dd⟩ := dk_rd I.hok e
    refine wpAny_notIn_of (kV_is ry) hd dd.mapOf ?_
    rw [← (rel.val k).isSome_eq, ← l]
    exact h _ (I.tok _)
  · subst ey
    cases (show u = Value.ref b from ry)
    obtain ⟨z, hd, xs, rel, dd⟩ := dt_rd I.hok e
    refine wpAny_notIn_heap (tupleKind_room_in1 hu) (key_of I.hok eb) hd dd ?_
    have q := (rel.val k).isSome_eq
    rw [Option.isSome_map] at q
    rw [← q, ← l]
    exact h _ (I.tok _)
/-- a dict's object is replaced -/
theorem d_write {h' : Heap} {t' : Nat} {ob : HO} (I : Inv X pins σ H s) (mu : Mut (H a)) (hs : Heap.SameBut a s.heap h') (he : ∃ q, h'.get? a = some q) (new : ObjOk X.prog X.w (upd H a ob) h' a ob) :
    Inv X pins σ (upd H a ob) { s with heap := h', toks := t' } :=
  I.write (x := a) (e := a) mu (.inl rfl) (fun b q hb z => (hs.2 b hb).trans z) he new
theorem dk_new {P : Program} {w : World} {H' : Hp} {h' : Heap} {kvs : List (Key × V)} {vs : List (Key × Value)} (z : kvs.length ≤ sizeLine) (hd : (a == sysModules) = false) (rel : KV kvs vs) (dd : h'.DictOf (mixKind P w) a vs) :
    ObjOk P w H' h' a (.dK kvs) := ⟨z, hd, vs, rel, dd⟩
/-- d[y] = v -/
theorem d_setItem {H' : Hp} {Q : Unit → Shared → Prop} (hu : A.units + 1 < cLine) (I : Inv X pins σ H s) (g : DPut H a y v H') (ry : RelV y u) (rv : RelV v r) (h : ∀ s', Inv X pins σ H' s' → Q () s') :
    wpAny (model X.prog X.w) A (setItem (.ref a) u r) Q E s := by
  rcases g with ⟨kvs, k, e, ey, l, eH⟩ | ⟨kvs, k, b, e, ey, eb, l, eH⟩
  · subst ey eH
    obtain ⟨z, hd, vs, rel, dd⟩ := dk_of I.hok e
    have hz : vs.length ≤ sizeLine := by rw [← rel.length]; exact z
    have hl : (putK kvs k v).length ≤ sizeLine := by have := length_putK kvs k v; omega
    refine wpAny_setItem_pairs (hsz := hz) (kV_is ry) dd fun h' dd' hs => h _ ?_
    have he : ∃ q, h'.get? a = some q := let ⟨q, _, _, hq, _⟩ := dd'; ⟨q, hq⟩
    exact d_write I (by rw [e]; exact True.intro) hs he (dk_new hl hd (rel.put k rv) dd')
  · subst ey eH
    cases (show u = Value.ref b from ry)
    obtain ⟨z, hd, xs, rel, dd⟩ := dt_of I.hok e
    have hz : xs.length ≤ sizeLine := by rw [← Paired.length rel]; exact z
    have hl : (putK kvs k v).length ≤ sizeLine := by have := length_putK kvs k v; omega
    refine wpAny_setItem_heap (hsz := hz) (tupleKind_room_in1 hu) (key_of I.hok eb) dd fun h' dd' hs => h _ ?_
    obtain ⟨q, es, ep, hq, h2, h3, h4, _, h5⟩ := dd'
    refine d_write I (by rw [e]; exact True.intro) hs ⟨q, hq⟩ ⟨hl, hd, _, (rel.put k eb rv).keeps fun c ys ec => ?_, q, es, ep, hq, h2, h3, h4, h5⟩
    rw [upd_ne (ne_of ec e (fun z => nomatch z))]
    exact ec
end

section
variable {X : Cx} {pins : List (Addr × Obj)} {σ : St} {H : Hp} {s : Shared} {a : Addr} {kvs : List (Key × V)} {k : Key} {u : Value} {A : Around} {E : Value → Shared → Prop}
/-- del d[k] -/
theorem d_delItem {Q : Unit → Shared → Prop} (I : Inv X pins σ H s) (e : H a = some (.dK kvs)) (ry : RelV (kV k) u) (l : (valV kvs k).isSome = true) (h : ∀ s', Inv X pins σ (upd H a (.dK (dropK kvs k))) s' → Q () s') :
    wpAny (model X.prog X.w) A (delItem (.ref a) u) Q E s := by
  obtain ⟨z, hd, vs, rel, dd⟩ := dk_of I.hok e
  refine wpAny_delItem_slot dd.typeIs (by decide) PySem.F.slot_dict_delitem
    (call_meetsIn PySem.F.slot_dict_delitem dd.typeIs PySem.F.entry_dict_delitem (PySem.F.args_dict_delitem_2 _ _) (meets_dict_delitem_pairs (mixKind X.prog X.w) a (kV_is ry)) ⟨vs, dd, by rw [← rel.length]; exact z, by rw [← (rel.val k).isSome_eq]; exact l, fun h' dd' hs => h _ ?_⟩)
  have he : ∃ q, h'.get? a = some q := let ⟨q, _, _, hq, _⟩ := dd'; ⟨q, hq⟩
  exact d_write I (by rw [e]; exact True.intro) hs he (dk_new (Nat.le_trans (dropK_le kvs k) z) hd (rel.drop k) dd')
/-- d.pop(k[, x]), there -/
theorem d_pop {v : V} {more : List Value} {Q : Value → Shared → Prop} (I : Inv X pins σ H s) (e : H a = some (.dK kvs)) (ry : RelV (kV k) u) (l : valV kvs k = some v) (hm : more = [] ∨ ∃ x, more = [x])
    (h : ∀ w' s', Inv X pins σ (upd H a (.dK (dropK kvs k))) s' → RelV v w' → Q w' s') : wpAny (model X.prog X.w) A (call (.builtin "dict.pop") (.ref a :: u :: more)) Q E s := by
  obtain ⟨z, hd, vs, rel, dd⟩ := dk_of I.hok e
  obtain ⟨w', hw, rw'⟩ := RelO.some_of (v := v) (o := valueAt vs k) (by rw [← l]; exact rel.val k)
  have hp : (keyPart u).isSome = true := by
    cases k with
    | inl i => obtain ⟨t, q⟩ := (show ∃ t, u = Value.int i t from ry); subst q; rfl
    | inr x => obtain ⟨t, q⟩ := (show ∃ t, u = Value.str x t from ry); subst q; rfl
  have ha : argsOk "dict.pop" ⟨.ref a :: u :: more, []⟩ := by
    rcases hm with q | ⟨x, q⟩
    · subst q; exact PySem.F.args_dict_pop_2 _ _
    · subst q; exact PySem.F.args_dict_pop_3 _ _ _
  refine call_meetsIn PySem.F.slot_dict_pop dd.typeIs PySem.F.entry_dict_pop ha (meets_dict_pop_there (mixKind X.prog X.w) a (kV_is ry) more hm hp)
    ⟨vs, w', dd, by rw [← rel.length]; exact z, hw, fun h' dd' hs => h w' _ ?_ rw'⟩
  have he : ∃ q, h'.get? a = some q := let ⟨q, _, _, hq, _⟩ := dd'; ⟨q, hq⟩
  exact d_write I (by rw [e]; exact True.intro) hs he (dk_new (Nat.le_trans (dropK_le kvs k) z) hd (rel.drop k) dd')
/-- d.pop(k, x), not there -/
theorem d_popD {r : Value} {Q : Value → Shared → Prop} (I : Inv X pins σ H s) (e : H a = some (.dK kvs)) (ry : RelV (kV k) u) (l : valV kvs k = none) (h : ∀ s', Inv X pins σ H s' → Q r s') :
    wpAny (model X.prog X.w) A (call (.builtin "dict.pop") [.ref a, u, r]) Q E s := by
  obtain ⟨z, hd, vs, rel, dd⟩ := dk_of I.hok e
  have hn : valueAt vs k = none := RelO.none_of (by rw [← l]; exact rel.val k)
  have hp : (keyPart u).isSome = true := by
    cases k with
    | inl i => obtain ⟨t, q⟩ := (show ∃ t, u = Value.int i t from ry); subst q; rfl
    | inr x => obtain ⟨t, q⟩ := (show ∃ t, u = Value.str x t from ry); subst q; rfl
  exact call_meetsIn PySem.F.slot_dict_pop dd.typeIs PySem.F.entry_dict_pop (PySem.F.args_dict_pop_3 _ _ _) (meets_dict_pop_default (mixKind X.prog X.w) a (kV_is ry) hd hp r) ⟨vs, dd, hn, h _ (I.tok _)⟩
/-- d.clear() -/
theorem d_clear {Q : Value → Shared → Prop} (I : Inv X pins σ H s) (e : H a = some (.dK kvs)) (h : ∀ s', Inv X pins σ (upd H a (.dK [])) s' → Q .none s') : wpAny (model X.prog X.w) A (call (.builtin "dict.clear") [.ref a]) Q E s := by
  obtain ⟨z, hd, vs, rel, dd⟩ := dk_of I.hok e
  refine call_meetsIn PySem.F.slot_dict_clear dd.typeIs PySem.F.entry_dict_clear (PySem.F.args_dict_clear_1 _) (meets_dict_clear (mixKind X.prog X.w) a) ⟨vs, dd, by rw [← rel.length]; exact z, fun h' dd' hs => h _ ?_⟩
  have he : ∃ q, h'.get? a = some q := let ⟨q, _, _, hq, _⟩ := dd'; ⟨q, hq⟩
  exact d_write (t' := s.toks) I (by rw [e]; exact True.intro) hs he (dk_new (Nat.zero_le _) hd .nil dd')
/-- len(d) -/
theorem d_len {Q : Value → Shared → Prop} (I : Inv X pins σ H s) (e : Rd H a (.dK kvs)) (h : ∀ t s', Inv X pins σ H s' → Q (.int kvs.length t) s') : wpAny (model X.prog X.w) A (call (.builtin "len") [.ref a]) Q E s := by
  obtain ⟨z, hd, vs, rel, dd⟩ := dk_rd I.hok e
  refine call_len_dict hd dd (by rw [← rel.length]; rw [sizeLine_eq] at z; omega) ?_
  rw [← rel.length]
  exact h _ _ (I.tok _)
/-- if d -/
theorem d_truth {Q : Bool → Shared → Prop} (I : Inv X pins σ H s) (e : Rd H a (.dK kvs)) (h : ∀ s', Inv X pins σ H s' → Q (!kvs.isEmpty) s') : wpAny (model X.prog X.w) A (truthy (.ref a)) Q E s := by
  obtain ⟨z, hd, vs, rel, dd⟩ := dk_rd I.hok e
  refine wpAny_truthy_dict hd dd (by rw [← rel.length]; rw [sizeLine_eq] at z; omega) ?_
  have q : kvs.isEmpty = vs.isEmpty := by cases rel <;> rfl
  rw [← q]
  exact h _ (I.tok _)
end


/-! ### readings and rules -/
/-- the element of a subscription, not a slice -/
def NoSl (i : Expr) : Prop := ∀ ov iv, subscripted i false ov iv = operate [ov, iv] (getItem ov iv)
theorem subD_of {prog : Program} {w : World} {A : Around} {E : Value → Shared → Prop} {s : Shared} {env : Env} {value slice : Expr} {pos : Pos} {T id : String} {Q : Value → Shared → Prop}
    (hl : typeLookup (.type T) "__getitem__" = pure (some (.builtin id))) (hs : NoSl slice)
    (h : wpAny (model prog w) A (eval value env) (fun o s₁ => wpAny (model prog w) A (eval slice env) (fun i s₂ => s₂.TypeIs o T ∧ wpAny (model prog w) A (getItem o i) Q E s₂) E s₁) E s) :
    wpAny (model prog w) A (eval (.Subscript value slice pos) env) Q E s := by
  refine Subscript_ (wpAny_mono h (fun o s₁ h₁ => wpAny_mono h₁ (fun i s₂ h₂ => ?_) fun _ _ x => x) fun _ _ x => x)
  obtain ⟨hT, h₂⟩ := h₂
  unfold subscriptTail
  refine wpAny_bind ?_
  rw [getitemInPython_of_ne hT.not_modules]
  refine wpAny_bind (wpAny_specialOf hT hl ?_)
  have fin : wpAny (model prog w) A (subscripted slice false o i) (fun r s₃ => wpAny (model prog w) A (letTemporaryGo value o r >>= fun _ => pure r) Q E s₃) E s₂ := by
    rw [hs o i]
    exact wpAny_operating (wpAny_mono h₂ (fun r s₃ h₃ => wpAny_bind (wpAny_letTemporaryGo (wpAny_pure h₃))) fun _ _ x => x)
  first
    | exact wpAny_pure (wpAny_bind fin)
    | exact wpAny_bind (wpAny_pure (wpAny_bind fin))
    | exact wpAny_bind fin

theorem dict_typeIs {X : Cx} {pins : List (Addr × Obj)} {σ : St} {H : Hp} {s : Shared} {a : Addr} {y : V} {o : Option V} (I : Inv X pins σ H s) (g : DGet H a y o) : s.TypeIs (.ref a) "dict" := by
  rcases g with ⟨kvs, k, e, _, _⟩ | ⟨kvs, k, b, e, _, _, _⟩
  · obtain ⟨_, _, vs, _, dd⟩ := dk_rd I.hok e
    exact dd.typeIs
  · obtain ⟨_, _, xs, _, dd⟩ := dt_rd I.hok e
    exact dd.typeIs
theorem dict_noDict {X : Cx} {pins : List (Addr × Obj)} {σ : St} {H : Hp} {s : Shared} {a : Addr} {y : V} {o : Option V} (I : Inv X pins σ H s) (g : DGet H a y o) :
    ∀ b, Value.ref a = .ref b → ∃ ob, s.heap.get? b = some ob ∧ ob.dict = none := fun b q => by
  cases q
  rcases g with ⟨kvs, k, e, _, _⟩ | ⟨kvs, k, b, e, _, _, _⟩
  · obtain ⟨_, _, vs, _, ob, _, _, h1, h2, _⟩ := dk_rd I.hok e
    exact ⟨ob, h1, h2.2.1⟩
  · obtain ⟨_, _, xs, _, ob, _, _, h1, h2, _⟩ := dt_rd I.hok e
    exact ⟨ob, h1, h2.2.1⟩

/-- d[y] -/
def tDGet (td ty : TE) : TE := fun σ H Q => td σ H fun x H1 => ty σ H1 fun y H2 => ∃ a v, x = .ref a ∧ DGet H2 a y (some v) ∧ Q v H2
/-- y in d, y not in d -/
def tDIn (ty td : TE) : TE := fun σ H Q => ty σ H fun y H1 => td σ H1 fun x H2 => ∃ a o, x = .ref a ∧ DGet H2 a y o ∧ Q (.bl o.isSome) H2
def tDNotIn (ty td : TE) : TE := fun σ H Q => ty σ H fun y H1 => td σ H1 fun x H2 => ∃ a o, x = .ref a ∧ DGet H2 a y o ∧ Q (.bl (!o.isSome)) H2
/-- d[y] = v -/
def sDPut (td ty tv : TE) : TS := fun D σ H => tv σ H fun v H1 => td σ H1 fun x H2 => ty σ H2 fun y H3 => ∃ a H4, x = .ref a ∧ DPut H3 a y v H4 ∧ D.nx σ H4
/-- d[y] op= v -/
def sDAug (td ty tv : TE) (rd : V → V → Hp → VK → Prop) : TS := fun D σ H => td σ H fun x H1 => ty σ H1 fun y H2 => ∃ a v, x = .ref a ∧ DGet H2 a y (some v) ∧
  tv σ H2 fun y2 H3 => rd v y2 H3 fun z H4 => ∃ H5, DPut H4 a y z H5 ∧ D.nx σ H5
/-- del d[y] -/
def sDDel (td ty : TE) : TS := fun D σ H => td σ H fun x H1 => ty σ H1 fun y H2 => ∃ a kvs k, x = .ref a ∧ H2 a = some (.dK kvs) ∧ y = kV k ∧ (valV kvs k).isSome = true ∧ D.nx σ (upd H2 a (.dK (dropK kvs k)))

section
variable {X : Cx} {o i e value : Expr} {pos pos' tpos : Pos} {td ty tv : TE}
theorem pe_dget (hu : X.A.units + 1 < cLine) (ho : PE X o td) (hi : PE X i ty) (hs : NoSl i) : PE X (.Subscript o i pos) (tDGet td ty) := by
  intro pins s σ H Q I h
  refine subD_of PySem.F.slot_dict_getitem.lookup hs (thn (ho pins s σ H _ I h) fun u s1 ⟨x, H1, I1, rx, q1⟩ => thn (hi pins s1 σ H1 _ I1 q1) fun iv s2 ⟨y, H2, I2, ry, a, v, ex, g, q2⟩ => ?_)
  subst ex
  obtain rfl : u = Value.ref a := rx
  exact ⟨dict_typeIs I2 g, d_getItem hu I2 g ry fun w' s3 I3 rw' => ⟨v, H2, I3, rw', q2⟩⟩
theorem pc_din (hu : X.A.units + 1 < cLine) (hi : PE X i ty) (ho : PE X o td) : PC X .In i o (tDIn ty td) := by
  intro pins s σ H Q I h
  refine thn (hi pins s σ H _ I h) fun iv s1 ⟨y, H1, I1, ry, q1⟩ => thn (ho pins s1 σ H1 _ I1 q1) fun u s2 ⟨x, H2, I2, rx, a, ov, ex, g, q2⟩ => ?_
  subst ex
  obtain rfl : u = Value.ref a := rx
  exact d_in hu I2 g ry fun s3 I3 => ⟨.bl ov.isSome, H2, I3, rfl, q2⟩
theorem pc_dnotin (hu : X.A.units + 1 < cLine) (hi : PE X i ty) (ho : PE X o td) : PC X .NotIn i o (tDNotIn ty td) := by
  intro pins s σ H Q I h
  refine thn (hi pins s σ H _ I h) fun iv s1 ⟨y, H1, I1, ry, q1⟩ => thn (ho pins s1 σ H1 _ I1 q1) fun u s2 ⟨x, H2, I2, rx, a, ov, ex, g, q2⟩ => ?_
  subst ex
  obtain rfl : u = Value.ref a := rx
  exact d_notIn hu I2 g ry fun s3 I3 => ⟨.bl (!ov.isSome), H2, I3, rfl, q2⟩
theorem ps_dput (hu : X.A.units + 1 < cLine) (ho : PE X o td) (hi : PE X i ty) (hv : PE X value tv) (hs : swapsWith value (some (.Subscript o i pos')) pos.line X.env = pure false) :
    PS X (.Assign [.Subscript o i pos'] value pos) (sDPut td ty tv) := by
  intro pins s σ H D I h
  refine wpAny_Assign_Subscript (thn (hv pins s σ H _ I h) fun r s1 ⟨v, H1, I1, rv, q1⟩ => thn (ho pins s1 σ H1 _ I1 q1) fun u s2 ⟨x, H2, I2, rx, q2⟩ => thn (hi pins s2 σ H2 _ I2 q2) fun iv s3 ⟨y, H3, I3, ry, a, H4, ex, g, q3⟩ => ?_) hs
  subst ex
  obtain rfl : u = Value.ref a := rx
  exact d_setItem hu I3 g ry rv fun s4 I4 => ⟨σ, H4, I4, q3⟩
theorem ps_daug {op : Operator} {rd : V → V → Hp → VK → Prop} (hu : X.A.units + 1 < cLine) (ho : PE X o td) (hi : PE X i ty) (hv : PE X value tv) (hop : InOp X op rd)
    (ha : ∀ ov iv new, augStore i ov iv new = (do holding [new, ov, iv] (setItem ov iv new); release [new, ov, iv] []; pure .next)) : PS X (.AugAssign (.Subscript o i tpos) op value pos) (sDAug td ty tv rd) := by
  intro pins s σ H D I h
  refine wpAny_AugAssign_SubscriptAny (thn (ho pins s σ H _ I h) fun u s1 ⟨x, H1, I1, rx, q1⟩ => thn (hi pins s1 σ H1 _ I1 q1) fun iv s2 ⟨y, H2, I2, ry, a, v, ex, g, q2⟩ => ?_) ha
  subst ex
  obtain rfl : u = Value.ref a := rx
  refine d_getItem hu I2 g ry fun w' s3 I3 rw' => thn (hv pins s3 σ H2 _ I3 q2) fun w2 s4 ⟨y2, H3, I4, ry2, q3⟩ => thn (hop pins s4 σ H3 v y2 w' w2 _ I4 rw' ry2 q3) fun w3 s5 ⟨z, H4, I5, rz, H5, g5, q4⟩ => ?_
  exact d_setItem hu I5 g5 ry rz fun s6 I6 => ⟨σ, H5, I6, q4⟩
theorem ps_ddel (ho : PE X o td) (hi : PE X i ty) : PS X (.Delete [.Subscript o i tpos] pos) (sDDel td ty) := by
  intro pins s σ H D I h
  refine wpAny_Delete (wpAny_deleteEach_cons (wpAny_delete_Subscript (thn (ho pins s σ H _ I h) fun u s1 ⟨x, H1, I1, rx, q1⟩ => thn (hi pins s1 σ H1 _ I1 q1) fun iv s2 ⟨y, H2, I2, ry, a, kvs, k, ex, e, ey, l, q2⟩ => ?_)))
  subst ex ey
  obtain rfl : u = Value.ref a := rx
  exact d_delItem I2 e ry l fun s3 I3 => wpAny_deleteEach_nil ⟨σ, _, I3, q2⟩
end


/-! ### displays -/
theorem dk_empty {P : Program} {w : World} {H : Hp} (h : Heap) (hb : sysModules < h.objs.size) : ObjOk P w H (h.push { cls := .type "dict", data := .dict #[] }) h.objs.size (.dK []) :=
  ⟨Nat.zero_le _, beq_eq_false_iff_ne.mpr (Ne.symm (Nat.ne_of_lt hb)), [], .nil, Heap.DictOf.new h⟩
theorem dt_empty {P : Program} {w : World} {H : Hp} (h : Heap) (hb : sysModules < h.objs.size) : ObjOk P w H (h.push { cls := .type "dict", data := .dict #[] }) h.objs.size (.dT []) :=
  ⟨Nat.zero_le _, beq_eq_false_iff_ne.mpr (Ne.symm (Nat.ne_of_lt hb)), [], .nil, _, #[], 0, Heap.get?_push_size _ rfl, ⟨rfl, rfl, rfl⟩, rfl, rfl, List.nodup_nil⟩
/-- {}, to be a dict of the kind that is wanted -/
def tDNewK : TE := fun _ H Q => ∀ p, H p = none → Q (.ref p) (upd H p (.dK []))
def tDNewT : TE := fun _ H Q => ∀ p, H p = none → Q (.ref p) (upd H p (.dT []))
section
variable {X : Cx} {pos : Pos}
theorem pe_dnewK : PE X (.Dict [] [] pos) tDNewK := fun pins s σ H Q I h =>
  wpAny_Dict_empty ⟨.ref s.heap.objs.size, _, I.laid (a := s.heap.objs.size) (o := .dK []) (t' := s.toks) (fun _ _ q => Heap.get?_push_of_some _ q) (Nat.le_refl _) (dk_empty s.heap I.big), rfl, h _ (I.hok.fresh (Nat.le_refl _))⟩
theorem pe_dnewT : PE X (.Dict [] [] pos) tDNewT := fun pins s σ H Q I h =>
  wpAny_Dict_empty ⟨.ref s.heap.objs.size, _, I.laid (a := s.heap.objs.size) (o := .dT []) (t' := s.toks) (fun _ _ q => Heap.get?_push_of_some _ q) (Nat.le_refl _) (dt_empty s.heap I.big), rfl, h _ (I.hok.fresh (Nat.le_refl _))⟩
end

/-- the pairs of a display, from the left -/
def tPairs : List (TE × TE) → St → Hp → (List (V × V) → Hp → Prop) → Prop
  | [], _, H, Q => Q [] H
  | (tk, tv) :: r, σ, H, Q => tk σ H fun x H1 => tv σ H1 fun y H2 => tPairs r σ H2 fun ps H3 => Q ((x, y) :: ps) H3
abbrev VV : List (V × V) → List (Value × Value) → Prop := Paired fun p q => RelV p.1 q.1 ∧ RelV p.2 q.2
def PPs (X : Cx) (pos : Pos) (keys : List (Option Expr)) (values : List Expr) (trs : List (TE × TE)) : Prop :=
  ∀ (pins : List (Addr × Obj)) (s : Shared) (σ : St) (H : Hp) (Q : List (V × V) → Hp → Prop), Inv X pins σ H s → tPairs trs σ H Q →
    wpAny (model X.prog X.w) X.A (evalPairs (pairTrees keys values X.env pos)) (fun vs s' => ∃ ps H', Inv X pins σ H' s' ∧ VV ps vs ∧ Q ps H') X.xe s
theorem pps_nil {X : Cx} {pos : Pos} : PPs X pos [] [] [] := fun pins s σ H Q I h => pairTrees_nil_walk ⟨[], H, I, .nil, h⟩
theorem pps_cons {X : Cx} {pos : Pos} {k v : Expr} {ks : List (Option Expr)} {vs : List Expr} {tk tv : TE} {trs : List (TE × TE)} (hk : PE X k tk) (hv : PE X v tv) (hr : PPs X pos ks vs trs) :
    PPs X pos (some k :: ks) (v :: vs) ((tk, tv) :: trs) := fun pins s σ H Q I h =>
  pairTrees_cons_walk (thn (hk pins s σ H _ I h) fun u s1 ⟨x, H1, I1, rx, q1⟩ => thn (hv pins s1 σ H1 _ I1 q1) fun w2 s2 ⟨y, H2, I2, ry, q2⟩ =>
    thn (hr pins s2 σ H2 _ I2 q2) fun ws s3 ⟨ps, H3, I3, rel, q3⟩ => ⟨(x, y) :: ps, H3, I3, .cons ⟨rx, ry⟩ rel, q3⟩)

def mergeK (kvs more : List (Key × V)) : List (Key × V) := more.foldl (fun acc kv => putK acc kv.1 kv.2) kvs
theorem KV.merge : ∀ {more : List (Key × V)} {rs : List (Key × Value)} {kvs : List (Key × V)} {vs : List (Key × Value)}, KV more rs → KV kvs vs → KV (mergeK kvs more) (merged vs rs) := by
  intro more rs kvs vs r
  unfold KV at r
  induction r generalizing kvs vs with
  | nil => intro q; exact q
  | @cons p q ps qs h t ih =>
    intro r0
    have e : KV (putK kvs p.1 p.2) (stored vs q.1 q.2) := by
      have := r0.put p.1 h.2
      rw [← h.1]; exact this
    exact ih e
theorem length_mergeK : ∀ (more kvs : List (Key × V)), (mergeK kvs more).length ≤ kvs.length + more.length
  | [], kvs => by show kvs.length ≤ kvs.length + 0; omega
  | p :: r, kvs => by
    have h1 := length_mergeK r (putK kvs p.1 p.2)
    have h2 := length_putK kvs p.1 p.2
    show (mergeK (putK kvs p.1 p.2) r).length ≤ _
    rw [List.length_cons]; omega
theorem carries_of {P : Program} {w : World} : ∀ {kvs : List (Key × V)} {ws : List (Value × Value)}, VV (kvs.map fun kv => (kV kv.1, kv.2)) ws → ∃ rs, Carries (mixKind P w) ws rs ∧ KV kvs rs
  | [], _, r => by rw [List.map_nil] at r; cases r; exact ⟨[], True.intro, .nil⟩
  | p :: kvs, _, r => by
    rw [List.map_cons] at r
    cases r with
    | @cons a b as bs h t =>
      obtain ⟨rs, c, q⟩ := carries_of (P := P) (w := w) t
      obtain ⟨b1, b2⟩ := b
      exact ⟨(p.1, b2) :: rs, ⟨kV_is h.1, rfl, c⟩, .cons ⟨rfl, h.2⟩ q⟩
/-- {k: v, ..} with keys ints and texts; the new dict stands empty while the pairs are made -/
def tDisp (trs : List (TE × TE)) : TE := fun σ H Q => ∀ p, H p = none → tPairs trs σ (upd H p (.dK [])) fun ps H2 => H2 p = some (.dK []) ∧ ∃ kvs : List (Key × V), ps = kvs.map (fun kv => (kV kv.1, kv.2)) ∧ kvs.length ≤ 15 ∧ Q (.ref p) (upd H2 p (.dK (mergeK [] kvs)))
theorem pe_disp {X : Cx} {pos : Pos} {keys : List (Option Expr)} {values : List Expr} {trs : List (TE × TE)} (h : PPs X pos keys values trs) (hall : keys.all (·.isSome) = true) (hl : keys.length = values.length) (h0 : keys ≠ [])
    (h15 : keys.length ≤ 15) : PE X (.Dict keys values pos) (tDisp trs) := by
  intro pins s σ H Q I q
  have hn := I.hok.fresh (Nat.le_refl s.heap.objs.size)
  have I1 := I.laid (a := s.heap.objs.size) (o := .dK []) (h' := s.heap.push { cls := .type "dict", data := .dict #[] }) (t' := s.toks) (fun _ _ q => Heap.get?_push_of_some _ q) (Nat.le_refl _) (dk_empty s.heap I.big)
  refine wpAny_Dict_walk (knd := mixKind X.prog X.w) hall hl h0 h15 (thn (h pins _ σ _ _ I1 (q _ hn)) fun ws s2 ⟨ps, H2, I2, rel, e, kvs, ep, lk, q2⟩ => ?_)
  subst ep
  obtain ⟨rs, c, rk⟩ := carries_of (P := X.prog) (w := X.w) rel
  obtain ⟨z, hd, vs0, r0, dd⟩ := dk_of I2.hok e
  cases r0
  refine ⟨rs, c, dd, fun h' dd' hs => ⟨.ref s.heap.objs.size, _, ?_, rfl, q2⟩⟩
  have hz : (mergeK [] kvs).length ≤ sizeLine := by
    have h1 := length_mergeK kvs []
    rw [List.length_nil] at h1
    rw [sizeLine_eq]; omega
  have he : ∃ q, h'.get? s.heap.objs.size = some q := let ⟨q, _, _, hq, _⟩ := dd'; ⟨q, hq⟩
  exact d_write I2 (by rw [e]; exact True.intro) hs he (dk_new hz hd (rk.merge .nil) dd')


/-! ### methods -/
/-- a method call o.m(e) of a built-in, with one argument: what must be seen of the text -/
structure M1 (X : Cx) (o : Expr) (m : Str) (apos : Pos) (e : Expr) (cpos : Pos) : Prop where
  base : attributeBase o m X.env (eval o X.env) = eval o X.env
  few : ((backTo cpos (starEach [e] X.env)).all (fun x => !x.1) && (backToKw cpos (keywordEach [] X.env)).all (fun x => x.1.isSome)
    && decide (([e] : List Expr).length + ([] : List Keyword).length + (if ([] : List Keyword).isEmpty then 0 else 1) < 30)) = true
  line : (apos.endLine == cpos.line) = true
  trees : backTo cpos (starEach [e] X.env) = [(false, eval e X.env)]
structure M2 (X : Cx) (o : Expr) (m : Str) (apos : Pos) (e f : Expr) (cpos : Pos) : Prop where
  base : attributeBase o m X.env (eval o X.env) = eval o X.env
  few : ((backTo cpos (starEach [e, f] X.env)).all (fun x => !x.1) && (backToKw cpos (keywordEach [] X.env)).all (fun x => x.1.isSome)
    && decide (([e, f] : List Expr).length + ([] : List Keyword).length + (if ([] : List Keyword).isEmpty then 0 else 1) < 30)) = true
  line : (apos.endLine == cpos.line) = true
  trees : backTo cpos (starEach [e, f] X.env) = [(false, eval e X.env), (false, eval f X.env)]

/-- a is a dict, whatever its keys -/
def IsD (H : Hp) (a : Addr) : Prop := (∃ kvs, Rd H a (.dK kvs)) ∨ ∃ kvs, Rd H a (.dT kvs)
theorem isD_at {X : Cx} {pins : List (Addr × Obj)} {σ : St} {H : Hp} {s : Shared} {a : Addr} (I : Inv X pins σ H s) (d : IsD H a) :
    s.TypeIs (.ref a) "dict" ∧ (∀ b, Value.ref a = .ref b → ∃ ob, s.heap.get? b = some ob ∧ ob.dict = none) ∧ (a == sysModules) = false := by
  rcases d with ⟨kvs, e⟩ | ⟨kvs, e⟩
  · obtain ⟨_, hd, vs, _, dd⟩ := dk_rd I.hok e
    refine ⟨dd.typeIs, fun b q => ?_, hd⟩
    cases q
    obtain ⟨ob, _, _, h1, h2, _⟩ := dd
    exact ⟨ob, h1, h2.2.1⟩
  · obtain ⟨_, hd, xs, _, dd⟩ := dt_rd I.hok e
    refine ⟨dd.typeIs, fun b q => ?_, hd⟩
    cases q
    obtain ⟨ob, _, _, h1, h2, _⟩ := dd
    exact ⟨ob, h1, h2.2.1⟩

section
variable {X : Cx} {pins : List (Addr × Obj)} {σ : St} {H : Hp} {s : Shared} {a : Addr} {y d : V} {u r : Value} {o : Option V} {A : Around} {E : Value → Shared → Prop}
/-- d.get(y) -/
theorem d_get1 {Q : Value → Shared → Prop} (hu : A.units + 1 < cLine) (I : Inv X pins σ H s) (g : DGet H a y o) (ry : RelV y u) (h : ∀ w' s', Inv X pins σ H s' → RelV (o.getD .non) w' → Q w' s') :
    wpAny (model X.prog X.w) A (call (.builtin "dict.get") [.ref a, u]) Q E s := by
  rcases g with ⟨kvs, k, e, ey, l⟩ | ⟨kvs, k, b, e, ey, eb, l⟩
  · subst ey
    obtain ⟨z, hd, vs, rel, dd⟩ := dk_rd I.hok e
    refine call_meetsIn PySem.F.slot_dict_get dd.typeIs PySem.F.entry_dict_get (PySem.F.args_dict_get_2 _ _) (meets_dict_get (mixKind X.prog X.w) a (kV_is ry) hd) ⟨_, dd.mapOf, h _ _ (I.tok _) ?_⟩
    rw [l]
    exact (rel.val k).getD rfl
  · subst ey
    cases (show u = Value.ref b from ry)
    obtain ⟨z, hd, xs, rel, dd⟩ := dt_rd I.hok e
    refine call_meetsIn PySem.F.slot_dict_get dd.typeIs PySem.F.entry_dict_get (PySem.F.args_dict_get_2 _ _) (meetsH_dict_get (tupleKind (mixKind X.prog X.w)) a b hd) ⟨tupleKind_room_in1 hu, k, xs, key_of I.hok eb, dd, h _ _ (I.tok _) ?_⟩
    rw [l]
    exact (rel.val k).getD rfl
/-- d.get(y, x) -/
theorem d_get2 {Q : Value → Shared → Prop} (hu : A.units + 1 < cLine) (I : Inv X pins σ H s) (g : DGet H a y o) (ry : RelV y u) (rd : RelV d r) (h : ∀ w' s', Inv X pins σ H s' → RelV (o.getD d) w' → Q w' s') :
    wpAny (model X.prog X.w) A (call (.builtin "dict.get") [.ref a, u, r]) Q E s := by
  rcases g with ⟨kvs, k, e, ey, l⟩ | ⟨kvs, k, b, e, ey, eb, l⟩
  · subst ey
    obtain ⟨z, hd, vs, rel, dd⟩ := dk_rd I.hok e
    refine call_meetsIn PySem.F.slot_dict_get dd.typeIs PySem.F.entry_dict_get (PySem.F.args_dict_get_3 _ _ _) (meets_dict_get_default (mixKind X.prog X.w) a (kV_is ry) hd r) ⟨_, dd.mapOf, h _ _ (I.tok _) ?_⟩
    rw [l]
    exact (rel.val k).getD rd
  · subst ey
    cases (show u = Value.ref b from ry)
    obtain ⟨z, hd, xs, rel, dd⟩ := dt_rd I.hok e
    refine call_meetsIn PySem.F.slot_dict_get dd.typeIs PySem.F.entry_dict_get (PySem.F.args_dict_get_3 _ _ _) (meetsH_dict_get_default (tupleKind (mixKind X.prog X.w)) a b hd r) ⟨tupleKind_room_in1 hu, k, xs, key_of I.hok eb, dd, h _ _ (I.tok _) ?_⟩
    rw [l]
    exact (rel.val k).getD rd
end

def tDGet1 (td ty : TE) : TE := fun σ H Q => td σ H fun x H1 => ∃ a, x = .ref a ∧ IsD H1 a ∧ ty σ H1 fun y H2 => ∃ o, DGet H2 a y o ∧ Q (o.getD .non) H2
def tDGet2 (td ty tx : TE) : TE := fun σ H Q => td σ H fun x H1 => ∃ a, x = .ref a ∧ IsD H1 a ∧ ty σ H1 fun y H2 => tx σ H2 fun z H3 => ∃ o, DGet H3 a y o ∧ Q (o.getD z) H3
/-- d.pop(k): there; d.pop(k, x): there or not -/
def tDPop1 (td ty : TE) : TE := fun σ H Q => td σ H fun x H1 => ∃ a, x = .ref a ∧ IsD H1 a ∧ ty σ H1 fun y H2 => ∃ kvs k v, H2 a = some (.dK kvs) ∧ y = kV k ∧ valV kvs k = some v ∧ Q v (upd H2 a (.dK (dropK kvs k)))
def tDPop2 (td ty tx : TE) : TE := fun σ H Q => td σ H fun x H1 => ∃ a, x = .ref a ∧ IsD H1 a ∧ ty σ H1 fun y H2 => tx σ H2 fun z H3 => ∃ kvs k, H3 a = some (.dK kvs) ∧ y = kV k ∧
  (∀ v, valV kvs k = some v → Q v (upd H3 a (.dK (dropK kvs k)))) ∧ (valV kvs k = none → Q z H3)
section
variable {X : Cx} {o e f : Expr} {apos cpos : Pos} {td ty tx : TE}
theorem pe_dget1 (hu : X.A.units + 1 < cLine) (ho : PE X o td) (he : PE X e ty) (m : M1 X o "get" apos e cpos) : PE X (.Call (.Attribute o "get" apos) [e] [] cpos) (tDGet1 td ty) := by
  intro pins s σ H Q I h
  refine wpAny_Call_method m.base m.few m.line PySem.F.plainAttrs_dict PySem.F.slot_dict_get PySem.F.type_dict_get (thn (ho pins s σ H _ I h) fun u s1 ⟨x, H1, I1, rx, a, ex, d, q1⟩ => ?_)
  subst ex
  obtain rfl : u = Value.ref a := rx
  obtain ⟨t1, t2, _⟩ := isD_at I1 d
  refine ⟨t1, t2, ?_⟩
  rw [m.trees]
  refine Calls.callWith_builtin rfl (Calls.evalArgs_plain (Calls.spliced_cons (thn (he pins s1 σ H1 _ I1 q1) fun iv s2 ⟨y, H2, I2, ry, ov, g, q2⟩ => Calls.spliced_nil ?_)))
  exact d_get1 hu I2 g ry fun w' s3 I3 rw' => ⟨_, H2, I3, rw', q2⟩
theorem pe_dget2 (hu : X.A.units + 1 < cLine) (ho : PE X o td) (he : PE X e ty) (hf : PE X f tx) (m : M2 X o "get" apos e f cpos) : PE X (.Call (.Attribute o "get" apos) [e, f] [] cpos) (tDGet2 td ty tx) := by
  intro pins s σ H Q I h
  refine wpAny_Call_method m.base m.few m.line PySem.F.plainAttrs_dict PySem.F.slot_dict_get PySem.F.type_dict_get (thn (ho pins s σ H _ I h) fun u s1 ⟨x, H1, I1, rx, a, ex, d, q1⟩ => ?_)
  subst ex
  obtain rfl : u = Value.ref a := rx
  obtain ⟨t1, t2, _⟩ := isD_at I1 d
  refine ⟨t1, t2, ?_⟩
  rw [m.trees]
  refine Calls.callWith_builtin rfl (Calls.evalArgs_plain (Calls.spliced_cons (thn (he pins s1 σ H1 _ I1 q1) fun iv s2 ⟨y, H2, I2, ry, q2⟩ =>
    Calls.spliced_cons (thn (hf pins s2 σ H2 _ I2 q2) fun fv s3 ⟨z, H3, I3, rz, ov, g, q3⟩ => Calls.spliced_nil ?_))))
  exact d_get2 hu I3 g ry rz fun w' s4 I4 rw' => ⟨_, H3, I4, rw', q3⟩
theorem pe_dpop1 (ho : PE X o td) (he : PE X e ty) (m : M1 X o "pop" apos e cpos) : PE X (.Call (.Attribute o "pop" apos) [e] [] cpos) (tDPop1 td ty) := by
  intro pins s σ H Q I h
  refine wpAny_Call_method m.base m.few m.line PySem.F.plainAttrs_dict PySem.F.slot_dict_pop PySem.F.type_dict_pop (thn (ho pins s σ H _ I h) fun u s1 ⟨x, H1, I1, rx, a, ex, d, q1⟩ => ?_)
  subst ex
  obtain rfl : u = Value.ref a := rx
  obtain ⟨t1, t2, _⟩ := isD_at I1 d
  refine ⟨t1, t2, ?_⟩
  rw [m.trees]
  refine Calls.callWith_builtin rfl (Calls.evalArgs_plain (Calls.spliced_cons (thn (he pins s1 σ H1 _ I1 q1) fun iv s2 ⟨y, H2, I2, ry, kvs, k, v, ea, ey, l, q2⟩ => Calls.spliced_nil ?_)))
  subst ey
  exact d_pop I2 ea ry l (.inl rfl) fun w' s3 I3 rw' => ⟨v, _, I3, rw', q2⟩
theorem pe_dpop2 (ho : PE X o td) (he : PE X e ty) (hf : PE X f tx) (m : M2 X o "pop" apos e f cpos) : PE X (.Call (.Attribute o "pop" apos) [e, f] [] cpos) (tDPop2 td ty tx) := by
  intro pins s σ H Q I h
  refine wpAny_Call_method m.base m.few m.line PySem.F.plainAttrs_dict PySem.F.slot_dict_pop PySem.F.type_dict_pop (thn (ho pins s σ H _ I h) fun u s1 ⟨x, H1, I1, rx, a, ex, d, q1⟩ => ?_)
  subst ex
  obtain rfl : u = Value.ref a := rx
  obtain ⟨t1, t2, _⟩ := isD_at I1 d
  refine ⟨t1, t2, ?_⟩
  rw [m.trees]
  refine Calls.callWith_builtin rfl (Calls.evalArgs_plain (Calls.spliced_cons (thn (he pins s1 σ H1 _ I1 q1) fun iv s2 ⟨y, H2, I2, ry, q2⟩ =>
    Calls.spliced_cons (thn (hf pins s2 σ H2 _ I2 q2) fun fv s3 ⟨z, H3, I3, rz, kvs, k, ea, ey, q3, q4⟩ => Calls.spliced_nil ?_))))
  subst ey
  cases l : valV kvs k with
  | some v => exact d_pop I3 ea ry l (.inr ⟨fv, rfl⟩) fun w' s4 I4 rw' => ⟨v, _, I4, rw', q3 v l⟩
  | none => exact d_popD I3 ea ry l fun s4 I4 => ⟨z, H3, I4, rz, q4 l⟩
end

/-! ### dict(d): a copy -/
section
variable {X : Cx} {pins : List (Addr × Obj)} {σ : St} {H : Hp} {s : Shared} {a : Addr} {kvs : List (Key × V)} {A : Around} {E : Value → Shared → Prop}
theorem d_copyOf {Q : Value → Shared → Prop} (I : Inv X pins σ H s) (e : Rd H a (.dK kvs)) (h : ∀ p s', H p = none → Inv X pins σ (upd H p (.dK kvs)) s' → Q (.ref p) s') : wpAny (model X.prog X.w) A (call (.type "dict") [.ref a]) Q E s := by
  obtain ⟨z, hd, vs, rel, dd⟩ := dk_rd I.hok e
  refine kt_call_dict hd dd (by rw [← rel.length]; exact z) fun h' dd' hs => ?_
  refine h _ _ (I.hok.fresh (Nat.le_refl _)) (I.laid (a := s.heap.objs.size) (o := .dK kvs) (t' := s.toks) (fun b q hq => ?_) (Nat.le_refl _) (dk_new z (beq_eq_false_iff_ne.mpr (Ne.symm (Nat.ne_of_lt I.big))) rel dd'))
  exact (hs.2 b (Nat.ne_of_lt (Heap.lt_size hq))).trans (Heap.get?_push_of_some _ hq)
end


section
variable {X : Cx} {pins : List (Addr × Obj)} {σ : St} {H : Hp} {s : Shared} {a : Addr} {y : V} {u : Value} {A : Around} {E : Value → Shared → Prop}
/-- d[y], not there: a KeyError -/
theorem d_missing {Q : Value → Shared → Prop} (hu : A.units + 1 < cLine) (hh : A.handled = none) (I : Inv X pins σ H s) (g : DGet H a y none) (ry : RelV y u)
    (h : ∀ h' e t', Heap.NewExc s.heap h' e "KeyError" → E (.ref e) { s with heap := h', toks := t' }) : wpAny (model X.prog X.w) A (getItem (.ref a) u) Q E s := by
  rcases g with ⟨kvs, k, e, ey, l⟩ | ⟨kvs, k, b, e, ey, eb, l⟩
  · subst ey
    obtain ⟨z, hd, vs, rel, dd⟩ := dk_rd I.hok e
    have hn : valueAt vs k = none := RelO.none_of (by rw [l]; exact rel.val k)
    exact wpAny_getItem_missing_of (kV_is ry) hd hh dd.mapOf hn fun h' ex ne => h h' ex _ ne
  · subst ey
    cases (show u = Value.ref b from ry)
    obtain ⟨z, hd, xs, rel, dd⟩ := dt_rd I.hok e
    have hn : (atKey xs k).map (·.2) = none := RelO.none_of (by rw [l]; exact rel.val k)
    exact wpAny_getItem_missing_heap (tupleKind_room_in1 hu) (key_of I.hok eb) hd hh dd (Option.map_eq_none_iff.mp hn) fun h' ex ne => h h' ex _ ne
end
end L2


namespace Att
open PySem PySem.W PySem.Calls PyProof.Rows

/-! ### the script -/
theorem ints_of_wellAll {P : Params} {h : Heap} : ∀ (ns : List Int) (vs : List Value), WellAll P h vs (ns.map WData.int) → IntsAre vs ns := by
  intro ns
  induction ns with
  | nil =>
    intro vs w
    rw [List.map_nil] at w
    cases w
    exact .nil
  | cons n ns ih =>
    intro vs w
    rw [List.map_cons] at w
    cases w with
    | cons a b =>
      cases a
      exact .cons _ _ (ih _ b)

theorem script_of {l : OpenLaw} {n : Nat} (hn : l.most = some n) {P : Params} {h : Heap} {args : List WData} {vals : List Value}
    (hpre : l.row.toRowW.claim.pre args = true) (hwl : WellAll P h vals args) :
    ∃ a vs ns, vals = [Value.ref a] ∧ args = [WData.list (ns.map WData.int)] ∧ h.get? a = some { cls := .type "list", data := .seq vs.toArray } ∧ IntsAre vs ns ∧ ns.length ≤ n := by
  have hsh : WShape.hasAll [] args [.list .int] = true := (pre_splitW hpre).1
  have hc : l.pre.holds [] { args := args } = true := (pre_splitW hpre).2
  obtain ⟨d, r, rfl, h1, h2⟩ := hasAllW_cons hsh
  obtain rfl := hasAllW_nil h2
  obtain ⟨xs, rfl, h3⟩ := hasW_list h1
  obtain ⟨ns, rfl⟩ := items_int h3
  have hlen : ns.length ≤ n := by
    unfold OpenLaw.pre at hc
    have h4 : (WTm.not (.lt (.lit (.int (n : Int))) (.len (.arg 0)))).holds [] { args := [.list (ns.map .int)] } = true := by
      have h4 := (holds_andW hc).1
      rw [hn] at h4
      exact h4
    have h5 := condW_of h4 (w_not (w_lt w_lit (w_len_list (w_arg rfl))))
    rw [List.length_map] at h5
    refine Nat.le_of_not_lt fun q => ?_
    have q' : (n : Int) < ((ns.length : Nat) : Int) := by omega
    first
      | (rw [decide_eq_true q'] at h5; exact absurd h5 (by decide))
      | (simp at h5; omega)
  cases hwl with
  | cons w1 w2 =>
    cases w2
    cases w1 with
    | list ho hall => exact ⟨_, _, ns, rfl, rfl, ho, ints_of_wellAll ns _ hall, hlen⟩

theorem post_true (l : OpenLaw) (args : List WData) : l.row.toRowW.claim.post args (.bool true) args = true :=
  postW_of (r := l.row.toRowW) (X := (true == true))
    (show WShape.has [] (.bool true) .bool = true by first | rfl | decide | simp [WShape.has, WShape.arms, WShape.armsAll])
    (show (WTm.eq .res (.lit (.bool true))).value [] { args := args, res := some (.bool true), after := args } = some (.bool (true == true)) from w_eq_bool (w_res rfl) w_lit) rfl

/-! ### the attachment: holds_open's last premise (the goal 'hc' behind k_head) from a wpAny of the law's body -/
theorem attach {l : OpenLaw} {n : Nat} {q : Program} {loose : List Str} {XP : (Str → Option Value) → Heap → Prop} {YP : World → Heap → Prop} {d : DefRec} {x : Str}
    (hn : l.most = some n) (hdf : d.params.defaults = [])
    (hbind : ∀ pm cd doc v : Value, bindArgs (docDef d.name d.params d.body d.scope pm cd doc) ⟨[v], []⟩ = pure [(x, v)])
    (hx : d.scope.names.lookup x = some .local ∨ d.scope.names.lookup x = some .cell)
    (hk : d.scope.kind = .function) (hco : d.scope.isCoroutine = false) (hgen : d.scope.isGenerator = false)
    (body : ∀ (w : World) (s₀ s₁ s : Shared) (mg mb : Str → Option Value) (fa : Addr) (o : Obj) (pm cd doc : Value) (a : Addr) (vs : List Value) (ns : List Int),
      Ground q loose [] XP w s₀ mg mb s₁.heap → YP w s₁.heap →
      s₁.heap.get? fa = some o → o.data = .func (docDef d.name d.params d.body d.scope pm cd doc) → s₁.heap.CodeRec cd d.name → mg d.name = some (.ref fa) →
      s₁.heap.get? a = some { cls := .type "list", data := .seq vs.toArray } → IntsAre vs ns → ns.length ≤ n →
      s.gens = #[] → s.os = s₁.os →
      Fr s₁.heap s₁.heap.objs.size s.heap (bindL (envOfC d.name d.scope s₁.heap.objs.size fa cd).kindOf [(x, .ref a)] fun _ => none) →
      Cl s₁.heap.objs.size (cellsFrom (s₁.heap.objs.size + 1) d.scope.names []) s.heap (bindC (envOfC d.name d.scope s₁.heap.objs.size fa cd).kindOf [(x, .ref a)] fun _ => none) →
      wpAny (model l.prog w) (callerA.deeper (envOfC d.name d.scope s₁.heap.objs.size fa cd)) (execs d.body (envOfC d.name d.scope s₁.heap.objs.size fa cd))
        (fun f s' => f = .ret (.bool true) ∧ OldK s₁.heap s'.heap ∧ s'.os = s₁.os ∧ AllBare s'.gens) (fun _ _ => False) s) :
    WalkO q loose XP YP l.row.toRowW d [] (fun f vs => PySem.call f vs) := by
  intro w s₀ s₁ mg mb G Y fa o pm cd doc dV kV ho hd hcd hD hmg hg args vals as hpre hlay hrd hwl hlo
  obtain rfl : dV = .none := Dflts.none hD hdf
  obtain rfl : kV = .none := Dflts.noKw hD
  obtain ⟨a, vs, ns, rfl, rfl, hobj, hints, hlen⟩ := script_of hn hpre hwl
  refine enter_call ?_
  refine call_cells_ret (o := o) (by rw [depth_caller]; decide) ho (fd_plain hd) G.T.nolimit hcd (hbind pm cd doc (.ref a)) (fun y hy => ?_) (fun h₁ tk F X => ?_) hco hgen hk
  · obtain rfl : y = (x, Value.ref a) := List.mem_singleton.mp hy
    rcases hx with e | e
    · exact .inl e
    · exact .inr ⟨e, cellsFrom_some _ _ _ (.inl e)⟩
  · refine wpAny_mono (body w s₀ s₁ { s₁ with heap := h₁, toks := tk } mg mb fa o pm cd doc a vs ns G Y ho (fd_plain hd) hcd hmg hobj hints hlen hg rfl F X) (fun f s' hq => ?_) (fun _ _ hq => hq)
    obtain ⟨rfl, h2, h3, h4⟩ := hq
    exact ⟨.inl ⟨.bool true, .bool true, [], rfl, fun _ => rfl, .bool true, post_true l _, fun _ => ⟨List.Pairwise.nil, fun _ hm => (nomatch hm)⟩⟩, h2, h3, h4⟩

/-- the same from a codeAny of the CALL (for a layer whose function contracts speak of calls) -/
theorem attach_call {l : OpenLaw} {n : Nat} {q : Program} {loose : List Str} {XP : (Str → Option Value) → Heap → Prop} {YP : World → Heap → Prop} {d : DefRec}
    (hn : l.most = some n) (hdf : d.params.defaults = [])
    (call : ∀ (w : World) (s₀ s₁ : Shared) (mg mb : Str → Option Value) (fa : Addr) (o : Obj) (pm cd doc : Value) (a : Addr) (vs : List Value) (ns : List Int),
      Ground q loose [] XP w s₀ mg mb s₁.heap → YP w s₁.heap →
      s₁.heap.get? fa = some o → o.data = .func (docDef d.name d.params d.body d.scope pm cd doc) → s₁.heap.CodeRec cd d.name → mg d.name = some (.ref fa) →
      s₁.heap.get? a = some { cls := .type "list", data := .seq vs.toArray } → IntsAre vs ns → ns.length ≤ n → s₁.gens = #[] →
      codeAny (model l.prog w) callerA (.call (.ref fa) ⟨[.ref a], []⟩) (fun r s' => r = .ok (.ret (.bool true)) ∧ OldK s₁.heap s'.heap ∧ s'.os = s₁.os ∧ AllBare s'.gens) s₁) :
    WalkO q loose XP YP l.row.toRowW d [] (fun f vs => PySem.call f vs) := by
  intro w s₀ s₁ mg mb G Y fa o pm cd doc dV kV ho hd hcd hD hmg hg args vals as hpre hlay hrd hwl hlo
  obtain rfl : dV = .none := Dflts.none hD hdf
  obtain rfl : kV = .none := Dflts.noKw hD
  obtain ⟨a, vs, ns, rfl, rfl, hobj, hints, hlen⟩ := script_of hn hpre hwl
  refine enter_call (codeAny_mono (call w s₀ s₁ mg mb fa o pm cd doc a vs ns G Y ho (fd_plain hd) hcd hmg hobj hints hlen hg) fun r s' hq => ?_)
  obtain ⟨rfl, h2, h3, h4⟩ := hq
  exact ⟨.inl ⟨.bool true, .bool true, [], rfl, fun _ => rfl, .bool true, post_true l _, fun _ => ⟨List.Pairwise.nil, fun _ hm => (nomatch hm)⟩⟩, h2, h3, h4⟩

/-- the same where the top left finished generators (o_head chose holds_openN): nothing may have changed at all and no generator may be left -/
theorem attachN {l : OpenLaw} {n : Nat} {q : Program} {loose : List Str} {XP : (Str → Option Value) → Heap → Prop} {YP : World → Heap → Prop} {d : DefRec} {x : Str}
    (hn : l.most = some n) (hdf : d.params.defaults = [])
    (hbind : ∀ pm cd doc v : Value, bindArgs (docDef d.name d.params d.body d.scope pm cd doc) ⟨[v], []⟩ = pure [(x, v)])
    (hx : d.scope.names.lookup x = some .local ∨ d.scope.names.lookup x = some .cell)
    (hk : d.scope.kind = .function) (hco : d.scope.isCoroutine = false) (hgen : d.scope.isGenerator = false)
    (body : ∀ (w : World) (s₀ s₁ s : Shared) (mg mb : Str → Option Value) (fa : Addr) (o : Obj) (pm cd doc : Value) (a : Addr) (vs : List Value) (ns : List Int),
      Ground q loose [] XP w s₀ mg mb s₁.heap → YP w s₁.heap →
      s₁.heap.get? fa = some o → o.data = .func (docDef d.name d.params d.body d.scope pm cd doc) → s₁.heap.CodeRec cd d.name → mg d.name = some (.ref fa) →
      s₁.heap.get? a = some { cls := .type "list", data := .seq vs.toArray } → IntsAre vs ns → ns.length ≤ n →
      s.gens = #[] → s.os = s₁.os →
      Fr s₁.heap s₁.heap.objs.size s.heap (bindL (envOfC d.name d.scope s₁.heap.objs.size fa cd).kindOf [(x, .ref a)] fun _ => none) →
      Cl s₁.heap.objs.size (cellsFrom (s₁.heap.objs.size + 1) d.scope.names []) s.heap (bindC (envOfC d.name d.scope s₁.heap.objs.size fa cd).kindOf [(x, .ref a)] fun _ => none) →
      wpAny (model l.prog w) (callerA.deeper (envOfC d.name d.scope s₁.heap.objs.size fa cd)) (execs d.body (envOfC d.name d.scope s₁.heap.objs.size fa cd))
        (fun f s' => f = .ret (.bool true) ∧ (∀ b o, s₁.heap.get? b = some o → s'.heap.get? b = some o) ∧ s'.os = s₁.os ∧ s'.gens = #[]) (fun _ _ => False) s) :
    WalkN q loose XP YP l.row.toRowW d [] (fun f vs => PySem.call f vs) := by
  intro w s₀ s₁ mg mb G Y fa o pm cd doc dV kV ho hd hcd hD hmg hg args vals as hpre hlay hrd hwl hlo
  obtain rfl : dV = .none := Dflts.none hD hdf
  obtain rfl : kV = .none := Dflts.noKw hD
  obtain ⟨a, vs, ns, rfl, rfl, hobj, hints, hlen⟩ := script_of hn hpre hwl
  refine enter_callW ?_
  refine call_cells_ret (o := o) (by rw [depth_caller]; decide) ho (fd_plain hd) G.T.nolimit hcd (hbind pm cd doc (.ref a)) (fun y hy => ?_) (fun h₁ tk F X => ?_) hco hgen hk
  · obtain rfl : y = (x, Value.ref a) := List.mem_singleton.mp hy
    rcases hx with e | e
    · exact .inl e
    · exact .inr ⟨e, cellsFrom_some _ _ _ (.inl e)⟩
  · refine wpAny_mono (body w s₀ s₁ { s₁ with heap := h₁, toks := tk } mg mb fa o pm cd doc a vs ns G Y ho (fd_plain hd) hcd hmg hobj hints hlen hg rfl F X) (fun f s' hq => ?_) (fun _ _ hq => hq)
    obtain ⟨rfl, h2, h3, h4⟩ := hq
    exact ⟨.inl ⟨.bool true, .bool true, [], rfl, fun _ => rfl, .bool true, post_true l _, fun _ => ⟨List.Pairwise.nil, fun _ hm => (nomatch hm)⟩⟩, h2, h3, h4⟩

/-! ### rules over ANY heap (no ledger) from facts about the written part K: the library's own take a ledger (News) for what they write -/
section
variable {prog : Program} {w : World} {A : Around} {E : Value → Shared → Prop} {s : Shared} {K : Frag}

/-- a def of the module, or a method (qual 'C.m'), entered: the frame is the next address; cells behind it -/
theorem call_fn {R : Result → Shared → Prop} {name qual : Str} {params : Arguments} {body : List Stmt} {scope : Scope} {dV kV doc pm cdv ct oc : Value} {an od : Option Addr} {osl : Array (Option Value)} {f : Addr} {args : Args} {binds : List (Str × Value)}
    (X : K.In s.heap) (hlim : s.heap.NoLimit) (ho : K.lookup f = some ⟨oc, od, .func (fnOf name qual params body scope dV kV doc pm an cdv ct), osl⟩) (hcd : codeIn K cdv qual = true) (hroom : A.depth < recursionLimit)
    (hbind : BindsTo s (fnOf name qual params body scope dV kV doc pm an cdv ct) args binds)
    (hkind : (binds.all fun y => scope.names.lookup y.1 == some .local || scope.names.lookup y.1 == some .cell) = true)
    (h : ∀ s₁, InCallC s s.heap.objs.size (bindL (envOfC qual scope s.heap.objs.size f cdv).kindOf binds fun _ => none) (cellsFrom (s.heap.objs.size + 1) scope.names [])
        (bindC (envOfC qual scope s.heap.objs.size f cdv).kindOf binds fun _ => none) s₁ →
      wpAny (model prog w) (A.deeper (envOfC qual scope s.heap.objs.size f cdv)) (execs body (envOfC qual scope s.heap.objs.size f cdv))
        (fun fl s' => R (.ok (.ret (match fl with | .ret v => v | _ => .none))) s')
        (fun e s' => wpAny (model prog w) (A.deeper (envOfC qual scope s.heap.objs.size f cdv)) (leaving (envOfC qual scope s.heap.objs.size f cdv) e) (fun _ s'' => R (.error e) s'') (fun e' s'' => R (.error e') s'') s') s₁)
    (hco : scope.isCoroutine = false) (hgen : scope.isGenerator = false) (hk : scope.kind = .function) : codeAny (model prog w) A (.call (.ref f) args) R s := by
  refine codeAny_call_function hroom (X _ _ ho) rfl hco hgen rfl (codeRec_of X hcd) (hbind _ _ _ _ ?_)
  refine wpAny_newFunctionEnv_cells hk (kindsX hkind _) fun env he s₁ x => ?_
  subst he
  exact ⟨hlim.keeps x.toInCall.keep, codeAny_func (h s₁ x)⟩

/-- C(..): dict at size, instance at size + 1, then __init__ -/
theorem make_obj {R : Result → Shared → Prop} {C fI : Addr} {rest : List Value} {kw : List (Str × Value)}
    (X : K.In s.heap) (hm : makesIn K C = true) (hi : findIn K (.ref C) "__init__" = some (some (.ref fI))) (hf : isFn K (.ref fI) = true)
    (h : codeAny (model prog w) (A.under (.builtin "type.__call__" ⟨.ref C :: rest, kw⟩)) (.call (.ref fI) ⟨.ref (s.heap.objs.size + 1) :: rest, kw⟩) (InitBack (s.heap.objs.size + 1) R)
      { s with heap := (s.heap.push emptyDict).push (instObj C s.heap.objs.size) }) : codeAny (model prog w) A (.call (.ref C) ⟨rest, kw⟩) R s := by
  obtain ⟨hh, g, d, t, os⟩ := s
  exact make_core (makes_of X hm) (looks_findIn X hi) (fun self => bind_fn X self (beq_iff_eq.mp hf)) (.inl rfl) h

/-- x.name where the instance's dict holds the name and the class does not -/
theorem get_field {x C : Addr} {ox : Obj} {es : List DictEntry} {n : Nat} {name : Str} {expr : Bool} {v : Value} {Q : Value → Shared → Prop}
    (X : K.In s.heap) (I : PySem.W.InstAt s.heap x ox C (some (dictOf es n))) (hg : plainGet K C name = true) (hh : hasDictIn K C = true) (ha : findIn K (.ref C) name = some none)
    (hl : getL name es = some (some v)) (hv : handedIn v = true) (h : Q v { s with toks := s.toks + 1 }) : wpAny (model prog w) A (getAttr (.ref x) name expr) Q E s :=
  get_value X I (plainGet_of hg).1 (findObj_own hh ha rfl hl) hv h

/-- x.m(..): the method found in the class -/
theorem get_method {x C f : Addr} {ox : Obj} {es : List DictEntry} {n : Nat} {name : Str} {pl : Sem Bool} {Q : Value × List Value → Shared → Prop}
    (X : K.In s.heap) (I : PySem.W.InstAt s.heap x ox C (some (dictOf es n))) (hg : plainGet K C name = true) (hf : findIn K (.ref C) name = some (some (.ref f))) (ht : isFn K (.ref f) = true)
    (hl : getL name es = some none) (h : Q (.ref f, [.ref x]) s) : wpAny (model prog w) A (getMethod (.ref x) name pl) Q E s :=
  method_fn X I (plainGet_of hg).1 (plainGet_of hg).2 hf (beq_iff_eq.mp ht) (by show (lookIn name (dictOf es n)).map _ = _; rw [lookIn_dict, hl]; rfl) h

/-! the whole heap as the ledger: makes every rule that writes through a ledger a rule over any heap -/
def noObjs (h : Heap) : Heap := { h with objs := #[] }
theorem noObjs_get (h : Heap) (b : Addr) : (noObjs h).get? b = none := by
  cases e : (noObjs h).get? b with
  | none => rfl
  | some o => exact absurd (Heap.lt_size e) (Nat.not_lt_zero _)
def ledger (h : Heap) (L d : Addr) : List (Addr × Obj) := (List.range h.objs.size).filterMap fun a => if a = L ∨ a = d then none else (h.get? a).map fun o => (a, o)
theorem mem_ledger {h : Heap} {L d a : Addr} {o : Obj} : (a, o) ∈ ledger h L d ↔ a ≠ L ∧ a ≠ d ∧ h.get? a = some o := by
  unfold ledger
  rw [List.mem_filterMap]
  constructor
  · rintro ⟨b, _, e⟩
    split at e
    · cases e
    · rename_i hb
      obtain ⟨o', ho, e'⟩ := Option.map_eq_some_iff.mp e
      cases e'
      exact ⟨fun q => hb (.inl q), fun q => hb (.inr q), ho⟩
  · rintro ⟨n1, n2, ho⟩
    refine ⟨a, List.mem_range.mpr (Heap.lt_size ho), ?_⟩
    rw [if_neg (show ¬ (a = L ∨ a = d) from fun q => q.elim n1 n2), ho] <;> rfl
theorem news_ledger {h : Heap} {L d : Addr} {od : Obj} (hne : d ≠ L) (ho : h.get? d = some od) : News (noObjs h) L h ([] ++ (d, od) :: ledger h L d) := by
  rintro ⟨a, o⟩ hp
  rcases List.mem_cons.mp hp with e | hp
  · cases e
    exact ⟨ho, hne, noObjs_get _ _⟩
  · obtain ⟨n1, n2, e⟩ := mem_ledger.mp hp
    exact ⟨e, n1, noObjs_get _ _⟩
theorem fr_all {h : Heap} {L : Addr} {m : Str → Option Value} (n : h.Ns L m) : Fr (noObjs h) L h m :=
  ⟨n, fun b o e => (by rw [noObjs_get] at e; cases e), Nat.zero_le _⟩
/-- Upd of the head entry (for append_K, setItem_K ..) -/
theorem upd_ledger {h : Heap} {L d : Addr} {o o' : Obj} : Upd d o o' ((d, o) :: ledger h L d) ((d, o') :: ledger h L d) :=
  .head fun ⟨_, _⟩ hp => (mem_ledger.mp hp).2.1

/-- x.name = v over any heap: L is any namespace of the heap (the frame's, say): its map stays, its object is not told; all else but the dict stays -/
theorem set_field {x C dx L : Addr} {ox : Obj} {m : Str → Option Value} {es es' : List DictEntry} {n n' : Nat} {name : Str} {v : Value} {Q : Unit → Shared → Prop}
    (X : K.In s.heap) (I : PySem.W.InstAt s.heap x ox C (some (dictOf es n))) (hd : ox.dict = some dx) (hL : s.heap.Ns L m) (hne : dx ≠ L)
    (hs : findIn K (.ref C) "__setattr__" = some (some (.builtin "object.__setattr__"))) (hp : plainOver K C = true) (ht : takerIn K C name = some none) (hh : hasDictIn K C = true) (hl : (getL name es).isSome = true)
    (e : (putL name (PyData.keyHash w.params name) (.str name (s.toks + 1)) v es, putN name es n) = (es', n')) (hz : es'.length ≤ 1000)
    (h : ∀ h' : Heap, h'.Ns L m → h'.get? dx = some (dictOf es' n') → (∀ b o, b ≠ dx → b ≠ L → s.heap.get? b = some o → h'.get? b = some o) → Q () { s with heap := h', toks := s.toks + 2 }) :
    wpAny (model prog w) A (setAttr (.ref x) name v) Q E s := by
  obtain ⟨e1, e2⟩ := Prod.mk.inj e
  have hdx : s.heap.get? dx = some (dictOf es n) := by
    have := I.dict
    rw [hd] at this
    exact this
  refine set_plain X I hs (osa_dict (s := { s with toks := s.toks + 1 }) (h₀ := noObjs s.heap) (L := L) (m := m) (od := dictOf es n) (od' := dictOf es' n') (es := es') (n := n') (pre := []) (post := ledger s.heap L dx)
    (fr_all hL) (news_ledger hne hdx) X I hd hp ht hh hl (fun _ q => nomatch q) (fun ⟨_, _⟩ q => (mem_ledger.mp q).2.1) (by rw [putName_dict, e1, e2]) rfl hz fun h' F' N' => ?_)
  exact h h' F'.ns (N'.get (List.Mem.head _)) fun b o n1 n2 ho => N'.get (List.Mem.tail _ (mem_ledger.mpr ⟨n2, n1, ho⟩))
end
end Att

namespace L2
open PySem PySem.Spec PyProof.Rows

theorem vals_ints : ∀ {vs : List Value} {ns : List Int}, IntsAre vs ns → Vals (ns.map V.int) vs
  | _, _, .nil => .nil
  | _, _, .cons n t h => .cons ⟨t, rfl⟩ (vals_ints h)

/-- nothing is tracked but the script, known to the object (or it is an object of the module) -/
def Only (H : Hp) : Prop := ∀ b, H b = none ∨ ∃ o xs, H b = some (.frz o (.lst xs))

/-- THE HEAD: the law's promise, at the heap behind the top. F, the promise of the law's def, may use that base is part of the heap (so K.In base, base.Ns mainGlobals mg stand in Mod) -/
theorem law_call {P : Program} {w : World} {K : PySem.W.Frag} {mg mb : Str → Option Value} {CX : CXT} {k : Nat} {fa a : Addr} {fd : FuncData} {x : Str} {sp : Sp} {s₁ : Shared} {vs : List Value} {ns : List Int}
    (KX : K.In s₁.heap) (hns : s₁.heap.Ns mainGlobals mg) (hb : s₁.heap.Ns builtinsNs mb) (hbb : ∀ x : Str, x ≠ "__name__" → mb x = bootBuiltins x) (hlim : s₁.heap.NoLimit) (hg : s₁.gens = #[])
    (ha : s₁.heap.get? a = some { cls := .type "list", data := .seq vs.toArray }) (hi : IntsAre vs ns) (hl : ns.length ≤ sizeLine) (hr : Room k callerA)
    (F : ∀ base : Heap, K.In base → base.Ns mainGlobals mg → FnOk P w K mg base CX k fa fd [x] sp) (hbind : ∀ (s : Shared) (u : Value), BindsTo s fd ⟨[u], []⟩ [(x, u)])
    (hsp : ∀ H : Hp, Only H → SqL K H a (ns.map V.int) → sp [.ref a] H (fun v _ => v = .bl true) fun _ _ _ => False)
    (hCX : ∀ H e s', CX [] H s₁ (fun _ _ _ => False) e s' → False) :
    codeAny (model P w) callerA (.call (.ref fa) ⟨[.ref a], []⟩) (fun r s' => r = .ok (.ret (.bool true)) ∧ OldK s₁.heap s'.heap ∧ s'.os = s₁.os ∧ AllBare s'.gens) s₁ := by
  have rv := vals_ints hi
  have lenV := hi.length
  -- from an abstract heap in which nothing but the script may be tracked
  have core : ∀ H : Hp, Only H → SqL K H a (ns.map V.int) → HOk P w H s₁.heap → (∀ b, H b ≠ none → b = a) → (H a ≠ none → K.lookup a = none) →
      codeAny (model P w) callerA (.call (.ref fa) ⟨[.ref a], []⟩) (fun r s' => r = .ok (.ret (.bool true)) ∧ OldK s₁.heap s'.heap ∧ s'.os = s₁.os ∧ AllBare s'.gens) s₁ := by
    intro H hO hS hok hA hK
    have base_of : ∀ {b : Addr} {o : Obj}, s₁.heap.get? b = some o → H b = none → (hidT s₁.heap H).get? b = some o := fun e n => hidT_get e n
    have noA : ∀ {b : Addr} {o : Obj} {es : Array DictEntry} {ep : Nat}, s₁.heap.get? b = some o → o.data = .dict es ep → H b = none := fun {b o es ep} e d => by
      cases q : H b with
      | none => rfl
      | some u =>
        have e' : b = a := hA b (by rw [q]; simp)
        subst e'
        rw [ha] at e; cases e
        have d' : Data.seq vs.toArray _ = Data.dict es ep := d
        cases d'
    have nsK : ∀ {b : Addr} {m : Str → Option Value}, s₁.heap.Ns b m → (hidT s₁.heap H).Ns b m := fun {b m} ⟨o, es, ep, e, d, r⟩ => ⟨o, es, ep, base_of e (noA e d), d, r⟩
    have hKb : K.In (hidT s₁.heap H) := fun b o e => base_of (KX b o e) (by
      cases q : H b with
      | none => rfl
      | some u =>
        have e' : b = a := hA b (by rw [q]; simp)
        subst e'
        rw [hK (by rw [q]; simp)] at e; cases e)
    have hM : Mod K mg (hidT s₁.heap H) := ⟨hKb, nsK hns, ⟨mb, nsK hb, hbb⟩, let ⟨mc, h1, h2⟩ := hlim; ⟨mc, nsK h1, h2⟩⟩
    have e0 : Env0 P w K mg (hidT s₁.heap H) callerA [] s₁ H := ⟨rfl, hM, fun b o e => of_hidT e, Nat.le_of_eq (hidT_size _ _), trivial, fun b hb => absurd (show b ∈ ([] : List Addr) from hb) (by simp), hok, .of_eq hg⟩
    refine codeAny_mono ((F _ hKb (nsK hns)).run callerA [] s₁ H ⟨[.ref a], []⟩ [.ref a] [.ref a] _ _ hr e0 (hbind s₁ (.ref a)) (.cons rfl .nil) (hsp H hO hS)) fun r s' h => ?_
    cases r with
    | error e => exact (hCX H e s' h).elim
    | ok fl =>
      cases fl with
      | next => exact False.elim h
      | brk => exact False.elim h
      | cont => exact False.elim h
      | ret u =>
        obtain ⟨v, H', os, bare, un, hok', r', q⟩ := h
        have q' : v = .bl true := q
        subst q'
        obtain rfl : u = Value.bool true := r'
        refine ⟨rfl, OldK.of_keep fun b o e => ?_, os, bare⟩
        cases q : H b with
        | none => exact un.keep b o e q (by intro z; exact absurd (show b ∈ ([] : List Addr) from z) (by simp)) (by simp)
        | some u =>
          rcases hO b with z | ⟨ob, xs, z⟩
          · rw [q] at z; cases z
          · have z2 := un.frzs b ob _ z
            obtain ⟨e1, _⟩ := hok b _ z
            obtain ⟨e2, _⟩ := hok' b _ z2
            rw [e] at e1; cases e1
            exact e2
  cases hk : K.lookup a with
  | some o =>
    -- the script is one of the module's own objects
    have e := KX a o hk
    rw [ha] at e
    cases e
    refine core (fun _ => none) (fun _ => .inl rfl) (.inr ⟨_, vs.toArray, _, hk, rfl, rfl, rfl, by rw [List.size_toArray, lenV]; exact hl, by simpa using rv⟩) (fun b u z => by have z' : (none : Option HO) = some u := z; cases z') (fun b z => absurd rfl z) fun z => absurd rfl z
  | none =>
    refine core (fun b => if b = a then some (.frz { cls := .type "list", data := .seq vs.toArray } (.lst (ns.map V.int))) else none) (fun b => ?_) (.inl (.inr ⟨{ cls := .type "list", data := .seq vs.toArray }, if_pos rfl⟩)) (fun b u z => ?_) (fun b z => ?_) fun _ => hk
    · by_cases hb : b = a
      · exact .inr ⟨_, _, if_pos hb⟩
      · exact .inl (if_neg hb)
    · by_cases hb : b = a
      · have z' := (if_pos hb).symm.trans z
        cases z'
        subst hb
        exact ⟨ha, by rw [List.length_map]; exact hl, vs, _, rv, ha⟩
      · have z' := (if_neg hb).symm.trans z
        cases z'
    · by_cases hb : b = a
      · exact hb
      · exact absurd (if_neg hb) z
end L2

namespace L2
open PySem PySem.Spec PyProof.Rows

abbrev KOf {K : PySem.W.Frag} {h : Heap} (_ : K.In h) : PySem.W.Frag := K

/-- the goal that k_head leaves (case hc), from the law's promise. F gives the function object fd (K's own) once, then the promise over every base -/
theorem walk_of {l : PySem.W.OpenLaw} {n k : Nat} {q : Program} {loose : List Str} {XP : (Str → Option Value) → Heap → Prop} {YP : World → Heap → Prop} {d : DefRec} {K : Params → PySem.W.Frag} {CX : World → CXT} {sp : World → Sp} {x : Str}
    (hn : l.most = some n) (hn2 : n ≤ sizeLine) (hdf : d.params.defaults = []) (hr : Room k callerA)
    (hY : ∀ (w : World) (h : Heap), YP w h → (K w.params).In h)
    (F : ∀ (w : World) (mg : Str → Option Value) (fa : Addr) (h : Heap), (K w.params).In h → h.Ns mainGlobals mg → mg d.name = some (.ref fa) →
      ∃ fd : FuncData, (∀ (s : Shared) (u : Value), BindsTo s fd ⟨[u], []⟩ [(x, u)]) ∧
        ∀ base : Heap, (K w.params).In base → base.Ns mainGlobals mg → FnOk l.prog w (K w.params) mg base (CX w) k fa fd [x] (sp w))
    (hsp : ∀ (w : World) (H : Hp) (a : Addr) (ns : List Int), ns.length ≤ n → Only H → SqL (K w.params) H a (ns.map V.int) → sp w [.ref a] H (fun v _ => v = .bl true) fun _ _ _ => False)
    (hCX : ∀ (w : World) (H : Hp) (s : Shared) (e : Value) (s' : Shared), CX w [] H s (fun _ _ _ => False) e s' → False) :
    PySem.W.WalkO q loose XP YP l.row.toRowW d [] (fun f vs => PySem.call f vs) := by
  refine Att.attach_call hn hdf fun w s₀ s₁ mg mb fa o pm cd doc a vs ns G Y ho hd hcd hmg hobj hints hlen hg => ?_
  have KX := hY w _ Y
  obtain ⟨fd, hb, hF⟩ := F w mg fa _ KX G.T.g hmg
  exact law_call KX G.T.g G.T.b G.T.builtins G.T.nolimit hg hobj hints (Nat.le_trans hlen hn2) hr hF hb (fun H hO hS => hsp w H a ns hlen hO hS) fun H e s' => hCX w H s₁ e s'
/-- the same where the promise hangs on the written part alone: (sp := My.sp_law), no hole under a binder -/
theorem walk_ofK {l : PySem.W.OpenLaw} {n k : Nat} {q : Program} {loose : List Str} {XP : (Str → Option Value) → Heap → Prop} {YP : World → Heap → Prop} {d : DefRec} {K : Params → PySem.W.Frag} {CX : CXT} {sp : PySem.W.Frag → Sp} {x : Str}
    (hn : l.most = some n) (hn2 : n ≤ sizeLine) (hdf : d.params.defaults = []) (hr : Room k callerA)
    (hY : ∀ (w : World) (h : Heap), YP w h → (K w.params).In h)
    (F : ∀ (w : World) (mg : Str → Option Value) (fa : Addr) (h : Heap), (K w.params).In h → h.Ns mainGlobals mg → mg d.name = some (.ref fa) →
      ∃ fd : FuncData, (∀ (s : Shared) (u : Value), BindsTo s fd ⟨[u], []⟩ [(x, u)]) ∧
        ∀ base : Heap, (K w.params).In base → base.Ns mainGlobals mg → FnOk l.prog w (K w.params) mg base CX k fa fd [x] (sp (K w.params)))
    (hsp : ∀ (K : PySem.W.Frag) (H : Hp) (a : Addr) (ns : List Int), ns.length ≤ n → Only H → SqL K H a (ns.map V.int) → sp K [.ref a] H (fun v _ => v = .bl true) fun _ _ _ => False)
    (hCX : ∀ (H : Hp) (s : Shared) (e : Value) (s' : Shared), CX [] H s (fun _ _ _ => False) e s' → False) :
    PySem.W.WalkO q loose XP YP l.row.toRowW d [] (fun f vs => PySem.call f vs) :=
  walk_of (K := K) (CX := fun _ => CX) (sp := fun w => sp (K w.params)) hn hn2 hdf hr hY F (fun w H a ns h1 h2 h3 => hsp (K w.params) H a ns h1 h2 h3) fun _ H s e s' => hCX H s e s'
end L2

/- THE LAST THEOREM (shape; LID, My.* are yours):
   My.Adr: a structure of the addresses that your layer names (classes, functions); My.Txt K t: a structure (Prop) of the equations over K;
   My.txt_mk : {K} {implicit addresses ..} (e1 : nsIn K mainGlobals "law" = some (some (.ref f))) (e2 : K.lookup f = some ⟨oc, od, .func (fnOf "law" "law" params body scope dV kV doc pm an cdv ct), sl⟩) (e3 : codeIn K cdv "law" = true) .. : ∃ t, My.Txt K t

set_option maxRecDepth 100000 in
set_option maxHeartbeats 0 in
theorem PySem.Challenge.cw_LID_holds : PySem.Challenge.rw_LID.Holds := by
  w_on; o_law; k_head; (case hw => w_witness2)
  k_fill
  refine L2.walk_of (l := PySem.Challenge.rw_LID) (n := 63) (k := 40) (x := "script") (CX := fun w => ..) (sp := fun _ => My.sp_law) rfl (by decide) rfl ⟨rfl, by decide, by decide⟩ (fun w h Y => PySem.W.kIn_of Y) ?F ?S ?C
  case F =>
    intro w mg fa h KX G hmg
    have T : ∃ t, My.Txt (L2.KOf KX) t := by
      dsimp only [L2.KOf]                          -- K must stand as «<heap const> w.params» for k_is
      refine' My.txt_mk ?e1 ?e2 ?e3 ..
      (case e1 => PySem.W.k_is)                    -- in the order: a name -> its address -> its object -> its parts
      (case e2 => PySem.W.k_is)
      ..
    obtain ⟨t, T⟩ := T
    have e0 := hmg.symm.trans (PySem.W.mg_of KX G T.law)
    cases e0                                       -- fa is the law's own address
    exact ⟨_, fun s u => .of_eq rfl, fun base kb nb => My.law_fn T kb nb⟩     -- if «.of_eq rfl» comes too early: refine' ⟨_, ?b, fun base kb nb => My.law_fn T kb nb⟩; exact fun s u => .of_eq rfl
  case S => exact fun w H a ns hl hO hS => ..
  case C => exact ..
(the tactic k_is has no namespace: write k_is) -/

/-! SHORT WORDS over the layer: a def of the text, its body, what a loop and a test want. -/
namespace L2
open PySem PySem.Spec PyProof.Rows

/-! ### the text by places -/
/-- the j-th statement of a class's body -/
def inClass (s : Stmt) (j : Nat) : Stmt := match s with
  | .ClassDef _ _ _ body _ _ _ _ _ _ _ => body.getD j (.Pass ⟨0, 0, 0, 0⟩)
  | _ => .Pass ⟨0, 0, 0, 0⟩
def defArgs (s : Stmt) : Arguments := match s with
  | .FunctionDef _ a _ _ _ _ _ _ _ _ => a
  | _ => { posonlyargs := [], args := [], vararg := none, kwonlyargs := [], kw_defaults := [], kwarg := none, defaults := [] }
def defBody (s : Stmt) : List Stmt := match s with
  | .FunctionDef _ _ b _ _ _ _ _ _ _ => b
  | _ => []
def defScope (s : Stmt) : Scope := match s with
  | .FunctionDef _ _ _ _ _ _ sc _ _ _ => sc
  | _ => { kind := .function, names := [], isGenerator := false, isCoroutine := false }

/-! ### no exception leaves a def -/
abbrev CX0 : CXT := fun _ _ _ _ _ _ => False
abbrev E0 : XK := fun _ _ _ => False
theorem pass0 {X : Cx} : Passes CX0 X E0 := fun _ _ _ _ _ _ _ h => h.elim

/-! ### a def (or method) of the text as it stands behind the top -/
structure Fun (K : PySem.W.Frag) (x qual : Str) (st : Stmt) (f : Addr) (fd : FuncData) : Prop where
  ex : ∃ (oc : Value) (od : Option Addr) (kV doc pm : Value) (an : Option Addr) (cdv ct : Value) (osl : Array (Option Value)),
    fd = PySem.W.fnOf x qual (defArgs st) (defBody st) (defScope st) .none kV doc pm an cdv ct ∧ K.lookup f = some ⟨oc, od, .func fd, osl⟩ ∧ PySem.W.codeIn K cdv qual = true
  kp : PySem.W.keepIn K (.ref f) = true
section
variable {P : Program} {w : World} {K : PySem.W.Frag} {mg : Str → Option Value} {base : Heap}
/-- THE RULE for a def: its body as a term of rules, and the reading of that term -/
theorem Fun.ok {x qual : Str} {st : Stmt} {f : Addr} {fd : FuncData} {N ps : List Str} {k : Nat} {sp : Sp} (F : Fun K x qual st f fd) (S : FnScope N ps (defScope st)) (len : ∀ vs H Q E, sp vs H Q E → vs.length = ps.length)
    (hbody : ∀ (cdv : Value) (A : Around) (outer : List Env) (s : Shared) (H : Hp) (vs : List V) (Q : VK) (E : XK), Room k (A.deeper (envOfC qual (defScope st) s.heap.objs.size f cdv)) → sp vs H Q E →
      ∃ t, PSs (cxOf CX0 P w K mg base N qual (defScope st) f cdv A outer s H E).nox (defBody st) t ∧ t { nx := fun _ H' => Q .non H', rt := Q } (start N vs) H) : FnOk P w K mg base CX0 (k + 1) f fd ps sp := by
  obtain ⟨oc, od, kV, doc, pm, an, cdv, ct, osl, rfl, lk, hcd⟩ := F.ex
  refine fn_of lk hcd S len fun A outer s H vs Q E hr hsp => ?_
  obtain ⟨t, h, q⟩ := hbody cdv A outer s H vs Q E hr hsp
  exact ⟨t, h.nox, q⟩
/-- how its arguments bind (no defaults): h is «fun _ _ _ _ _ _ us hl => match us, hl with | [_, _], _ => rfl», one _ a parameter -/
theorem Fun.binds {x qual : Str} {st : Stmt} {f : Addr} {fd : FuncData} {ps : List Str} (F : Fun K x qual st f fd)
    (h : ∀ (kV doc pm : Value) (an : Option Addr) (cdv ct : Value) (us : List Value), us.length = ps.length → bindArgs (PySem.W.fnOf x qual (defArgs st) (defBody st) (defScope st) .none kV doc pm an cdv ct) ⟨us, []⟩ = pure (ps.zip us)) : Binds K fd ps [] := by
  obtain ⟨oc, od, kV, doc, pm, an, cdv, ct, osl, rfl, lk, hcd⟩ := F.ex
  exact .all (h kV doc pm an cdv ct)
theorem fun_mk {x qual : Str} {st : Stmt} {f : Addr} {oc : Value} {od an : Option Addr} {osl : Array (Option Value)} {kV doc pm cdv ct : Value} (l : K.lookup f = some ⟨oc, od, .func (PySem.W.fnOf x qual (defArgs st) (defBody st) (defScope st) .none kV doc pm an cdv ct), osl⟩)
    (c : PySem.W.codeIn K cdv qual = true) (k : PySem.W.keepIn K (.ref f) = true) : Fun K x qual st f (PySem.W.fnOf x qual (defArgs st) (defBody st) (defScope st) .none kV doc pm an cdv ct) := ⟨⟨oc, od, kV, doc, pm, an, cdv, ct, osl, rfl, l, c⟩, k⟩
end
theorem hu_of {A : Around} {k : Nat} (hr : Room k A) : A.units + 1 < cLine := Nat.lt_of_le_of_lt (Nat.add_le_add_left (by decide : 1 ≤ 64) _) hr.units
theorem small1000 {n : Nat} (h : n ≤ 1000) : n < sizeLine := Nat.lt_of_le_of_lt h (by decide)

/-! ### expressions in short: the name that stands in the i-th slot -/
section
variable {X : Cx}
theorem pv (i : Nat) {x : Str} {pos : Pos} (hN : X.N[i]? = some x := by rfl) (hv : Vis X.env.scope x := by first | exact Or.inl rfl | exact Or.inr (Or.inl rfl) | exact Or.inr (Or.inr rfl)) (hd : (x == ("__debug__" : Str)) = false := by decide)
    (hcd : (x == ("__classdict__" : Str)) = false := by decide) : PE X (.Name x pos) (tVar i) := pe_var hN hv hd hcd
end

/-! ### tests -/
theorem iteF {A B : Prop} (h : B) : if false = true then A else B := by
  rw [if_neg Bool.false_ne_true]
  exact h
theorem iteT {A B : Prop} (h : A) : if true = true then A else B := by
  rw [if_pos rfl]
  exact h
theorem ite2 {c A B : Prop} [Decidable c] (h1 : c → A) (h2 : ¬ c → B) : if c then A else B := by
  by_cases h : c
  · rw [if_pos h]
    exact h1 h
  · rw [if_neg h]
    exact h2 h
theorem iteNS {c A B : Prop} [Decidable c] (hc : c) (h : B) : if (!decide c) = true then A else B := by
  rw [decide_eq_true hc]
  exact iteF h

/-! ### heaps -/
/-- all that was tracked is as it was -/
def Same (H H' : Hp) : Prop := ∀ b o, H b = some o → H' b = some o
theorem Same.refl (H : Hp) : Same H H := fun _ _ h => h
theorem Same.trans {H H1 H2 : Hp} (a : Same H H1) (b : Same H1 H2) : Same H H2 := fun c o h => b c o (a c o h)
theorem Same.free {H H' : Hp} (e : Same H H') {l : Addr} (h : H' l = Option.none) : H l = Option.none := by
  cases q : H l with
  | none => rfl
  | some o =>
    rw [e l o q] at h
    cases h
theorem Same.seq {K : PySem.W.Frag} {H H' : Hp} {a : Addr} {xs : List V} (e : Same H H') (h : SqL K H a xs) : SqL K H' a xs := by
  rcases h with (h | ⟨o, h⟩) | h
  · exact .inl (.inl (e _ _ h))
  · exact .inl (.inr ⟨o, e _ _ h⟩)
  · exact .inr h

end L2

namespace L2
open PySem PySem.Spec PyProof.Rows
section
variable {X : Cx}
/-- len of a dict -/
theorem call_lenD : CallR X (.builtin "len") (fun xs H Q => ∃ a kvs, xs = [V.ref a] ∧ H a = some (.dK kvs) ∧ Q (.int kvs.length) H) := by
  intro pins s σ H xs us Q I r h
  obtain ⟨a, kvs, rfl, ha, q⟩ := h
  obtain ⟨u, rfl, ru⟩ := vals1 r
  cases ru
  exact d_len I (.inl ha) fun t s' I' => ⟨.int kvs.length, H, I', ⟨t, rfl⟩, q⟩
end
/-! ### a dict's pairs: keys that differ -/
section
variable {κ : Type} [DecidableEq κ]
theorem valV_not {kvs : List (κ × V)} {k : κ} (h : valV kvs k = none) : ¬ k ∈ kvs.map (·.1) := by
  intro m
  obtain ⟨p, hp, e⟩ := List.mem_map.mp m
  have q : (kvs.any fun kv => decide (kv.1 = k)) = true := List.any_eq_true.mpr ⟨p, hp, decide_eq_true e⟩
  rw [valV_any, h] at q
  exact absurd q (by simp)
theorem valV_in {kvs : List (κ × V)} {k : κ} {v : V} (h : valV kvs k = some v) : k ∈ kvs.map (·.1) := by
  have q : (kvs.any fun kv => decide (kv.1 = k)) = true := by
    rw [valV_any, h]
    all_goals rfl
  obtain ⟨p, hp, e⟩ := List.any_eq_true.mp q
  exact List.mem_map.mpr ⟨p, hp, of_decide_eq_true e⟩
theorem nd_snoc : ∀ {l : List κ} {k : κ}, l.Nodup → ¬ k ∈ l → (l ++ [k]).Nodup
  | [], k, _, _ => by simp
  | a :: r, k, h, hk => by
    obtain ⟨h1, h2⟩ := List.nodup_cons.mp h
    show (a :: (r ++ [k])).Nodup
    refine List.nodup_cons.mpr ⟨fun m => ?_, nd_snoc h2 fun m => hk (List.mem_cons.mpr (Or.inr m))⟩
    rcases List.mem_append.mp m with q | q
    · exact h1 q
    · exact hk (List.mem_cons.mpr (Or.inl (List.mem_singleton.mp q).symm))
theorem nd_putK {kvs : List (κ × V)} {k : κ} (v : V) (hn : (kvs.map (·.1)).Nodup) (h : valV kvs k = none) : ((putK kvs k v).map (·.1)).Nodup := by
  rw [putK_new v h, List.map_append]
  exact nd_snoc hn (valV_not h)
theorem dropK_pos {p : κ × V} {r : List (κ × V)} {k : κ} (e : p.1 = k) : dropK (p :: r) k = dropK r k := by
  unfold dropK
  rw [List.filter_cons, if_neg (by simp [e])]
theorem dropK_neg {p : κ × V} {r : List (κ × V)} {k : κ} (e : ¬ p.1 = k) : dropK (p :: r) k = p :: dropK r k := by
  unfold dropK
  rw [List.filter_cons, if_pos (by simp [e])]
theorem dropK_no : ∀ {kvs : List (κ × V)} {k : κ}, ¬ k ∈ kvs.map (·.1) → dropK kvs k = kvs
  | [], _, _ => rfl
  | p :: r, k, h => by
    have h' : ¬ k ∈ r.map (·.1) := fun m => by
      obtain ⟨q, hq, e⟩ := List.mem_map.mp m
      exact h (List.mem_map.mpr ⟨q, List.mem_cons.mpr (Or.inr hq), e⟩)
    rw [dropK_neg fun e => h (List.mem_map.mpr ⟨p, List.mem_cons.mpr (Or.inl rfl), e⟩), dropK_no h']
theorem dropK_mem {kvs : List (κ × V)} {k : κ} {p : κ × V} (h : p ∈ dropK kvs k) : p ∈ kvs := (List.mem_filter.mp h).1
theorem nd_dropK : ∀ {kvs : List (κ × V)} {k : κ}, (kvs.map (·.1)).Nodup → ((dropK kvs k).map (·.1)).Nodup
  | [], _, _ => List.nodup_nil
  | p :: r, k, h => by
    have h : (p.1 :: r.map (·.1)).Nodup := h
    obtain ⟨h1, h2⟩ := List.nodup_cons.mp h
    by_cases e : p.1 = k
    · rw [dropK_pos e]
      exact nd_dropK h2
    · rw [dropK_neg e]
      show (p.1 :: (dropK r k).map (·.1)).Nodup
      refine List.nodup_cons.mpr ⟨fun m => h1 ?_, nd_dropK h2⟩
      obtain ⟨q, hq, eq⟩ := List.mem_map.mp m
      exact List.mem_map.mpr ⟨q, dropK_mem hq, eq⟩
theorem dropK_len : ∀ {kvs : List (κ × V)} {k : κ}, (kvs.map (·.1)).Nodup → k ∈ kvs.map (·.1) → (dropK kvs k).length + 1 = kvs.length
  | [], _, _, m => by simp at m
  | p :: r, k, h, m => by
    have h : (p.1 :: r.map (·.1)).Nodup := h
    have m : k = p.1 ∨ k ∈ r.map (·.1) := List.mem_cons.mp m
    obtain ⟨h1, h2⟩ := List.nodup_cons.mp h
    by_cases e : p.1 = k
    · subst e
      rw [dropK_pos rfl, dropK_no h1]
      all_goals rfl
    · have m' : k ∈ r.map (·.1) := m.resolve_left fun z => e z.symm
      have q := dropK_len h2 m'
      rw [dropK_neg e, List.length_cons, List.length_cons]
      omega
end
end L2


namespace L2.VL
open PySem PySem.Spec PyProof.Rows
/-- the feed of a law: a list with the script's cells, a turn, what is left of a cell, a place -/
def RO (F : Hp) (o : HO) : Prop := ∃ (c : Addr) (ns : List Int) (a l t : Int), o = .lst [.ref c, .int a, .int l, .int t] ∧ F c = some (.lst (ns.map V.int)) ∧ ns.length ≤ 63 ∧ 0 ≤ a ∧ 0 ≤ l ∧ 0 ≤ t
theorem RO.mono {F F' : Hp} {o : HO} (s : Same F F') (h : RO F o) : RO F' o := by
  obtain ⟨c, ns, a, l, t, e, q, r⟩ := h
  exact ⟨c, ns, a, l, t, e, s _ _ q, r⟩
end L2.VL

namespace L2.VL
open PySem PySem.Spec PyProof.Rows

/-! ### values that are data, in the frozen part of the heap -/
mutual
inductive Rep (K : PySem.W.Frag) (F : Hp) : V → PyData → Prop
  | non : Rep K F .non .none
  | bl (b : Bool) : Rep K F (.bl b) (.bool b)
  | int (i : Int) : Rep K F (.int i) (.int i)
  | str (x : Str) : Rep K F (.str x) (.str x)
  | tup {a : Addr} {vs : List V} {ds : List PyData} : SqT K F a vs → Reps K F vs ds → Rep K F (.ref a) (.tuple ds)
  | lst {a : Addr} {vs : List V} {ds : List PyData} : F a = some (.lst vs) → Reps K F vs ds → Rep K F (.ref a) (.list ds)
inductive Reps (K : PySem.W.Frag) (F : Hp) : List V → List PyData → Prop
  | nil : Reps K F [] []
  | cons {v : V} {d : PyData} {vs : List V} {ds : List PyData} : Rep K F v d → Reps K F vs ds → Reps K F (v :: vs) (d :: ds)
end

theorem sameT {K : PySem.W.Frag} {H H' : Hp} {a : Addr} {xs : List V} (e : Same H H') (h : SqT K H a xs) : SqT K H' a xs := by
  rcases h with (h | ⟨o, h⟩) | h
  · exact .inl (.inl (e _ _ h))
  · exact .inl (.inr ⟨o, e _ _ h⟩)
  · exact .inr h
mutual
theorem Rep.mono {K : PySem.W.Frag} {F F' : Hp} (s : Same F F') : ∀ {v : V} {d : PyData}, Rep K F v d → Rep K F' v d
  | _, _, .non => .non
  | _, _, .bl b => .bl b
  | _, _, .int i => .int i
  | _, _, .str x => .str x
  | _, _, .tup h r => .tup (sameT s h) (Reps.mono s r)
  | _, _, .lst h r => .lst (s _ _ h) (Reps.mono s r)
theorem Reps.mono {K : PySem.W.Frag} {F F' : Hp} (s : Same F F') : ∀ {vs : List V} {ds : List PyData}, Reps K F vs ds → Reps K F' vs ds
  | _, _, .nil => .nil
  | _, _, .cons h r => .cons (Rep.mono s h) (Reps.mono s r)
end
theorem Reps.length {K : PySem.W.Frag} {F : Hp} : ∀ {vs : List V} {ds : List PyData}, Reps K F vs ds → vs.length = ds.length
  | _, _, .nil => rfl
  | _, _, .cons _ r => by simp [Reps.length r]
theorem Reps.get {K : PySem.W.Frag} {F : Hp} : ∀ {vs : List V} {ds : List PyData} {i : Nat} {d : PyData}, Reps K F vs ds → ds[i]? = some d → ∃ v, vs[i]? = some v ∧ Rep K F v d
  | _, _, _, _, .nil, e => by simp at e
  | _, _, 0, _, .cons h _, e => by simp at e; subst e; exact ⟨_, rfl, h⟩
  | _, _, i + 1, d, .cons _ r, e => by
    obtain ⟨v, h1, h2⟩ := Reps.get (i := i) (d := d) r (by simpa using e)
    exact ⟨v, by simpa using h1, h2⟩
theorem Reps.getV {K : PySem.W.Frag} {F : Hp} : ∀ {vs : List V} {ds : List PyData} {i : Nat} {v : V}, Reps K F vs ds → vs[i]? = some v → ∃ d, ds[i]? = some d ∧ Rep K F v d
  | _, _, _, _, .nil, e => by simp at e
  | _, _, 0, _, .cons h _, e => by simp at e; subst e; exact ⟨_, rfl, h⟩
  | _, _, i + 1, d, .cons _ r, e => by
    obtain ⟨v, h1, h2⟩ := Reps.getV (i := i) (v := d) r (by simpa using e)
    exact ⟨v, by simpa using h1, h2⟩
theorem Reps.append {K : PySem.W.Frag} {F : Hp} : ∀ {vs us : List V} {ds es : List PyData}, Reps K F vs ds → Reps K F us es → Reps K F (vs ++ us) (ds ++ es)
  | _, _, _, _, .nil, s => s
  | _, _, _, _, .cons h r, s => .cons h (Reps.append r s)
theorem Reps.snoc {K : PySem.W.Frag} {F : Hp} {vs : List V} {ds : List PyData} {v : V} {d : PyData} (r : Reps K F vs ds) (h : Rep K F v d) : Reps K F (vs ++ [v]) (ds ++ [d]) := r.append (.cons h .nil)
theorem Reps.take {K : PySem.W.Frag} {F : Hp} : ∀ {vs : List V} {ds : List PyData} (n : Nat), Reps K F vs ds → Reps K F (vs.take n) (ds.take n)
  | _, _, 0, _ => .nil
  | _, _, _ + 1, .nil => .nil
  | _, _, n + 1, .cons h r => .cons h (Reps.take n r)
theorem Reps.drop {K : PySem.W.Frag} {F : Hp} : ∀ {vs : List V} {ds : List PyData} (n : Nat), Reps K F vs ds → Reps K F (vs.drop n) (ds.drop n)
  | _, _, 0, r => r
  | _, _, _ + 1, .nil => .nil
  | _, _, n + 1, .cons _ r => Reps.drop n r
theorem Reps.nil_iff {K : PySem.W.Frag} {F : Hp} {vs : List V} (h : Reps K F vs []) : vs = [] := by cases h; rfl

/-! the own reading of the heap -/
mutual
theorem Rep.reads {X : Cx} {pins : List (Addr × Obj)} {σ : St} {H F : Hp} {s : Shared} (I : Inv X pins σ H s) (sub : Same F H) : ∀ {v : V} {d : PyData}, Rep X.K F v d → ∀ u, RelV v u → ∃ as, Reads s.heap u d as
  | _, _, .non, u, r => by cases (show u = Value.none from r); exact ⟨_, .none⟩
  | _, _, .bl b, u, r => by cases (show u = Value.bool b from r); exact ⟨_, .bool b⟩
  | _, _, .int i, u, r => by obtain ⟨t, q⟩ := (show ∃ t, u = Value.int i t from r); cases q; exact ⟨_, .int i t⟩
  | _, _, .str x, u, r => by obtain ⟨t, q⟩ := (show ∃ t, u = Value.str x t from r); cases q; exact ⟨_, .str x t⟩
  | _, _, .tup (a := a) h q, u, r => by
    cases (show u = Value.ref a from r)
    obtain ⟨its, rv, ⟨o, h1, h2, n, h3⟩, hz⟩ := I.tuple (sameT sub h)
    obtain ⟨as, ra⟩ := Reps.reads I sub q its rv
    exact ⟨_, .tuple h1 h2 h3 (by simpa using ra)⟩
  | _, _, .lst (a := a) h q, u, r => by
    cases (show u = Value.ref a from r)
    obtain ⟨its, rv, p, hz⟩ := I.list (.inl (.inl (sub _ _ h)))
    obtain ⟨o, h1, h2, n, h3⟩ := p.isList
    obtain ⟨as, ra⟩ := Reps.reads I sub q its rv
    exact ⟨_, .list h1 h2 h3 (by simpa using ra)⟩
theorem Reps.reads {X : Cx} {pins : List (Addr × Obj)} {σ : St} {H F : Hp} {s : Shared} (I : Inv X pins σ H s) (sub : Same F H) : ∀ {vs : List V} {ds : List PyData}, Reps X.K F vs ds → ∀ us, Vals vs us → ∃ as, ReadsAll s.heap us ds as
  | _, _, .nil, us, r => by cases r; exact ⟨_, .nil⟩
  | _, _, .cons h q, us, r => by
    cases r with
    | cons r1 r2 =>
      obtain ⟨as, a1⟩ := Rep.reads I sub h _ r1
      obtain ⟨bs, a2⟩ := Reps.reads I sub q _ r2
      exact ⟨_, .cons a1 a2⟩
end

/-! ### the reel: the law's one object that turns; RO: how it looks (a file of its own for each sort of law) -/
structure ReelOk (F H : Hp) (r : Addr) : Prop where
  ex : ∃ o, H r = some o ∧ RO F o
def RAt (rl : Option Addr) (F H : Hp) : Prop := ∀ r, rl = some r → F r = none ∧ ReelOk F H r
theorem RAt.live {rl : Option Addr} {F H : Hp} (h : RAt rl F H) {r : Addr} (e : rl = some r) : ∃ o, H r = some o := by
  obtain ⟨_, ⟨o, q, _⟩⟩ := h r e
  exact ⟨_, q⟩

structure Grow (rl : Option Addr) (F H F' H' : Hp) : Prop where
  same : ∀ b o, H b = some o → rl ≠ some b → H' b = some o
  fs : Same F F'
  sub : Same F' H'
  old : ∀ b o, H b = some o → F' b = F b
  reel : RAt rl F' H'
theorem Grow.refl {rl : Option Addr} {F H : Hp} (s : Same F H) (r : RAt rl F H) : Grow rl F H F H := ⟨fun _ _ e _ => e, .refl F, s, fun _ _ _ => rfl, r⟩
theorem Grow.live {rl : Option Addr} {F H F' H' : Hp} (g : Grow rl F H F' H') {b : Addr} {o : HO} (e : H b = some o) : ∃ o', H' b = some o' := by
  by_cases h : rl = some b
  · exact g.reel.live h
  · exact ⟨o, g.same b o e h⟩
theorem Grow.trans {rl : Option Addr} {F H F1 H1 F2 H2 : Hp} (a : Grow rl F H F1 H1) (b : Grow rl F1 H1 F2 H2) : Grow rl F H F2 H2 :=
  ⟨fun c o e n => b.same c o (a.same c o e n) n, a.fs.trans b.fs, b.sub, fun c o e => by obtain ⟨o', e'⟩ := a.live e; rw [b.old c o' e', a.old c o e], b.reel⟩
theorem Grow.freeB {rl : Option Addr} {F H F' H' : Hp} (g : Grow rl F H F' H') {b : Addr} (e : H' b = none) : H b = none := by
  cases q : H b with
  | none => rfl
  | some o => obtain ⟨o', e'⟩ := g.live q; rw [e] at e'; cases e'
/-- a new object that no data names yet -/
theorem Grow.laid {rl : Option Addr} {F H : Hp} {a : Addr} {o : HO} (s : Same F H) (r : RAt rl F H) (n : H a = none) : Grow rl F H F (upd H a o) := by
  have ne : ∀ b u, H b = some u → b ≠ a := fun b u e => ne_of_none e n
  refine ⟨fun b u e _ => by rw [upd_ne (ne b u e)]; exact e, .refl F, fun b u e => by rw [upd_ne (ne b u (s b u e))]; exact s b u e, fun _ _ _ => rfl, fun q e => ?_⟩
  obtain ⟨z, ⟨u, h1, h2⟩⟩ := r q e
  exact ⟨z, ⟨u, by rw [upd_ne (ne _ _ h1)]; exact h1, h2⟩⟩
/-- .. and one that is data from the start -/
theorem Grow.data {rl : Option Addr} {F H : Hp} {a : Addr} {o : HO} (s : Same F H) (r : RAt rl F H) (n : H a = none) : Grow rl F H (upd F a o) (upd H a o) := by
  have ne : ∀ b u, H b = some u → b ≠ a := fun b u e => ne_of_none e n
  have neF : ∀ b u, F b = some u → b ≠ a := fun b u e => ne b u (s b u e)
  refine ⟨fun b u e _ => by rw [upd_ne (ne b u e)]; exact e, fun b u e => by rw [upd_ne (neF b u e)]; exact e, fun b u e => ?_, fun b u e => by rw [upd_ne (ne b u e)], fun q e => ?_⟩
  · by_cases hb : b = a
    · subst hb; rw [upd_same] at e ⊢; exact e
    · rw [upd_ne hb] at e ⊢; exact s b u e
  · obtain ⟨z, ⟨u, h1, h2⟩⟩ := r q e
    exact ⟨by rw [upd_ne (ne _ _ h1)]; exact z, ⟨u, by rw [upd_ne (ne _ _ h1)]; exact h1, RO.mono (fun b u e => by rw [upd_ne (neF b u e)]; exact e) h2⟩⟩
/-- what was made since (F, H) becomes data -/
theorem Grow.freeze {rl : Option Addr} {F H F1 H1 : Hp} {a : Addr} {o : HO} (g : Grow rl F H F1 H1) (n : H a = none) (e : H1 a = some o) (f : F1 a = none) (hr : rl ≠ some a) : Grow rl F H (upd F1 a o) H1 := by
  have neF : ∀ b u, F1 b = some u → b ≠ a := fun b u q z => by subst z; rw [f] at q; cases q
  refine ⟨g.same, fun b u q => by rw [upd_ne (neF b u (g.fs b u q))]; exact g.fs b u q, fun b u q => ?_, fun b u q => by rw [upd_ne (ne_of_none q n)]; exact g.old b u q, fun q z => ?_⟩
  · by_cases hb : b = a
    · subst hb; rw [upd_same] at q; rw [e]; exact q
    · rw [upd_ne hb] at q; exact g.sub b u q
  · obtain ⟨z1, ⟨u, h1, h2⟩⟩ := g.reel q z
    exact ⟨by rw [upd_ne (fun y => hr (by rw [← y]; exact z))]; exact z1, ⟨u, h1, RO.mono (fun b u e => by rw [upd_ne (neF b u e)]; exact e) h2⟩⟩

/-! ### what stands in a slot -/
inductive W where
  | d (x : PyData)
  /-- a list of one's own that may still be changed -/
  | ml (xs : List PyData)
  /-- .. looked at -/
  | pk (xs : List PyData)
  | reel
  /-- a value that is no data: a type, a class, a def -/
  | vv (v : V)
  /-- a dict of one's own with tuples of ints and texts for keys -/
  | md (kvs : List (List Key × PyData))
  /-- a tuple that was made here, no constant -/
  | nt (ds : List PyData)
  /-- looked at, nothing known -/
  | lk
def W.dat : W → Option PyData
  | .d x => some x
  | .ml xs => some (.list xs)
  | .pk xs => some (.list xs)
  | .nt ds => some (.tuple ds)
  | _ => none
def W.peek : W → W
  | .ml xs => .pk xs
  | .md _ => .lk
  | w => w
/-- what may be changed, by this slot alone -/
def W.own : W → Bool
  | .ml _ => true
  | .md _ => true
  | _ => false
abbrev KD (K : PySem.W.Frag) (F : Hp) : List (List Key × V) → List (List Key × PyData) → Prop := Paired fun p q => p.1 = q.1 ∧ Rep K F p.2 q.2
def OwnD (K : PySem.W.Frag) (rl : Option Addr) (F H : Hp) (v : V) (kvs : List (List Key × PyData)) : Prop := ∃ a us, v = .ref a ∧ F a = none ∧ rl ≠ some a ∧ H a = some (.dT us) ∧ KD K F us kvs
def OwnL (K : PySem.W.Frag) (rl : Option Addr) (F H : Hp) (v : V) (xs : List PyData) : Prop := ∃ a vs, v = .ref a ∧ F a = none ∧ rl ≠ some a ∧ H a = some (.lst vs) ∧ Reps K F vs xs
def RelW (K : PySem.W.Frag) (rl : Option Addr) (F H : Hp) (v : V) : W → Prop
  | .d x => Rep K F v x
  | .ml xs => OwnL K rl F H v xs
  | .pk xs => OwnL K rl F H v xs
  | .reel => ∃ r, rl = some r ∧ v = .ref r
  | .vv u => v = u
  | .md kvs => OwnD K rl F H v kvs
  | .nt ds => ∃ a vs, v = .ref a ∧ F a = some (.tup vs) ∧ Reps K F vs ds
  | .lk => True
theorem OwnD.grow {K : PySem.W.Frag} {rl : Option Addr} {F H F' H' : Hp} {v : V} {kvs : List (List Key × PyData)} (g : Grow rl F H F' H') (r : OwnD K rl F H v kvs) : OwnD K rl F' H' v kvs := by
  obtain ⟨a, us, rfl, h1, h2, h3, h4⟩ := r
  exact ⟨a, us, rfl, by rw [g.old a _ h3]; exact h1, h2, g.same a _ h3 h2, Paired.mapP h4 fun _ _ z => ⟨z.1, z.2.mono g.fs⟩⟩
theorem OwnL.grow {K : PySem.W.Frag} {rl : Option Addr} {F H F' H' : Hp} {v : V} {xs : List PyData} (g : Grow rl F H F' H') (r : OwnL K rl F H v xs) : OwnL K rl F' H' v xs := by
  obtain ⟨a, vs, rfl, h1, h2, h3, h4⟩ := r
  exact ⟨a, vs, rfl, by rw [g.old a _ h3]; exact h1, h2, g.same a _ h3 h2, h4.mono g.fs⟩
theorem RelW.grow {K : PySem.W.Frag} {rl : Option Addr} {F H F' H' : Hp} {v : V} {w : W} (g : Grow rl F H F' H') (r : RelW K rl F H v w) : RelW K rl F' H' v w := by
  cases w with
  | d x => exact Rep.mono g.fs r
  | ml xs => exact OwnL.grow g r
  | pk xs => exact OwnL.grow g r
  | reel => exact r
  | vv u => exact r
  | md kvs => exact OwnD.grow g r
  | nt ds => obtain ⟨a, vs, e, h, q⟩ := r; exact ⟨a, vs, e, g.fs _ _ h, q.mono g.fs⟩
  | lk => trivial
theorem RelW.peek {K : PySem.W.Frag} {rl : Option Addr} {F H : Hp} {v : V} {w : W} (r : RelW K rl F H v w) : RelW K rl F H v w.peek := by cases w <;> first | exact r | trivial
theorem OwnL.rep {K : PySem.W.Frag} {rl : Option Addr} {F H : Hp} {v : V} {xs : List PyData} (s : Same F H) (r : OwnL K rl F H v xs) : Rep K H v (.list xs) := by
  obtain ⟨a, vs, rfl, h1, h2, h3, h4⟩ := r
  exact .lst h3 (h4.mono s)
theorem RelW.dat {K : PySem.W.Frag} {rl : Option Addr} {F H : Hp} {v : V} {w : W} {x : PyData} (s : Same F H) (r : RelW K rl F H v w) (e : w.dat = some x) : Rep K H v x := by
  cases w with
  | d y => cases e; exact Rep.mono s r
  | ml xs => cases e; exact OwnL.rep s r
  | pk xs => cases e; exact OwnL.rep s r
  | reel => cases e
  | vv u => cases e
  | md kvs => cases e
  | nt ds => cases e; obtain ⟨a, vs, rfl, h, q⟩ := r; exact .tup (.inl (.inl (s _ _ h))) (q.mono s)
  | lk => cases e
/-- a list's items are data -/
theorem RelW.items {K : PySem.W.Frag} {rl : Option Addr} {F H : Hp} {v : V} {w : W} {xs : List PyData} (s : Same F H) (r : RelW K rl F H v w) (e : w.dat = some (.list xs)) : ∃ a vs, v = .ref a ∧ SqL K H a vs ∧ Reps K F vs xs := by
  have own : OwnL K rl F H v xs → ∃ a vs, v = .ref a ∧ SqL K H a vs ∧ Reps K F vs xs := fun ⟨a, vs, e1, _, _, e2, e3⟩ => ⟨a, vs, e1, .inl (.inl e2), e3⟩
  cases w with
  | d y =>
    cases e
    cases (show Rep K F v (.list xs) from r) with
    | lst h q => exact ⟨_, _, rfl, .inl (.inl (s _ _ h)), q⟩
  | ml ys => cases e; exact own r
  | pk ys => cases e; exact own r
  | reel => cases e
  | vv u => cases e
  | md kvs => cases e
  | nt ds => cases e
  | lk => cases e
theorem RelW.itemsT {K : PySem.W.Frag} {rl : Option Addr} {F H : Hp} {v : V} {w : W} {xs : List PyData} (s : Same F H) (r : RelW K rl F H v w) (e : w.dat = some (.tuple xs)) : ∃ a vs, v = .ref a ∧ SqT K H a vs ∧ Reps K F vs xs := by
  cases w with
  | d y =>
    cases e
    cases (show Rep K F v (.tuple xs) from r) with
    | tup h q => exact ⟨_, _, rfl, sameT s h, q⟩
  | ml ys => cases e
  | pk ys => cases e
  | reel => cases e
  | vv u => cases e
  | md kvs => cases e
  | nt ds => cases e; obtain ⟨a, vs, rfl, h, q⟩ := r; exact ⟨a, vs, rfl, .inl (.inl (s _ _ h)), q⟩
  | lk => cases e
/-- it was made behind H -/
def NewIn (H : Hp) (v : V) : W → Prop
  | .ml _ => ∀ a, v = .ref a → H a = none
  | .md _ => ∀ a, v = .ref a → H a = none
  | _ => True
theorem RelW.live {K : PySem.W.Frag} {rl : Option Addr} {F H : Hp} {v : V} {w : W} (r : RelW K rl F H v w) (h : w.own = true) : ∃ a o, v = .ref a ∧ H a = some o := by
  cases w with
  | ml xs => obtain ⟨a, vs, e, _, _, hh, _⟩ := r; exact ⟨a, _, e, hh⟩
  | md xs => obtain ⟨a, vs, e, _, _, hh, _⟩ := r; exact ⟨a, _, e, hh⟩
  | _ => cases h
theorem NewIn.none {H : Hp} {v : V} {w : W} (n : NewIn H v w) (h : w.own = true) {a : Addr} (e : v = .ref a) : H a = none := by
  cases w with
  | ml xs => exact n a e
  | md xs => exact n a e
  | _ => cases h

abbrev En := List (Option W)
structure VR (K : PySem.W.Frag) (rl : Option Addr) (F₀ H₀ F H : Hp) (σ : St) (ρ : En) : Prop where
  g : Grow rl F₀ H₀ F H
  sl : ∀ (i : Nat) w, ρ[i]? = some (some w) → ∃ v, σ[i]? = some (some v) ∧ RelW K rl F H v w ∧ NewIn H₀ v w
  ap : ∀ (i j : Nat) (x y : W) v, i ≠ j → ρ[i]? = some (some x) → ρ[j]? = some (some y) → x.own = true → y.own = true → σ[i]? = some (some v) → σ[j]? = some (some v) → False
  np : ∀ (i : Nat) xs, ρ[i]? ≠ some (some (W.pk xs))
  len : ρ.length = σ.length
section
variable {K : PySem.W.Frag} {rl : Option Addr} {F₀ H₀ F H F' H' : Hp} {σ : St} {ρ : En}
theorem VR.sub (r : VR K rl F₀ H₀ F H σ ρ) : Same F H := r.g.sub
theorem VR.reel (r : VR K rl F₀ H₀ F H σ ρ) : RAt rl F H := r.g.reel
theorem VR.grow (r : VR K rl F₀ H₀ F H σ ρ) (g : Grow rl F H F' H') : VR K rl F₀ H₀ F' H' σ ρ :=
  ⟨r.g.trans g, fun i w e => let ⟨v, e1, e2, e3⟩ := r.sl i w e; ⟨v, e1, e2.grow g, e3⟩, r.ap, r.np, r.len⟩
/-- a value is stored in a slot -/
theorem VR.set (r : VR K rl F₀ H₀ F H σ ρ) {H1 F1 : Hp} (g : Grow rl F H F1 H1) {v : V} {w : W} (rw' : RelW K rl F1 H1 v w) (hn : NewIn H v w) (hp : ∀ xs, w ≠ .pk xs) (i : Nat) : VR K rl F₀ H₀ F1 H1 (σ.set i (some v)) (ρ.set i (some w)) := by
  have r1 := r.grow g
  refine ⟨r1.g, fun j w' e => ?_, fun j k xs ys u hjk e1 e2 w1 w2 s1 s2 => ?_, fun j xs z => ?_, by simp [r.len]⟩
  · by_cases hj : i = j
    · subst hj
      have hi : i < ρ.length := by
        rw [List.getElem?_set] at e
        by_cases hi : i < ρ.length
        · exact hi
        · simp [hi] at e
      rw [List.getElem?_set_self hi] at e
      cases e
      refine ⟨v, by rw [List.getElem?_set_self (by rw [← r.len]; exact hi)], rw', ?_⟩
      cases w with
      | ml xs => exact fun a ea => r.g.freeB (hn a ea)
      | d x => trivial
      | pk xs => trivial
      | reel => trivial
      | vv u => trivial
      | md xs => exact fun a ea => r.g.freeB (hn a ea)
      | nt ds => trivial
      | lk => trivial
    · rw [List.getElem?_set_ne hj] at e
      obtain ⟨u, h1, h2, h3⟩ := r1.sl j w' e
      exact ⟨u, by rw [List.getElem?_set_ne hj]; exact h1, h2, h3⟩
  · have key : ∀ (k : Nat) (x y : W), ρ[k]? = some (some y) → some (some w) = some (some x) → x.own = true → y.own = true → σ[k]? = some (some v) → False := fun k x y d2 e1 o1 o2 s2 => by
      cases e1
      obtain ⟨u', h1, h2, h3⟩ := r.sl k _ d2
      rw [s2] at h1
      cases h1
      obtain ⟨a, o, ea, hh⟩ := h2.live o2
      rw [hn.none o1 ea] at hh
      cases hh
    by_cases hj : i = j
    · subst hj
      have hk : i ≠ k := hjk
      have hi : i < ρ.length := by
        rw [List.getElem?_set] at e1
        by_cases hi : i < ρ.length
        · exact hi
        · simp [hi] at e1
      rw [List.getElem?_set_self hi] at e1
      rw [List.getElem?_set_ne hk] at e2 s2
      rw [List.getElem?_set_self (by rw [← r.len]; exact hi)] at s1
      cases s1
      exact key k xs ys e2 e1 w1 w2 s2
    · by_cases hk : i = k
      · subst hk
        have hi : i < ρ.length := by
          rw [List.getElem?_set] at e2
          by_cases hi : i < ρ.length
          · exact hi
          · simp [hi] at e2
        rw [List.getElem?_set_self hi] at e2
        rw [List.getElem?_set_ne hj] at e1 s1
        rw [List.getElem?_set_self (by rw [← r.len]; exact hi)] at s2
        cases s2
        exact key j ys xs e1 e2 w2 w1 s1
      · rw [List.getElem?_set_ne hj] at e1 s1
        rw [List.getElem?_set_ne hk] at e2 s2
        exact r.ap j k xs ys u hjk e1 e2 w1 w2 s1 s2
  · rw [List.getElem?_set] at z
    split at z
    · split at z
      · exact hp xs (Option.some.inj (Option.some.inj z))
      · cases z
    · exact r.np j xs z
/-- a list of one's own becomes data -/
theorem VR.freeze (r : VR K rl F₀ H₀ F H σ ρ) {i : Nat} {xs : List PyData} (e : ρ[i]? = some (some (.ml xs))) : ∃ F1, VR K rl F₀ H₀ F1 H σ (ρ.set i (some (.d (.list xs)))) := by
  obtain ⟨v, h1, h2, h3⟩ := r.sl i _ e
  obtain ⟨a, vs, rfl, f, hr, hh, q⟩ := (show OwnL K rl F H v xs from h2)
  have hi : i < ρ.length := (List.getElem?_eq_some_iff.mp e).1
  have neF : ∀ b u, F b = some u → b ≠ a := fun b u q z => by subst z; rw [f] at q; cases q
  have fsm : Same F (upd F a (.lst vs)) := fun b u z => by rw [upd_ne (neF b u z)]; exact z
  refine ⟨upd F a (.lst vs), r.g.freeze (h3 a rfl) hh f hr, fun j w e1 => ?_, fun j k ys zs u hjk e1 e2 w1 w2 s1 s2 => ?_, fun j ys z => ?_, by simp [r.len]⟩
  · by_cases hj : i = j
    · subst hj
      rw [List.getElem?_set_self hi] at e1
      cases e1
      exact ⟨.ref a, h1, .lst upd_same (q.mono fsm), trivial⟩
    · rw [List.getElem?_set_ne hj] at e1
      obtain ⟨u, g1, g2, g3⟩ := r.sl j w e1
      refine ⟨u, g1, ?_, g3⟩
      have own : ∀ ys, (∀ zs, w = .ml zs → ys = zs) → OwnL K rl F H u ys → (∃ b, u = .ref b ∧ b ≠ a) → OwnL K rl (upd F a (.lst vs)) H u ys := fun ys _ ⟨b, us, eb, f1, f2, f3, f4⟩ ⟨b', eb', ne⟩ => by
        rw [eb] at eb'
        cases eb'
        exact ⟨b, us, eb, by rw [upd_ne ne]; exact f1, f2, f3, f4.mono fsm⟩
      cases w with
      | d x => exact Rep.mono fsm g2
      | reel => exact g2
      | vv u => exact g2
      | ml ys =>
        obtain ⟨b, us, eb, f1, f2, f3, f4⟩ := (show OwnL K rl F H u ys from g2)
        have ne : b ≠ a := fun z => r.ap i j _ _ (.ref a) hj e e1 rfl rfl h1 (by rw [g1, eb, z])
        exact ⟨b, us, eb, by rw [upd_ne ne]; exact f1, f2, f3, f4.mono fsm⟩
      | pk ys => exact absurd e1 (r.np j ys)
      | md ys =>
        obtain ⟨b, us, eb, f1, f2, f3, f4⟩ := (show OwnD K rl F H u ys from g2)
        have ne : b ≠ a := fun z => r.ap i j _ _ (.ref a) hj e e1 rfl rfl h1 (by rw [g1, eb, z])
        exact ⟨b, us, eb, by rw [upd_ne ne]; exact f1, f2, f3, Paired.mapP f4 fun _ _ z => ⟨z.1, z.2.mono fsm⟩⟩
      | nt ds => obtain ⟨b, us, eb, f1, f2⟩ := g2; exact ⟨b, us, eb, fsm _ _ f1, f2.mono fsm⟩
      | lk => trivial
  · have nd : ∀ (j : Nat) (y : W), (ρ.set i (some (W.d (.list xs))))[j]? = some (some y) → y.own = true → ρ[j]? = some (some y) := fun j y z o => by
      by_cases hj : i = j
      · subst hj
        rw [List.getElem?_set_self hi] at z
        cases z
        cases o
      · rw [List.getElem?_set_ne hj] at z
        exact z
    exact r.ap j k ys zs u hjk (nd j ys e1 w1) (nd k zs e2 w2) w1 w2 s1 s2
  · rw [List.getElem?_set] at z
    split at z
    · first | cases z | (split at z <;> cases z)
    · exact r.np j ys z
end
end L2.VL

namespace L2.VL
open PySem PySem.Spec PyProof.Rows

abbrev TV := En → (W → Prop) → Prop
abbrev TB := En → (Bool → Prop) → Prop
abbrev TVs := En → (List W → Prop) → Prop
abbrev RelWs (K : PySem.W.Frag) (rl : Option Addr) (F H : Hp) : List V → List W → Prop := Paired (RelW K rl F H)

def PV (X : Cx) (rl : Option Addr) (e : Expr) (f : TV) : Prop := ∃ t, PE X e t ∧ ∀ {F₀ H₀ F H : Hp} {σ : St} {ρ : En}, VR X.K rl F₀ H₀ F H σ ρ → ∀ (Qd : W → Prop) (Q : VK), f ρ Qd →
  (∀ v w F' H', Grow rl F H F' H' → RelW X.K rl F' H' v w → NewIn H v w → Qd w → Q v H') → t σ H Q
def PB (X : Cx) (rl : Option Addr) (e : Expr) (f : TB) : Prop := ∃ t, PT X e t ∧ ∀ {F₀ H₀ F H : Hp} {σ : St} {ρ : En}, VR X.K rl F₀ H₀ F H σ ρ → ∀ (Qd : Bool → Prop) (Q : Bool → Hp → Prop), f ρ Qd →
  (∀ b F' H', Grow rl F H F' H' → Qd b → Q b H') → t σ H Q
def PVs (X : Cx) (rl : Option Addr) (es : List Expr) (f : TVs) : Prop := ∃ t, PA X es t ∧ ∀ {F₀ H₀ F H : Hp} {σ : St} {ρ : En}, VR X.K rl F₀ H₀ F H σ ρ → ∀ (Qd : List W → Prop) (Q : List V → Hp → Prop), f ρ Qd →
  (∀ vs ws F' H', Grow rl F H F' H' → RelWs X.K rl F' H' vs ws → Qd ws → Q vs H') → t σ H Q

/-- an own list that is handed on becomes data -/
def W.fz : W → W
  | .ml xs => .d (.list xs)
  | .nt ds => .d (.tuple ds)
  | w => w
theorem RelW.fz {K : PySem.W.Frag} {rl : Option Addr} {F H F1 H1 : Hp} {v : V} {w : W} (g : Grow rl F H F1 H1) (r : RelW K rl F1 H1 v w) (n : NewIn H v w) : ∃ F2, Grow rl F H F2 H1 ∧ Same F1 F2 ∧ RelW K rl F2 H1 v w.fz := by
  cases w with
  | d x => exact ⟨F1, g, .refl _, r⟩
  | pk xs => exact ⟨F1, g, .refl _, r⟩
  | reel => exact ⟨F1, g, .refl _, r⟩
  | vv u => exact ⟨F1, g, .refl _, r⟩
  | md u => exact ⟨F1, g, .refl _, r⟩
  | lk => exact ⟨F1, g, .refl _, r⟩
  | nt ds => obtain ⟨a, vs, rfl, h, q⟩ := r; exact ⟨F1, g, .refl _, .tup (.inl (.inl h)) q⟩
  | ml xs =>
    obtain ⟨a, vs, rfl, f, hr, hh, q⟩ := (show OwnL K rl F1 H1 v xs from r)
    have neF : ∀ b u, F1 b = some u → b ≠ a := fun b u q z => by subst z; rw [f] at q; cases q
    have fsm : Same F1 (upd F1 a (.lst vs)) := fun b u z => by rw [upd_ne (neF b u z)]; exact z
    exact ⟨upd F1 a (.lst vs), g.freeze (n a rfl) hh f hr, fsm, .lst upd_same (q.mono fsm)⟩

section
variable {X : Cx} {rl : Option Addr} {a b e : Expr} {es : List Expr} {fa fb fc : TV} {fs : TVs} {pos p : Pos}

/-! names, constants -/
def vC (x : PyData) : TV := fun _ Q => Q (.d x)
theorem pv_const {v : V} {x : PyData} (h : PE X e (tC v)) (r : ∀ F, Rep X.K F v x) : PV X rl e (vC x) :=
  ⟨_, h, fun R Qd Q q k => k v (.d x) _ _ (Grow.refl R.sub R.reel) (r _) trivial q⟩
theorem pv_int {i : Int} {j pos} : PV X rl (.Constant (.int i) j pos) (vC (.int i)) := pv_const pe_int fun _ => .int i
theorem pv_bl {i : Bool} {j pos} : PV X rl (.Constant (.bool i) j pos) (vC (.bool i)) := pv_const pe_bl fun _ => .bl i
theorem pv_non {j pos} : PV X rl (.Constant .none j pos) (vC .none) := pv_const pe_non fun _ => .non
theorem pv_str {x : Str} {j pos} : PV X rl (.Constant (.str x) j pos) (vC (.str x)) := pv_const pe_str fun _ => .str x
/-- a built-in type as a value -/
theorem pv_ty {x : Str} {n : String} {pos : Pos} (hm : X.mg x = none) (hv : bootBuiltins x = some (.type n)) (hg : Gl X x := by rfl) (hn : x ≠ "__name__" := by decide) (hd : (x == ("__debug__" : Str)) = false := by decide) :
    PV X rl (.Name x pos) (fun _ Q => Q (.vv (.ty n))) :=
  ⟨_, pe_bltn (v := .ty n) hg hm hv rfl hn hd, fun R Qd Q q k => k (.ty n) (.vv (.ty n)) _ _ (Grow.refl R.sub R.reel) rfl trivial q⟩
/-- a module's constant that is data -/
theorem pv_glob {x : Str} {v : V} {u : Value} {d : PyData} {pos : Pos} (hm : X.mg x = some u) (r : RelV v u) (h : ∀ F, Rep X.K F v d) (hg : Gl X x := by rfl) (hd : (x == ("__debug__" : Str)) = false := by decide) : PV X rl (.Name x pos) (vC d) :=
  pv_const (pe_glob hg hm r hd) h
def vVar (i : Nat) : TV := fun ρ Q => ∃ w, ρ[i]? = some (some w) ∧ Q w.peek
theorem vn (i : Nat) {x : Str} {pos : Pos} (hN : X.N[i]? = some x := by rfl) (hv : Vis X.env.scope x := by first | exact Or.inl rfl | exact Or.inr (Or.inl rfl) | exact Or.inr (Or.inr rfl)) (hd : (x == ("__debug__" : Str)) = false := by decide)
    (hcd : (x == ("__classdict__" : Str)) = false := by decide) : PV X rl (.Name x pos) (vVar i) :=
  ⟨_, pe_var hN hv hd hcd, fun R Qd Q ⟨w, e, q⟩ k => by
    obtain ⟨v, e1, r, _⟩ := R.sl i w e
    refine ⟨v, e1, k v w.peek _ _ (Grow.refl R.sub R.reel) r.peek ?_ q⟩
    cases w <;> trivial⟩

/-! argument lists -/
def vNil : TVs := fun _ Q => Q []
def vCons (f : TV) (fs : TVs) : TVs := fun ρ Q => f ρ fun w => fs ρ fun ws => Q (w.fz :: ws)
theorem pvs_nil : PVs X rl [] vNil := ⟨_, pa_nil, fun R Qd Q q k => k [] [] _ _ (Grow.refl R.sub R.reel) .nil q⟩
theorem pvs_cons (h1 : PV X rl e fa) (h2 : PVs X rl es fs) (hs : starEach (e :: es) X.env = (false, eval e X.env) :: starEach es X.env := by rfl) : PVs X rl (e :: es) (vCons fa fs) := by
  obtain ⟨t, p1, k1⟩ := h1
  obtain ⟨ts, p2, k2⟩ := h2
  refine ⟨_, pa_cons p1 p2 hs, fun R Qd Q q k => ?_⟩
  refine k1 R _ _ q fun v w F1 H1 g1 r1 n1 q1 => ?_
  obtain ⟨F2, g2, s2, r2⟩ := RelW.fz g1 r1 n1
  refine k2 (R.grow g2) _ _ q1 fun vs ws F3 H3 g3 r3 q3 => ?_
  exact k (v :: vs) (w.fz :: ws) F3 H3 (g2.trans g3) (.cons (r2.grow g3) r3) q3

/-! one- and two-place operations by values -/
def VOp (X : Cx) (rl : Option Addr) (r : R2) (g : W → W → (W → Prop) → Prop) : Prop := ∀ {F H : Hp} {x y : V} {wx wy : W} (Qd : W → Prop) (Q : VK), Same F H → RAt rl F H → RelW X.K rl F H x wx → RelW X.K rl F H y wy → g wx wy Qd →
  (∀ v w F' H', Grow rl F H F' H' → RelW X.K rl F' H' v w → NewIn H v w → Qd w → Q v H') → r x y H Q
def vOp (g : W → W → (W → Prop) → Prop) (fa fb : TV) : TV := fun ρ Q => fa ρ fun x => fb ρ fun y => g x y Q
theorem vop_of {r : R2} {g : W → W → (W → Prop) → Prop} (vo : VOp X rl r g) (ha : PV X rl a fa) (hb : PV X rl b fb) {e : Expr} (hp : ∀ ta tb, PE X a ta → PE X b tb → PE X e (tOp r ta tb)) : PV X rl e (vOp g fa fb) := by
  obtain ⟨ta, p1, k1⟩ := ha
  obtain ⟨tb, p2, k2⟩ := hb
  refine ⟨_, hp ta tb p1 p2, fun R Qd Q q k => ?_⟩
  refine k1 R _ _ q fun v w F1 H1 g1 r1 n1 q1 => ?_
  refine k2 (R.grow g1) _ _ q1 fun v2 w2 F2 H2 g2 r2 n2 q2 => ?_
  exact vo Qd Q g2.sub g2.reel (r1.grow g2) r2 q2 fun v3 w3 F3 H3 g3 r3 n3 q3 => k v3 w3 F3 H3 ((g1.trans g2).trans g3) r3 (by
    cases w3 with
    | ml xs => exact fun a ea => g1.freeB (g2.freeB (n3 a ea))
    | md xs => exact fun a ea => g1.freeB (g2.freeB (n3 a ea))
    | nt _ => trivial
    | lk => trivial
    | d _ => trivial
    | pk _ => trivial
    | reel => trivial
    | vv _ => trivial) q3
theorem pv_op {op : Operator} {r : R2} {g : W → W → (W → Prop) → Prop} (ho : OpR X (binaryOp op) r) (vo : VOp X rl r g) (ha : PV X rl a fa) (hb : PV X rl b fb) : PV X rl (.BinOp a op b pos) (vOp g fa fb) :=
  vop_of vo ha hb fun _ _ p1 p2 => pe_op ho p1 p2
/-- ints to anything flat -/
def gI (C : Int → Int → Prop) (g : Int → Int → PyData) : W → W → (W → Prop) → Prop := fun x y Q => ∃ i j, x = .d (.int i) ∧ y = .d (.int j) ∧ C i j ∧ Q (.d (g i j))
theorem rep_int {K : PySem.W.Frag} {F : Hp} {v : V} {i : Int} (h : Rep K F v (.int i)) : v = .int i := by cases h; rfl
theorem vop_int {C : Int → Int → Prop} {g : Int → Int → V} {gd : Int → Int → PyData} (h : ∀ K F i j, Rep K F (g i j) (gd i j)) : VOp X rl (rI C g) (gI C gd) := fun {F H x y wx wy} Qd Q s ra r1 r2 q k => by
  obtain ⟨i, j, rfl, rfl, c, q⟩ := q
  exact ⟨i, j, rep_int r1, rep_int r2, c, k _ (.d _) _ _ (Grow.refl s ra) (h _ _ i j) trivial q⟩
def gI0 (g : Int → Int → PyData) : W → W → (W → Prop) → Prop := fun x y Q => ∃ i j, x = .d (.int i) ∧ y = .d (.int j) ∧ Q (.d (g i j))
theorem vop_int0 {g : Int → Int → V} {gd : Int → Int → PyData} (h : ∀ K F i j, Rep K F (g i j) (gd i j)) : VOp X rl (rI0 g) (gI0 gd) := fun {F H x y wx wy} Qd Q s ra r1 r2 q k => by
  obtain ⟨i, j, rfl, rfl, q⟩ := q
  exact ⟨i, j, rep_int r1, rep_int r2, k _ (.d _) _ _ (Grow.refl s ra) (h _ _ i j) trivial q⟩
theorem v_add (ha : PV X rl a fa) (hb : PV X rl b fb) : PV X rl (.BinOp a .Add b pos) (vOp (gI0 fun i j => .int (i + j)) fa fb) := pv_op op_add (vop_int0 fun _ _ _ _ => .int _) ha hb
theorem v_sub (ha : PV X rl a fa) (hb : PV X rl b fb) : PV X rl (.BinOp a .Sub b pos) (vOp (gI0 fun i j => .int (i - j)) fa fb) := pv_op op_sub (vop_int0 fun _ _ _ _ => .int _) ha hb
/-- sizes: below 2 ^ 60000 -/
def Big (i : Int) : Prop := i.natAbs < 2 ^ 60000
theorem Big.bits {i : Int} (h : Big i) : Builtin.Int.intBits i ≤ 60000 := intBits_le_iff.mpr h
def CMulB (i j : Int) : Prop := i.natAbs < 2 ^ 64 ∨ j.natAbs < 2 ^ 64 ∨ (Big i ∧ Big j)
theorem CMulB.lt {i j : Int} (h : i.natAbs < 2 ^ 64) : CMulB i j := .inl h
theorem CMulB.rt {i j : Int} (h : j.natAbs < 2 ^ 64) : CMulB i j := .inr (.inl h)
theorem CMulB.bb {i j : Int} (h : Big i) (h' : Big j) : CMulB i j := .inr (.inr ⟨h, h'⟩)
theorem CMulB.ok {i j : Int} (h : CMulB i j) : IntMulOk i j := by
  rcases h with h | h | h
  · exact .of_left (intBits_le_iff.mpr h)
  · exact .of_right (intBits_le_iff.mpr h)
  · exact IntMulOk.of_le h.1.bits h.2.bits (by decide)
theorem op_mulB : OpR X (binaryOp .Mult) (rI CMulB fun i j => .int (i * j)) := opI fun _ _ _ _ _ _ _ hc q => mul_int q hc.ok
theorem v_mul (ha : PV X rl a fa) (hb : PV X rl b fb) : PV X rl (.BinOp a .Mult b pos) (vOp (gI CMulB fun i j => .int (i * j)) fa fb) := pv_op op_mulB (vop_int fun _ _ _ _ => .int _) ha hb
def CDivB (_ j : Int) : Prop := j ≠ 0 ∧ j.natAbs < 2 ^ 9000
theorem op_fdivB : OpR X (binaryOp .FloorDiv) (rI CDivB fun i j => .int (i.fdiv j)) := opI fun _ j _ _ _ _ _ hc q => floordiv_int hc.1 q (.inl (PyProof.noPylong_of_log2 ((Nat.log2_lt (by have := hc.1; omega)).mpr hc.2)))
theorem v_div (ha : PV X rl a fa) (hb : PV X rl b fb) : PV X rl (.BinOp a .FloorDiv b pos) (vOp (gI CDivB fun i j => .int (i.fdiv j)) fa fb) := pv_op op_fdivB (vop_int fun _ _ _ _ => .int _) ha hb
theorem v_mod (ha : PV X rl a fa) (hb : PV X rl b fb) : PV X rl (.BinOp a .Mod b pos) (vOp (gI (fun _ j => j ≠ 0) fun i j => .int (i.fmod j)) fa fb) := pv_op op_modN (vop_int fun _ _ _ _ => .int _) ha hb
theorem v_pow (ha : PV X rl a fa) (hb : PV X rl b fb) : PV X rl (.BinOp a .Pow b pos) (vOp (gI CPow fun i j => .int (i ^ j.toNat)) fa fb) := pv_op op_pow (vop_int fun _ _ _ _ => .int _) ha hb
/-- -x -/
def vNeg (fa : TV) : TV := fun ρ Q => fa ρ fun x => ∃ i, x = .d (.int i) ∧ Q (.d (.int (-i)))
theorem v_neg (ha : PV X rl a fa) : PV X rl (.UnaryOp .USub a pos) (vNeg fa) := by
  obtain ⟨ta, p1, k1⟩ := ha
  refine ⟨_, pe_un un_neg p1, fun R Qd Q q k => k1 R _ _ q fun v w F1 H1 g1 r1 n1 ⟨i, ew, q1⟩ => ?_⟩
  subst ew
  exact ⟨i, rep_int r1, k _ (.d _) F1 H1 g1 (.int _) trivial q1⟩

/-! comparisons -/
theorem v_cmp {op : CmpOp} {r : R2} {g : W → W → (W → Prop) → Prop} (ho : OpR X (compareOp op) r) (vo : VOp X rl r g) (hm : behindInMarks op b = false) (ha : PV X rl a fa) (hb : PV X rl b fb) : PV X rl (.Compare a [op] [b] pos) (vOp g fa fb) :=
  vop_of vo ha hb fun _ _ p1 p2 => pe_cmpR ho p1 p2 hm
/-- a value that is a truth, as a test -/
def vTest (f : TV) : TB := fun ρ Q => f ρ fun w => ∃ k, w = .d (.bool k) ∧ Q k
theorem rep_bl {K : PySem.W.Frag} {F : Hp} {v : V} {i : Bool} (h : Rep K F v (.bool i)) : v = .bl i := by cases h; rfl
theorem vb_cmp {op : CmpOp} {r : R2} {g : W → W → (W → Prop) → Prop} (ho : OpR X (compareOp op) r) (vo : VOp X rl r g) (hm : behindInMarks op b = false) (ha : PV X rl a fa) (hb : PV X rl b fb) : PB X rl (.Compare a [op] [b] pos) (vTest (vOp g fa fb)) := by
  obtain ⟨ta, p1, k1⟩ := ha
  obtain ⟨tb, p2, k2⟩ := hb
  refine ⟨_, pt_cmpR ho p1 p2 hm, fun R Qd Q q k => ?_⟩
  refine k1 R _ _ q fun v w F1 H1 g1 r1 n1 q1 => ?_
  refine k2 (R.grow g1) _ _ q1 fun v2 w2 F2 H2 g2 r2 n2 q2 => ?_
  refine vo _ _ g2.sub g2.reel (r1.grow g2) r2 q2 fun v3 w3 F3 H3 g3 r3 n3 ⟨kb, ew, q3⟩ => ?_
  subst ew
  exact ⟨kb, rep_bl r3, k kb F3 H3 ((g1.trans g2).trans g3) q3⟩
theorem vb_val (ha : PV X rl e fa) (he : ∀ whole, isTrue e X.env whole = (do let v ← whole; standAt e.pos; holding [v] (truthy v)) := by intro _; rfl) : PB X rl e (vTest fa) := by
  obtain ⟨ta, p1, k1⟩ := ha
  refine ⟨_, pt_val p1 he, fun R Qd Q q k => k1 R _ _ q fun v w F1 H1 g1 r1 n1 ⟨kb, ew, q1⟩ => ?_⟩
  subst ew
  exact ⟨kb, rep_bl r1, k kb F1 H1 g1 q1⟩
abbrev gCmp (p : Int → Int → Bool) := gI0 fun i j => .bool (p i j)
theorem vo_lt : VOp X rl (rI0 fun i j => .bl (decide (i < j))) (gCmp fun i j => decide (i < j)) := vop_int0 fun _ _ _ _ => .bl _
theorem vo_le : VOp X rl (rI0 fun i j => .bl (decide (i ≤ j))) (gCmp fun i j => decide (i ≤ j)) := vop_int0 fun _ _ _ _ => .bl _
theorem vo_gt : VOp X rl (rI0 fun i j => .bl (decide (j < i))) (gCmp fun i j => decide (j < i)) := vop_int0 fun _ _ _ _ => .bl _
theorem vo_ge : VOp X rl (rI0 fun i j => .bl (decide (j ≤ i))) (gCmp fun i j => decide (j ≤ i)) := vop_int0 fun _ _ _ _ => .bl _
/-- == and != of any data -/
def rEqD (K : PySem.W.Frag) (neg : Bool) : R2 := fun x y H Q => ∃ dx dy, Rep K H x dx ∧ Rep K H y dy ∧ SeqAt.shaped dx = true ∧ SeqAt.shaped dy = true ∧ Q (.bl (if neg then !PyData.eqv dx dy else PyData.eqv dx dy)) H
theorem op_eqD (hu : X.A.units + 64 < cLine) : OpR X (compareOp .Eq) (rEqD X.K false) := by
  intro pins s σ H x y v u Q I rx ry ⟨dx, dy, h1, h2, s1, s2, q⟩
  obtain ⟨as, a1⟩ := Rep.reads I (.refl H) h1 v rx
  obtain ⟨bs, a2⟩ := Rep.reads I (.refl H) h2 u ry
  exact SeqAt.compareEq_shaped a1 a2 s1 s2 hu ⟨.bl _, H, I, rfl, q⟩
theorem op_neD (hu : X.A.units + 64 < cLine) : OpR X (compareOp .NotEq) (rEqD X.K true) := by
  intro pins s σ H x y v u Q I rx ry ⟨dx, dy, h1, h2, s1, s2, q⟩
  obtain ⟨as, a1⟩ := Rep.reads I (.refl H) h1 v rx
  obtain ⟨bs, a2⟩ := Rep.reads I (.refl H) h2 u ry
  exact SeqAt.compareNe_shaped a1 a2 s1 s2 hu ⟨.bl _, H, I, rfl, q⟩
def gEqD (neg : Bool) : W → W → (W → Prop) → Prop := fun x y Q => ∃ dx dy, x.dat = some dx ∧ y.dat = some dy ∧ SeqAt.shaped dx = true ∧ SeqAt.shaped dy = true ∧ Q (.d (.bool (if neg then !PyData.eqv dx dy else PyData.eqv dx dy)))
theorem vo_eqD {neg : Bool} : VOp X rl (rEqD X.K neg) (gEqD neg) := fun {F H x y wx wy} Qd Q s ra r1 r2 q k => by
  obtain ⟨dx, dy, e1, e2, s1, s2, q⟩ := q
  exact ⟨dx, dy, r1.dat s e1, r2.dat s e2, s1, s2, k _ (.d _) _ _ (Grow.refl s ra) (.bl _) trivial q⟩
/-- in, not in a list or tuple of any data -/
def rInD (K : PySem.W.Frag) (neg : Bool) : R2 := fun x y H Q => ∃ dx ys, Rep K H x dx ∧ (Rep K H y (.list ys) ∨ Rep K H y (.tuple ys)) ∧ SeqAt.shaped dx = true ∧ PyData.canLayAll0 ys = true ∧ Q (.bl (if neg then !(ys.any fun z => PyData.eqv z dx) else ys.any fun z => PyData.eqv z dx)) H
theorem in_room {A : Around} {d : PyData} {ys : List PyData} (hu : A.units + 65 < cLine) (h : SeqAt.shaped d = true) : A.units + 1 + min (PyData.depthAll ys) d.depth < cLine := by
  have h1 := SeqAt.depth_of_shaped h
  have h2 : min (PyData.depthAll ys) d.depth ≤ d.depth := Nat.min_le_right _ _
  omega
theorem op_inD (hu : X.A.units + 65 < cLine) : OpR X (compareOp .In) (rInD X.K false) := by
  intro pins s σ H x y v u Q I rx ry ⟨dx, ys, h1, h2, s1, s2, q⟩
  obtain ⟨as, a1⟩ := Rep.reads I (.refl H) h1 v rx
  rcases h2 with h2 | h2
  · obtain ⟨bs, a2⟩ := Rep.reads I (.refl H) h2 u ry
    exact SeqAt.in_list_reads a2 a1 s2 (SeqAt.canLay_of_shaped s1) (in_room hu s1) ⟨.bl _, H, I, rfl, q⟩
  · obtain ⟨bs, a2⟩ := Rep.reads I (.refl H) h2 u ry
    exact SeqAt.in_tuple_reads a2 a1 s2 (SeqAt.canLay_of_shaped s1) (in_room hu s1) ⟨.bl _, H, I, rfl, q⟩
theorem op_notinD (hu : X.A.units + 65 < cLine) : OpR X (compareOp .NotIn) (rInD X.K true) := by
  intro pins s σ H x y v u Q I rx ry ⟨dx, ys, h1, h2, s1, s2, q⟩
  obtain ⟨as, a1⟩ := Rep.reads I (.refl H) h1 v rx
  rcases h2 with h2 | h2
  · obtain ⟨bs, a2⟩ := Rep.reads I (.refl H) h2 u ry
    exact SeqAt.notIn_list_reads a2 a1 s2 (SeqAt.canLay_of_shaped s1) (in_room hu s1) ⟨.bl _, H, I, rfl, q⟩
  · obtain ⟨bs, a2⟩ := Rep.reads I (.refl H) h2 u ry
    exact SeqAt.notIn_tuple_reads a2 a1 s2 (SeqAt.canLay_of_shaped s1) (in_room hu s1) ⟨.bl _, H, I, rfl, q⟩
def gInD (neg : Bool) : W → W → (W → Prop) → Prop := fun x y Q => ∃ dx ys, x.dat = some dx ∧ (y.dat = some (.list ys) ∨ y.dat = some (.tuple ys)) ∧ SeqAt.shaped dx = true ∧ PyData.canLayAll0 ys = true ∧ Q (.d (.bool (if neg then !(ys.any fun z => PyData.eqv z dx) else ys.any fun z => PyData.eqv z dx)))
theorem vo_inD {neg : Bool} : VOp X rl (rInD X.K neg) (gInD neg) := fun {F H x y wx wy} Qd Q s ra r1 r2 q k => by
  obtain ⟨dx, ys, e1, e2, s1, s2, q⟩ := q
  exact ⟨dx, ys, r1.dat s e1, e2.imp (fun e => r2.dat s e) (fun e => r2.dat s e), s1, s2, k _ (.d _) _ _ (Grow.refl s ra) (.bl _) trivial q⟩

/-! tests -/
def vAnd (f g : TB) : TB := fun ρ Q => f ρ fun b => if b = true then g ρ Q else Q false
def vOr (f g : TB) : TB := fun ρ Q => f ρ fun b => if b = true then Q true else g ρ Q
def vNot (f : TB) : TB := fun ρ Q => f ρ fun b => Q (!b)
def PBW (X : Cx) (rl : Option Addr) (e : Expr) (f : TB) : Prop := ∃ t, PW X e t ∧ ∀ {F₀ H₀ F H : Hp} {σ : St} {ρ : En}, VR X.K rl F₀ H₀ F H σ ρ → ∀ (Qd : Bool → Prop) (Q : Bool → Hp → Prop), f ρ Qd →
  (∀ b F' H', Grow rl F H F' H' → Qd b → Q b H') → t σ H Q
variable {f g : TB} {rest : List Expr}
theorem PBW.pb (h : PBW X rl e f) : PB X rl e f := let ⟨t, p, k⟩ := h; ⟨t, p.pt, k⟩
theorem vb_and1 (ha : PB X rl a f) : PBW X rl (.BoolOp .And [a] pos) f := let ⟨t, p, k⟩ := ha; ⟨t, pw_and1 p, k⟩
theorem vb_or1 (ha : PB X rl a f) : PBW X rl (.BoolOp .Or [a] pos) f := let ⟨t, p, k⟩ := ha; ⟨t, pw_or1 p, k⟩
theorem vb_and (ha : PB X rl a f) (hb : PBW X rl (.BoolOp .And (b :: rest) pos) g) : PBW X rl (.BoolOp .And (a :: b :: rest) pos) (vAnd f g) := by
  obtain ⟨t, p, k⟩ := ha
  obtain ⟨t2, p2, k2⟩ := hb
  refine ⟨_, pw_and p p2, fun R Qd Q q h => k R _ _ q fun c F1 H1 g1 q1 => ?_⟩
  cases c with
  | true => exact k2 (R.grow g1) _ _ q1 fun c F2 H2 g2 q2 => h c F2 H2 (g1.trans g2) q2
  | false => exact h false F1 H1 g1 q1
theorem vb_or (ha : PB X rl a f) (hb : PBW X rl (.BoolOp .Or (b :: rest) pos) g) : PBW X rl (.BoolOp .Or (a :: b :: rest) pos) (vOr f g) := by
  obtain ⟨t, p, k⟩ := ha
  obtain ⟨t2, p2, k2⟩ := hb
  refine ⟨_, pw_or p p2, fun R Qd Q q h => k R _ _ q fun c F1 H1 g1 q1 => ?_⟩
  cases c with
  | true => exact h true F1 H1 g1 q1
  | false => exact k2 (R.grow g1) _ _ q1 fun c F2 H2 g2 q2 => h c F2 H2 (g1.trans g2) q2
theorem vb_not (ha : PB X rl a f) : PB X rl (.UnaryOp .Not a pos) (vNot f) := by
  obtain ⟨t, p, k⟩ := ha
  exact ⟨_, pt_not p, fun R Qd Q q h => k R _ _ q fun c F1 H1 g1 q1 => h (!c) F1 H1 g1 q1⟩
/-! .. as values -/
def vAndV (fa fb : TV) : TV := fun ρ Q => fa ρ fun w => ∃ c, w = .d (.bool c) ∧ if c = true then fb ρ Q else Q (.d (.bool false))
def vOrV (fa fb : TV) : TV := fun ρ Q => fa ρ fun w => ∃ c, w = .d (.bool c) ∧ if c = true then Q (.d (.bool true)) else fb ρ Q
def vNotV (fa : TV) : TV := fun ρ Q => fa ρ fun w => ∃ c, w = .d (.bool c) ∧ Q (.d (.bool (!c)))
theorem NewIn.back {rl : Option Addr} {F H F' H' : Hp} {v : V} {w : W} (g : Grow rl F H F' H') (n : NewIn H' v w) : NewIn H v w := by
  cases w with
  | ml xs => exact fun a ea => g.freeB (n a ea)
  | md xs => exact fun a ea => g.freeB (n a ea)
  | nt _ => trivial
  | lk => trivial
  | d _ => trivial
  | pk _ => trivial
  | reel => trivial
  | vv _ => trivial
theorem v_one {op} (ha : PV X rl a fa) : PV X rl (.BoolOp op [a] pos) fa := let ⟨t, p, k⟩ := ha; ⟨t, pe_one p, k⟩
theorem v_and (ha : PV X rl a fa) (hb : PV X rl (.BoolOp .And (b :: rest) pos) fb) : PV X rl (.BoolOp .And (a :: b :: rest) pos) (vAndV fa fb) := by
  obtain ⟨t, p, k⟩ := ha
  obtain ⟨t2, p2, k2⟩ := hb
  refine ⟨_, pe_and p p2, fun R Qd Q q h => k R _ _ q fun v w F1 H1 g1 r1 n1 ⟨c, ew, q1⟩ => ?_⟩
  subst ew
  refine ⟨c, rep_bl r1, ?_⟩
  cases c with
  | true => exact k2 (R.grow g1) _ _ q1 fun v w F2 H2 g2 r2 n2 q2 => h v w F2 H2 (g1.trans g2) r2 (n2.back g1) q2
  | false => exact h _ (.d _) F1 H1 g1 (.bl false) trivial q1
theorem v_or (ha : PV X rl a fa) (hb : PV X rl (.BoolOp .Or (b :: rest) pos) fb) : PV X rl (.BoolOp .Or (a :: b :: rest) pos) (vOrV fa fb) := by
  obtain ⟨t, p, k⟩ := ha
  obtain ⟨t2, p2, k2⟩ := hb
  refine ⟨_, pe_or p p2, fun R Qd Q q h => k R _ _ q fun v w F1 H1 g1 r1 n1 ⟨c, ew, q1⟩ => ?_⟩
  subst ew
  refine ⟨c, rep_bl r1, ?_⟩
  cases c with
  | false => exact k2 (R.grow g1) _ _ q1 fun v w F2 H2 g2 r2 n2 q2 => h v w F2 H2 (g1.trans g2) r2 (n2.back g1) q2
  | true => exact h _ (.d _) F1 H1 g1 (.bl true) trivial q1
theorem v_not (ha : PV X rl a fa) : PV X rl (.UnaryOp .Not a pos) (vNotV fa) := by
  obtain ⟨t, p, k⟩ := ha
  refine ⟨_, pe_not p, fun R Qd Q q h => k R _ _ q fun v w F1 H1 g1 r1 n1 ⟨c, ew, q1⟩ => ?_⟩
  subst ew
  exact ⟨c, rep_bl r1, h _ (.d _) F1 H1 g1 (.bl _) trivial q1⟩
def vIf (t : TB) (fa fb : TV) : TV := fun ρ Q => t ρ fun c => if c = true then fa ρ Q else fb ρ Q
theorem v_ifExp {c : Expr} (hc : PB X rl c f) (ha : PV X rl a fa) (hb : PV X rl b fb) : PV X rl (.IfExp c a b pos) (vIf f fa fb) := by
  obtain ⟨t, p, k⟩ := hc
  obtain ⟨t1, p1, k1⟩ := ha
  obtain ⟨t2, p2, k2⟩ := hb
  refine ⟨_, pe_ifExp p p1 p2, fun R Qd Q q h => k R _ _ q fun c F1 H1 g1 q1 => ?_⟩
  cases c with
  | true => exact k1 (R.grow g1) _ _ q1 fun v w F2 H2 g2 r2 n2 q2 => h v w F2 H2 (g1.trans g2) r2 (n2.back g1) q2
  | false => exact k2 (R.grow g1) _ _ q1 fun v w F2 H2 g2 r2 n2 q2 => h v w F2 H2 (g1.trans g2) r2 (n2.back g1) q2

/-! displays -/
def dats : List W → Option (List PyData)
  | [] => some []
  | .d x :: r => (dats r).map (x :: ·)
  | _ :: _ => none
theorem dats_rel {K : PySem.W.Frag} {F H : Hp} : ∀ {vs : List V} {ws : List W} {ds : List PyData}, RelWs K rl F H vs ws → dats ws = some ds → Reps K F vs ds
  | _, _, _, .nil, e => by cases e; exact .nil
  | _, .d x :: ws, ds, .cons r rs, e => by
    have e : (dats ws).map (x :: ·) = some ds := e
    cases q : dats ws with
    | none => rw [q] at e; cases e
    | some es => rw [q] at e; cases e; exact .cons r (dats_rel rs q)
  | _, .ml x :: ws, ds, .cons r rs, e => by cases (show none = some ds from e)
  | _, .pk x :: ws, ds, .cons r rs, e => by cases (show none = some ds from e)
  | _, .reel :: ws, ds, .cons r rs, e => by cases (show none = some ds from e)
  | _, .vv u :: ws, ds, .cons r rs, e => by cases (show none = some ds from e)
  | _, .md u :: ws, ds, .cons r rs, e => by cases (show none = some ds from e)
  | _, .nt u :: ws, ds, .cons r rs, e => by cases (show none = some ds from e)
  | _, .lk :: ws, ds, .cons r rs, e => by cases (show none = some ds from e)
def vTup (fs : TVs) : TV := fun ρ Q => fs ρ fun ws => ∃ ds, dats ws = some ds ∧ ds.length ≤ sizeLine ∧ Q (.d (.tuple ds))
def vLst (fs : TVs) : TV := fun ρ Q => fs ρ fun ws => ∃ ds, dats ws = some ds ∧ ds.length ≤ sizeLine ∧ Q (.ml ds)
theorem v_tup {x1} (h : PVs X rl es fs) : PV X rl (.Tuple es x1 pos) (vTup fs) := by
  obtain ⟨t, p, k⟩ := h
  refine ⟨_, pe_tup p, fun R Qd Q q h => k R _ _ q fun vs ws F1 H1 g1 r1 ⟨ds, e1, z, q1⟩ => ?_⟩
  have rs := dats_rel r1 e1
  refine ⟨by rw [rs.length]; exact z, fun p hp => ?_⟩
  have g2 := g1.trans (Grow.data (a := p) (o := .tup vs) g1.sub g1.reel hp)
  exact h _ (.d (.tuple ds)) _ _ g2 (.tup (.inl (.inl upd_same)) (rs.mono (Grow.data (o := .tup vs) g1.sub g1.reel hp).fs)) trivial q1
theorem own_laid {K : PySem.W.Frag} {F H : Hp} {p : Addr} {vs : List V} {ds : List PyData} (s : Same F H) (ra : RAt rl F H) (hp : H p = none) (rs : Reps K F vs ds) : OwnL K rl F (upd H p (.lst vs)) (.ref p) ds := by
  refine ⟨p, vs, rfl, s.free hp, fun e => ?_, upd_same, rs⟩
  obtain ⟨o, q⟩ := ra.live e
  rw [hp] at q
  cases q
theorem v_lst (h : PVs X rl es fs) : PV X rl (.List es pos) (vLst fs) := by
  obtain ⟨t, p, k⟩ := h
  refine ⟨_, pe_lst p, fun R Qd Q q h => k R _ _ q fun vs ws F1 H1 g1 r1 ⟨ds, e1, z, q1⟩ => ?_⟩
  have rs := dats_rel r1 e1
  refine ⟨by rw [rs.length]; exact z, fun p hp => ?_⟩
  exact h _ (.ml ds) _ _ (g1.trans (Grow.laid (a := p) (o := .lst vs) g1.sub g1.reel hp)) (own_laid g1.sub g1.reel hp rs) (fun a ea => by cases ea; exact g1.freeB hp) q1

/-! subscripts -/
def itemAt : PyData → Int → Option PyData
  | .list xs, i => atI xs i
  | .tuple xs, i => atI xs i
  | _, _ => none
theorem Reps.atI {K : PySem.W.Frag} {F : Hp} {vs : List V} {ds : List PyData} {i : Int} {d : PyData} (r : Reps K F vs ds) (e : L2.atI ds i = some d) : ∃ v, L2.atI vs i = some v ∧ Rep K F v d := by
  unfold L2.atI at e ⊢
  rw [r.length]
  cases q : ixN ds.length i with
  | none => rw [q] at e; cases e
  | some j =>
    rw [q] at e
    exact r.get e
def gIx : W → W → (W → Prop) → Prop := fun x y Q => ∃ dx i z, x.dat = some dx ∧ y = .d (.int i) ∧ itemAt dx i = some z ∧ Q (.d z)
theorem vo_ix : VOp X rl (rIx X.K) gIx := fun {F H x y wx wy} Qd Q s ra r1 r2 q k => by
  obtain ⟨dx, i, z, e1, rfl, e3, q⟩ := q
  have ey := rep_int r2
  subst ey
  cases dx with
  | list xs =>
    obtain ⟨a, vs, rfl, sq, rs⟩ := r1.items s e1
    obtain ⟨v, e4, rz⟩ := Reps.atI rs e3
    exact .inl ⟨a, vs, i, v, rfl, rfl, sq, e4, k _ (.d _) _ _ (Grow.refl s ra) rz trivial q⟩
  | tuple xs =>
    obtain ⟨a, vs, rfl, sq, rs⟩ := r1.itemsT s e1
    obtain ⟨v, e4, rz⟩ := Reps.atI rs e3
    exact .inr (.inl ⟨a, vs, i, v, rfl, rfl, sq, e4, k _ (.d _) _ _ (Grow.refl s ra) rz trivial q⟩)
  | none => cases e3
  | bool b => cases e3
  | int b => cases e3
  | str b => cases e3
  | dict b => cases e3
theorem v_ix (ha : PV X rl a fa) (hb : PV X rl b fb) (hs : PlainIx b := by exact fun _ _ => rfl) : PV X rl (.Subscript a b pos) (vOp gIx fa fb) := vop_of vo_ix ha hb fun _ _ p1 p2 => pe_ix ix_seq p1 p2 hs

/-! lists added -/
def rCatD (K : PySem.W.Frag) : R2 := fun x y H Q => ∃ a b xs ys, x = .ref a ∧ y = .ref b ∧ H a = some (.lst xs) ∧ H b = some (.lst ys) ∧ xs.length + ys.length ≤ sizeLine ∧ ∀ p, H p = none → Q (.ref p) (upd H p (.lst (xs ++ ys)))
def gCat : W → W → (W → Prop) → Prop := fun x y Q => ∃ xs ys, (x = .ml xs ∨ x = .pk xs) ∧ (y = .ml ys ∨ y = .pk ys) ∧ xs.length + ys.length ≤ sizeLine ∧ Q (.ml (xs ++ ys))
theorem vo_cat : VOp X rl rCat gCat := fun {F H x y wx wy} Qd Q s ra r1 r2 q k => by
  obtain ⟨xs, ys, e1, e2, z, q⟩ := q
  have o1 : OwnL X.K rl F H x xs := by rcases e1 with rfl | rfl <;> exact r1
  have o2 : OwnL X.K rl F H y ys := by rcases e2 with rfl | rfl <;> exact r2
  obtain ⟨a, vs, rfl, _, _, h1, q1⟩ := o1
  obtain ⟨b, us, rfl, _, _, h2, q2⟩ := o2
  refine ⟨a, b, vs, us, rfl, rfl, h1, h2, by rw [q1.length, q2.length]; exact z, fun p hp => ?_⟩
  exact k _ (.ml _) _ _ (Grow.laid s ra hp) (own_laid s ra hp (q1.append q2)) (fun a ea => by cases ea; exact hp) q
theorem v_cat (ha : PV X rl a fa) (hb : PV X rl b fb) : PV X rl (.BinOp a .Add b pos) (vOp gCat fa fb) := pv_op op_cat vo_cat ha hb

/-! calls of built-ins -/
def VCall (X : Cx) (rl : Option Addr) (r : List V → Hp → VK → Prop) (g : List W → (W → Prop) → Prop) : Prop := ∀ {F H : Hp} {vs : List V} {ws : List W} (Qd : W → Prop) (Q : VK), Same F H → RAt rl F H → RelWs X.K rl F H vs ws → g ws Qd →
  (∀ v w F' H', Grow rl F H F' H' → RelW X.K rl F' H' v w → NewIn H v w → Qd w → Q v H') → r vs H Q
def vCall (g : List W → (W → Prop) → Prop) (fs : TVs) : TV := fun ρ Q => fs ρ fun ws => g ws Q
theorem vcall_of {r : List V → Hp → VK → Prop} {g : List W → (W → Prop) → Prop} {t : TA → TE} (vc : VCall X rl r g) (ha : PVs X rl es fs) {e : Expr} (hp : ∀ ta, PA X es ta → PE X e (tCB r ta)) : PV X rl e (vCall g fs) := by
  obtain ⟨ta, p1, k1⟩ := ha
  refine ⟨_, hp ta p1, fun R Qd Q q k => k1 R _ _ q fun vs ws F1 H1 g1 r1 q1 => ?_⟩
  exact vc Qd Q g1.sub g1.reel r1 q1 fun v w F2 H2 g2 r2 n2 q2 => k v w F2 H2 (g1.trans g2) r2 (n2.back g1) q2
theorem v_callB {id : String} {x : Str} {r : List V → Hp → VK → Prop} {g : List W → (W → Prop) → Prop} (hc : CallR X (.builtin id) r) (vc : VCall X rl r g) (hm : X.mg x = none) (hv : bootBuiltins x = some (.builtin id)) (ha : PVs X rl (e :: es) fs) (hg : Gl X x := by rfl) (hn : x ≠ "__name__" := by decide) (hdb : (x == ("__debug__" : Str)) = false := by decide)
    (he : starEach (e :: es) X.env = (false, eval e X.env) :: starEach es X.env := by rfl) (hpl : (backTo pos (starEach es X.env)).any (·.1) = false := by rfl) : PV X rl (.Call (.Name x p) (e :: es) [] pos) (vCall g fs) :=
  vcall_of (t := fun _ => tC .non) vc ha fun _ p1 => pe_callB hc hg hm hv p1 hn hdb he hpl
theorem v_callTy {T : String} {x : Str} {r : List V → Hp → VK → Prop} {g : List W → (W → Prop) → Prop} (hc : CallR X (.type T) r) (vc : VCall X rl r g) (hm : X.mg x = none) (hv : bootBuiltins x = some (.type T)) (ha : PVs X rl (e :: es) fs) (hg : Gl X x := by rfl) (hn : x ≠ "__name__" := by decide) (hdb : (x == ("__debug__" : Str)) = false := by decide)
    (he : starEach (e :: es) X.env = (false, eval e X.env) :: starEach es X.env := by rfl) (hpl : (backTo pos (starEach es X.env)).any (·.1) = false := by rfl) : PV X rl (.Call (.Name x p) (e :: es) [] pos) (vCall g fs) :=
  vcall_of (t := fun _ => tC .non) vc ha fun _ p1 => pe_callTy hc hg hm hv p1 hn hdb he hpl
theorem rel1 {K : PySem.W.Frag} {F H : Hp} {vs : List V} {w : W} (r : RelWs K rl F H vs [w]) : ∃ v, vs = [v] ∧ RelW K rl F H v w := by
  cases r with
  | cons r1 r2 => cases r2; exact ⟨_, rfl, r1⟩
theorem rel2 {K : PySem.W.Frag} {F H : Hp} {vs : List V} {w w' : W} (r : RelWs K rl F H vs [w, w']) : ∃ v u, vs = [v, u] ∧ RelW K rl F H v w ∧ RelW K rl F H u w' := by
  cases r with
  | cons r1 r2 =>
    cases r2 with
    | cons r3 r4 => cases r4; exact ⟨_, _, rfl, r1, r3⟩
/-- abs of an int -/
def gAbs : List W → (W → Prop) → Prop := fun ws Q => ∃ i, ws = [.d (.int i)] ∧ Q (.d (.int (if i < 0 then -i else i)))
theorem vc_abs : VCall X rl (fun xs H Q => ∃ i, xs = [.int i] ∧ Q (.int (if i < 0 then -i else i)) H) gAbs := fun {F H vs ws} Qd Q s ra r ⟨i, ew, q⟩ k => by
  subst ew
  obtain ⟨v, rfl, r1⟩ := rel1 r
  have e := rep_int r1
  subst e
  exact ⟨i, rfl, k _ (.d _) _ _ (Grow.refl s ra) (.int _) trivial q⟩
/-- len of a list or tuple -/
def lenD : PyData → Option Nat
  | .list xs => some xs.length
  | .tuple xs => some xs.length
  | _ => none
def gLen : List W → (W → Prop) → Prop := fun ws Q => ∃ w d n, ws = [w] ∧ w.dat = some d ∧ lenD d = some n ∧ Q (.d (.int n))
theorem vc_len : VCall X rl (fun xs H Q => ∃ p ys, xs = [.ref p] ∧ (SqL X.K H p ys ∨ SqT X.K H p ys) ∧ Q (.int ys.length) H) gLen := fun {F H vs ws} Qd Q s ra r ⟨w, d, n, ew, e1, e2, q⟩ k => by
  subst ew
  obtain ⟨v, rfl, r1⟩ := rel1 r
  cases d with
  | list xs =>
    obtain ⟨a, vs, rfl, sq, rs⟩ := r1.items s e1
    cases e2
    exact ⟨a, vs, rfl, .inl sq, k _ (.d _) _ _ (Grow.refl s ra) (by rw [rs.length]; exact .int _) trivial q⟩
  | tuple xs =>
    obtain ⟨a, vs, rfl, sq, rs⟩ := r1.itemsT s e1
    cases e2
    exact ⟨a, vs, rfl, .inr sq, k _ (.d _) _ _ (Grow.refl s ra) (by rw [rs.length]; exact .int _) trivial q⟩
  | none => cases e2
  | bool b => cases e2
  | int b => cases e2
  | str b => cases e2
  | dict b => cases e2
end
end L2.VL

namespace L2.VL
open PySem PySem.Spec PyProof.Rows

structure VEnds where
  nx : En → Prop
  rt : W → Prop
  bk : En → Prop := fun _ => False
  ct : En → Prop := fun _ => False
structure EndsOk (K : PySem.W.Frag) (rl : Option Addr) (F₀ H₀ Fs : Hp) (Dv : VEnds) (D : Ends) : Prop where
  nx : ∀ F H σ ρ, Same Fs F → VR K rl F₀ H₀ F H σ ρ → Dv.nx ρ → D.nx σ H
  rt : ∀ v w F H, Grow rl F₀ H₀ F H → RelW K rl F H v w → NewIn H₀ v w → Dv.rt w → D.rt v H
  bk : ∀ F H σ ρ, Same Fs F → VR K rl F₀ H₀ F H σ ρ → Dv.bk ρ → D.bk σ H
  ct : ∀ F H σ ρ, Same Fs F → VR K rl F₀ H₀ F H σ ρ → Dv.ct ρ → D.ct σ H
theorem EndsOk.on {K : PySem.W.Frag} {rl : Option Addr} {F₀ H₀ Fs F : Hp} {Dv : VEnds} {D : Ends} (ok : EndsOk K rl F₀ H₀ Fs Dv D) (s : Same Fs F) : EndsOk K rl F₀ H₀ F Dv D :=
  ⟨fun F1 H σ ρ s1 => ok.nx F1 H σ ρ (s.trans s1), ok.rt, fun F1 H σ ρ s1 => ok.bk F1 H σ ρ (s.trans s1), fun F1 H σ ρ s1 => ok.ct F1 H σ ρ (s.trans s1)⟩
abbrev TSv := VEnds → En → Prop
def PSV (X : Cx) (rl : Option Addr) (st : Stmt) (t : TSv) : Prop := ∃ T, PS X st T ∧ ∀ {F₀ H₀ F H : Hp} {σ : St} {ρ : En}, VR X.K rl F₀ H₀ F H σ ρ → ∀ Dv D, EndsOk X.K rl F₀ H₀ F Dv D → t Dv ρ → T D σ H
def PSsV (X : Cx) (rl : Option Addr) (st : List Stmt) (t : TSv) : Prop := ∃ T, PSs X st T ∧ ∀ {F₀ H₀ F H : Hp} {σ : St} {ρ : En}, VR X.K rl F₀ H₀ F H σ ρ → ∀ Dv D, EndsOk X.K rl F₀ H₀ F Dv D → t Dv ρ → T D σ H

section
variable {X : Cx} {rl : Option Addr} {st : Stmt} {rest body : List Stmt} {t u : TSv} {a b c e : Expr} {es : List Expr} {fa fb : TV} {fs : TVs} {f : TB} {pos p : Pos}
def vNext : TSv := fun D ρ => D.nx ρ
def vSeq (t u : TSv) : TSv := fun D ρ => t { D with nx := u D } ρ
theorem vs_nil : PSsV X rl [] vNext := ⟨_, pss_nil, fun R Dv D ok q => ok.nx _ _ _ _ (.refl _) R q⟩
theorem vs_one (h : PSV X rl st t) : PSsV X rl [st] t := let ⟨T, p, k⟩ := h; ⟨T, pss_one p, k⟩
theorem vs_cons (h : PSV X rl st t) (h2 : PSsV X rl rest u) : PSsV X rl (st :: rest) (vSeq t u) := by
  obtain ⟨T, p, k⟩ := h
  obtain ⟨T2, p2, k2⟩ := h2
  exact ⟨_, pss_cons p p2, fun R Dv D ok q => k R { Dv with nx := u Dv } { D with nx := T2 D } ⟨fun F H σ ρ s' R' q' => k2 R' Dv D (ok.on s') q', ok.rt, ok.bk, ok.ct⟩ q⟩
theorem vs_pass : PSV X rl (.Pass pos) vNext := ⟨_, ps_pass, fun R Dv D ok q => ok.nx _ _ _ _ (.refl _) R q⟩
def vDrop (fa : TV) : TSv := fun D ρ => fa ρ fun _ => D.nx ρ
theorem vs_expr (h : PV X rl e fa) (hs : swapsWith e none pos.line X.env = pure false := by rfl) : PSV X rl (.Expr e pos) (vDrop fa) := by
  obtain ⟨t, p, k⟩ := h
  exact ⟨_, ps_expr p hs, fun R Dv D ok q => k R _ _ q fun v w F1 H1 g1 r1 n1 q1 => ok.nx _ _ _ _ g1.fs (R.grow g1) q1⟩
def vRet (fa : TV) : TSv := fun D ρ => fa ρ D.rt
theorem vs_ret (h : PV X rl e fa) : PSV X rl (.Return (some e) pos) (vRet fa) := by
  obtain ⟨t, p, k⟩ := h
  exact ⟨_, ps_ret p, fun R Dv D ok q => k R _ _ q fun v w F1 H1 g1 r1 n1 q1 => ok.rt v w F1 H1 (R.g.trans g1) r1 (n1.back R.g) q1⟩
def vRetN : TSv := fun D _ => D.rt (.d .none)
theorem vs_retN : PSV X rl (.Return none pos) vRetN := ⟨_, ps_retN, fun R Dv D ok q => ok.rt .non (.d .none) _ _ R.g .non trivial q⟩
def vIfS (f : TB) (t u : TSv) : TSv := fun D ρ => f ρ fun b => if b = true then t D ρ else u D ρ
theorem vs_if {A B : List Stmt} (hc : PB X rl c f) (ha : PSsV X rl A t) (hb : PSsV X rl B u) : PSV X rl (.If c A B pos) (vIfS f t u) := by
  obtain ⟨t0, p0, k0⟩ := hc
  obtain ⟨t1, p1, k1⟩ := ha
  obtain ⟨t2, p2, k2⟩ := hb
  refine ⟨_, ps_if p0 p1 p2, fun R Dv D ok q => k0 R _ _ q fun b F1 H1 g1 q1 => ?_⟩
  cases b with
  | true => exact k1 (R.grow g1) Dv D (ok.on g1.fs) q1
  | false => exact k2 (R.grow g1) Dv D (ok.on g1.fs) q1
/-- code that the proof never comes to -/
theorem vs_never : PSV X rl st (fun _ _ => False) := ⟨_, ps_never, fun _ _ _ _ q => q.elim⟩
theorem vss_never : PSsV X rl body (fun _ _ => False) := ⟨_, pss_never, fun _ _ _ _ q => q.elim⟩
/-! name = e -/
def W.isPk : W → Bool
  | .pk _ => true
  | _ => false
def vSet (i : Nat) (fa : TV) : TSv := fun D ρ => fa ρ fun w => w.isPk = false ∧ D.nx (ρ.set i (some w))
theorem vs_set (i : Nat) {x : Str} {pos' : Pos} (hN : X.N.Nodup) (he : PV X rl e fa) (hi : X.N[i]? = some x := by rfl) (hx : Loc X.env.scope x := by first | exact Or.inl rfl | exact Or.inr rfl)
    (hs : swapsWith e (some (.Name x pos')) pos.line X.env = pure false := by rfl) (hf : X.fn x = true ∨ X.env.scope.names.lookup x = some .local := by first | exact .inl rfl | exact .inr rfl) :
    PSV X rl (.Assign [.Name x pos'] e pos) (vSet i fa) := by
  obtain ⟨t, p, k⟩ := he
  refine ⟨_, ps_set hN hi hx p hs hf, fun R Dv D ok q => k R _ _ q fun v w F1 H1 g1 r1 n1 ⟨hp, q1⟩ => ?_⟩
  exact ok.nx _ _ _ _ g1.fs (R.set g1 r1 n1 (fun xs z => by subst z; cases hp) i) q1

/-! targets -/
def NoMl (ρ : En) : Prop := ∀ (i : Nat) (w : W), ρ[i]? = some (some w) → w.own = false
theorem NoMl.set {ρ : En} (h : NoMl ρ) (i : Nat) (x : PyData) : NoMl (ρ.set i (some (.d x))) := fun j w z => by
  rw [List.getElem?_set] at z
  split at z
  · split at z
    · cases z; rfl
    · cases z
  · exact h j w z
abbrev TGv := PyData → En → (En → Prop) → Prop
abbrev TGvs := List PyData → En → (En → Prop) → Prop
def PGV (X : Cx) (rl : Option Addr) (tg : Expr) (g : TGv) : Prop := ∃ G, PG X tg G ∧ ∀ {F₀ H₀ F H : Hp} {σ : St} {ρ : En}, VR X.K rl F₀ H₀ F H σ ρ → ∀ (v : V) (x : PyData) (Qd : En → Prop) (Q : St → Hp → Prop), Rep X.K F v x → g x ρ Qd →
  (∀ F' H' σ' ρ', Grow rl F H F' H' → (NoMl ρ → NoMl ρ') → VR X.K rl F₀ H₀ F' H' σ' ρ' → Qd ρ' → Q σ' H') → G v σ H Q
def PGVs (X : Cx) (rl : Option Addr) (tgs : List Expr) (g : TGvs) : Prop := ∃ G, PGs X tgs G ∧ ∀ {F₀ H₀ F H : Hp} {σ : St} {ρ : En}, VR X.K rl F₀ H₀ F H σ ρ → ∀ (vs : List V) (xs : List PyData) (Qd : En → Prop) (Q : St → Hp → Prop), Reps X.K F vs xs → g xs ρ Qd →
  (∀ F' H' σ' ρ', Grow rl F H F' H' → (NoMl ρ → NoMl ρ') → VR X.K rl F₀ H₀ F' H' σ' ρ' → Qd ρ' → Q σ' H') → G vs σ H Q
def hName (i : Nat) : TGv := fun x ρ Q => Q (ρ.set i (some (.d x)))
theorem vg_name (i : Nat) {x : Str} (hN : X.N.Nodup) (hi : X.N[i]? = some x := by rfl) (hx : Loc X.env.scope x := by first | exact Or.inl rfl | exact Or.inr rfl) (hf : X.fn x = true ∨ X.env.scope.names.lookup x = some .local := by first | exact .inl rfl | exact .inr rfl) : PGV X rl (.Name x pos) (hName i) :=
  ⟨_, pg_name hN hi hx hf, fun R v x Qd Q r q k => k _ _ _ _ (Grow.refl R.sub R.reel) (fun n => n.set i x) (R.set (w := .d x) (Grow.refl R.sub R.reel) r trivial (fun _ z => by cases z) i) q⟩
def hNil : TGvs := fun xs ρ Q => xs = [] ∧ Q ρ
def hCons (g : TGv) (gs : TGvs) : TGvs := fun xs ρ Q => ∃ y r, xs = y :: r ∧ g y ρ fun ρ' => gs r ρ' Q
theorem vgs_nil : PGVs X rl [] hNil := ⟨_, pgs_nil, fun R vs xs Qd Q r ⟨e, q⟩ k => by subst e; exact ⟨r.nil_iff, k _ _ _ _ (Grow.refl R.sub R.reel) (fun n => n) R q⟩⟩
theorem vgs_cons {g : TGv} {gs : TGvs} (h1 : PGV X rl e g) (h2 : PGVs X rl es gs) (hs : (assignEach (e :: es) X.env).map (·.2) = assign e X.env :: (assignEach es X.env).map (·.2) := by rfl) : PGVs X rl (e :: es) (hCons g gs) := by
  obtain ⟨G, p, k⟩ := h1
  obtain ⟨G2, p2, k2⟩ := h2
  refine ⟨_, pgs_cons p p2 hs, fun R vs xs Qd Q r ⟨y, ys, ex, q⟩ h => ?_⟩
  subst ex
  cases r with
  | cons r1 r2 =>
    refine ⟨_, _, rfl, k R _ y _ _ r1 q fun F1 H1 σ1 ρ1 s1 n1 R1 q1 => ?_⟩
    exact k2 R1 _ ys _ _ (r2.mono s1.fs) q1 fun F2 H2 σ2 ρ2 s2 n2 R2 q2 => h F2 H2 σ2 ρ2 (s1.trans s2) (fun n => n2 (n1 n)) R2 q2
def hTup (n : Nat) (gs : TGvs) : TGv := fun x ρ Q => ∃ xs, x = .tuple xs ∧ xs.length = n ∧ gs xs ρ Q
theorem vg_tup {kk : Nat} {gs : TGvs} {n : Nat} (hc : X.calm = true) (h : PGVs X rl es gs) (hn : (assignEach es X.env).length = n := by rfl) (hst : (assignEach es X.env).findIdx? (·.1) = none := by rfl) : PGV X rl (.Tuple es kk pos) (hTup n gs) := by
  obtain ⟨G, p, k⟩ := h
  refine ⟨_, pg_tup hc p hn hst, fun R v x Qd Q r ⟨xs, ex, hl, q⟩ h => ?_⟩
  subst ex
  cases r with
  | tup sq rs => exact ⟨_, _, rfl, sameT R.sub sq, by rw [rs.length]; exact hl, k R _ xs _ _ rs q h⟩
/-! target = data -/
def vAsg (fa : TV) (g : TGv) : TSv := fun D ρ => fa ρ fun w => ∃ x, w = .d x ∧ g x ρ D.nx
theorem vs_asg {tg : Expr} {g : TGv} (he : PV X rl e fa) (hg : PGV X rl tg g) (hs : swapsWithSole [tg] e pos.line X.env = pure false := by rfl) (hw : swappedStores [tg] e X.env = pure none := by rfl)
    (h1 : (assignEach [tg] X.env).map (·.2) = [assign tg X.env] := by rfl) : PSV X rl (.Assign [tg] e pos) (vAsg fa g) := by
  obtain ⟨t, p, k⟩ := he
  obtain ⟨G, p2, k2⟩ := hg
  refine ⟨_, ps_asg p p2 hs hw h1, fun R Dv D ok q => k R _ _ q fun v w F1 H1 g1 r1 n1 ⟨x, ew, q1⟩ => ?_⟩
  subst ew
  exact k2 (R.grow g1) v x _ _ r1 q1 fun F2 H2 σ2 ρ2 s2 n2 R2 q2 => ok.nx _ _ _ _ (g1.fs.trans s2.fs) R2 q2
/-! x, y = a, b -/
def vPar (i j : Nat) (fs : TVs) : TSv := fun D ρ => fs ρ fun ws => ∃ x y, dats ws = some [x, y] ∧ D.nx ((ρ.set i (some (.d x))).set j (some (.d y)))
theorem vs_par (i j : Nat) {x y : Str} {px py pt : Pos} {kt k2 pt2} (hc : X.calm = true) (hN : X.N.Nodup) (ha : PVs X rl [a, b] fs)
    (hw : swappedStores [.Tuple [.Name x px, .Name y py] kt pt] (.Tuple [a, b] k2 pt2) X.env = pure (some [x, y]) := by rfl) (hi : X.N[i]? = some x := by rfl) (hj : X.N[j]? = some y := by rfl) (hij : i ≠ j := by decide)
    (hx : X.env.scope.names.lookup x = some .local := by rfl) (hy : X.env.scope.names.lookup y = some .local := by rfl)
    (hs : swapsWithSole [.Tuple [.Name x px, .Name y py] kt pt] (.Tuple [a, b] k2 pt2) pos.line X.env = pure false := by rfl) :
    PSV X rl (.Assign [.Tuple [.Name x px, .Name y py] kt pt] (.Tuple [a, b] k2 pt2) pos) (vPar i j fs) := by
  obtain ⟨t, p, k⟩ := ha
  refine ⟨_, ps_par hc hN hi hj hij hx hy p hw hs, fun R Dv D ok q => k R _ _ q fun vs ws F1 H1 g1 r1 ⟨x, y, e1, q1⟩ => ?_⟩
  have rs := dats_rel r1 e1
  cases rs with
  | cons rx rs =>
    cases rs with
    | cons ry rs =>
      cases rs
      have R1 := (R.grow g1).set (w := .d x) (Grow.refl g1.sub g1.reel) rx trivial (fun _ z => by cases z) i
      exact ⟨_, _, rfl, ok.nx _ _ _ _ g1.fs (R1.set (w := .d y) (Grow.refl g1.sub g1.reel) ry trivial (fun _ z => by cases z) j) q1⟩

/-! while -/
def vWhile (f : TB) (t : TSv) : TSv := fun D ρ => ∃ J : Nat → En → Prop, (∃ m, J m ρ) ∧ ∀ m ρ, J m ρ → f ρ fun b => if b = true then t { D with nx := fun ρ' => ∃ m', m' < m ∧ J m' ρ', ct := fun ρ' => ∃ m', m' < m ∧ J m' ρ', bk := D.nx } ρ else D.nx ρ
theorem vs_while (hp : PassesOwn (model X.prog X.w) X.A X.env X.xe) (hc : PB X rl c f) (hb : PSsV X rl body t) : PSV X rl (.While c body [] pos) (vWhile f t) := by
  obtain ⟨t0, p0, k0⟩ := hc
  obtain ⟨t1, p1, k1⟩ := hb
  refine ⟨_, ps_while hp p0 p1, fun {F₀ H₀ F H σ ρ} R Dv D ok q => ?_⟩
  obtain ⟨J, ⟨m, j0⟩, turn⟩ := q
  refine ⟨fun m σ' H' => ∃ F' ρ', Same F F' ∧ VR X.K rl F₀ H₀ F' H' σ' ρ' ∧ J m ρ', ⟨m, F, ρ, .refl _, R, j0⟩, ?_⟩
  rintro m σ2 H2 ⟨F2, ρ2, s2, R2, j⟩
  refine k0 R2 _ _ (turn m ρ2 j) fun b F1 H1 g1 q1 => ?_
  cases b with
  | false => exact ok.nx _ _ _ _ (s2.trans g1.fs) (R2.grow g1) q1
  | true =>
    refine ⟨fun σ' H' => ∃ F' ρ', Same F F' ∧ VR X.K rl F₀ H₀ F' H' σ' ρ' ∧ ∃ m', m' < m ∧ J m' ρ', fun σ' H' ⟨F', ρ', s', R', m', hm, j⟩ => ⟨m', hm, F', ρ', s', R', j⟩, ?_⟩
    exact k1 (R2.grow g1) { Dv with nx := fun ρ' => ∃ m', m' < m ∧ J m' ρ', ct := fun ρ' => ∃ m', m' < m ∧ J m' ρ', bk := Dv.nx } _
      ⟨fun F3 H3 σ3 ρ3 s3 R3 q3 => ⟨F3, ρ3, (s2.trans g1.fs).trans s3, R3, q3⟩, ok.rt, fun F3 H3 σ3 ρ3 s3 R3 q3 => ok.nx _ _ _ _ ((s2.trans g1.fs).trans s3) R3 q3, fun F3 H3 σ3 ρ3 s3 R3 q3 => ⟨F3, ρ3, (s2.trans g1.fs).trans s3, R3, q3⟩⟩ q1

/-! for -/
/-- over items that are data -/
def vLoop (xs : List PyData) (g : TGv) (t : TSv) : TSv := fun D ρ => ∃ J : Nat → En → Prop, J 0 ρ ∧ (∀ i x ρ, xs[i]? = some x → J i ρ → g x ρ fun ρ2 => t { D with nx := J (i + 1), ct := J (i + 1), bk := D.nx } ρ2) ∧ ∀ ρ, J xs.length ρ → D.nx ρ
/-- the iterable: a list or a tuple of data -/
def vItr (fa : TV) (k : List PyData → En → Prop) : En → Prop := fun ρ => fa ρ fun w => ∃ xs, (w.fz = .d (.list xs) ∨ w.fz = .d (.tuple xs)) ∧ k xs ρ
/-- what a loop's head gives: J.go and J.stop by items -/
structure VIt (K : PySem.W.Frag) (rl : Option Addr) (F : Hp) (J : It) (xs : List PyData) : Prop where
  go : ∀ i H x, xs[i]? = some x → Same F H → J.go i H
  stop : ∀ i H, xs.length ≤ i → Same F H → J.stop i H
  yld : ∀ i H v H' x F2, xs[i]? = some x → Same F F2 → Same F2 H → RAt rl F2 H → J.yld i H v H' → ∃ F3, Grow rl F2 H F3 H' ∧ Rep K F3 v x
/-- .. that makes nothing new -/
theorem VIt.of {K : PySem.W.Frag} {rl : Option Addr} {F : Hp} {J : It} {xs : List PyData} (go : ∀ i H x, xs[i]? = some x → Same F H → J.go i H) (stop : ∀ i H, xs.length ≤ i → Same F H → J.stop i H)
    (yld : ∀ i H v H' x, xs[i]? = some x → Same F H → J.yld i H v H' → H' = H ∧ Rep K F v x) : VIt K rl F J xs :=
  ⟨go, stop, fun i H v H' x F2 e s s2 ra y => by
    obtain ⟨e1, r⟩ := yld i H v H' x e (s.trans s2) y
    subst e1
    exact ⟨F2, Grow.refl s2 ra, r.mono s⟩⟩
def PIV (X : Cx) (rl : Option Addr) (tg iter : Expr) (fi : En → (List PyData → Prop) → Prop) : Prop := ∃ wi, PI X tg iter wi ∧ ∀ {F₀ H₀ F H : Hp} {σ : St} {ρ : En}, VR X.K rl F₀ H₀ F H σ ρ → ∀ (Qd : List PyData → Prop) (R : It → Hp → Prop), fi ρ Qd →
  (∀ J xs F' H', Grow rl F H F' H' → VIt X.K rl F' J xs → Qd xs → R J H') → wi σ H R
def vFor (fi : En → (List PyData → Prop) → Prop) (g : TGv) (t : TSv) : TSv := fun D ρ => fi ρ fun xs => vLoop xs g t D ρ
theorem vs_for {tg iter : Expr} {fi : En → (List PyData → Prop) → Prop} {g : TGv} (hp : PassesOwn (model X.prog X.w) X.A X.env X.xe) (hc : X.calm = true) (hi : PIV X rl tg iter fi) (hg : PGV X rl tg g) (hb : PSsV X rl body t)
    (hs : ∀ x, foldedSetIterable iter X.env x = pure x := by intro _; rfl) : PSV X rl (.For tg iter body [] pos) (vFor fi g t) := by
  obtain ⟨wi, p0, k0⟩ := hi
  obtain ⟨G, p1, k1⟩ := hg
  obtain ⟨T, p2, k2⟩ := hb
  refine ⟨_, ps_for hp hc p0 p1 p2 hs, fun {F₀ H₀ F H σ ρ} R Dv D ok q => k0 R _ _ q fun J xs F1 H1 g1 vi ⟨Jv, j0, turn, fin⟩ => ?_⟩
  refine ⟨fun i m σ H => m = xs.length - i ∧ i ≤ xs.length ∧ ∃ F ρ, Same F1 F ∧ VR X.K rl F₀ H₀ F H σ ρ ∧ Jv i ρ, ⟨xs.length, by simp, Nat.zero_le _, F1, ρ, .refl _, R.grow g1, j0⟩, ?_⟩
  rintro i m σ H ⟨rfl, hi, F2, ρ2, s2, R2, j2⟩
  have sH : Same F1 H := s2.trans R2.sub
  by_cases hlt : i < xs.length
  · have ei : xs[i]? = some xs[i] := by simp [hlt]
    refine .inr ⟨vi.go i H _ ei sH, fun σ' H' => ∃ F ρ, Same F1 F ∧ VR X.K rl F₀ H₀ F H' σ' ρ ∧ Jv (i + 1) ρ, fun σ' H' z => ⟨xs.length - (i + 1), by omega, rfl, hlt, z⟩, fun v H' y => ?_⟩
    obtain ⟨Fy, gy, rv⟩ := vi.yld i H v H' _ F2 ei s2 R2.sub R2.reel y
    refine k1 (R2.grow gy) v _ _ _ rv (turn i _ ρ2 ei j2) fun F3 H3 σ3 ρ3 s3 n3 R3 q3 => ?_
    have s13 : Same F1 F3 := s2.trans (gy.fs.trans s3.fs)
    exact k2 R3 { Dv with nx := fun ρ => Jv (i + 1) ρ, ct := fun ρ => Jv (i + 1) ρ, bk := Dv.nx } _
      ⟨fun F4 H4 σ4 ρ4 s4 R4 q4 => ⟨F4, ρ4, s13.trans s4, R4, q4⟩, ok.rt, fun F4 H4 σ4 ρ4 s4 R4 q4 => ok.nx _ _ _ _ (g1.fs.trans (s13.trans s4)) R4 q4, fun F4 H4 σ4 ρ4 s4 R4 q4 => ⟨F4, ρ4, s13.trans s4, R4, q4⟩⟩ q3
  · have e : i = xs.length := by omega
    subst e
    exact .inl ⟨vi.stop _ H (Nat.le_refl _) sH, ok.nx _ _ _ _ (g1.fs.trans s2) R2 (fin ρ2 j2)⟩
end
end L2.VL

namespace L2.VL
open PySem PySem.Spec PyProof.Rows

section
variable {X : Cx} {rl : Option Addr} {st : Stmt} {rest body : List Stmt} {t u : TSv} {a b c e : Expr} {es : List Expr} {fa fb : TV} {fs : TVs} {f : TB} {pos p : Pos} {tg : Expr}
/-- an own list becomes data from here on -/
def vFrz (i : Nat) (t : TSv) : TSv := fun D ρ => ∃ xs, ρ[i]? = some (some (.ml xs)) ∧ t D (ρ.set i (some (.d (.list xs))))
theorem frz_same {K : PySem.W.Frag} {F₀ H₀ F H : Hp} {σ : St} {ρ : En} (r : VR K rl F₀ H₀ F H σ ρ) {i : Nat} {xs : List PyData} (e : ρ[i]? = some (some (.ml xs))) : ∃ F1, Same F F1 ∧ VR K rl F₀ H₀ F1 H σ (ρ.set i (some (.d (.list xs)))) := by
  obtain ⟨v, h1, h2, h3⟩ := r.sl i _ e
  obtain ⟨a, vs, ev, f, hr, hh, q⟩ := (show OwnL K rl F H v xs from h2)
  obtain ⟨F1, R1⟩ := r.freeze e
  obtain ⟨v', k1, k2, k3⟩ := R1.sl i _ (List.getElem?_set_self (List.getElem?_eq_some_iff.mp e).1)
  -- the frozen part of freeze's proof is upd F a ..; taken again here, openly
  have neF : ∀ b u, F b = some u → b ≠ a := fun b u q z => by subst z; rw [f] at q; cases q
  have fsm : Same F (upd F a (.lst vs)) := fun b u z => by rw [upd_ne (neF b u z)]; exact z
  have hi : i < ρ.length := (List.getElem?_eq_some_iff.mp e).1
  refine ⟨upd F a (.lst vs), fsm, r.g.freeze (h3 a ev) hh f hr, fun j w e1 => ?_, R1.ap, R1.np, R1.len⟩
  by_cases hj : i = j
  · subst hj
    rw [List.getElem?_set_self hi] at e1
    cases e1
    exact ⟨v, h1, by rw [ev]; exact .lst upd_same (q.mono fsm), trivial⟩
  · rw [List.getElem?_set_ne hj] at e1
    obtain ⟨u, g1, g2, g3⟩ := r.sl j w e1
    refine ⟨u, g1, ?_, g3⟩
    cases w with
    | d x => exact Rep.mono fsm g2
    | reel => exact g2
    | vv u => exact g2
    | ml ys =>
      obtain ⟨b, us, eb, f1, f2, f3, f4⟩ := (show OwnL K rl F H u ys from g2)
      have ne : b ≠ a := fun z => r.ap i j _ _ v hj e e1 rfl rfl h1 (by rw [g1, eb, z, ev])
      exact ⟨b, us, eb, by rw [upd_ne ne]; exact f1, f2, f3, f4.mono fsm⟩
    | pk ys => exact absurd e1 (r.np j ys)
    | md ys =>
      obtain ⟨b, us, eb, f1, f2, f3, f4⟩ := (show OwnD K rl F H u ys from g2)
      have ne : b ≠ a := fun z => r.ap i j _ _ v hj e e1 rfl rfl h1 (by rw [g1, eb, z, ev])
      exact ⟨b, us, eb, by rw [upd_ne ne]; exact f1, f2, f3, Paired.mapP f4 fun _ _ z => ⟨z.1, z.2.mono fsm⟩⟩
    | nt ds => obtain ⟨b, us, eb, f1, f2⟩ := g2; exact ⟨b, us, eb, fsm _ _ f1, f2.mono fsm⟩
    | lk => trivial
theorem vss_frz (i : Nat) (h : PSsV X rl body t) : PSsV X rl body (vFrz i t) := by
  obtain ⟨T, p, k⟩ := h
  refine ⟨T, p, fun R Dv D ok ⟨xs, e, q⟩ => ?_⟩
  obtain ⟨F1, s1, R1⟩ := frz_same R e
  exact k R1 Dv D (ok.on s1) q
theorem vs_frz (i : Nat) (h : PSV X rl st t) : PSV X rl st (vFrz i t) := by
  obtain ⟨T, p, k⟩ := h
  refine ⟨T, p, fun R Dv D ok ⟨xs, e, q⟩ => ?_⟩
  obtain ⟨F1, s1, R1⟩ := frz_same R e
  exact k R1 Dv D (ok.on s1) q

/-! what a loop walks -/
def iL (fa : TV) : En → (List PyData → Prop) → Prop := fun ρ Q => fa ρ fun w => ∃ xs, w.fz = .d (.list xs) ∧ Q xs
def iT (fa : TV) : En → (List PyData → Prop) → Prop := fun ρ Q => fa ρ fun w => ∃ xs, w.fz = .d (.tuple xs) ∧ Q xs
theorem vi_list {l : Expr} (hl : PV X rl l fa) : PIV X rl tg l (iL fa) := by
  obtain ⟨t, p, k⟩ := hl
  refine ⟨_, pi_list p, fun R Qd Q q h => k R _ _ q fun v w F1 H1 g1 r1 n1 ⟨xs, ew, q1⟩ => ?_⟩
  obtain ⟨F2, g2, s2, r2⟩ := RelW.fz g1 r1 n1
  rw [ew] at r2
  cases (show Rep X.K F2 v (.list xs) from r2) with
  | @lst a vs _ sq rs =>
    have sqH : ∀ H, Same F2 H → SqL X.K H a vs := fun H s => .inl (.inl (s _ _ sq))
    refine ⟨a, rfl, ⟨vs, sqH H1 g2.sub⟩, h _ xs F2 H1 g2 (.of (fun i H x e s => ?_) (fun i H hl s => ⟨vs, sqH H s, by rw [rs.length]; exact hl⟩) (fun i H v H' x e s y => ?_)) q1⟩
    · obtain ⟨v, ev, _⟩ := rs.get e
      exact ⟨vs, v, sqH H s, ev⟩
    · obtain ⟨e', hy⟩ := y
      obtain ⟨v', ev, rv⟩ := rs.get e
      have := hy vs (sqH H s)
      rw [ev] at this
      cases this
      exact ⟨e', rv⟩
theorem vi_tup {l : Expr} (hl : PV X rl l fa) : PIV X rl tg l (iT fa) := by
  obtain ⟨t, p, k⟩ := hl
  refine ⟨_, pi_tup p, fun R Qd Q q h => k R _ _ q fun v w F1 H1 g1 r1 n1 ⟨xs, ew, q1⟩ => ?_⟩
  obtain ⟨F2, g2, s2, r2⟩ := RelW.fz g1 r1 n1
  rw [ew] at r2
  cases (show Rep X.K F2 v (.tuple xs) from r2) with
  | @tup a vs _ sq rs =>
    have sqH : ∀ H, Same F2 H → SqT X.K H a vs := fun H s => sameT s sq
    refine ⟨a, rfl, ⟨vs, sqH H1 g2.sub⟩, h _ xs F2 H1 g2 (.of (fun i H x e s => ?_) (fun i H hl s => ⟨vs, sqH H s, by rw [rs.length]; exact hl⟩) (fun i H v H' x e s y => ?_)) q1⟩
    · obtain ⟨v, ev, _⟩ := rs.get e
      exact ⟨vs, v, sqH H s, ev⟩
    · obtain ⟨e', hy⟩ := y
      obtain ⟨v', ev, rv⟩ := rs.get e
      have := hy vs (sqH H s)
      rw [ev] at this
      cases this
      exact ⟨e', rv⟩
def rangeD (lo : Int) (n : Nat) : List PyData := (List.range n).map fun (i : Nat) => .int (lo + i)
theorem rangeD_get {lo : Int} {n i : Nat} {x : PyData} (h : (rangeD lo n)[i]? = some x) : i < n ∧ x = .int (lo + i) := by
  unfold rangeD at h
  rw [List.getElem?_map] at h
  by_cases hi : i < n
  · rw [List.getElem?_eq_getElem (by simpa using hi)] at h
    simp at h
    exact ⟨hi, h.symm⟩
  · rw [List.getElem?_eq_none (by simpa using hi)] at h
    cases h
theorem rangeD_length {lo : Int} {n : Nat} : (rangeD lo n).length = n := by simp [rangeD]
theorem vit_range {K : PySem.W.Frag} {F : Hp} (lo : Int) (n : Nat) : VIt K rl F (Itr lo n) (rangeD lo n) :=
  .of (fun i H x e s => (rangeD_get e).1) (fun i H hl s => by rw [rangeD_length] at hl; exact hl) (fun i H v H' x e s y => by
    obtain ⟨e1, e2⟩ := y
    subst e2
    rw [(rangeD_get e).2]
    exact ⟨e1, .int _⟩)
def iR1 (fs : TVs) : En → (List PyData → Prop) → Prop := fun ρ Q => fs ρ fun ws => ∃ j : Int, ws = [.d (.int j)] ∧ (-(2 ^ 62) ≤ j ∧ j < 2 ^ 62) ∧ Q (rangeD 0 j.toNat)
def iR2 (fs : TVs) : En → (List PyData → Prop) → Prop := fun ρ Q => fs ρ fun ws => ∃ i j : Int, ws = [.d (.int i), .d (.int j)] ∧ (-(2 ^ 62) ≤ i ∧ i < 2 ^ 62 ∧ -(2 ^ 62) ≤ j ∧ j < 2 ^ 62) ∧ Q (rangeD i (j - i).toNat)
theorem vi_range1 (hm : X.mg "range" = none) (ha : PVs X rl [a] fs) (hg : Gl X "range" := by rfl) (hs : starEach [a] X.env = [(false, eval a X.env)] := by rfl) : PIV X rl tg (.Call (.Name "range" p) [a] [] pos) (iR1 fs) := by
  obtain ⟨t, p1, k⟩ := ha
  refine ⟨_, pi_range1 hg hm p1 hs, fun R Qd Q q h => k R _ _ q fun vs ws F1 H1 g1 r1 ⟨j, ew, b, q1⟩ => ?_⟩
  subst ew
  obtain ⟨v, rfl, rv⟩ := rel1 r1
  have e := rep_int rv
  subst e
  exact ⟨j, rfl, b.1, b.2, h _ _ F1 H1 g1 (vit_range 0 _) q1⟩
theorem vi_range2 (hm : X.mg "range" = none) (ha : PVs X rl [a, b] fs) (hg : Gl X "range" := by rfl) (hs : starEach [a, b] X.env = [(false, eval a X.env), (false, eval b X.env)] := by rfl) (hs2 : starEach [b] X.env = [(false, eval b X.env)] := by rfl) : PIV X rl tg (.Call (.Name "range" p) [a, b] [] pos) (iR2 fs) := by
  obtain ⟨t, p1, k⟩ := ha
  refine ⟨_, pi_range2 hg hm p1 hs hs2, fun R Qd Q q h => k R _ _ q fun vs ws F1 H1 g1 r1 ⟨i, j, ew, b, q1⟩ => ?_⟩
  subst ew
  obtain ⟨v, u, rfl, rv, ru⟩ := rel2 r1
  have e := rep_int rv
  have e' := rep_int ru
  subst e e'
  exact ⟨i, j, rfl, b, h _ _ F1 H1 g1 (vit_range i _) q1⟩

/-! an own list changed -/
theorem VR.own {K : PySem.W.Frag} {F₀ H₀ F H : Hp} {σ : St} {ρ : En} (r : VR K rl F₀ H₀ F H σ ρ) {i : Nat} {xs ys : List PyData} {a : Addr} {us : List V} (e : ρ[i]? = some (some (.ml xs))) (es : σ[i]? = some (some (.ref a))) (rs : Reps K F us ys) :
    VR K rl F₀ H₀ F (upd H a (.lst us)) σ (ρ.set i (some (.ml ys))) := by
  obtain ⟨v, h1, h2, h3⟩ := r.sl i _ e
  rw [es] at h1
  cases h1
  obtain ⟨a', vs, ev, f, hr, hh, q⟩ := (show OwnL K rl F H (.ref a) xs from h2)
  cases ev
  have n0 : H₀ a = none := h3 a rfl
  have hi : i < ρ.length := (List.getElem?_eq_some_iff.mp e).1
  have neF : ∀ b u, F b = some u → b ≠ a := fun b u q z => by subst z; rw [f] at q; cases q
  have g : Grow rl F₀ H₀ F (upd H a (.lst us)) := by
    refine ⟨fun b o q1 n => by rw [upd_ne (ne_of_none q1 n0)]; exact r.g.same b o q1 n, r.g.fs, fun b o q1 => by rw [upd_ne (neF b o q1)]; exact r.sub b o q1, r.g.old, fun y z => ?_⟩
    obtain ⟨z1, ⟨u, h1, h2⟩⟩ := r.reel y z
    exact ⟨z1, ⟨u, by rw [upd_ne (fun q => hr (by rw [← q]; exact z))]; exact h1, h2⟩⟩
  refine ⟨g, fun j w e1 => ?_, fun j k ys' zs u hjk e1 e2 w1 w2 s1 s2 => ?_, fun j ys' z => ?_, by simp [r.len]⟩
  · by_cases hj : i = j
    · subst hj
      rw [List.getElem?_set_self hi] at e1
      cases e1
      exact ⟨_, es, ⟨a, us, rfl, f, hr, upd_same, rs⟩, h3⟩
    · rw [List.getElem?_set_ne hj] at e1
      obtain ⟨u, g1, g2, g3⟩ := r.sl j w e1
      refine ⟨u, g1, ?_, g3⟩
      cases w with
      | d x => exact g2
      | reel => exact g2
      | vv u => exact g2
      | ml zs =>
        obtain ⟨b, us', eb, f1, f2, f3, f4⟩ := (show OwnL K rl F H u zs from g2)
        have ne : b ≠ a := fun z => r.ap i j _ _ (.ref a) hj e e1 rfl rfl es (by rw [g1, eb, z])
        exact ⟨b, us', eb, f1, f2, by rw [upd_ne ne]; exact f3, f4⟩
      | pk zs => exact absurd e1 (r.np j zs)
      | md zs =>
        obtain ⟨b, us', eb, f1, f2, f3, f4⟩ := (show OwnD K rl F H u zs from g2)
        have ne : b ≠ a := fun z => r.ap i j _ _ (.ref a) hj e e1 rfl rfl es (by rw [g1, eb, z])
        exact ⟨b, us', eb, f1, f2, by rw [upd_ne ne]; exact f3, f4⟩
      | nt ds => exact g2
      | lk => trivial
  · have nd : ∀ (j : Nat) (z : W), (ρ.set i (some (W.ml ys)))[j]? = some (some z) → z.own = true → ∃ z', ρ[j]? = some (some z') ∧ z'.own = true := fun j zs z o => by
      by_cases hj : i = j
      · subst hj
        exact ⟨_, e, rfl⟩
      · rw [List.getElem?_set_ne hj] at z
        exact ⟨zs, z, o⟩
    obtain ⟨_, d1, o1⟩ := nd j _ e1 w1
    obtain ⟨_, d2, o2⟩ := nd k _ e2 w2
    exact r.ap j k _ _ u hjk d1 d2 o1 o2 s1 s2
  · rw [List.getElem?_set] at z
    split at z
    · first | cases z | (split at z <;> cases z)
    · exact r.np j ys' z
/-- a method that changes an own list and hands back None -/
def VMut (K : PySem.W.Frag) (rl : Option Addr) (r : V → List V → Hp → VK → Prop) (g : List PyData → List W → (List PyData → Prop) → Prop) : Prop :=
  ∀ {F H : Hp} {a : Addr} {vs args : List V} {xs : List PyData} {ws : List W} (Qn : List PyData → Prop) (Q : VK), Same F H → H a = some (.lst vs) → Reps K F vs xs → RelWs K rl F H args ws → g xs ws Qn →
    (∀ us ys, Reps K F us ys → Qn ys → Q .non (upd H a (.lst us))) → r (.ref a) args H Q
def vMut (i : Nat) (g : List PyData → List W → (List PyData → Prop) → Prop) (fs : TVs) : TSv := fun D ρ => ∃ xs, ρ[i]? = some (some (.ml xs)) ∧ fs ρ fun ws => g xs ws fun ys => D.nx (ρ.set i (some (.ml ys)))
theorem vs_mut (i : Nat) {x : Str} {nm : Str} {id : String} {r : V → List V → Hp → VK → Prop} {g : List PyData → List W → (List PyData → Prop) → Prop} {px apos cpos : Pos} (slot : Slot "list" nm id) (hty : typeOf (.builtin id) = pure (.type "method_descriptor")) (hm : MtR X id r) (vm : VMut X.K rl r g) (ha : PVs X rl (e :: es) fs)
    (hN : X.N[i]? = some x := by rfl) (hv : Vis X.env.scope x := by first | exact Or.inl rfl | exact Or.inr (Or.inl rfl) | exact Or.inr (Or.inr rfl))
    (hd : (x == ("__debug__" : Str)) = false := by decide) (hcd : (x == ("__classdict__" : Str)) = false := by decide)
    (hbase : attributeBase (.Name x px) nm X.env (eval (.Name x px) X.env) = eval (.Name x px) X.env := by rfl)
    (hfew : ((backTo cpos (starEach (e :: es) X.env)).all (fun x => !x.1) && (backToKw cpos (keywordEach [] X.env)).all (fun x => x.1.isSome)
      && decide ((e :: es).length + ([] : List Keyword).length + (if ([] : List Keyword).isEmpty then 0 else 1) < 30)) = true := by rfl)
    (hline : (apos.endLine == cpos.line) = true := by rfl) (hs : starEach (e :: es) X.env = (false, eval e X.env) :: starEach es X.env := by rfl) (hplain : (backTo cpos (starEach es X.env)).any (·.1) = false := by rfl)
    (hsw : swapsWith (.Call (.Attribute (.Name x px) nm apos) (e :: es) [] cpos) none pos.line X.env = pure false := by rfl) :
    PSV X rl (.Expr (.Call (.Attribute (.Name x px) nm apos) (e :: es) [] cpos) pos) (vMut i g fs) := by
  obtain ⟨t, p1, k⟩ := ha
  refine ⟨_, ps_expr (pe_bm PySem.F.plainAttrs_list slot hty hm (pe_var hN hv hd hcd) p1 hbase hfew hline hs hplain) hsw, fun {F₀ H₀ F H σ ρ} R Dv D ok ⟨xs, e1, q⟩ => ?_⟩
  obtain ⟨v, h1, h2, h3⟩ := R.sl i _ e1
  obtain ⟨a, vs, rfl, f, hr, hh, rs⟩ := (show OwnL X.K rl F H v xs from h2)
  refine ⟨.ref a, h1, .inl ⟨rfl, vs, .inl (.inl hh)⟩, k R _ _ q fun args ws F1 H1 g1 r1 q1 => ?_⟩
  refine vm _ _ g1.sub (g1.same a _ hh hr) (rs.mono g1.fs) r1 q1 fun us ys r2 q2 => ?_
  exact ok.nx _ _ _ _ g1.fs ((R.grow g1).own e1 h1 r2) q2
def gApp : List PyData → List W → (List PyData → Prop) → Prop := fun xs ws Q => ∃ x, dats ws = some [x] ∧ xs.length < sizeLine ∧ Q (xs ++ [x])
theorem vm_app {K : PySem.W.Frag} : VMut K rl rAppend gApp := fun {F H a vs args xs ws} Qn Q s ha rs ra ⟨x, e, z, q⟩ k => by
  have r2 := dats_rel ra e
  cases r2 with
  | cons rx r3 =>
    cases r3
    exact ⟨a, vs, _, rfl, rfl, ha, by rw [rs.length]; exact z, k _ _ (rs.snoc rx) q⟩
def gExt : List PyData → List W → (List PyData → Prop) → Prop := fun xs ws Q => ∃ ys, dats ws = some [.list ys] ∧ xs.length + ys.length ≤ sizeLine ∧ Q (xs ++ ys)
theorem vm_ext {K : PySem.W.Frag} : VMut K rl rExtend gExt := fun {F H a vs args xs ws} Qn Q s ha rs ra ⟨ys, e, z, q⟩ k => by
  have r2 := dats_rel ra e
  cases r2 with
  | cons rx r3 =>
    cases r3
    cases rx with
    | lst hb ry => exact ⟨a, _, vs, _, rfl, rfl, ha, s _ _ hb, by rw [rs.length, ry.length]; exact z, k _ _ (rs.append ry) q⟩
theorem vs_app (i : Nat) {x : Str} {px apos cpos : Pos} (ha : PVs X rl [e] fs) (hN : X.N[i]? = some x := by rfl) (hv : Vis X.env.scope x := by first | exact Or.inl rfl | exact Or.inr (Or.inl rfl) | exact Or.inr (Or.inr rfl))
    (hd : (x == ("__debug__" : Str)) = false := by decide) (hcd : (x == ("__classdict__" : Str)) = false := by decide)
    (hbase : attributeBase (.Name x px) "append" X.env (eval (.Name x px) X.env) = eval (.Name x px) X.env := by rfl)
    (hfew : ((backTo cpos (starEach [e] X.env)).all (fun x => !x.1) && (backToKw cpos (keywordEach [] X.env)).all (fun x => x.1.isSome)
      && decide (([e]).length + ([] : List Keyword).length + (if ([] : List Keyword).isEmpty then 0 else 1) < 30)) = true := by rfl)
    (hline : (apos.endLine == cpos.line) = true := by rfl) (hs : starEach [e] X.env = (false, eval e X.env) :: starEach [] X.env := by rfl) (hplain : (backTo cpos (starEach [] X.env)).any (·.1) = false := by rfl)
    (hsw : swapsWith (.Call (.Attribute (.Name x px) "append" apos) [e] [] cpos) none pos.line X.env = pure false := by rfl) :
    PSV X rl (.Expr (.Call (.Attribute (.Name x px) "append" apos) [e] [] cpos) pos) (vMut i gApp fs) :=
  vs_mut i PySem.F.slot_list_append PySem.F.type_list_append mt_append vm_app ha hN hv hd hcd hbase hfew hline hs hplain hsw

/-! ### defs -/
def argOk : W → Bool
  | .ml _ => false
  | .md _ => false
  | .pk _ => false
  | _ => true
/-- a def's promise by data -/
def vsp (K : PySem.W.Frag) (rl : Option Addr) (P : List W → (PyData → Prop) → Prop) : Sp := fun vs H Q _ => ∃ F ws, Same F H ∧ RAt rl F H ∧ RelWs K rl F H vs ws ∧ ws.all argOk = true ∧ P ws fun d => ∀ v F' H', Grow rl F H F' H' → Rep K F' v d → Q v H'
def startV (N : List Str) (ws : List W) : En := ws.map some ++ List.replicate (N.length - ws.length) none
theorem relWs_get {K : PySem.W.Frag} {F H : Hp} : ∀ {vs : List V} {ws : List W} {i : Nat} {w : W}, RelWs K rl F H vs ws → ws[i]? = some w → ∃ v, vs[i]? = some v ∧ RelW K rl F H v w
  | _, _, _, _, .nil, e => by simp at e
  | _, _, 0, _, .cons h _, e => by simp at e; subst e; exact ⟨_, rfl, h⟩
  | _, _, i + 1, w, .cons _ r, e => by
    obtain ⟨v, h1, h2⟩ := relWs_get (i := i) (w := w) r (by simpa using e)
    exact ⟨v, by simpa using h1, h2⟩
theorem start_get {N : List Str} {ws : List W} {i : Nat} {w : W} (h : (startV N ws)[i]? = some (some w)) : ws[i]? = some w := by
  unfold startV at h
  by_cases hi : i < ws.length
  · rw [List.getElem?_append_left (by simpa using hi), List.getElem?_map] at h
    cases q : ws[i]? with
    | none => rw [q] at h; cases h
    | some x => rw [q] at h; cases h; rfl
  · rw [List.getElem?_append_right (by simpa using hi), List.getElem?_replicate] at h
    split at h <;> cases h
theorem vr_start {K : PySem.W.Frag} {F H : Hp} {N : List Str} {vs : List V} {ws : List W} (s : Same F H) (ra : RAt rl F H) (r : RelWs K rl F H vs ws) (ok : ws.all argOk = true) : VR K rl F H F H (start N vs) (startV N ws) := by
  have hl : vs.length = ws.length := Paired.length r
  have no : ∀ (i : Nat) w, (startV N ws)[i]? = some (some w) → argOk w = true := fun i w e => (List.all_eq_true.mp ok) w (List.mem_of_getElem? (start_get e))
  refine ⟨Grow.refl s ra, fun i w e => ?_, fun i j xs ys v _ e1 _ o _ _ _ => (by have := no i _ e1; cases xs <;> first | exact Bool.noConfusion o | exact Bool.noConfusion this), fun i xs e => (by have := no i _ e; cases this), ?_⟩
  · obtain ⟨v, h1, h2⟩ := relWs_get r (start_get e)
    refine ⟨v, ?_, h2, ?_⟩
    · unfold start
      rw [List.getElem?_append_left (by simpa using (List.getElem?_eq_some_iff.mp h1).1), List.getElem?_map, h1]
      rfl
    · have := no i w e
      cases w with
      | ml xs => cases this
      | md xs => cases this
      | nt _ => trivial
      | lk => trivial
      | d _ => trivial
      | pk _ => trivial
      | reel => trivial
      | vv _ => trivial
  · unfold startV start
    simp [hl]
/-- what a body must do -/
def vEnds (Q : PyData → Prop) : VEnds := ⟨fun _ => Q .none, fun w => ∃ d, w.fz = .d d ∧ Q d, fun _ => False, fun _ => False⟩
theorem vfn {P : Program} {w : World} {K : PySem.W.Frag} {mg : Str → Option Value} {base : Heap} {x qual : Str} {st : Stmt} {fa : Addr} {fd : FuncData} {N ps : List Str} {k : Nat} {Pd : List W → (PyData → Prop) → Prop} {t : TSv}
    (Fn : Fun K x qual st fa fd) (S : FnScope N ps (defScope st)) (len : ∀ ws Q, Pd ws Q → ws.length = ps.length)
    (hbody : ∀ (cdv : Value) (A : Around) (outer : List Env) (s : Shared) (H : Hp) (E : XK), Room k (A.deeper (envOfC qual (defScope st) s.heap.objs.size fa cdv)) →
      PSsV (cxOf CX0 P w K mg base N qual (defScope st) fa cdv A outer s H E).nox rl (defBody st) t)
    (hread : ∀ ws Q, Pd ws Q → t (vEnds Q) (startV N ws)) : FnOk P w K mg base CX0 (k + 1) fa fd ps (vsp K rl Pd) := by
  refine Fn.ok S (fun vs H Q E ⟨F, ws, _, _, r, _, q⟩ => (Paired.length r).trans (len ws _ q)) fun cdv A outer s H vs Q E hr h => ?_
  obtain ⟨F, ws, sm, ra, r, ok, q⟩ := h
  obtain ⟨T, p, kk⟩ := hbody cdv A outer s H E hr
  refine ⟨T, p, kk (vr_start sm ra r ok) (vEnds _) _ ⟨?_, ?_, fun _ _ _ _ _ _ z => False.elim z, fun _ _ _ _ _ _ z => False.elim z⟩ (hread ws _ q)⟩
  · intro F1 H1 σ1 ρ1 _ R1 q1
    exact q1 .non F1 H1 R1.g .non
  · rintro v w1 F1 H1 g1 r1 n1 ⟨d, ed, q1⟩
    obtain ⟨F2, g2, s2, r2⟩ := RelW.fz g1 r1 n1
    rw [ed] at r2
    exact q1 v F2 H1 g2 r2
/-- a def, ready to be called -/
structure Dfn (P : Program) (w : World) (K : PySem.W.Frag) (mg : Str → Option Value) (base : Heap) (rl : Option Addr) (x : Str) (ps : List Str) (k : Nat) (Pd : List W → (PyData → Prop) → Prop) : Prop where
  mono : ∀ ws Q Q', (∀ d, Q d → Q' d) → Pd ws Q → Pd ws Q'
  ex : ∃ f fd, mg x = some (.ref f) ∧ PySem.W.keepIn K (.ref f) = true ∧ Binds K fd ps [] ∧ FnOk P w K mg base CX0 k f fd ps (vsp K rl Pd)
def vUse (Pd : List W → (PyData → Prop) → Prop) (fs : TVs) : TV := fun ρ Q => fs ρ fun ws => ws.all argOk = true ∧ Pd ws fun d => Q (.d d)
theorem v_call {x : Str} {ps : List Str} {k : Nat} {Pd : List W → (PyData → Prop) → Prop} (D : Dfn X.prog X.w X.K X.mg X.base rl x ps k Pd) (hr : Room k X.A) (ha : PVs X rl (e :: es) fs) (hg : Gl X x := by rfl)
    (hdb : (x == ("__debug__" : Str)) = false := by decide) (he : starEach (e :: es) X.env = (false, eval e X.env) :: starEach es X.env := by rfl) (hpl : (backTo pos (starEach es X.env)).any (·.1) = false := by rfl) :
    PV X rl (.Call (.Name x p) (e :: es) [] pos) (vUse Pd fs) := by
  obtain ⟨f, fd, hm, hk, hb, F⟩ := D.ex
  obtain ⟨t, p1, kk⟩ := ha
  refine ⟨_, pe_call F hr hg hm hk hb .nil pass0 p1 hdb he hpl, fun R Qd Q q h => kk R _ _ q fun vs ws F1 H1 g1 r1 ⟨ok, q1⟩ => ?_⟩
  refine ⟨F1, ws, g1.sub, g1.reel, by rw [List.append_nil]; exact r1, ok, ?_⟩
  exact D.mono ws _ _ (fun d qd v F2 H2 g2 r2 => h v (.d d) F2 H2 (g1.trans g2) r2 trivial qd) q1
end
end L2.VL

namespace L2
open PySem PySem.Spec PyProof.Rows

/-! ### comprehensions -/
theorem closure_ok {env : Env} : ∀ (names : List (Str × NameKind)) (acc : List (Str × Addr)), (∀ x ∈ names, x.2 = .free → ∃ c, env.cells.lookup x.1 = some c) → (∀ x c, acc.lookup x = some c → env.cells.lookup x = some c) →
    ∃ cl, (forIn names acc (fun (x : Str × NameKind) (cs : List (Str × Addr)) => if (x.2 == NameKind.free) = true then do let c ← cellOf env x.1; pure (ForInStep.yield ((x.1, c) :: cs)) else pure (ForInStep.yield cs)) : Sem (List (Str × Addr))) = pure cl ∧
      (∀ x c, cl.lookup x = some c → env.cells.lookup x = some c) ∧ (∀ x, (acc.lookup x).isSome = true → (cl.lookup x).isSome = true) ∧ ∀ x, (x, NameKind.free) ∈ names → (cl.lookup x).isSome = true
  | [], acc, _, h2 => ⟨acc, rfl, h2, fun _ z => z, fun _ z => nomatch z⟩
  | (n, k) :: r, acc, h1, h2 => by
    by_cases hk : k = .free
    · subst hk
      obtain ⟨c, hc⟩ := h1 (n, .free) List.mem_cons_self rfl
      have h2' : ∀ x c', ((n, c) :: acc).lookup x = some c' → env.cells.lookup x = some c' := fun x c' z => by
        rw [List.lookup_cons] at z
        cases e : x == n with
        | true =>
          rw [e] at z
          have e' : x = n := by simpa using e
          cases z
          rw [e']
          exact hc
        | false =>
          rw [e] at z
          exact h2 x c' z
      obtain ⟨cl, e, g1, g2, g3⟩ := closure_ok r ((n, c) :: acc) (fun x hx => h1 x (List.mem_cons_of_mem _ hx)) h2'
      refine ⟨cl, ?_, g1, fun x z => g2 x ?_, fun x z => ?_⟩
      · rw [List.forIn_cons]
        simp only [beq_self_eq_true, if_true]
        have e0 : cellOf env n = pure c := by unfold cellOf; rw [hc]
        rw [e0, pure_bind, pure_bind]
        exact e
      · rw [List.lookup_cons]
        split
        · rfl
        · exact z
      · rcases List.mem_cons.mp z with z | z
        · cases z
          refine g2 _ ?_
          rw [List.lookup_cons]
          simp
        · exact g3 x z
    · obtain ⟨cl, e, g1, g2, g3⟩ := closure_ok r acc (fun x hx => h1 x (List.mem_cons_of_mem _ hx)) h2
      refine ⟨cl, ?_, g1, g2, fun x z => ?_⟩
      · rw [List.forIn_cons]
        have hb : (k == NameKind.free) = false := by simpa using hk
        simp only [hb, Bool.false_eq_true, if_false]
        rw [pure_bind]
        exact e
      · rcases List.mem_cons.mp z with z | z
        · cases z; exact absurd rfl hk
        · exact g3 x z
theorem closure_for {env : Env} {scope : Scope} (h : ∀ x ∈ scope.names, x.2 = .free → ∃ c, env.cells.lookup x.1 = some c) :
    ∃ cl, closureFor scope env = pure cl ∧ (∀ x c, cl.lookup x = some c → env.cells.lookup x = some c) ∧ ∀ x, (x, NameKind.free) ∈ scope.names → (cl.lookup x).isSome = true := by
  obtain ⟨cl, e, g1, _, g3⟩ := closure_ok scope.names [] h (fun _ _ z => by cases z)
  refine ⟨cl, ?_, g1, g3⟩
  unfold closureFor
  first
    | exact e
    | (simp only [bind_pure]; exact e)

/-- the kinds of a comprehension's names in its own block -/
theorem relabel_back {env : Env} {scope : Scope} {x : Str} (h : (relabel scope env).names.lookup x = some .cell ∨ (relabel scope env).names.lookup x = some .free) : (x, NameKind.free) ∈ scope.names ∨ (x, NameKind.cell) ∈ scope.names := by
  have key : ∀ names : List (Str × NameKind), ∀ k, (k = .cell ∨ k = .free) →
      (names.map fun (n, k) => if (k == NameKind.free && env.scope.kind == .function && env.kindOf n == some .cell) then (n, NameKind.cell) else (n, k)).lookup x = some k → (x, NameKind.free) ∈ names ∨ (x, NameKind.cell) ∈ names := by
    intro names
    induction names with
    | nil => intro k _ z; cases z
    | cons y r ih =>
      intro k hk z
      obtain ⟨n, kn⟩ := y
      have step : ((x, NameKind.free) ∈ r ∨ (x, NameKind.cell) ∈ r) → ((x, NameKind.free) ∈ (n, kn) :: r ∨ (x, NameKind.cell) ∈ (n, kn) :: r) := fun z => z.imp (List.mem_cons_of_mem _) (List.mem_cons_of_mem _)
      rw [List.map_cons] at z
      dsimp only at z
      by_cases hc : (kn == NameKind.free && env.scope.kind == .function && env.kindOf n == some .cell) = true
      · rw [if_pos hc, List.lookup_cons] at z
        have hf : kn = .free := by
          have := (Bool.and_eq_true_iff.mp (Bool.and_eq_true_iff.mp hc).1).1
          simpa using this
        cases e : x == n with
        | true =>
          have e' : x = n := by simpa using e
          rw [e', ← hf]
          exact .inl List.mem_cons_self
        | false =>
          rw [e] at z
          exact step (ih k hk z)
      · rw [if_neg hc, List.lookup_cons] at z
        cases e : x == n with
        | true =>
          rw [e] at z
          have e' : x = n := by simpa using e
          cases z
          rcases hk with hk | hk
          · rw [e', hk]; exact .inr List.mem_cons_self
          · rw [e', hk]; exact .inl List.mem_cons_self
        | false =>
          rw [e] at z
          exact step (ih k hk z)
  rcases h with h | h
  · exact key scope.names .cell (.inl rfl) h
  · exact key scope.names .free (.inr rfl) h

/-! cells of a block's own -/
theorem cellsFrom_app : ∀ (names : List (Str × NameKind)) (n : Nat) (acc : List (Str × Addr)), cellsFrom n names acc = cellsFrom n names [] ++ acc
  | [], _, _ => rfl
  | (x, k) :: r, n, acc => by
    unfold cellsFrom
    split
    · rw [cellsFrom_app r (n + 1) ((x, n) :: acc), cellsFrom_app r (n + 1) [(x, n)], List.append_assoc]
      rfl
    · exact cellsFrom_app r n acc
theorem cellsFrom_mem {x : Str} {c : Addr} : ∀ {names : List (Str × NameKind)} {n : Nat}, (x, c) ∈ cellsFrom n names [] → (x, NameKind.cell) ∈ names
  | (y, k) :: r, n, h => by
    unfold cellsFrom at h
    split at h
    · rename_i hk
      rw [cellsFrom_app] at h
      rcases List.mem_append.mp h with h | h
      · exact List.mem_cons_of_mem _ (cellsFrom_mem h)
      · simp at h
        have : k = .cell := by simpa using hk
        rw [h.1, this]
        exact List.mem_cons_self
    · exact List.mem_cons_of_mem _ (cellsFrom_mem h)
theorem lookup_app {a b : List (Str × Addr)} {x : Str} : (a ++ b).lookup x = (a.lookup x).or (b.lookup x) := by
  induction a with
  | nil => simp
  | cons y a ih =>
    obtain ⟨n, c⟩ := y
    rw [List.cons_append, List.lookup_cons, List.lookup_cons]
    cases x == n <;> simp [ih]
theorem newEnv_comp {M : Model} {A : Around} {E : Value → Shared → Prop} {s : Shared} {scope : Scope} {globals : Addr} {cl : List (Str × Addr)} {qual : Str} {o : Env} {Q : Env → Shared → Prop}
    (hQ : Q { scope, locals := s.heap.objs.size, globals, cells := cellsFrom (s.heap.objs.size + 1) scope.names cl, qual, func := none, code := o.code, frame := o.frame, builtins := o.builtins } { s with heap := pushCells (s.heap.push { cls := .type "dict", data := .dict #[] }) scope.names }) :
    wpAny M A (newFunctionEnv scope globals cl [] qual none .none (some o)) Q E s := by
  simp only [newFunctionEnv, Option.isSome_some, if_true]
  refine wpAny_bind (wpAny_alloc ?_)
  refine wpAny_bind (wpAny_layCells _ (fun name kind cells => by cases hkc : kind == NameKind.cell <;> simp [hkc]) _ _ _ _ ?_)
  rw [show ({ s with heap := s.heap.push { cls := .type "dict", data := .dict #[] } } : Shared).heap.objs.size = s.heap.objs.size + 1 from Heap.size_push ..]
  exact wpAny_bind (wpAny_pure (wpAny_pure hQ))
def compCx (X : Cx) (N' : List Str) (scope : Scope) (cl : List (Str × Addr)) (fp : List Addr) (pn : List (Addr × Obj)) (s : Shared) (H : Hp) : Cx :=
  { X with N := N', s₀ := s, H₀ := H, env := { compEnvC scope cl s.heap.objs.size X.env with cells := cellsFrom (s.heap.objs.size + 1) scope.names cl }, outer := X.stack, ex := fp, fn := fun x => scope.names.lookup x == some .cell, pn := pn, xe := fun _ _ => False }
abbrev testsOf (ifs : List Expr) (env : Env) : Sem Bool := forIn ifs true fun c r => if r = true then do let ok ← isTrue c env (eval c env); pure (ForInStep.yield ok) else pure (ForInStep.yield r)
def PTs (X : Cx) (ifs : List Expr) (t : TT) : Prop :=
  ∀ (pins : List (Addr × Obj)) (s : Shared) (σ : St) (H : Hp) (Q : Bool → Hp → Prop), Inv X pins σ H s → t σ H Q → wpAny (model X.prog X.w) X.A (testsOf ifs X.env) (TP X pins σ Q) X.xe s
theorem pts_nil {X : Cx} : PTs X [] (fun _ H Q => Q true H) := fun _ _ _ H _ I h => wpAny_tests_nil ⟨H, I, h⟩
theorem pts_one {X : Cx} {c : Expr} {t : TT} (h : PT X c t) : PTs X [c] t := fun pins s σ H Q I hw => wpAny_tests_one (h pins s σ H Q I hw)

theorem comp_loop {prog : Program} {w : World} {A : Around} {R : Result → Shared → Prop} {s : Shared} {elt target iter : Expr} {ifs : List Expr} {scope : Scope} {pos : Pos} {it acc : Value} {env : Env} (I : Nat → Shared → Prop)
    (turn : ∀ n s, I n s → wpAny (model prog w) A (pyNext it) (fun r s₁ => (r = none ∧ R (.ok .next) s₁) ∨ ∃ v, r = some v ∧
      wpAny (model prog w) A (letOwnedTupleGo target it v) (fun _ s₂ => wpAny (model prog w) A (assign target env v) (fun _ s₃ => wpAny (model prog w) A (testsOf ifs env) (fun ok s₄ =>
        if ok = true then wpAny (model prog w) A (eval elt env) (fun x s₅ => wpAny (model prog w) A (call (.builtin "list.append") [acc, x]) (fun _ s₆ => ∃ m, m < n ∧ I m s₆) (fun _ _ => False) s₅) (fun _ _ => False) s₄
        else ∃ m, m < n ∧ I m s₄) (fun _ _ => False) s₃) (fun _ _ => False) s₂) (fun _ _ => False) s₁) (fun _ _ => False) s)
    (n : Nat) (h : I n s) : codeAny (model prog w) A (.compLoop (.ListComp elt [⟨target, iter, ifs, 0⟩] scope pos) 0 it acc env) R s := by
  refine codeAny_loop rfl I (fun n s hI => ?_) n h
  show wpAny _ A ((compTurn (.ListComp elt [⟨target, iter, ifs, 0⟩] scope pos) 0 it acc env).onRaise (fun x => do noteFrame x env; theTreesLotGoes x)) _ _ s
  refine wpAny_noted ?_
  rw [compTurn_list]
  refine wpAny_bind (wpAny_standAt (wpAny_bind (wpAny_mono (turn n s hI) (fun r s₁ h₁ => ?_) fun _ _ h' => h'.elim)))
  rcases h₁ with ⟨rfl, h₁⟩ | ⟨v, rfl, h₁⟩
  · exact wpAny_pure h₁
  · refine wpAny_bind (wpAny_mono h₁ (fun _ s₂ h₂ => wpAny_bind (wpAny_mono h₂ (fun _ s₃ h₃ => wpAny_bind (wpAny_mono h₃ (fun ok s₄ h₄ => ?_) fun _ _ z => z.elim)) fun _ _ z => z.elim)) fun _ _ z => z.elim)
    cases ok with
    | false => exact wpAny_pure ⟨rfl, h₄⟩
    | true => exact wpAny_bind (wpAny_bind (wpAny_mono h₄ (fun x s₅ h₅ => wpAny_bind (wpAny_mono h₅ (fun _ s₆ h₆ => wpAny_pure (wpAny_pure ⟨rfl, h₆⟩)) fun _ _ z => z.elim)) fun _ _ z => z.elim))

/-- which slots of the comprehension's block are names of the frame around: (slot here) ↦ (slot there) -/
def frIn (fr : List (Option Nat)) (σ : St) : St := fr.map fun o => o.bind fun j => (σ[j]?).join
def frOk (fr : List (Option Nat)) (N' N : List Str) (sc scX : Scope) : Bool :=
  decide (fr.length = N'.length) && (List.range fr.length).all fun i => match fr[i]? with
    | some (some j) => match N'[i]? with
      | some x => decide (N[j]? = some x) && decide (sc.names.lookup x = some .free) && (decide (scX.names.lookup x = some .cell) || decide (scX.names.lookup x = some .free))
      | none => false
    | _ => true
def scOk (sc scX : Scope) : Bool :=
  decide (sc.kind = .function) && sc.names.all fun y => (decide (y.2 ≠ .cell) || decide (sc.names.lookup y.1 = some .cell)) && (decide (y.2 ≠ .local) || decide (sc.names.lookup y.1 = some .local)) &&
    (decide (y.2 ≠ .free) || (decide (scX.names.lookup y.1 = some .cell) || decide (scX.names.lookup y.1 = some .free)))
theorem frOk.get {fr : List (Option Nat)} {N' N : List Str} {sc scX : Scope} (h : frOk fr N' N sc scX = true) : fr.length = N'.length ∧ ∀ (i j : Nat), fr[i]? = some (some j) → ∃ x, N'[i]? = some x ∧ N[j]? = some x ∧ sc.names.lookup x = some .free ∧ (scX.names.lookup x = some .cell ∨ scX.names.lookup x = some .free) := by
  unfold frOk at h
  obtain ⟨h1, h2⟩ := Bool.and_eq_true_iff.mp h
  refine ⟨of_decide_eq_true h1, fun i j e => ?_⟩
  have hi : i < fr.length := (List.getElem?_eq_some_iff.mp e).1
  have q := List.all_eq_true.mp h2 i (List.mem_range.mpr hi)
  rw [e] at q
  dsimp only at q
  cases en : N'[i]? with
  | none => rw [en] at q; cases q
  | some x =>
    rw [en] at q
    dsimp only at q
    obtain ⟨q1, q2⟩ := Bool.and_eq_true_iff.mp q
    obtain ⟨q3, q4⟩ := Bool.and_eq_true_iff.mp q1
    exact ⟨x, rfl, of_decide_eq_true q3, of_decide_eq_true q4, (Bool.or_eq_true_iff.mp q2).imp of_decide_eq_true of_decide_eq_true⟩
theorem lookup_mem {x : Str} {k : NameKind} : ∀ {names : List (Str × NameKind)}, names.lookup x = some k → (x, k) ∈ names := fun h => PySem.mem_of_lookup h

/-- what a block's context hangs on -/
structure CompA where
  cl : List (Str × Addr)
  fp : List Addr
  pn : List (Addr × Obj)
  s : Shared
  H : Hp
abbrev blk (X : Cx) (N' : List Str) (scope : Scope) (y : CompA) : Cx := compCx X N' scope y.cl y.fp y.pn y.s y.H
def tComp (wi : TI) (fr : List (Option Nat)) (g : CompA → TG) (tt : CompA → TT) (te : CompA → TE) : TE := fun σ H Q => wi σ H fun J H1 => ∀ D, H1 D = none → ∃ Wv : Nat → Nat → List V → St → Hp → Prop, (∃ m, Wv 0 m [] (frIn fr σ) (upd H1 D (.lst []))) ∧
  ∀ (z : CompA) i m acc σc H, Wv i m acc σc H → (J.stop i H ∧ Q (.ref D) H) ∨ (J.go i H ∧ ∀ x H', J.yld i H x H' → g z x σc H' fun σ2 H2 => tt z σ2 H2 fun b H3 =>
    if b = true then te z σ2 H3 fun y H4 => H4 D = some (.lst acc) ∧ acc.length < sizeLine ∧ ∃ m', m' < m ∧ Wv (i + 1) m' (acc ++ [y]) σ2 (upd H4 D (.lst (acc ++ [y]))) else ∃ m', m' < m ∧ Wv (i + 1) m' acc σ2 H3)
theorem relabel_free {env : Env} : ∀ {names : List (Str × NameKind)} {x : Str}, names.lookup x = some .free →
    (names.map fun (n, k) => if (k == NameKind.free && env.scope.kind == .function && env.kindOf n == some .cell) then (n, NameKind.cell) else (n, k)).lookup x = some .cell ∨
    (names.map fun (n, k) => if (k == NameKind.free && env.scope.kind == .function && env.kindOf n == some .cell) then (n, NameKind.cell) else (n, k)).lookup x = some .free
  | [], _, h => by simp at h
  | (n, k) :: r, x, h => by
    have ih := @relabel_free env r x
    rw [List.map_cons]
    dsimp only
    cases hx : x == n with
    | true =>
      simp only [List.lookup_cons, hx] at h
      cases h
      by_cases hc : ((NameKind.free == NameKind.free) && env.scope.kind == .function && env.kindOf n == some .cell) = true
      · rw [if_pos hc]; simp [List.lookup_cons, hx]
      · rw [if_neg hc]; simp [List.lookup_cons, hx]
    | false =>
      simp only [List.lookup_cons, hx] at h
      by_cases hc : (k == NameKind.free && env.scope.kind == .function && env.kindOf n == some .cell) = true
      · rw [if_pos hc]; simp only [List.lookup_cons, hx]; exact ih h
      · rw [if_neg hc]; simp only [List.lookup_cons, hx]; exact ih h
theorem comp_block {X : Cx} {elt tg iter : Expr} {ifs : List Expr} {scope : Scope} {pos : Pos} {g : TG} {tt : TT} {te : TE} {pins : List (Addr × Obj)} {σ : St} {H3 : Hp} {s3 : Shared} {it D : Addr} {fp : List Addr} {tn : Nat → Heap → Prop} {J : It} {Q : VK}
    {cl : List (Str × Addr)} (N' : List Str) (fr : List (Option Nat)) (hc : X.calm = true) (hkind : scope.kind = .function) (hcell : ∀ y ∈ scope.names, y.2 = .cell → scope.names.lookup y.1 = some .cell)
    (hfree : ∀ y ∈ scope.names, y.2 = .free → X.env.kindOf y.1 = some .cell ∨ X.env.kindOf y.1 = some .free) (frl : fr.length = N'.length)
    (frg : ∀ (i j : Nat), fr[i]? = some (some j) → ∃ x, N'[i]? = some x ∧ X.N[j]? = some x ∧ scope.names.lookup x = some .free ∧ (X.env.scope.names.lookup x = some .cell ∨ X.env.scope.names.lookup x = some .free))
    (cl1 : ∀ x c, cl.lookup x = some c → X.env.cells.lookup x = some c) (cl2 : ∀ x, (x, NameKind.free) ∈ scope.names → (cl.lookup x).isSome = true)
    (I3 : Inv X pins σ H3 s3) (T : Turn X.prog X.w X.K tg J fp it tn) (tn3 : tn 0 s3.heap) (fpD : ∀ b ∈ fp, H3 b = none) (fp3 : ∀ b ∈ fp, b < s3.heap.objs.size)
    (fpk : ∀ b ∈ fp, b ≠ X.env.locals ∧ b ∉ X.fs ∧ (b ∈ X.ex ∨ X.s₀.heap.objs.size ≤ b) ∧ (∀ x c, X.env.cells.lookup x = some c → c ≠ b) ∧ ∀ p ∈ X.pn ++ pins, p.1 ≠ b)
    (hg : PG (compCx X N' scope cl fp (X.pn ++ pins) s3 H3) tg g) (ht : PTs (compCx X N' scope cl fp (X.pn ++ pins) s3 H3) ifs tt) (he : PE (compCx X N' scope cl fp (X.pn ++ pins) s3 H3) elt te)
    {Wv : Nat → Nat → List V → St → Hp → Prop} {m0 : Nat} (w0 : Wv 0 m0 [] (frIn fr σ) H3)
    (turn : ∀ i m acc σc H, Wv i m acc σc H → (J.stop i H ∧ Q (.ref D) H) ∨ (J.go i H ∧ ∀ x H', J.yld i H x H' → g x σc H' fun σ2 H2 => tt σ2 H2 fun b H3 =>
      if b = true then te σ2 H3 fun y H4 => H4 D = some (.lst acc) ∧ acc.length < sizeLine ∧ ∃ m', m' < m ∧ Wv (i + 1) m' (acc ++ [y]) σ2 (upd H4 D (.lst (acc ++ [y]))) else ∃ m', m' < m ∧ Wv (i + 1) m' acc σ2 H3))
    {Rp : Addr → Result → Shared → Prop} (fin : ∀ s5 H4 m, s5.heap.Ns s3.heap.objs.size m → (∀ h', Heap.SameBut s3.heap.objs.size s5.heap h' → Inv X pins σ H4 { s5 with heap := h' }) → FpOk X pins H4 s3.heap.objs.size → Q (.ref D) H4 → Rp s3.heap.objs.size (.ok .next) s5) :
    wpAny (model X.prog X.w) X.A (newFunctionEnv scope X.env.globals cl [] X.env.qual none .none (some X.env)) (fun cenv s₄ =>
      codeAny (model X.prog X.w) X.A (.compStart (.ListComp elt [⟨tg, iter, ifs, 0⟩] scope pos) 0 (.ref it) (.ref D) { cenv with scope := relabel scope X.env })
        (Rp cenv.locals) s₄) X.xe s3 := by
  refine newEnv_comp ?_
  have ok := cellsFrom_ok scope.names (s3.heap.push { cls := .type "dict", data := .dict #[] }) (s3.heap.objs.size + 1) [] ⟨fun _ _ hm => (nomatch hm), List.Pairwise.nil⟩ (by rw [Heap.size_push]; exact Nat.le_refl _)
  rw [Heap.size_push] at ok
  have kp : ∀ b o, s3.heap.get? b = some o → (pushCells (s3.heap.push { cls := .type "dict", data := .dict #[] }) scope.names).get? b = some o := fun b o e => pushCells_keeps _ _ b o (Heap.get?_push_of_some _ e)
  have hns₁ : (pushCells (s3.heap.push { cls := .type "dict", data := .dict #[] }) scope.names).Ns s3.heap.objs.size (fun _ => none) := (Heap.Ns.new s3.heap (.type "dict")).keeps (pushCells_keeps _ _)
  generalize pushCells (s3.heap.push { cls := .type "dict", data := .dict #[] }) scope.names = h₁ at ok kp hns₁ ⊢
  have cs : ∀ x c, (cellsFrom (s3.heap.objs.size + 1) scope.names cl).lookup x = some c → (cellsFrom (s3.heap.objs.size + 1) scope.names []).lookup x = some c ∨ cl.lookup x = some c := fun x c e => by
    rw [cellsFrom_app, lookup_app] at e
    cases q : (cellsFrom (s3.heap.objs.size + 1) scope.names []).lookup x with
    | none => rw [q] at e; exact .inr (by simpa using e)
    | some c' => rw [q] at e; exact .inl (by simpa using e)
  have own : ∀ x c, (cellsFrom (s3.heap.objs.size + 1) scope.names []).lookup x = some c → h₁.IsCell c none ∧ s3.heap.objs.size + 1 ≤ c := fun x c e => ok.empty x c (PySem.mem_of_lookup e)
  have clt : ∀ x c, cl.lookup x = some c → c < s3.heap.objs.size := fun x c e => by
    obtain ⟨v, o, ho, _⟩ := I3.cell x c (cl1 x c e)
    exact Heap.lt_size ho
  have frn : ∀ x, scope.names.lookup x = some .free → (cellsFrom (s3.heap.objs.size + 1) scope.names []).lookup x = none := fun x e => by
    cases q : (cellsFrom (s3.heap.objs.size + 1) scope.names []).lookup x with
    | none => rfl
    | some c =>
      have := hcell (x, .cell) (cellsFrom_mem (PySem.mem_of_lookup q)) rfl
      rw [e] at this
      cases this
  have notC : ∀ b o, s3.heap.get? b = some o → b ≠ s3.heap.objs.size := fun b o e => Nat.ne_of_lt (Heap.lt_size e)
  have fpstk : ∀ b ∈ fp, b ∉ frs X.stack := fun b hb z => (List.mem_cons.mp (I3.stkSub b z)).elim (fpk b hb).1 (fpk b hb).2.1
  have cellK : ∀ c v, s3.heap.IsCell c v → h₁.IsCell c v := fun c v ⟨o, ho, hd⟩ => ⟨o, kp c o ho, hd⟩
  have IY : Inv (compCx X N' scope cl fp (X.pn ++ pins) s3 H3) [] (frIn fr σ) H3 { s3 with heap := h₁ } := by
    refine ⟨⟨I3.ok.mod, hkind, I3.ok.glob, I3.ok.blt, Nat.le_refl _, fun x y c e1 e2 => ?_, fun x hx => ?_, fun x c _ e => ?_, I3.ok.hd, I3.ok.frames, .inl rfl,
      fun b hb => ⟨Nat.ne_of_lt (fp3 b hb), fun x c e => ?_⟩, I3.bs, Nat.le_trans I3.ok.bsz I3.sz, fun b o e hb => ?_, fun b hb => fpstk b hb, I3.stack, I3.stkFree⟩,
      rfl, I3.bare, Un.kept kp, ⟨_, hns₁, fun i x v e1 e2 e3 => ?_⟩, fun x c e => ?_, I3.hok.fresh (Nat.le_refl _), fun x c e => ?_, fun p hp => ?_, I3.hok.kept kp, ?_⟩
    · rcases cs x c e1 with q1 | q1 <;> rcases cs y c e2 with q2 | q2
      · exact name_of_addr ok.apart (PySem.mem_of_lookup q1) (PySem.mem_of_lookup q2)
      · exact absurd (Nat.lt_of_lt_of_le (clt y c q2) (Nat.le_of_succ_le (own x c q1).2)) (Nat.lt_irrefl _)
      · exact absurd (Nat.lt_of_lt_of_le (clt x c q1) (Nat.le_of_succ_le (own y c q2).2)) (Nat.lt_irrefl _)
      · exact I3.ok.inj x y c (cl1 x c q1) (cl1 y c q2)
    · refine Option.isSome_iff_exists.mp ?_
      show ((cellsFrom (s3.heap.objs.size + 1) scope.names cl).lookup x).isSome = true
      rcases relabel_back hx with q | q
      · exact PySem.W.cellsFrom_some _ _ _ (.inr (cl2 x q))
      · exact PySem.W.cellsFrom_some _ _ _ (.inl (hcell _ q rfl))
    · rename_i hfn
      rcases cs x c e with q | q
      · have := (own x c q).2
        show s3.heap.objs.size ≤ c
        omega
      · have hfn : (scope.names.lookup x == some NameKind.cell) = true := hfn
        have hl : scope.names.lookup x = some .cell := by simpa using hfn
        obtain ⟨c', ec'⟩ := Option.isSome_iff_exists.mp (PySem.W.cellsFrom_some scope.names (s3.heap.objs.size + 1) [] (.inl hl))
        have e' : (cellsFrom (s3.heap.objs.size + 1) scope.names cl).lookup x = some c := e
        rw [cellsFrom_app, lookup_app, ec'] at e'
        simp at e'
        subst e'
        exact Nat.le_of_succ_le (own x c' ec').2
    · rcases cs x c e with q | q
      · exact fun z => absurd (Nat.lt_of_lt_of_le (fp3 b hb) (Nat.le_of_succ_le (by rw [← z]; exact (own x c q).2))) (Nat.lt_irrefl _)
      · exact (fpk b hb).2.2.2.1 x c (cl1 x c q)
    · rcases (fpk b hb).2.2.1 with z | z
      · exact I3.ok.noex b o e z
      · exact absurd (Nat.lt_of_lt_of_le (Heap.lt_size e) (Nat.le_trans I3.ok.bsz z)) (Nat.lt_irrefl _)
    · have e2' : (fr[i]?).map (fun o => o.bind fun j => (σ[j]?).join) = some (some v) := by unfold frIn at e2; rw [List.getElem?_map] at e2; exact e2
      cases ef : fr[i]? with
      | none => rw [ef] at e2'; cases e2'
      | some o =>
        cases o with
        | none => rw [ef] at e2'; cases e2'
        | some j =>
          rw [ef] at e2'
          have e3' : (σ[j]?).join = some v := Option.some.inj e2'
          have e4 : σ[j]? = some (some v) := by
            cases q : σ[j]? with
            | none => rw [q] at e3'; cases e3'
            | some z => rw [q] at e3'; cases e3'; rfl
          obtain ⟨x', n1, n2, n3, n4⟩ := frg i j ef
          have ex : x' = x := Option.some.inj (n1.symm.trans e1)
          subst ex
          obtain ⟨m, hn, hl⟩ := I3.loc
          obtain ⟨u, ru, lk⟩ := hl j x' v n2 e4 (n4.elim (fun z => .inr (.inl z)) fun z => .inr (.inr z))
          refine ⟨u, ru, ?_⟩
          rcases lk with ⟨kl, _⟩ | ⟨_, c, ec, hcl⟩
          · exact absurd (show X.env.scope.names.lookup x' = some .local from kl) (by rcases n4 with z | z <;> rw [z] <;> decide)
          · obtain ⟨c', ec'⟩ := Option.isSome_iff_exists.mp (cl2 x' (lookup_mem n3))
            have := cl1 x' c' ec'
            rw [ec] at this
            cases this
            refine .inr ⟨relabel_free n3, c, ?_, cellK _ _ hcl⟩
            show (cellsFrom (s3.heap.objs.size + 1) scope.names cl).lookup x' = some c
            rw [cellsFrom_app, lookup_app, frn x' n3]
            simpa using ec'
    · rcases cs x c e with q | q
      · exact ⟨_, (own x c q).1⟩
      · obtain ⟨v, z⟩ := I3.cell x c (cl1 x c q)
        exact ⟨v, cellK _ _ z⟩
    · rcases cs x c e with q | q
      · exact I3.hok.fresh (by have := (own x c q).2; omega)
      · exact I3.freeC x c (cl1 x c q)
    · rw [List.append_nil] at hp
      obtain ⟨e, n, ne, nf, d⟩ := I3.pin p hp
      exact ⟨kp _ _ e, n, notC _ _ e, fun z => (List.mem_cons.mp (I3.stkSub p.1 z)).elim ne nf, d⟩
    · unfold frIn
      rw [List.length_map]
      exact frl
  have loop : codeAny (model X.prog X.w) X.A (.compLoop (.ListComp elt [⟨tg, iter, ifs, 0⟩] scope pos) 0 (.ref it) (.ref D) { compEnvC scope cl s3.heap.objs.size X.env with cells := cellsFrom (s3.heap.objs.size + 1) scope.names cl })
      (Rp s3.heap.objs.size) { s3 with heap := h₁ } := by
    have stat : ∀ {H' : Hp}, (∀ b ∈ fp, H' b = none) → ∀ b ∈ fp, FpOk (compCx X N' scope cl fp (X.pn ++ pins) s3 H3) [] H' b := fun hn b hb =>
      ⟨hn b hb, Nat.ne_of_lt (fp3 b hb), fpstk b hb, .inl hb, fun x c e => (by
        rcases cs x c e with q | q
        · exact fun z => absurd (Nat.lt_of_lt_of_le (fp3 b hb) (Nat.le_of_succ_le (by rw [← z]; exact (own x c q).2))) (Nat.lt_irrefl _)
        · exact (fpk b hb).2.2.2.1 x c (cl1 x c q)), fun p hp => by rw [List.append_nil] at hp; exact (fpk b hb).2.2.2.2 p hp⟩
    refine comp_loop (fun n s' => ∃ i acc σ' H', Inv (compCx X N' scope cl fp (X.pn ++ pins) s3 H3) [] σ' H' s' ∧ tn i s'.heap ∧ (∀ b ∈ fp, H' b = none) ∧ Wv i n acc σ' H') ?_ m0
      ⟨0, [], _, _, IY, T.keep _ _ _ tn3 fun b _ o e => kp b o e, fpD, w0⟩
    rintro n s4 ⟨i, acc, σ4, H4, I4, st4, fr4, w4⟩
    rcases turn i n acc σ4 H4 w4 with ⟨stop, qn⟩ | ⟨go, step⟩
    · refine thn (T.done (compCx X N' scope cl fp (X.pn ++ pins) s3 H3) rfl rfl rfl hc i [] s4 σ4 H4 (fun _ _ => False) I4 (stat fr4) st4 stop) fun r s5 ⟨hr, I5⟩ => .inl ⟨hr, ?_⟩
      obtain ⟨m, hn, _⟩ := I5.loc
      refine fin s5 H4 m hn (fun h' hs' => ?_) (I3.fpOk (Nat.le_refl _) I5.free) qn
      have k' : ∀ b o, b ≠ s3.heap.objs.size → s5.heap.get? b = some o → h'.get? b = some o := fun b o nb e => hs'.extBut b o nb e
      have u5 : Un (frs X.stack) fp H3 H4 s3.heap s5.heap := I5.base
      have un : Un (frs X.stack) fp H3 H4 s3.heap h' :=
        ⟨fun b o e n hb hx => k' b o (notC b o e) (u5.keep b o e n hb hx), fun b o e n hb hx => by obtain ⟨sl, q⟩ := u5.slot b o e n hb hx; exact ⟨sl, k' b _ (notC b o e) q⟩, u5.free,
          fun b o e hx => by obtain ⟨o', q⟩ := u5.there b o e hx; exact ⟨o', k' b _ (notC b o e) q⟩, u5.tups, u5.frzs, u5.tbls⟩
      have nC : H4 s3.heap.objs.size = none := I5.free
      have hok' : HOk X.prog X.w H4 h' := fun b u e => (I5.hok b u e).stay (fun c v hcv q => k' c v (by
        rintro rfl
        rcases hcv with z | z
        · rw [← z] at e; rw [nC] at e; cases e
        · rw [nC] at z; cases z) q) (fun _ q => q) fun _ _ q => q
      obtain ⟨hh, g5, d5, t5, os5⟩ := s5
      have os' : os5 = s3.os := I5.os
      subst os'
      have I' := Inv.call (s := s3) (h' := h') (g' := g5) (d' := d5) (t' := t5) (ch := fp) I3 un hok' I5.bare (fun b hb => ⟨(fpk b hb).2.2.1, (fpk b hb).1, (fpk b hb).2.2.2.1, (fpk b hb).2.2.2.2⟩)
      exact I'
    · refine thn (T.item (compCx X N' scope cl fp (X.pn ++ pins) s3 H3) rfl rfl rfl hc i [] s4 σ4 H4 (fun _ _ => False) I4 (stat fr4) st4 go) fun r s5 ⟨u, hr, h5⟩ => .inr ⟨u, hr, ?_⟩
      refine thn h5 fun _ s6 ⟨x, H6, I6, r6, y6, st6, fr6⟩ => ?_
      have I6' := I6.pinned (stat fr6) (T.obj _ _ st6)
      have again : ∀ {σ7 : St} {H7 : Hp} {s7 : Shared}, Inv (compCx X N' scope cl fp (X.pn ++ pins) s3 H3) ([] ++ pinsAt fp s6.heap) σ7 H7 s7 → ∀ {acc' : List V} {m' : Nat}, m' < n → Wv (i + 1) m' acc' σ7 H7 →
          ∃ m, m < n ∧ ∃ i acc σ' H', Inv (compCx X N' scope cl fp (X.pn ++ pins) s3 H3) [] σ' H' s7 ∧ tn i s7.heap ∧ (∀ b ∈ fp, H' b = none) ∧ Wv i m acc σ' H' := fun {σ7 H7 s7} I7 {acc' m'} hm w7 => by
        refine ⟨m', hm, i + 1, acc', σ7, H7, I7.unpinned, T.keep _ _ _ st6 fun b hb o e => (I7.pin (b, o) (List.mem_append_right _ (List.mem_append_right _ (mem_pinsAt hb e)))).1, fun b hb => ?_, w7⟩
        obtain ⟨o, e, d⟩ := T.obj _ _ st6 b hb
        exact (I7.pin (b, o) (List.mem_append_right _ (List.mem_append_right _ (mem_pinsAt hb e)))).2.1
      refine thn (hg _ s6 σ4 H6 x u _ I6' r6 (step x H6 y6)) fun _ s7 ⟨σ7, H7, I7, q7⟩ => ?_
      refine thn (ht _ s7 σ7 H7 _ I7 q7) fun ok s8 ⟨H8, I8, q8⟩ => ?_
      cases ok with
      | false =>
        rw [if_neg Bool.false_ne_true] at q8 ⊢
        obtain ⟨m', hm, w8⟩ := q8
        exact again I8 hm w8
      | true =>
        rw [if_pos rfl] at q8 ⊢
        refine thn (he _ s8 σ7 H8 _ I8 q8) fun y s9 ⟨yv, H9, I9, r9, eD, hl, m', hm, w9⟩ => ?_
        exact thn (mt_append (X := compCx X N' scope cl fp (X.pn ++ pins) s3 H3) _ s9 σ7 H9 (.ref D) [yv] (.ref D) [y] (fun _ H' => H' = upd H9 D (.lst (acc ++ [yv]))) I9 rfl (.cons r9 .nil) ⟨D, acc, yv, rfl, rfl, eD, hl, rfl⟩)
          fun _ s10 ⟨_, H10, I10, _, e10⟩ => by subst e10; exact again I10 hm w9
  exact codeAny_compStart_list loop (T.self X.A 0 _ _ _ (T.keep _ _ _ tn3 fun b _ o e => kp b o e) loop)
section
variable {X : Cx} {elt tg iter : Expr} {ifs : List Expr} {scope : Scope} {pos : Pos} {wi : TI} {g : CompA → TG} {tt : CompA → TT} {te : CompA → TE}
theorem pe_lcomp (N' : List Str) (fr : List (Option Nat)) (hc : X.calm = true) (hi : PI X tg iter wi) (hfr : frOk fr N' X.N scope X.env.scope = true) (hsc : scOk scope X.env.scope = true)
    (hg : ∀ y, PG (blk X N' scope y) tg (g y)) (ht : ∀ y, PTs (blk X N' scope y) ifs (tt y)) (he : ∀ y, PE (blk X N' scope y) elt (te y))
    (hs : ∀ x, foldedSetIterable iter X.env x = pure x := by intro _; rfl) : PE X (.ListComp elt [⟨tg, iter, ifs, 0⟩] scope pos) (tComp wi fr g tt te) := by
  intro pins s σ H Q I h
  obtain ⟨sk, sn⟩ := Bool.and_eq_true_iff.mp hsc
  have hkind : scope.kind = .function := of_decide_eq_true sk
  have hall := List.all_eq_true.mp sn
  have hcell : ∀ y ∈ scope.names, y.2 = .cell → scope.names.lookup y.1 = some .cell := fun y hy hl => by
    rcases Bool.or_eq_true_iff.mp (Bool.and_eq_true_iff.mp (Bool.and_eq_true_iff.mp (hall y hy)).1).1 with z | z
    · exact absurd hl (of_decide_eq_true z)
    · exact of_decide_eq_true z
  have hnames : ∀ y ∈ scope.names, y.2 = .local → scope.names.lookup y.1 = some .local := fun y hy hl => by
    rcases Bool.or_eq_true_iff.mp (Bool.and_eq_true_iff.mp (Bool.and_eq_true_iff.mp (hall y hy)).1).2 with z | z
    · exact absurd hl (of_decide_eq_true z)
    · exact of_decide_eq_true z
  have hfree : ∀ y ∈ scope.names, y.2 = .free → X.env.kindOf y.1 = some .cell ∨ X.env.kindOf y.1 = some .free := fun y hy hl => by
    rcases Bool.or_eq_true_iff.mp (Bool.and_eq_true_iff.mp (hall y hy)).2 with z | z
    · exact absurd hl (of_decide_eq_true z)
    · exact (Bool.or_eq_true_iff.mp z).imp of_decide_eq_true of_decide_eq_true
  obtain ⟨frl, frg⟩ := frOk.get hfr
  obtain ⟨cl, hclos, cl1, cl2⟩ := closure_for (env := X.env) (scope := scope) fun y hy hl => I.ok.has y.1 (hfree y hy hl)
  rw [eval_ListComp]
  refine wpAny_comprehension_free (use := none) rfl hs hclos hkind hnames (thn (hi pins s σ H _ I h) fun v s1 h1 => thn h1 fun itv s2 h2 => ?_)
  obtain ⟨it, fp, tn, J, H2, e, I2, T, st2, f2, q2⟩ := h2
  subst e
  -- the list that is filled
  refine wpAny_newObj_type ?_
  have hD : H2 s2.heap.objs.size = none := I2.hok.fresh (Nat.le_refl _)
  have I3 : Inv X pins σ (upd H2 s2.heap.objs.size (.lst [])) { s2 with heap := s2.heap.push { cls := .type "list", data := .seq ([] : List Value).toArray } } :=
    I2.laid (t' := s2.toks) (fun b u e => Heap.get?_push_of_some _ e) (Nat.le_refl _) ⟨by show 0 ≤ sizeLine; exact Nat.zero_le _, [], 0, .nil, Heap.get?_push_size _ rfl⟩
  obtain ⟨Wv, ⟨m0, w0⟩, turn⟩ := q2 _ hD
  have tn3 : tn 0 (s2.heap.push { cls := .type "list", data := .seq ([] : List Value).toArray }) := T.keep _ _ _ st2 fun b _ o e => Heap.get?_push_of_some _ e
  have fpD : ∀ b ∈ fp, (upd H2 s2.heap.objs.size (.lst [])) b = none := fun b hb => by
    obtain ⟨o, e, _⟩ := T.obj _ _ st2 b hb
    rw [upd_ne (Nat.ne_of_lt (Heap.lt_size e))]
    exact (f2 b hb).1
  have fp3 : ∀ b ∈ fp, b < (s2.heap.push { cls := .type "list", data := .seq ([] : List Value).toArray }).objs.size := fun b hb => by
    obtain ⟨o, e, _⟩ := T.obj _ _ tn3 b hb
    exact Heap.lt_size e
  exact comp_block N' fr hc hkind hcell hfree frl frg cl1 cl2 I3 T tn3 fpD fp3 (fun b hb => (f2 b hb).2) (hg ⟨cl, fp, X.pn ++ pins, _, _⟩) (ht ⟨cl, fp, X.pn ++ pins, _, _⟩) (he ⟨cl, fp, X.pn ++ pins, _, _⟩) w0 (turn ⟨cl, fp, X.pn ++ pins, _, _⟩)
    (Rp := compPost (model X.prog X.w) X.A X.xe none (EP X pins σ Q) (.ref s2.heap.objs.size)) fun s5 H4 m hn k _ qn => ⟨m, hn, fun h' hs' => ⟨.ref _, H4, k h' hs', rfl, qn⟩⟩
/-- name = [.. for ..]: the list is stored ahead of the block's end -/
theorem ps_setcomp {b : Bool} {x : Str} {px spos : Pos} {ix : Nat} (N' : List Str) (fr : List (Option Nat)) (hc : X.calm = true) (hi : PI X tg iter wi) (hfr : frOk fr N' X.N scope X.env.scope = true) (hsc : scOk scope X.env.scope = true)
    (hg : ∀ y, PG (blk X N' scope y) tg (g y)) (ht : ∀ y, PTs (blk X N' scope y) ifs (tt y)) (he : ∀ y, PE (blk X N' scope y) elt (te y)) (hN : X.N.Nodup) (hix : X.N[ix]? = some x) (hx : Loc X.env.scope x)
    (hf : X.fn x = true ∨ X.env.scope.names.lookup x = some .local) (hsw : swapsWith (.ListComp elt [⟨tg, iter, ifs, 0⟩] scope pos) (some (.Name x px)) spos.line X.env = pure b)
    (hs : ∀ x, foldedSetIterable iter X.env x = pure x) : PS X (.Assign [.Name x px] (.ListComp elt [⟨tg, iter, ifs, 0⟩] scope pos) spos) (tAsg (tComp wi fr g tt te) (gName ix)) := by
  cases b with
  | false => exact ps_set hN hix hx (pe_lcomp N' fr hc hi hfr hsc hg ht he hs) hsw hf
  | true =>
  intro pins s σ H DD I h
  obtain ⟨sk, sn⟩ := Bool.and_eq_true_iff.mp hsc
  have hkind : scope.kind = .function := of_decide_eq_true sk
  have hall := List.all_eq_true.mp sn
  have hcell : ∀ y ∈ scope.names, y.2 = .cell → scope.names.lookup y.1 = some .cell := fun y hy hl => by
    rcases Bool.or_eq_true_iff.mp (Bool.and_eq_true_iff.mp (Bool.and_eq_true_iff.mp (hall y hy)).1).1 with z | z
    · exact absurd hl (of_decide_eq_true z)
    · exact of_decide_eq_true z
  have hnames : ∀ y ∈ scope.names, y.2 = .local → scope.names.lookup y.1 = some .local := fun y hy hl => by
    rcases Bool.or_eq_true_iff.mp (Bool.and_eq_true_iff.mp (Bool.and_eq_true_iff.mp (hall y hy)).1).2 with z | z
    · exact absurd hl (of_decide_eq_true z)
    · exact of_decide_eq_true z
  have hfree : ∀ y ∈ scope.names, y.2 = .free → X.env.kindOf y.1 = some .cell ∨ X.env.kindOf y.1 = some .free := fun y hy hl => by
    rcases Bool.or_eq_true_iff.mp (Bool.and_eq_true_iff.mp (hall y hy)).2 with z | z
    · exact absurd hl (of_decide_eq_true z)
    · exact (Bool.or_eq_true_iff.mp z).imp of_decide_eq_true of_decide_eq_true
  obtain ⟨frl, frg⟩ := frOk.get hfr
  obtain ⟨cl, hclos, cl1, cl2⟩ := closure_for (env := X.env) (scope := scope) fun y hy hl => I.ok.has y.1 (hfree y hy hl)
  rw [exec_Assign_Name_used _ _ _ _ hsw]
  refine wpAny_bind (wpAny_standAt (wpAny_bind ?_))
  show wpAny _ X.A (do let _ ← comprehension (.ListComp elt [⟨tg, iter, ifs, 0⟩] scope pos) scope X.env _ (newList []) false (eval iter X.env) (some (assign (.Name x px) X.env))) _ _ s
  refine wpAny_bind (wpAny_mono (wpAny_comprehension_free (use := some (assign (.Name x px) X.env)) (Q := fun _ s' => SP X pins DD .next s') rfl hs hclos hkind hnames
    (thn (hi pins s σ H _ I h) fun v s1 h1 => thn h1 fun itv s2 h2 => ?_)) (fun _ s' hq => wpAny_pure (wpAny_pure hq)) fun _ _ e => e)
  obtain ⟨it, fp, tn, J, H2, e, I2, T, st2, f2, q2⟩ := h2
  subst e
  refine wpAny_newObj_type ?_
  have hD : H2 s2.heap.objs.size = none := I2.hok.fresh (Nat.le_refl _)
  have I3 : Inv X pins σ (upd H2 s2.heap.objs.size (.lst [])) { s2 with heap := s2.heap.push { cls := .type "list", data := .seq ([] : List Value).toArray } } :=
    I2.laid (t' := s2.toks) (fun b u e => Heap.get?_push_of_some _ e) (Nat.le_refl _) ⟨by show 0 ≤ sizeLine; exact Nat.zero_le _, [], 0, .nil, Heap.get?_push_size _ rfl⟩
  obtain ⟨Wv, ⟨m0, w0⟩, turn⟩ := q2 _ hD
  have tn3 : tn 0 (s2.heap.push { cls := .type "list", data := .seq ([] : List Value).toArray }) := T.keep _ _ _ st2 fun b _ o e => Heap.get?_push_of_some _ e
  have fpD : ∀ b ∈ fp, (upd H2 s2.heap.objs.size (.lst [])) b = none := fun b hb => by
    obtain ⟨o, e, _⟩ := T.obj _ _ st2 b hb
    rw [upd_ne (Nat.ne_of_lt (Heap.lt_size e))]
    exact (f2 b hb).1
  have fp3 : ∀ b ∈ fp, b < (s2.heap.push { cls := .type "list", data := .seq ([] : List Value).toArray }).objs.size := fun b hb => by
    obtain ⟨o, e, _⟩ := T.obj _ _ tn3 b hb
    exact Heap.lt_size e
  refine comp_block (Q := fun v H1 => gName ix v σ H1 DD.nx) N' fr hc hkind hcell hfree frl frg cl1 cl2 I3 T tn3 fpD fp3 (fun b hb => (f2 b hb).2) (hg ⟨cl, fp, X.pn ++ pins, _, _⟩) (ht ⟨cl, fp, X.pn ++ pins, _, _⟩) (he ⟨cl, fp, X.pn ++ pins, _, _⟩) w0 (turn ⟨cl, fp, X.pn ++ pins, _, _⟩)
    (Rp := compPost (model X.prog X.w) X.A X.xe (some (assign (.Name x px) X.env)) (fun _ s' => SP X pins DD .next s') (.ref s2.heap.objs.size)) fun s5 H4 m hn k fpo qn => ?_
  show wpAny _ X.A (assign (.Name x px) X.env (.ref s2.heap.objs.size)) _ _ s5
  have I5 : Inv X pins σ H4 s5 := k s5.heap (Heap.SameBut.refl _ _)
  obtain ⟨f0, f1, f2', f3, f4, f5⟩ := fpo
  refine wpAny_assign_Name (store_ok2 I5 hN hix hx (v := .ref s2.heap.objs.size) rfl (fun s6 I6 sb => ?_) hf)
  obtain ⟨a, sb, ha⟩ := sb
  have hne : (s2.heap.push { cls := .type "list", data := .seq ([] : List Value).toArray }).objs.size ≠ a := by
    rcases ha with rfl | ha
    · exact f1
    · exact fun z => f4 x a ha z.symm
  refine ⟨m, hn.at' fun o e => sb.extBut _ o hne e, fun h' hs' => ?_⟩
  exact ⟨_, H4, I6.turned (t' := s6.toks) (fun b o hb e => hs'.extBut b o hb e) f0 f1 f3 f4 f5, qn⟩
end
end L2

namespace L2.VL
open PySem PySem.Spec PyProof.Rows

def W.cap : W → Option W
  | .d x => some (.d x)
  | .reel => some .reel
  | .vv u => some (.vv u)
  | _ => none
def frEn (fr : List (Option Nat)) (ρ : En) : En := fr.map fun o => o.bind fun j => ((ρ[j]?).join).bind W.cap
def vGo (g : TGv) (ft : TB) (fe : TV) : List PyData → En → List PyData → (List PyData → Prop) → Prop
  | [], _, acc, Q => Q acc
  | x :: xs, ρ, acc, Q => g x ρ fun ρ2 => ft ρ2 fun b => if b = true then fe ρ2 fun w => ∃ d, w.fz = .d d ∧ acc.length < sizeLine ∧ vGo g ft fe xs ρ2 (acc ++ [d]) Q else vGo g ft fe xs ρ2 acc Q
def vComp (fi : En → (List PyData → Prop) → Prop) (fr : List (Option Nat)) (g : TGv) (ft : TB) (fe : TV) : TV := fun ρ Q => fi ρ fun xs => vGo g ft fe xs (frEn fr ρ) [] fun ds => Q (.ml ds)
def PTVs (X : Cx) (rl : Option Addr) (ifs : List Expr) (f : TB) : Prop := ∃ t, PTs X ifs t ∧ ∀ {F₀ H₀ F H : Hp} {σ : St} {ρ : En}, VR X.K rl F₀ H₀ F H σ ρ → ∀ (Qd : Bool → Prop) (Q : Bool → Hp → Prop), f ρ Qd →
  (∀ b F' H', Grow rl F H F' H' → Qd b → Q b H') → t σ H Q
theorem vt_nil {X : Cx} {rl : Option Addr} : PTVs X rl [] (fun _ Q => Q true) := ⟨_, pts_nil, fun R Qd Q q k => k true _ _ (Grow.refl R.sub R.reel) q⟩
theorem vt_one {X : Cx} {rl : Option Addr} {c : Expr} {f : TB} (h : PB X rl c f) : PTVs X rl [c] f := let ⟨t, p, k⟩ := h; ⟨t, pts_one p, k⟩
theorem frIn_get {fr : List (Option Nat)} {ρ : En} {i : Nat} {w : W} (h : (frEn fr ρ)[i]? = some (some w)) : ∃ j w', fr[i]? = some (some j) ∧ ρ[j]? = some (some w') ∧ w'.cap = some w := by
  unfold frEn at h
  rw [List.getElem?_map] at h
  cases ef : fr[i]? with
  | none => rw [ef] at h; cases h
  | some o =>
    cases o with
    | none => rw [ef] at h; cases h
    | some j =>
      rw [ef] at h
      have h' : ((ρ[j]?).join).bind W.cap = some w := Option.some.inj h
      cases q : ρ[j]? with
      | none => rw [q] at h'; cases h'
      | some o =>
        cases o with
        | none => rw [q] at h'; cases h'
        | some w' => rw [q] at h'; exact ⟨j, w', rfl, q, h'⟩
theorem cap_eq {w' w : W} (h : w'.cap = some w) : w = w' ∧ w.own = false ∧ ∀ xs, w ≠ .pk xs := by
  cases w' <;> cases h <;> exact ⟨rfl, rfl, (fun _ z => by cases z)⟩
/-- the block's slots at its entry -/
theorem vr_block {K : PySem.W.Frag} {rl : Option Addr} {F₀ H₀ F H : Hp} {σ : St} {ρ : En} {fr : List (Option Nat)} {H' : Hp} (R : VR K rl F₀ H₀ F H σ ρ) (g : Grow rl F H F H') : VR K rl F H F H' (frIn fr σ) (frEn fr ρ) := by
  refine ⟨g, fun i w e => ?_, fun i j xs ys v _ e1 _ o1 _ _ _ => ?_, fun i xs e => ?_, by simp [frIn, frEn]⟩
  · obtain ⟨j, w', e1, e2, e3⟩ := frIn_get e
    obtain ⟨rfl, n1, n2⟩ := cap_eq e3
    obtain ⟨v, s1, r1, _⟩ := R.sl j w e2
    refine ⟨v, ?_, r1.grow g, ?_⟩
    · unfold frIn
      rw [List.getElem?_map, e1]
      show some ((σ[j]?).join) = _
      rw [s1]
      rfl
    · cases w with
      | ml xs => cases n1
      | md xs => cases n1
      | nt _ => trivial
      | lk => trivial
      | d _ => trivial
      | pk _ => trivial
      | reel => trivial
      | vv _ => trivial
  · obtain ⟨_, _, _, _, e3⟩ := frIn_get e1
    rw [(cap_eq e3).2.1] at o1
    cases o1
  · obtain ⟨_, _, _, _, e3⟩ := frIn_get e
    exact absurd rfl ((cap_eq e3).2.2 xs)
theorem noMl_block {fr : List (Option Nat)} {ρ : En} : NoMl (frEn fr ρ) := fun i xs e => by
  obtain ⟨_, _, _, _, e3⟩ := frIn_get e
  exact (cap_eq e3).2.1
/-- an object that no slot has is written -/
theorem VR.other {K : PySem.W.Frag} {rl : Option Addr} {F₀ H₀ F H : Hp} {σ : St} {ρ : En} (R : VR K rl F₀ H₀ F H σ ρ) (n : NoMl ρ) {D : Addr} {o : HO} (h0 : H₀ D = none) (f : F D = none) (hr : rl ≠ some D) : VR K rl F₀ H₀ F (upd H D o) σ ρ := by
  have neF : ∀ b u, F b = some u → b ≠ D := fun b u q z => by subst z; rw [f] at q; cases q
  have g : Grow rl F₀ H₀ F (upd H D o) := by
    refine ⟨fun b o q1 n => by rw [upd_ne (ne_of_none q1 h0)]; exact R.g.same b o q1 n, R.g.fs, fun b o q1 => by rw [upd_ne (neF b o q1)]; exact R.sub b o q1, R.g.old, fun y z => ?_⟩
    obtain ⟨z1, ⟨u, h1, h2⟩⟩ := R.reel y z
    exact ⟨z1, ⟨u, by rw [upd_ne (fun q => hr (by rw [← q]; exact z))]; exact h1, h2⟩⟩
  refine ⟨g, fun i w e => ?_, R.ap, R.np, R.len⟩
  obtain ⟨v, h1, h2, h3⟩ := R.sl i w e
  refine ⟨v, h1, ?_, h3⟩
  cases w with
  | d x => exact h2
  | reel => exact h2
  | vv u => exact h2
  | ml xs => cases n i _ e
  | md xs => cases n i _ e
  | nt ds => exact h2
  | lk => trivial
  | pk xs => exact absurd e (R.np i xs)

section
variable {X : Cx} {rl : Option Addr} {elt tg iter : Expr} {ifs : List Expr} {scope : Scope} {pos : Pos} {fi : En → (List PyData → Prop) → Prop} {g : TGv} {ft : TB} {fe : TV}
theorem lcomp_k {N' : List Str} {wi : TI} (fr : List (Option Nat)) (k0 : ∀ {F₀ H₀ F H : Hp} {σ : St} {ρ : En}, VR X.K rl F₀ H₀ F H σ ρ → ∀ (Qd : List PyData → Prop) (R : It → Hp → Prop), fi ρ Qd →
      (∀ J xs F' H', Grow rl F H F' H' → VIt X.K rl F' J xs → Qd xs → R J H') → wi σ H R)
    (hg : ∀ y, PGV (blk X N' scope y) rl tg g) (ht : ∀ y, PTVs (blk X N' scope y) rl ifs ft) (he : ∀ y, PV (blk X N' scope y) rl elt fe)
    {F₀ H₀ F H : Hp} {σ : St} {ρ : En} (R : VR X.K rl F₀ H₀ F H σ ρ) (Qd : W → Prop) (Q : VK) (q : vComp fi fr g ft fe ρ Qd)
    (k : ∀ v w F' H', Grow rl F H F' H' → RelW X.K rl F' H' v w → NewIn H v w → Qd w → Q v H') : tComp wi fr (fun y => Classical.choose (hg y)) (fun y => Classical.choose (ht y)) (fun y => Classical.choose (he y)) σ H Q := by
  refine k0 R _ _ q fun J xs F1 H1 g1 vi q1 => ?_
  intro D hD
  have rD : rl ≠ some D := fun e => by obtain ⟨o, z⟩ := g1.reel.live e; rw [hD] at z; cases z
  have FD : F1 D = none := g1.sub.free hD
  have gD : Grow rl F1 H1 F1 (upd H1 D (.lst [])) := Grow.laid g1.sub g1.reel hD
  have R1 := R.grow g1
  refine ⟨fun i m acc σc Hc => m = xs.length - i ∧ i ≤ xs.length ∧ ∃ Fc ρc ds, VR X.K rl F1 H1 Fc Hc σc ρc ∧ NoMl ρc ∧ Hc D = some (.lst acc) ∧ Fc D = none ∧ Reps X.K Fc acc ds ∧ vGo g ft fe (xs.drop i) ρc ds (fun ds => Qd (.ml ds)),
    ⟨xs.length, by simp, Nat.zero_le _, F1, frEn fr ρ, [], vr_block R1 gD, noMl_block, upd_same, FD, .nil, by simpa using q1⟩, ?_⟩
  rintro z i m acc σc Hc ⟨rfl, hi, Fc, ρc, ds, Rc, nc, hDc, fDc, rs, q2⟩
  have sH : Same F1 Hc := Rc.g.fs.trans Rc.sub
  by_cases hlt : i < xs.length
  · have ei : xs[i]? = some xs[i] := by simp [hlt]
    have ed : xs.drop i = xs[i] :: xs.drop (i + 1) := List.drop_eq_getElem_cons hlt
    rw [ed] at q2
    refine .inr ⟨vi.go i Hc _ ei sH, fun v H' y => ?_⟩
    obtain ⟨Fy, gy, rv⟩ := vi.yld i Hc v H' _ Fc ei Rc.g.fs Rc.sub Rc.reel y
    refine (Classical.choose_spec (hg z)).2 (Rc.grow gy) v _ _ _ rv q2 fun F3 H3 σ3 ρ3 g3 n3 R3 q3 => ?_
    refine (Classical.choose_spec (ht z)).2 R3 _ _ q3 fun b F4 H4 g4 q4 => ?_
    have R4 := R3.grow g4
    have g34 := (gy.trans g3).trans g4
    have keepD : ∀ {Fx Hx : Hp}, Grow rl Fc Hc Fx Hx → Hx D = some (.lst acc) ∧ Fx D = none := fun gx => ⟨gx.same D _ hDc rD, by rw [gx.old D _ hDc]; exact fDc⟩
    cases b with
    | false => exact ⟨xs.length - (i + 1), by omega, rfl, hlt, F4, ρ3, ds, R4, n3 nc, (keepD g34).1, (keepD g34).2, rs.mono g34.fs, q4⟩
    | true =>
      refine (Classical.choose_spec (he z)).2 R4 _ _ q4 fun v5 w5 F5 H5 g5 r5 n5 ⟨d, ed5, hl, q5⟩ => ?_
      obtain ⟨F6, g6, s6, r6⟩ := RelW.fz g5 r5 n5
      rw [ed5] at r6
      have g36 := g34.trans g6
      refine ⟨(keepD g36).1, by rw [rs.length]; exact hl, xs.length - (i + 1), by omega, rfl, hlt, F6, ρ3, ds ++ [d], (R4.grow g6).other (n3 nc) hD (keepD g36).2 rD, n3 nc, upd_same, (keepD g36).2, (rs.mono g36.fs).snoc r6, q5⟩
  · have e : i = xs.length := by omega
    subst e
    rw [List.drop_length] at q2
    refine .inl ⟨vi.stop _ Hc (Nat.le_refl _) sH, k _ (.ml ds) Fc Hc (g1.trans Rc.g) ⟨D, acc, rfl, fDc, rD, hDc, rs⟩ (fun a ea => by cases ea; exact g1.freeB hD) q2⟩
theorem v_lcomp (N' : List Str) (fr : List (Option Nat)) (hc : X.calm = true) (hi : PIV X rl tg iter fi)
    (hg : ∀ y, PGV (blk X N' scope y) rl tg g) (ht : ∀ y, PTVs (blk X N' scope y) rl ifs ft) (he : ∀ y, PV (blk X N' scope y) rl elt fe)
    (hfr : frOk fr N' X.N scope X.env.scope = true := by rfl) (hsc : scOk scope X.env.scope = true := by rfl)
    (hs : ∀ x, foldedSetIterable iter X.env x = pure x := by intro _; rfl) : PV X rl (.ListComp elt [⟨tg, iter, ifs, 0⟩] scope pos) (vComp fi fr g ft fe) := by
  obtain ⟨wi, p0, k0⟩ := hi
  exact ⟨_, pe_lcomp N' fr hc p0 hfr hsc (fun y => (Classical.choose_spec (hg y)).1) (fun y => (Classical.choose_spec (ht y)).1) (fun y => (Classical.choose_spec (he y)).1) hs, fun R Qd Q q k => lcomp_k fr k0 hg ht he R Qd Q q k⟩
/-- name = [.. for ..] -/
theorem vs_setcomp (i : Nat) {b : Bool} {x : Str} {px spos : Pos} (hN : X.N.Nodup) (N' : List Str) (fr : List (Option Nat)) (hc : X.calm = true) (hi : PIV X rl tg iter fi)
    (hg : ∀ y, PGV (blk X N' scope y) rl tg g) (ht : ∀ y, PTVs (blk X N' scope y) rl ifs ft) (he : ∀ y, PV (blk X N' scope y) rl elt fe)
    (hsw : swapsWith (.ListComp elt [⟨tg, iter, ifs, 0⟩] scope pos) (some (.Name x px)) spos.line X.env = pure b := by rfl)
    (hix : X.N[i]? = some x := by rfl) (hx : Loc X.env.scope x := by first | exact Or.inl rfl | exact Or.inr rfl) (hf : X.fn x = true ∨ X.env.scope.names.lookup x = some .local := by first | exact .inl rfl | exact .inr rfl)
    (hfr : frOk fr N' X.N scope X.env.scope = true := by rfl) (hsc : scOk scope X.env.scope = true := by rfl)
    (hs : ∀ x, foldedSetIterable iter X.env x = pure x := by intro _; rfl) : PSV X rl (.Assign [.Name x px] (.ListComp elt [⟨tg, iter, ifs, 0⟩] scope pos) spos) (vSet i (vComp fi fr g ft fe)) := by
  obtain ⟨wi, p0, k0⟩ := hi
  refine ⟨_, ps_setcomp N' fr hc p0 hfr hsc (fun y => (Classical.choose_spec (hg y)).1) (fun y => (Classical.choose_spec (ht y)).1) (fun y => (Classical.choose_spec (he y)).1) hN hix hx hf hsw hs, fun R Dv D ok q => lcomp_k fr k0 hg ht he R _ _ q fun v w F1 H1 g1 r1 n1 ⟨hp, q1⟩ => ?_⟩
  exact ok.nx _ _ _ _ g1.fs (R.set g1 r1 n1 (fun xs z => by subst z; cases hp) i) q1
end
end L2.VL

namespace L2.VL
open PySem PySem.Spec PyProof.Rows

/-! ### data that can be shown and compared -/
mutual
def Nice : PyData → Prop
  | .none => True
  | .bool _ => True
  | .int i => i.natAbs < 2 ^ 1900
  | .str x => PyData.strOk x = true
  | .list xs => NiceAll xs
  | .tuple xs => NiceAll xs
  | .dict _ => False
def NiceAll : List PyData → Prop
  | [] => True
  | x :: xs => Nice x ∧ NiceAll xs
end
theorem log2_lt_of {n k : Nat} (h : n < 2 ^ k) (hk : 0 < k) : n.log2 < k := by
  by_cases h0 : n = 0
  · subst h0; simpa using hk
  · exact (Nat.log2_lt h0).mpr h
mutual
theorem Nice.facts : ∀ d : PyData, Nice d → d.showable = true ∧ d.canLay0 = true ∧ d.hasDict = false ∧ d.leavesShort 1921 = true
  | .none, _ => ⟨rfl, rfl, rfl, rfl⟩
  | .bool _, _ => ⟨rfl, rfl, rfl, rfl⟩
  | .int i, h => by
    have hl : i.natAbs.log2 < 1920 := log2_lt_of (Nat.lt_of_lt_of_le (show i.natAbs < 2 ^ 1900 from h) (Nat.pow_le_pow_right (by decide) (by decide))) (by decide)
    refine ⟨by simp [PyData.showable, hl], rfl, rfl, ?_⟩
    simp only [PyData.leavesShort, decide_eq_true_eq]
    exact int_text_len_1921 hl
  | .str x, h => by
    refine ⟨rfl, (show PyData.canLay0 (.str x) = true by simp only [PyData.canLay0]; exact h), rfl, ?_⟩
    have h : x.cps.all (· < 0x110000) = true := h
    simp only [PyData.leavesShort]
    rw [List.all_eq_true]
    intro c hc
    have := (Array.all_eq_true_iff_forall_mem.mp h) c (by simpa using hc)
    simp at this ⊢
    omega
  | .list xs, h => by
    obtain ⟨a, b, c, d⟩ := NiceAll.facts xs h
    exact ⟨by simpa [PyData.showable] using a, by simpa [PyData.canLay0] using b, by simpa [PyData.hasDict] using c, by simpa [PyData.leavesShort] using d⟩
  | .tuple xs, h => by
    obtain ⟨a, b, c, d⟩ := NiceAll.facts xs h
    exact ⟨by simpa [PyData.showable] using a, by simpa [PyData.canLay0] using b, by simpa [PyData.hasDict] using c, by simpa [PyData.leavesShort] using d⟩
  | .dict _, h => False.elim h
theorem NiceAll.facts : ∀ xs : List PyData, NiceAll xs → PyData.showableAll xs = true ∧ PyData.canLayAll0 xs = true ∧ PyData.hasDictAll xs = false ∧ PyData.leavesShortAll 1921 xs = true
  | [], _ => ⟨rfl, rfl, rfl, rfl⟩
  | x :: xs, h => by
    obtain ⟨a, b, c, d⟩ := Nice.facts x h.1
    obtain ⟨a', b', c', d'⟩ := NiceAll.facts xs h.2
    exact ⟨by simp [PyData.showableAll, a, a'], by simp [PyData.canLayAll0, b, b'], by simp [PyData.hasDictAll, c, c'], by simp [PyData.leavesShortAll, d, d']⟩
end
/-- nice, not deep, not heavy -/
def Shw (d : PyData) : Prop := Nice d ∧ d.depth ≤ 60 ∧ d.bulk ≤ 8000
theorem Shw.shaped {d : PyData} (h : Shw d) : SeqAt.shaped d = true := by
  obtain ⟨_, b, _⟩ := Nice.facts d h.1
  have := h.2.1
  simp [SeqAt.shaped, b]
  omega
theorem Shw.len {d : PyData} (h : Shw d) : d.shown.length ≤ sizeLine := by
  have q := PyData.shown_le_bulk 1921 (by decide) d (Nice.facts d h.1).2.2.2
  have := h.2.2
  have e : sizeLine = 16777216 := by decide
  omega

section
variable {X : Cx} {rl : Option Addr} {a b e : Expr} {es : List Expr} {fa fb fc : TV} {fs : TVs} {pos p : Pos}
/-! repr -/
def rRepr (K : PySem.W.Frag) : List V → Hp → VK → Prop := fun xs H Q => ∃ x d, xs = [x] ∧ Rep K H x d ∧ Shw d ∧ Q (.str d.shown) H
theorem call_repr (hgd : X.A.guards = some []) (hu : X.A.units + 64 < cLine) : CallR X (.builtin "repr") (rRepr X.K) := by
  intro pins s σ H xs us Q I r ⟨x, d, ex, rx, sh, q⟩
  subst ex
  obtain ⟨u, rfl, ru⟩ := vals1 r
  have fin : ∀ tk h' , (∀ b o, s.heap.get? b = some o → h'.get? b = some o) → ∀ t, EP X pins σ Q (.str d.shown t) { s with heap := h', toks := tk } := fun tk h' k t => ⟨.str d.shown, H, I.kept k, ⟨t, rfl⟩, q⟩
  obtain ⟨as, rd⟩ := Rep.reads I (.refl H) rx u ru
  have hs := (Nice.facts d sh.1)
  cases rx with
  | non => cases (show u = Value.none from ru); exact P.repr_of_none (fin _ _ (fun _ _ e => e) _)
  | bl b => cases (show u = Value.bool b from ru); exact P.repr_of_bool (fin _ _ (fun _ _ e => e) _)
  | int i =>
    obtain ⟨t, e⟩ := (show ∃ t, u = Value.int i t from ru)
    cases e
    exact P.repr_of_int (by simpa [PyData.showable] using hs.1) (fin _ _ (fun _ _ e => e) _)
  | str x =>
    obtain ⟨t, e⟩ := (show ∃ t, u = Value.str x t from ru)
    cases e
    exact P.repr_of_str (fin _ _ (fun _ _ e => e) _) sh.len
  | tup sq rs =>
    cases (show u = Value.ref _ from ru)
    exact repr_of_reads' rd hs.1 (PyData.noDict_hsm hs.2.2.1) hgd (by have := sh.2.1; omega) (fun _ _ e => e) (fun h' t tk hk => fin tk h' hk t) sh.len
  | lst sq rs =>
    cases (show u = Value.ref _ from ru)
    exact repr_of_reads' rd hs.1 (PyData.noDict_hsm hs.2.2.1) hgd (by have := sh.2.1; omega) (fun _ _ e => e) (fun h' t tk hk => fin tk h' hk t) sh.len
def gRepr : List W → (W → Prop) → Prop := fun ws Q => ∃ w d, ws = [w] ∧ w.dat = some d ∧ Shw d ∧ Q (.d (.str d.shown))
theorem vc_repr : VCall X rl (rRepr X.K) gRepr := fun {F H vs ws} Qd Q s ra r ⟨w, d, ew, e1, sh, q⟩ k => by
  subst ew
  obtain ⟨v, rfl, r1⟩ := rel1 r
  exact ⟨v, d, rfl, r1.dat s e1, sh, k _ (.d _) _ _ (Grow.refl s ra) (.str _) trivial q⟩
theorem v_repr (hr : Room 0 X.A) (hm : X.mg "repr" = none) (ha : PVs X rl [e] fs) (hg : Gl X "repr" := by rfl) (he : starEach [e] X.env = (false, eval e X.env) :: starEach [] X.env := by rfl) (hpl : (backTo pos (starEach [] X.env)).any (·.1) = false := by rfl) :
    PV X rl (.Call (.Name "repr" p) [e] [] pos) (vCall gRepr fs) := v_callB (call_repr hr.gd hr.units) vc_repr hm (by first | rfl | exact boot_repr) ha hg (by decide) (by decide) he hpl

/-! isinstance against a built-in type -/
def tyD : PyData → String
  | .none => "NoneType"
  | .bool _ => "bool"
  | .int _ => "int"
  | .str _ => "str"
  | .list _ => "list"
  | .tuple _ => "tuple"
  | .dict _ => "dict"
def isiD (d : PyData) (T : String) : Bool := tyD d == T || (tyD d == "bool" && T == "int")
def tyOk (T : String) : Bool := ["int", "bool", "str", "list", "tuple"].contains T
theorem kit_ok {K : PySem.W.Frag} {d : PyData} {T : String} (hd : ∀ kvs, d ≠ .dict kvs) (h : tyOk T = true) : PySem.W.kitOne K (.type (tyD d)) (.type T) = some (isiD d T) := by
  have h : T = "int" ∨ T = "bool" ∨ T = "str" ∨ T = "list" ∨ T = "tuple" := by simpa [tyOk] using h
  cases d with
  | dict kvs => exact absurd rfl (hd kvs)
  | none => rcases h with rfl | rfl | rfl | rfl | rfl <;> rfl
  | bool b => rcases h with rfl | rfl | rfl | rfl | rfl <;> rfl
  | int b => rcases h with rfl | rfl | rfl | rfl | rfl <;> rfl
  | str b => rcases h with rfl | rfl | rfl | rfl | rfl <;> rfl
  | list b => rcases h with rfl | rfl | rfl | rfl | rfl <;> rfl
  | tuple b => rcases h with rfl | rfl | rfl | rfl | rfl <;> rfl
def rIsi (K : PySem.W.Frag) : List V → Hp → VK → Prop := fun xs H Q => ∃ x d T, xs = [x, .ty T] ∧ Rep K H x d ∧ tyOk T = true ∧ Q (.bl (isiD d T)) H
theorem call_isi : CallR X (.builtin "isinstance") (rIsi X.K) := by
  intro pins s σ H xs us Q I r ⟨x, d, T, ex, rx, ok, q⟩
  subst ex
  obtain ⟨u, u2, rfl, ru, ru2⟩ := vals2 r
  cases (show u2 = Value.type T from ru2)
  have fin : ∀ tk, EP X pins σ Q (.bool (isiD d T)) { s with toks := tk } := fun tk => ⟨.bl _, H, I.tok tk, rfl, q⟩
  obtain ⟨as, rd⟩ := Rep.reads I (.refl H) rx u ru
  cases rd with
  | none => exact PySem.W.kia_one PySem.W.kitx_none I.kIn True.intro (kit_ok (d := PyData.none) (fun _ z => by cases z) ok) (fun z => nomatch z) fin
  | bool b => exact PySem.W.kia_one PySem.W.kitx_bool I.kIn True.intro (kit_ok (d := PyData.bool b) (fun _ z => by cases z) ok) (fun z => nomatch z) fin
  | int i t => exact PySem.W.kia_one PySem.W.kitx_int I.kIn True.intro (kit_ok (d := PyData.int i) (fun _ z => by cases z) ok) (fun z => nomatch z) fin
  | str y t => exact PySem.W.kia_one PySem.W.kitx_str I.kIn True.intro (kit_ok (d := PyData.str y) (fun _ z => by cases z) ok) (fun z => nomatch z) fin
  | list h1 h2 h3 h4 => exact PySem.W.kia_one PySem.W.kitx_list I.kIn ⟨_, h1, h2⟩ (kit_ok (d := PyData.list _) (fun _ z => by cases z) ok) (fun z => nomatch z) fin
  | tuple h1 h2 h3 h4 => exact PySem.W.kia_one PySem.W.kitx_tuple I.kIn ⟨_, h1, h2⟩ (kit_ok (d := PyData.tuple _) (fun _ z => by cases z) ok) (fun z => nomatch z) fin
  | dict h1 h2 h3 h4 h5 => cases rx
def gIsi : List W → (W → Prop) → Prop := fun ws Q => ∃ w d T, ws = [w, .vv (.ty T)] ∧ w.dat = some d ∧ tyOk T = true ∧ Q (.d (.bool (isiD d T)))
theorem vc_isi : VCall X rl (rIsi X.K) gIsi := fun {F H vs ws} Qd Q s ra r ⟨w, d, T, ew, e1, ok, q⟩ k => by
  subst ew
  obtain ⟨v, u, rfl, r1, r2⟩ := rel2 r
  cases (show u = V.ty T from r2)
  exact ⟨v, d, T, rfl, r1.dat s e1, ok, k _ (.d _) _ _ (Grow.refl s ra) (.bl _) trivial q⟩
theorem v_isi (hm : X.mg "isinstance" = none) (ha : PVs X rl [a, b] fs) (hg : Gl X "isinstance" := by rfl) (he : starEach [a, b] X.env = (false, eval a X.env) :: starEach [b] X.env := by rfl) (hpl : (backTo pos (starEach [b] X.env)).any (·.1) = false := by rfl) :
    PV X rl (.Call (.Name "isinstance" p) [a, b] [] pos) (vCall gIsi fs) := v_callB call_isi vc_isi hm (by first | rfl | exact boot_isinstance) ha hg (by decide) (by decide) he hpl
theorem v_len (hm : X.mg "len" = none) (ha : PVs X rl [a] fs) (hg : Gl X "len" := by rfl) (he : starEach [a] X.env = (false, eval a X.env) :: starEach [] X.env := by rfl) (hpl : (backTo pos (starEach [] X.env)).any (·.1) = false := by rfl) :
    PV X rl (.Call (.Name "len" p) [a] [] pos) (vCall gLen fs) := v_callB call_len_seq vc_len hm boot_len ha hg (by decide) (by decide) he hpl
theorem v_abs (hm : X.mg "abs" = none) (ha : PVs X rl [a] fs) (hg : Gl X "abs" := by rfl) (he : starEach [a] X.env = (false, eval a X.env) :: starEach [] X.env := by rfl) (hpl : (backTo pos (starEach [] X.env)).any (·.1) = false := by rfl) :
    PV X rl (.Call (.Name "abs" p) [a] [] pos) (vCall gAbs fs) := v_callB call_abs vc_abs hm (by first | rfl | exact boot_abs) ha hg (by decide) (by decide) he hpl
def gStrI : List W → (W → Prop) → Prop := fun ws Q => ∃ i, ws = [.d (.int i)] ∧ i.natAbs.log2 < 1920 ∧ Q (.d (.str (toString i)))
theorem vc_strI : VCall X rl (fun xs H Q => ∃ i, xs = [.int i] ∧ i.natAbs.log2 < 1920 ∧ Q (.str (toString i)) H) gStrI := fun {F H vs ws} Qd Q s ra r ⟨i, ew, z, q⟩ k => by
  subst ew
  obtain ⟨v, rfl, r1⟩ := rel1 r
  have e := rep_int r1
  subst e
  exact ⟨i, rfl, z, k _ (.d _) _ _ (Grow.refl s ra) (.str _) trivial q⟩
theorem v_strI (hm : X.mg "str" = none) (ha : PVs X rl [a] fs) (hg : Gl X "str" := by rfl) (he : starEach [a] X.env = (false, eval a X.env) :: starEach [] X.env := by rfl) (hpl : (backTo pos (starEach [] X.env)).any (·.1) = false := by rfl) :
    PV X rl (.Call (.Name "str" p) [a] [] pos) (vCall gStrI fs) := v_callTy call_str_int vc_strI hm (by first | rfl | exact boot_str) ha hg (by decide) (by decide) he hpl
end
end L2.VL

namespace L2.VL
open PySem PySem.Spec PyProof.Rows

/-! ### a text's own defs, and the names that stay the interpreter's -/
structure FnIn (K : PySem.W.Frag) (mg : Str → Option Value) (x : Str) (st : Stmt) (ps : List Str) : Prop where
  ex : ∃ f fd, mg x = some (.ref f) ∧ Fun K x x st f fd ∧ Binds K fd ps []
structure Bz (mg : Str → Option Value) : Prop where
  int_ : mg "int" = none
  bool_ : mg "bool" = none
  str_ : mg "str" = none
  list_ : mg "list" = none
  tuple_ : mg "tuple" = none
  dict_ : mg "dict" = none
  isinstance_ : mg "isinstance" = none
  len_ : mg "len" = none
  abs_ : mg "abs" = none
  repr_ : mg "repr" = none
  range_ : mg "range" = none
  all_ : mg "all" = none
  any_ : mg "any" = none
  sum_ : mg "sum" = none
  min_ : mg "min" = none
  max_ : mg "max" = none
  sorted_ : mg "sorted" = none
  zip_ : mg "zip" = none
  enumerate_ : mg "enumerate" = none
  reversed_ : mg "reversed" = none
  divmod_ : mg "divmod" = none
  set_ : mg "set" = none
section
variable {P : Program} {w : World} {K : PySem.W.Frag} {mg : Str → Option Value} {base : Heap} {rl : Option Addr} {x : Str} {st : Stmt} {N ps : List Str} {k : Nat} {Pd : List W → (PyData → Prop) → Prop} {t : TSv}
theorem Dfn.of (Fn : FnIn K mg x st ps) (S : FnScope N ps (defScope st)) (mono : ∀ ws Q Q', (∀ d, Q d → Q' d) → Pd ws Q → Pd ws Q') (len : ∀ ws Q, Pd ws Q → ws.length = ps.length)
    (hbody : ∀ {f : Addr} (cdv : Value) (A : Around) (outer : List Env) (s : Shared) (H : Hp) (E : XK), Room k (A.deeper (envOfC x (defScope st) s.heap.objs.size f cdv)) →
      PSsV (cxOf CX0 P w K mg base N x (defScope st) f cdv A outer s H E).nox rl (defBody st) t)
    (hread : ∀ ws Q, Pd ws Q → t (vEnds Q) (startV N ws)) : Dfn P w K mg base rl x ps (k + 1) Pd := by
  obtain ⟨f, fd, hm, F, hb⟩ := Fn.ex
  exact ⟨mono, f, fd, hm, F.kp, hb, vfn F S len hbody hread⟩
end
section
variable {X : Cx} {rl : Option Addr} {e : Expr} {es : List Expr} {fa fb fc : TV} {fs : TVs} {pos p : Pos}
theorem v_call0 {x : Str} {k : Nat} {Pd : List W → (PyData → Prop) → Prop} (D : Dfn X.prog X.w X.K X.mg X.base rl x [] k Pd) (hr : Room k X.A) (hg : Gl X x := by rfl) (hdb : (x == ("__debug__" : Str)) = false := by decide) :
    PV X rl (.Call (.Name x p) [] [] pos) (vUse Pd vNil) := by
  obtain ⟨f, fd, hm, hk, hb, F⟩ := D.ex
  refine ⟨_, pe_call0 F hr hg hm hk hb .nil pass0 hdb, fun R Qd Q ⟨ok, q1⟩ h => ?_⟩
  refine ⟨_, [], R.sub, R.reel, .nil, rfl, ?_⟩
  exact D.mono [] _ _ (fun d qd v F2 H2 g2 r2 => h v (.d d) F2 H2 g2 r2 trivial qd) q1
theorem vs_ext (i : Nat) {x : Str} {px apos cpos : Pos} (ha : PVs X rl [e] fs) (hN : X.N[i]? = some x := by rfl) (hv : Vis X.env.scope x := by first | exact Or.inl rfl | exact Or.inr (Or.inl rfl) | exact Or.inr (Or.inr rfl))
    (hd : (x == ("__debug__" : Str)) = false := by decide) (hcd : (x == ("__classdict__" : Str)) = false := by decide)
    (hbase : attributeBase (.Name x px) "extend" X.env (eval (.Name x px) X.env) = eval (.Name x px) X.env := by rfl)
    (hfew : ((backTo cpos (starEach [e] X.env)).all (fun x => !x.1) && (backToKw cpos (keywordEach [] X.env)).all (fun x => x.1.isSome)
      && decide (([e]).length + ([] : List Keyword).length + (if ([] : List Keyword).isEmpty then 0 else 1) < 30)) = true := by rfl)
    (hline : (apos.endLine == cpos.line) = true := by rfl) (hs : starEach [e] X.env = (false, eval e X.env) :: starEach [] X.env := by rfl) (hplain : (backTo cpos (starEach [] X.env)).any (·.1) = false := by rfl)
    (hsw : swapsWith (.Call (.Attribute (.Name x px) "extend" apos) [e] [] cpos) none pos.line X.env = pure false := by rfl) :
    PSV X rl (.Expr (.Call (.Attribute (.Name x px) "extend" apos) [e] [] cpos) pos) (vMut i gExt fs) :=
  vs_mut i PySem.F.slot_list_extend PySem.F.type_list_extend mt_extend vm_ext ha hN hv hd hcd hbase hfew hline hs hplain hsw
end
/-! ### promises of the usual forms -/
def fn1 (pre : PyData → Prop) (f : PyData → PyData) : List W → (PyData → Prop) → Prop := fun ws Q => ∃ a, ws = [.d a] ∧ pre a ∧ Q (f a)
def fn2 (pre : PyData → PyData → Prop) (f : PyData → PyData → PyData) : List W → (PyData → Prop) → Prop := fun ws Q => ∃ a b, ws = [.d a, .d b] ∧ pre a b ∧ Q (f a b)
theorem fn1.mono {pre : PyData → Prop} {f : PyData → PyData} : ∀ ws (Q Q' : PyData → Prop), (∀ d, Q d → Q' d) → fn1 pre f ws Q → fn1 pre f ws Q' := fun _ _ _ h ⟨a, e, p, q⟩ => ⟨a, e, p, h _ q⟩
theorem fn2.mono {pre : PyData → PyData → Prop} {f : PyData → PyData → PyData} : ∀ ws (Q Q' : PyData → Prop), (∀ d, Q d → Q' d) → fn2 pre f ws Q → fn2 pre f ws Q' := fun _ _ _ h ⟨a, b, e, p, q⟩ => ⟨a, b, e, p, h _ q⟩
theorem fn1.len {pre : PyData → Prop} {f : PyData → PyData} : ∀ ws (Q : PyData → Prop), fn1 pre f ws Q → ws.length = 1 := fun _ _ ⟨a, e, _⟩ => by subst e; rfl
theorem fn2.len {pre : PyData → PyData → Prop} {f : PyData → PyData → PyData} : ∀ ws (Q : PyData → Prop), fn2 pre f ws Q → ws.length = 2 := fun _ _ ⟨a, b, e, _⟩ => by subst e; rfl
/-- of the reel: anything of that sort -/
def rf0 (post : PyData → Prop) : List W → (PyData → Prop) → Prop := fun ws Q => ws = [.reel] ∧ ∀ d, post d → Q d
theorem rf0.mono {post : PyData → Prop} : ∀ ws (Q Q' : PyData → Prop), (∀ d, Q d → Q' d) → rf0 post ws Q → rf0 post ws Q' := fun _ _ _ h ⟨e, q⟩ => ⟨e, fun d hd => h d (q d hd)⟩
theorem rf0.len {post : PyData → Prop} : ∀ ws (Q : PyData → Prop), rf0 post ws Q → ws.length = 1 := fun _ _ ⟨e, _⟩ => by subst e; rfl
/-- one of so many -/
def pickP : List W → (PyData → Prop) → Prop := fun ws Q => ∃ m : Int, ws = [.reel, .d (.int m)] ∧ 0 < m ∧ m < 2 ^ 60 ∧ ∀ k : Int, 0 ≤ k → k < m → Q (.int k)
theorem pickP.mono : ∀ ws (Q Q' : PyData → Prop), (∀ d, Q d → Q' d) → pickP ws Q → pickP ws Q' := fun _ _ _ h ⟨m, e, p, z, q⟩ => ⟨m, e, p, z, fun k a b => h _ (q k a b)⟩
theorem pickP.len : ∀ ws (Q : PyData → Prop), pickP ws Q → ws.length = 2 := fun _ _ ⟨m, e, _⟩ => by subst e; rfl
theorem Dfn.mono' {P : Program} {w : World} {K : PySem.W.Frag} {mg : Str → Option Value} {base : Heap} {rl : Option Addr} {x : Str} {ps : List Str} {j k : Nat} {Pd : List W → (PyData → Prop) → Prop} (D : Dfn P w K mg base rl x ps j Pd) (h : j ≤ k) : Dfn P w K mg base rl x ps k Pd := by
  obtain ⟨f, fd, a, b, c, F⟩ := D.ex
  exact ⟨D.mono, f, fd, a, b, c, F.mono h⟩
/-! ### for the reading -/
theorem fz_d (x : PyData) : (W.d x).fz = .d x := rfl
theorem fz_ml (x : List PyData) : (W.ml x).fz = .d (.list x) := rfl
theorem fz_nt (x : List PyData) : (W.nt x).fz = .d (.tuple x) := rfl
theorem pk_nt (x : List PyData) : L2.VL.W.peek (.nt x) = .nt x := rfl
theorem dat_nt (x : List PyData) : (W.nt x).dat = some (.tuple x) := rfl
theorem isPk_nt (x : List PyData) : (W.nt x).isPk = false := rfl
theorem isPk_md (x : List (List Key × PyData)) : (W.md x).isPk = false := rfl
theorem fz_pk (x : List PyData) : (W.pk x).fz = .pk x := rfl
theorem fz_reel : W.reel.fz = .reel := rfl
theorem fz_vv (x : V) : (W.vv x).fz = .vv x := rfl
theorem pk_d (x : PyData) : L2.VL.W.peek (.d x) = .d x := rfl
theorem pk_ml (x : List PyData) : L2.VL.W.peek (.ml x) = .pk x := rfl
theorem pk_reel : L2.VL.W.peek .reel = .reel := rfl
theorem pk_vv (x : V) : L2.VL.W.peek (.vv x) = .vv x := rfl
theorem dat_d (x : PyData) : (W.d x).dat = some x := rfl
theorem dat_ml (x : List PyData) : (W.ml x).dat = some (.list x) := rfl
theorem dat_pk (x : List PyData) : (W.pk x).dat = some (.list x) := rfl
theorem isPk_d (x : PyData) : (W.d x).isPk = false := rfl
theorem isPk_ml (x : List PyData) : (W.ml x).isPk = false := rfl
theorem isPk_reel : W.reel.isPk = false := rfl
theorem dats_nil : dats [] = some [] := rfl
theorem dats_d (x : PyData) (r : List W) : dats (.d x :: r) = (dats r).map (x :: ·) := rfl
theorem arg_d (x : PyData) : argOk (.d x) = true := rfl
theorem arg_reel : argOk .reel = true := rfl
theorem item_l (xs : List PyData) (i : Int) : L2.VL.itemAt (.list xs) i = L2.atI xs i := rfl
theorem item_t (xs : List PyData) (i : Int) : L2.VL.itemAt (.tuple xs) i = L2.atI xs i := rfl
theorem len_l (xs : List PyData) : lenD (.list xs) = some xs.length := rfl
theorem len_t (xs : List PyData) : lenD (.tuple xs) = some xs.length := rfl
theorem ite_t {A B : Prop} : (if true = true then A else B) = A := if_pos rfl
theorem ite_f {A B : Prop} : (if false = true then A else B) = B := if_neg (by decide)
theorem at0 {α : Type} (x : α) (r : List α) : L2.atI (x :: r) 0 = some x := by simp [L2.atI, L2.ixN]
theorem at1 {α : Type} (x y : α) (r : List α) : L2.atI (x :: y :: r) 1 = some y := by
  have : (1 : Int) < ((x :: y :: r).length : Int) := by simp; omega
  simp only [L2.atI, L2.ixN]
  rw [if_pos (by decide), if_pos this]
  rfl
end L2.VL

namespace L2.VL
open PySem PySem.Spec PyProof.Rows
theorem fmod_abs_lt {x y : Int} (h : y ≠ 0) : (x.fmod y).natAbs < y.natAbs := by
  rcases Int.lt_or_gt_of_ne h with hy | hy
  · have h1 := Int.fmod_add_mul_fdiv x y
    have e : x.fmod y = -((-x).fmod (-y)) := by
      have := Int.neg_fmod_neg x y
      omega
    have p : 0 < -y := by omega
    have b1 := Int.fmod_nonneg_of_pos (-x) p
    have b2 := Int.fmod_lt_of_pos (-x) p
    omega
  · have b1 := Int.fmod_nonneg_of_pos x hy
    have b2 := Int.fmod_lt_of_pos x hy
    omega
theorem gcd_fmod (x y : Int) : Int.gcd y (x.fmod y) = Int.gcd x y := by
  have e : x.fmod y = x + y * (-(x.fdiv y)) := by
    have := Int.fmod_add_mul_fdiv x y
    rw [Int.mul_neg]
    omega
  rw [e, Int.gcd_add_mul_left_right]
  exact Int.gcd_comm y x
theorem eqv_ii (a b : Int) : PyData.eqv (.int a) (.int b) = (a == b) := by simp [PyData.eqv]
theorem eqv_ss (a b : Str) : PyData.eqv (.str a) (.str b) = (a == b) := by simp [PyData.eqv]
theorem shaped_i (a : Int) : SeqAt.shaped (.int a) = true := rfl
theorem shaped_b (a : Bool) : SeqAt.shaped (.bool a) = true := rfl
/-- the greatest common divisor -/
def gcdP : List W → (PyData → Prop) → Prop := fun ws Q => ∃ i j : Int, ws = [.d (.int i), .d (.int j)] ∧ Q (.int (Int.gcd i j))
theorem gcdP.mono : ∀ ws (Q Q' : PyData → Prop), (∀ d, Q d → Q' d) → gcdP ws Q → gcdP ws Q' := fun _ _ _ h ⟨i, j, e, q⟩ => ⟨i, j, e, h _ q⟩
theorem gcdP.len : ∀ ws (Q : PyData → Prop), gcdP ws Q → ws.length = 2 := fun _ _ ⟨_, _, e, _⟩ => by subst e; rfl
def isWholeD (d : PyData) : Bool := isiD d "int" && !isiD d "bool"
theorem isWholeD_iff {d : PyData} : isWholeD d = true ↔ ∃ i, d = .int i := by
  cases d <;> simp [isWholeD, isiD, tyD]
def isFracD : PyData → Bool
  | .tuple [.int n, .int d] => decide (1 ≤ d) && decide (Int.gcd n d = 1)
  | _ => false
theorem isFracD_pair (a b : PyData) : isFracD (.tuple [a, b]) = (isWholeD a && isWholeD b && match a, b with | .int n, .int d => decide (1 ≤ d) && decide (Int.gcd n d = 1) | _, _ => false) := by
  cases a <;> cases b <;> simp [isFracD, isWholeD, isiD, tyD]
theorem isFracD_len : ∀ {xs : List PyData}, xs.length ≠ 2 → isFracD (.tuple xs) = false
  | [], _ => rfl
  | [x], _ => by cases x <;> rfl
  | x :: y :: _ :: _, _ => by cases x <;> cases y <;> rfl
  | [_, _], h => absurd rfl h
theorem isFracD_not {d : PyData} (h : isiD d "tuple" = false) : isFracD d = false := by
  cases d <;> first | rfl | simp [isiD, tyD] at h
theorem small_fmod {x y : Int} (h : y ≠ 0) (b : y.natAbs < 2 ^ 64) : (x.fmod y).natAbs < 2 ^ 64 := Nat.lt_trans (fmod_abs_lt h) b
theorem CDivB.of {i j : Int} (h : j ≠ 0) (b : j.natAbs < 2 ^ 64) : CDivB i j := ⟨h, Nat.lt_of_lt_of_le b (Nat.pow_le_pow_right (by decide) (by decide))⟩
theorem canLay_ints : ∀ ns : List Int, PyData.canLayAll0 (ns.map PyData.int) = true
  | [] => rfl
  | n :: ns => by simp [PyData.canLayAll0, PyData.canLay0, canLay_ints ns]
theorem depth_ints : ∀ ns : List Int, PyData.depthAll (ns.map PyData.int) = 0
  | [] => rfl
  | n :: ns => by simp [PyData.depthAll, PyData.depth, depth_ints ns]
theorem shaped_ints (ns : List Int) : SeqAt.shaped (.list (ns.map .int)) = true := by simp [SeqAt.shaped, PyData.canLay0, PyData.depth, canLay_ints, depth_ints]
theorem eqv_nil (ns : List PyData) : PyData.eqv (.list ns) (.list []) = ns.isEmpty := by cases ns <;> simp [PyData.eqv, PyData.eqvAll]
theorem at_mod {ns : List Int} (h : ns ≠ []) (n : Int) : ∃ i, L2.atI (ns.map PyData.int) (n.fmod ((ns.map PyData.int).length : Int)) = some (.int i) := by
  have hl : 0 < ns.length := by cases ns with | nil => exact absurd rfl h | cons _ _ => simp
  rw [List.length_map]
  have p : (0 : Int) < (ns.length : Int) := by omega
  have b1 := Int.fmod_nonneg_of_pos n p
  have b2 := Int.fmod_lt_of_pos n p
  obtain ⟨k, hk⟩ := Int.eq_ofNat_of_zero_le b1
  rw [hk] at b2 ⊢
  have hk' : k < ns.length := by omega
  refine ⟨ns[k], ?_⟩
  exact atI_nat (by rw [List.getElem?_map, List.getElem?_eq_getElem hk']; rfl)
theorem gcd_abs (a b : Int) : Int.gcd (if a < 0 then -a else a) (if b < 0 then -b else b) = Int.gcd a b := by
  split <;> split <;> simp [Int.gcd]
theorem gcd_pos {a b : Int} (h : b ≠ 0) : 0 < (Int.gcd a b : Int) := by
  have := Int.gcd_pos_of_ne_zero_right a h
  omega
theorem gcd_le {a b : Int} (h : b ≠ 0) : (Int.gcd a b) ≤ b.natAbs := Nat.le_of_dvd (by omega) (Int.gcd_dvd_natAbs_right a b)
theorem Shw.pair {a b : PyData} (h : Shw (.tuple [a, b])) : a.canLay0 = true ∧ b.canLay0 = true ∧ a.depth ≤ 59 ∧ b.depth ≤ 59 := by
  obtain ⟨_, c, _⟩ := Nice.facts _ h.1
  have d := h.2.1
  simp [PyData.canLay0, PyData.canLayAll0] at c
  simp [PyData.depth, PyData.depthAll] at d
  exact ⟨c.1, c.2, by omega, by omega⟩
theorem shaped_1 {a : PyData} (h : a.canLay0 = true) (d : a.depth ≤ 59) : SeqAt.shaped (.list [a]) = true := by
  simp [SeqAt.shaped, PyData.canLay0, PyData.canLayAll0, PyData.depth, PyData.depthAll, h]
  omega
theorem shaped_2 {a b : PyData} (h : a.canLay0 = true) (d : a.depth ≤ 59) (h' : b.canLay0 = true) (d' : b.depth ≤ 59) : SeqAt.shaped (.list [a, b]) = true := by
  simp [SeqAt.shaped, PyData.canLay0, PyData.canLayAll0, PyData.depth, PyData.depthAll, h, h']
  omega
/-- a fraction made of two numbers -/
def madeP : List W → (PyData → Prop) → Prop := fun ws Q => ∃ a b : Int, ws = [.d (.int a), .d (.int b)] ∧ b ≠ 0 ∧ b.natAbs < 2 ^ 8000 ∧
  ∀ c, c = (if 0 < b then (Int.gcd a b : Int) else -(Int.gcd a b : Int)) → Q (.tuple [.int (a.fdiv c), .int (b.fdiv c)])
theorem madeP.mono : ∀ ws (Q Q' : PyData → Prop), (∀ d, Q d → Q' d) → madeP ws Q → madeP ws Q' := fun _ _ _ h ⟨a, b, e, p, z, q⟩ => ⟨a, b, e, p, z, fun c hc => h _ (q c hc)⟩
theorem madeP.len : ∀ ws (Q : PyData → Prop), madeP ws Q → ws.length = 2 := fun _ _ ⟨_, _, e, _⟩ => by subst e; rfl
end L2.VL

namespace L2.VL
open PySem PySem.Spec PyProof.Rows
theorem strOk_ofString (s : String) : PyData.strOk (Str.ofString s) = true := by
  unfold PyData.strOk
  rw [Str.ofString_eq_toList]
  simp only [Array.all_eq_true_iff_forall_mem]
  intro c hc
  have hc : c ∈ s.toList.map Char.toNat := List.mem_toArray.mp hc
  obtain ⟨d, _, rfl⟩ := List.mem_map.mp hc
  have := d.valid
  have h : d.val.toNat < 0x110000 := by
    rcases this with h | h
    · have : d.val.toNat < 0xd800 := h
      omega
    · exact h.2
  exact decide_eq_true h
/-- a small leaf -/
structure Lf (d : PyData) : Prop where
  nice : Nice d
  dep : d.depth ≤ 2
  wt : d.bulk ≤ 2000
theorem Lf.int {i : Int} (h : i.natAbs < 2 ^ 1000) : Lf (.int i) :=
  ⟨Nat.lt_trans h (Nat.pow_lt_pow_right (by decide) (by decide)), by simp [PyData.depth], by simp [PyData.bulk]⟩
theorem Lf.text {i : Int} (h : i.natAbs.log2 < 1920) : Lf (.str (Str.ofString (toString i))) := by
  refine ⟨strOk_ofString _, by simp [PyData.depth], ?_⟩
  have := int_text_len_1921 h
  simp only [PyData.bulk]
  have e : (Str.ofString (toString i)).cps.size = (Str.ofString (toString i)).length := rfl
  omega
theorem Lf.shw {d : PyData} (h : Lf d) : Shw d := ⟨h.nice, by have := h.dep; omega, by have := h.wt; omega⟩
theorem Shw.t1 {a : PyData} (ha : Lf a) : Shw (.tuple [a]) := by
  refine ⟨⟨ha.nice, trivial⟩, ?_, ?_⟩
  · have := ha.dep; simp [PyData.depth, PyData.depthAll]; omega
  · have := ha.wt; simp [PyData.bulk, PyData.bulkAll]; omega
theorem Shw.t2 {a b : PyData} (ha : Lf a) (hb : Lf b) : Shw (.tuple [a, b]) := by
  refine ⟨⟨ha.nice, hb.nice, trivial⟩, ?_, ?_⟩
  · have := ha.dep; have := hb.dep; simp [PyData.depth, PyData.depthAll]; omega
  · have := ha.wt; have := hb.wt; simp [PyData.bulk, PyData.bulkAll]; omega
theorem Shw.l2 {a b : PyData} (ha : Lf a) (hb : Lf b) : Shw (.list [a, b]) := by
  refine ⟨⟨ha.nice, hb.nice, trivial⟩, ?_, ?_⟩
  · have := ha.dep; have := hb.dep; simp [PyData.depth, PyData.depthAll]; omega
  · have := ha.wt; have := hb.wt; simp [PyData.bulk, PyData.bulkAll]; omega
theorem Shw.t3 {a b c : PyData} (ha : Lf a) (hb : Lf b) (hc : Lf c) : Shw (.tuple [a, b, c]) := by
  refine ⟨⟨ha.nice, hb.nice, hc.nice, trivial⟩, ?_, ?_⟩
  · have := ha.dep; have := hb.dep; have := hc.dep; simp [PyData.depth, PyData.depthAll]; omega
  · have := ha.wt; have := hb.wt; have := hc.wt; simp [PyData.bulk, PyData.bulkAll]; omega
theorem Lf.pair {a b : Int} (ha : a.natAbs < 2 ^ 900) (hb : b.natAbs < 2 ^ 900) : Lf (.tuple [.int a, .int b]) := by
  refine ⟨⟨Nat.lt_trans ha (Nat.pow_lt_pow_right (by decide) (by decide)), Nat.lt_trans hb (Nat.pow_lt_pow_right (by decide) (by decide)), trivial⟩, by simp [PyData.depth, PyData.depthAll], by simp [PyData.bulk, PyData.bulkAll]⟩
/-- an item at a place in bounds -/
theorem at_in {α : Type} {xs : List α} {k : Int} (h0 : 0 ≤ k) (h1 : k < (xs.length : Int)) : ∃ z, L2.atI xs k = some z ∧ z ∈ xs := by
  obtain ⟨n, rfl⟩ := Int.eq_ofNat_of_zero_le h0
  have hn : n < xs.length := by omega
  exact ⟨xs[n], atI_nat (List.getElem?_eq_getElem hn), List.getElem_mem hn⟩

theorem at_use {α : Type} {xs : List α} {k : Int} {R : α → Prop} (h0 : 0 ≤ k) (h1 : k < (xs.length : Int)) (h : ∀ z ∈ xs, R z) : ∃ z, L2.atI xs k = some z ∧ R z := by
  obtain ⟨z, e, m⟩ := at_in h0 h1
  exact ⟨z, e, h z m⟩
theorem pow_big {n : Nat} (h : n < 2 ^ 250) : n < 2 ^ 1900 := Nat.lt_of_lt_of_le h (Nat.pow_le_pow_right (by decide) (by decide))
theorem Lf.i {i : Int} (h : i.natAbs < 2 ^ 250) : Lf (.int i) := .int (Nat.lt_of_lt_of_le h (Nat.pow_le_pow_right (by decide) (by decide)))
theorem Lf.p {a b : Int} (ha : a.natAbs < 2 ^ 250) (hb : b.natAbs < 2 ^ 250) : Lf (.tuple [.int a, .int b]) := .pair (Nat.lt_of_lt_of_le ha (Nat.pow_le_pow_right (by decide) (by decide))) (Nat.lt_of_lt_of_le hb (Nat.pow_le_pow_right (by decide) (by decide)))
theorem rep_str {K : PySem.W.Frag} {F : Hp} {v : V} {i : Str} (h : Rep K F v (.str i)) : v = .str i := by cases h; rfl
def gEqS (neg : Bool) : W → W → (W → Prop) → Prop := fun x y Q => ∃ a b : Str, x = .d (.str a) ∧ y = .d (.str b) ∧ Q (.d (.bool (if neg then !decide (a = b) else decide (a = b))))
theorem vo_eqS {X : Cx} {rl : Option Addr} : VOp X rl rEq (gEqS false) := fun {F H x y wx wy} Qd Q s ra r1 r2 q k => by
  obtain ⟨a, b, rfl, rfl, q⟩ := q
  have e1 := rep_str r1
  have e2 := rep_str r2
  subst e1 e2
  have e : decide (V.str a = V.str b) = decide (a = b) := by
    by_cases h : a = b
    · subst h; simp
    · rw [decide_eq_false h, decide_eq_false fun z => h (by injection z)]
  exact ⟨rfl, by rw [e]; exact k _ (.d _) _ _ (Grow.refl s ra) (.bl _) trivial q⟩
theorem vo_neS {X : Cx} {rl : Option Addr} : VOp X rl rNe (gEqS true) := fun {F H x y wx wy} Qd Q s ra r1 r2 q k => by
  obtain ⟨a, b, rfl, rfl, q⟩ := q
  have e1 := rep_str r1
  have e2 := rep_str r2
  subst e1 e2
  have e : decide (V.str a = V.str b) = decide (a = b) := by
    by_cases h : a = b
    · subst h; simp
    · rw [decide_eq_false h, decide_eq_false fun z => h (by injection z)]
  exact ⟨rfl, by rw [e]; exact k _ (.d _) _ _ (Grow.refl s ra) (.bl _) trivial q⟩
/-! ### a def that hands back a new list, to be changed -/
def vspL (K : PySem.W.Frag) (rl : Option Addr) (P : List W → (List PyData → Prop) → Prop) : Sp := fun vs H Q _ => ∃ F ws, Same F H ∧ RAt rl F H ∧ RelWs K rl F H vs ws ∧ ws.all argOk = true ∧ P ws fun xs => ∀ v F' H', Grow rl F H F' H' → OwnL K rl F' H' v xs → NewIn H v (.ml xs) → Q v H'
def lEnds (Q : List PyData → Prop) : VEnds := ⟨fun _ => False, fun w => ∃ xs, w = .ml xs ∧ Q xs, fun _ => False, fun _ => False⟩
structure DfnL (P : Program) (w : World) (K : PySem.W.Frag) (mg : Str → Option Value) (base : Heap) (rl : Option Addr) (x : Str) (ps : List Str) (k : Nat) (Pd : List W → (List PyData → Prop) → Prop) : Prop where
  mono : ∀ ws Q Q', (∀ d, Q d → Q' d) → Pd ws Q → Pd ws Q'
  ex : ∃ f fd, mg x = some (.ref f) ∧ PySem.W.keepIn K (.ref f) = true ∧ Binds K fd ps [] ∧ FnOk P w K mg base CX0 k f fd ps (vspL K rl Pd)
section
variable {P : Program} {w : World} {K : PySem.W.Frag} {mg : Str → Option Value} {base : Heap} {rl : Option Addr} {x : Str} {st : Stmt} {N ps : List Str} {k : Nat} {Pd : List W → (List PyData → Prop) → Prop} {t : TSv}
theorem DfnL.of (Fn : FnIn K mg x st ps) (S : FnScope N ps (defScope st)) (mono : ∀ ws Q Q', (∀ d, Q d → Q' d) → Pd ws Q → Pd ws Q') (len : ∀ ws Q, Pd ws Q → ws.length = ps.length)
    (hbody : ∀ {f : Addr} (cdv : Value) (A : Around) (outer : List Env) (s : Shared) (H : Hp) (E : XK), Room k (A.deeper (envOfC x (defScope st) s.heap.objs.size f cdv)) →
      PSsV (cxOf CX0 P w K mg base N x (defScope st) f cdv A outer s H E).nox rl (defBody st) t)
    (hread : ∀ ws Q, Pd ws Q → t (lEnds Q) (startV N ws)) : DfnL P w K mg base rl x ps (k + 1) Pd := by
  obtain ⟨f, fd, hm, F, hb⟩ := Fn.ex
  refine ⟨mono, f, fd, hm, F.kp, hb, ?_⟩
  refine F.ok S (fun vs H Q E ⟨F, ws, _, _, r, _, q⟩ => (Paired.length r).trans (len ws _ q)) fun cdv A outer s H vs Q E hr h => ?_
  obtain ⟨F, ws, sm, ra, r, ok, q⟩ := h
  obtain ⟨T, p, kk⟩ := hbody cdv A outer s H E hr
  refine ⟨T, p, kk (vr_start sm ra r ok) (lEnds _) _ ⟨fun _ _ _ _ _ _ z => False.elim z, ?_, fun _ _ _ _ _ _ z => False.elim z, fun _ _ _ _ _ _ z => False.elim z⟩ (hread ws _ q)⟩
  rintro v w1 F1 H1 g1 r1 n1 ⟨xs, rfl, q1⟩
  exact q1 v F1 H1 g1 r1 n1
end
section
variable {X : Cx} {rl : Option Addr} {e : Expr} {es : List Expr} {fs : TVs} {pos p : Pos}
def vUseL (Pd : List W → (List PyData → Prop) → Prop) (fs : TVs) : TV := fun ρ Q => fs ρ fun ws => ws.all argOk = true ∧ Pd ws fun xs => Q (.ml xs)
theorem v_callL {x : Str} {ps : List Str} {k : Nat} {Pd : List W → (List PyData → Prop) → Prop} (D : DfnL X.prog X.w X.K X.mg X.base rl x ps k Pd) (hr : Room k X.A) (ha : PVs X rl (e :: es) fs) (hg : Gl X x := by rfl)
    (hdb : (x == ("__debug__" : Str)) = false := by decide) (he : starEach (e :: es) X.env = (false, eval e X.env) :: starEach es X.env := by rfl) (hpl : (backTo pos (starEach es X.env)).any (·.1) = false := by rfl) :
    PV X rl (.Call (.Name x p) (e :: es) [] pos) (vUseL Pd fs) := by
  obtain ⟨f, fd, hm, hk, hb, F⟩ := D.ex
  obtain ⟨t, p1, kk⟩ := ha
  refine ⟨_, pe_call F hr hg hm hk hb .nil pass0 p1 hdb he hpl, fun R Qd Q q h => kk R _ _ q fun vs ws F1 H1 g1 r1 ⟨ok, q1⟩ => ?_⟩
  refine ⟨F1, ws, g1.sub, g1.reel, by rw [List.append_nil]; exact r1, ok, ?_⟩
  exact D.mono ws _ _ (fun xs qd v F2 H2 g2 r2 n2 => h v (.ml xs) F2 H2 (g1.trans g2) r2 (NewIn.back (w := .ml xs) g1 n2) qd) q1
theorem v_callL0 {x : Str} {k : Nat} {Pd : List W → (List PyData → Prop) → Prop} (D : DfnL X.prog X.w X.K X.mg X.base rl x [] k Pd) (hr : Room k X.A) (hg : Gl X x := by rfl) (hdb : (x == ("__debug__" : Str)) = false := by decide) :
    PV X rl (.Call (.Name x p) [] [] pos) (vUseL Pd vNil) := by
  obtain ⟨f, fd, hm, hk, hb, F⟩ := D.ex
  refine ⟨_, pe_call0 F hr hg hm hk hb .nil pass0 hdb, fun R Qd Q ⟨ok, q1⟩ h => ?_⟩
  refine ⟨_, [], R.sub, R.reel, .nil, rfl, ?_⟩
  exact D.mono [] _ _ (fun xs qd v F2 H2 g2 r2 n2 => h v (.ml xs) F2 H2 g2 r2 n2 qd) q1
/-- any block, by what it does -/
theorem pss_any (X : Cx) (rest : List Stmt) : PSs X rest (fun D σ H => ∀ pins s, Inv X pins σ H s → wpAny (model X.prog X.w) X.A (execs rest X.env) (SP X pins D) X.xe s) := fun pins s σ H D I h => h pins s I
end
/-! ### the reel made -/
theorem cutV_all {ns : List Int} (h : ns.length ≤ 63) : cutV (ns.map V.int) none (some 63) = ns.map V.int := by
  unfold cutV
  rw [HT.sIx_none]
  have e : HT.sIx (ns.map V.int).length (ns.map V.int).length (some 63) = (ns.map V.int).length := by
    have := HT.sIx_nat (ns.map V.int).length (ns.map V.int).length 63
    rw [show ((63 : Nat) : Int) = 63 from rfl] at this
    rw [this, List.length_map]
    omega
  rw [e]
  simp
  exact List.take_of_length_le (by simp)
/-- the law's source made of the script: any object that looks so -/
def spSrc (K : PySem.W.Frag) : Sp := fun vs H Q _ => ∃ (a : Addr) (ns : List Int), vs = [.ref a] ∧ SqL K H a (ns.map V.int) ∧ ns.length ≤ 63 ∧
  ∀ (r : Addr) (F H' : Hp), H r = none → Same F H' → RAt (some r) F H' → Q (.ref r) H'
end L2.VL

namespace L2.VL
open PySem PySem.Spec PyProof.Rows
section
variable {X : Cx} {rl : Option Addr} {a b c e : Expr} {es : List Expr} {fa fb fc : TV} {fs : TVs} {pos p : Pos}
/-! tuple(xs), list(xs) -/
def seqD : PyData → Option (List PyData)
  | .list xs => some xs
  | .tuple xs => some xs
  | _ => none
theorem seq_l (xs : List PyData) : seqD (.list xs) = some xs := rfl
theorem seq_t (xs : List PyData) : seqD (.tuple xs) = some xs := rfl
theorem seqD.of {o : Option PyData} {d : PyData} {xs : List PyData} (h : o = some d) (e : seqD d = some xs) : o = some (.list xs) ∨ o = some (.tuple xs) := by
  cases d <;> cases e
  · exact .inl h
  · exact .inr h
def gTupO : List W → (W → Prop) → Prop := fun ws Q => ∃ w d xs, ws = [w] ∧ w.dat = some d ∧ seqD d = some xs ∧ Q (.d (.tuple xs))
theorem vc_tup : VCall X rl (fun xs H Q => ∃ p ys, xs = [.ref p] ∧ ((SqL X.K H p ys ∧ ∀ l, H l = none → Q (.ref l) (upd H l (.tup ys))) ∨ (SqT X.K H p ys ∧ Q (.ref p) H))) gTupO := fun {F H vs ws} Qd Q s ra r ⟨w, d, xs, ew, ed1, ed2, q⟩ k => by
  have ed := seqD.of ed1 ed2
  subst ew
  obtain ⟨v, rfl, r1⟩ := rel1 r
  rcases ed with ed | ed
  · obtain ⟨a, us, rfl, sq, rs⟩ := r1.items s ed
    refine ⟨a, us, rfl, .inl ⟨sq, fun l hl => ?_⟩⟩
    have g := Grow.data (a := l) (o := .tup us) s ra hl
    exact k _ (.d (.tuple xs)) _ _ g (.tup (.inl (.inl upd_same)) (rs.mono g.fs)) trivial q
  · cases w with
    | d y =>
      cases ed
      cases (show Rep X.K F v (.tuple xs) from r1) with
      | tup sq rs => exact ⟨_, _, rfl, .inr ⟨sameT s sq, k _ (.d (.tuple xs)) _ _ (Grow.refl s ra) (.tup sq rs) trivial q⟩⟩
    | ml ys => cases ed
    | pk ys => cases ed
    | reel => cases ed
    | vv u => cases ed
    | md u => cases ed
    | lk => cases ed
    | nt ds =>
      cases ed
      obtain ⟨b, us, rfl, h, q'⟩ := r1
      exact ⟨_, _, rfl, .inr ⟨.inl (.inl (s _ _ h)), k _ (.d (.tuple xs)) _ _ (Grow.refl s ra) (.tup (.inl (.inl h)) q') trivial q⟩⟩
theorem v_tuple (hm : X.mg "tuple" = none) (ha : PVs X rl [a] fs) (hg : Gl X "tuple" := by rfl) (he : starEach [a] X.env = (false, eval a X.env) :: starEach [] X.env := by rfl) (hpl : (backTo pos (starEach [] X.env)).any (·.1) = false := by rfl) :
    PV X rl (.Call (.Name "tuple" p) [a] [] pos) (vCall gTupO fs) := v_callTy call_tuple_of vc_tup hm (by rfl) ha hg (by decide) (by decide) he hpl
def gLstO : List W → (W → Prop) → Prop := fun ws Q => ∃ w d xs, ws = [w] ∧ w.dat = some d ∧ seqD d = some xs ∧ Q (.ml xs)
theorem vc_lst : VCall X rl (fun xs H Q => ∃ p ys, xs = [.ref p] ∧ (SqL X.K H p ys ∨ SqT X.K H p ys) ∧ ∀ l, H l = none → Q (.ref l) (upd H l (.lst ys))) gLstO := fun {F H vs ws} Qd Q s ra r ⟨w, d, xs, ew, ed1, ed2, q⟩ k => by
  have ed := seqD.of ed1 ed2
  subst ew
  obtain ⟨v, rfl, r1⟩ := rel1 r
  rcases ed with ed | ed
  · obtain ⟨a, us, rfl, sq, rs⟩ := r1.items s ed
    exact ⟨a, us, rfl, .inl sq, fun l hl => k _ (.ml xs) _ _ (Grow.laid s ra hl) (own_laid s ra hl rs) (fun a ea => by cases ea; exact hl) q⟩
  · obtain ⟨a, us, rfl, sq, rs⟩ := r1.itemsT s ed
    exact ⟨a, us, rfl, .inr sq, fun l hl => k _ (.ml xs) _ _ (Grow.laid s ra hl) (own_laid s ra hl rs) (fun a ea => by cases ea; exact hl) q⟩
theorem v_listof (hm : X.mg "list" = none) (ha : PVs X rl [a] fs) (hg : Gl X "list" := by rfl) (he : starEach [a] X.env = (false, eval a X.env) :: starEach [] X.env := by rfl) (hpl : (backTo pos (starEach [] X.env)).any (·.1) = false := by rfl) :
    PV X rl (.Call (.Name "list" p) [a] [] pos) (vCall gLstO fs) := v_callTy call_list_of vc_lst hm (by rfl) ha hg (by decide) (by decide) he hpl
/-! x, y, z = a, b, c -/
def tPar3 (i j l : Nat) (ta : TA) : TS := fun D σ H => ta σ H fun vs H1 => ∃ v w u, vs = [v, w, u] ∧ D.nx (((σ.set i (some v)).set j (some w)).set l (some u)) H1
theorem ps_par3 {i j l : Nat} {x y z : Str} {ta : TA} {px py pz pt : Pos} {kt k2 pt2} (hc : X.calm = true) (hN : X.N.Nodup) (hi : X.N[i]? = some x) (hj : X.N[j]? = some y) (hl : X.N[l]? = some z) (hij : i ≠ j) (hil : i ≠ l) (hjl : j ≠ l)
    (hx : X.env.scope.names.lookup x = some .local) (hy : X.env.scope.names.lookup y = some .local) (hz : X.env.scope.names.lookup z = some .local) (ha : PA X [a, b, c] ta)
    (hw : swappedStores [.Tuple [.Name x px, .Name y py, .Name z pz] kt pt] (.Tuple [a, b, c] k2 pt2) X.env = pure (some [x, y, z]))
    (hs : swapsWithSole [.Tuple [.Name x px, .Name y py, .Name z pz] kt pt] (.Tuple [a, b, c] k2 pt2) pos.line X.env = pure false := by rfl) :
    PS X (.Assign [.Tuple [.Name x px, .Name y py, .Name z pz] kt pt] (.Tuple [a, b, c] k2 pt2) pos) (tPar3 i j l ta) := by
  intro pins s σ H D I h
  rw [exec_Assign_arm]
  refine wpAny_bind (wpAny_standAt ?_)
  rw [hs]
  refine wpAny_bind (wpAny_pure ?_)
  rw [if_neg (by decide)]
  refine wpAny_bind (Tuple_ (thn (ha _ pins s σ H _ I h) fun us s1 ⟨vs, H1, I1, r1, q1⟩ => ?_))
  obtain ⟨v, w, u, e1, q1⟩ := q1
  subst e1
  obtain ⟨u1, u2, u3, rfl, rv, rw', ru⟩ : ∃ u1 u2 u3, us = [u1, u2, u3] ∧ RelV v u1 ∧ RelV w u2 ∧ RelV u u3 := by
    cases r1 with
    | cons p q =>
      cases q with
      | cons p' q' =>
        cases q' with
        | cons p'' q'' =>
          cases q''
          exact ⟨_, _, _, rfl, p, p', p''⟩
  refine wpAny_newObj_type ?_ (by show 3 ≤ sizeLine; decide)
  have I2 : Inv X pins σ H1 { s1 with heap := s1.heap.push { cls := .type "tuple", data := .seq [u1, u2, u3].toArray } } := I1.kept (t' := s1.toks) fun b o e => Heap.get?_push_of_some _ e
  rw [hw]
  refine wpAny_bind (wpAny_pure ?_)
  show wpAny (model X.prog X.w) X.A (do rule "assign.swapped-stores"; let items ← unpackItems (.ref s1.heap.objs.size) 3 none; assignInOrder [fun v => bindName X.env z v, fun v => bindName X.env y v, fun v => bindName X.env x v] items.reverse; pure Flow.next) _ _ _
  refine wpAny_bind (wpAny_rule (wpAny_bind (unpackItems_tuple (items := #[u1, u2, u3]) (I.ok.hd hc) (IsTup.new s1.heap _) fun h' hx' => ?_)))
  have I3 := I2.kept (h' := h') (t' := s1.toks) fun b o e => hx' b o (Nat.ne_of_lt (Heap.lt_size e)) e
  show wpAny _ _ (assignInOrder [fun v => bindName X.env z v, fun v => bindName X.env y v, fun v => bindName X.env x v] [u3, u2, u1] >>= fun _ => pure Flow.next) _ _ _
  refine wpAny_bind (assignInOrder_cons (wpAny_bindName (store_ok I3 hN hl (.inl hz) ru (fun s2 I4 => ?_) (.inr hz))))
  refine assignInOrder_cons (wpAny_bindName (store_ok I4 hN hj (.inl hy) rw' (fun s3 I5 => ?_) (.inr hy)))
  refine assignInOrder_cons (wpAny_bindName (store_ok I5 hN hi (.inl hx) rv (fun s4 I6 => assignInOrder_nil (wpAny_pure ?_)) (.inr hx)))
  rw [List.set_comm _ _ (Ne.symm hij), List.set_comm _ _ (Ne.symm hil), List.set_comm _ _ (Ne.symm hjl)] at I6
  exact ⟨_, H1, I6, q1⟩
def vPar3 (i j l : Nat) (fs : TVs) : TSv := fun D ρ => fs ρ fun ws => ∃ x y z, dats ws = some [x, y, z] ∧ D.nx (((ρ.set i (some (.d x))).set j (some (.d y))).set l (some (.d z)))
theorem vs_par3 (i j l : Nat) {x y z : Str} {px py pz pt : Pos} {kt k2 pt2} (hc : X.calm = true) (hN : X.N.Nodup) (ha : PVs X rl [a, b, c] fs)
    (hw : swappedStores [.Tuple [.Name x px, .Name y py, .Name z pz] kt pt] (.Tuple [a, b, c] k2 pt2) X.env = pure (some [x, y, z]) := by rfl) (hi : X.N[i]? = some x := by rfl) (hj : X.N[j]? = some y := by rfl) (hl : X.N[l]? = some z := by rfl) (hij : i ≠ j := by decide) (hil : i ≠ l := by decide) (hjl : j ≠ l := by decide)
    (hx : X.env.scope.names.lookup x = some .local := by rfl) (hy : X.env.scope.names.lookup y = some .local := by rfl) (hz : X.env.scope.names.lookup z = some .local := by rfl)
    (hs : swapsWithSole [.Tuple [.Name x px, .Name y py, .Name z pz] kt pt] (.Tuple [a, b, c] k2 pt2) pos.line X.env = pure false := by rfl) :
    PSV X rl (.Assign [.Tuple [.Name x px, .Name y py, .Name z pz] kt pt] (.Tuple [a, b, c] k2 pt2) pos) (vPar3 i j l fs) := by
  obtain ⟨t, p, k⟩ := ha
  refine ⟨_, ps_par3 hc hN hi hj hl hij hil hjl hx hy hz p hw hs, fun R Dv D ok q => k R _ _ q fun vs ws F1 H1 g1 r1 ⟨x, y, z, e1, q1⟩ => ?_⟩
  have rs := dats_rel r1 e1
  cases rs with
  | cons rx rs =>
    cases rs with
    | cons ry rs =>
      cases rs with
      | cons rz rs =>
        cases rs
        have R1 := (R.grow g1).set (w := .d x) (Grow.refl g1.sub g1.reel) rx trivial (fun _ z => by cases z) i
        have R2 := R1.set (w := .d y) (Grow.refl g1.sub g1.reel) ry trivial (fun _ z => by cases z) j
        exact ⟨_, _, _, rfl, ok.nx _ _ _ _ g1.fs (R2.set (w := .d z) (Grow.refl g1.sub g1.reel) rz trivial (fun _ z => by cases z) l) q1⟩
end
end L2.VL
namespace L2.VL
open PySem PySem.Spec PyProof.Rows
section
variable {X : Cx} {rl : Option Addr}
/-! x is True, of truths -/
theorem op_isB : OpR X (compareOp .Is) (fun x y H Q => ∃ b c, x = .bl b ∧ y = .bl c ∧ Q (.bl (b == c)) H) := by
  intro pins s σ H x y v u Q I rx ry ⟨b, c, ex, ey, q⟩
  subst ex ey
  cases (show v = Value.bool b from rx)
  cases (show u = Value.bool c from ry)
  exact is_bool ⟨.bl _, H, I, rfl, q⟩
def gIsB : W → W → (W → Prop) → Prop := fun x y Q => ∃ b c, x = .d (.bool b) ∧ y = .d (.bool c) ∧ Q (.d (.bool (b == c)))
theorem vo_isB : VOp X rl (fun x y H Q => ∃ b c, x = .bl b ∧ y = .bl c ∧ Q (.bl (b == c)) H) gIsB := fun {F H x y wx wy} Qd Q s ra r1 r2 q k => by
  obtain ⟨b, c, rfl, rfl, q⟩ := q
  exact ⟨b, c, rep_bl r1, rep_bl r2, k _ (.d _) _ _ (Grow.refl s ra) (.bl _) trivial q⟩
end
end L2.VL

namespace L2.VL
open PySem PySem.Spec PyProof.Rows
theorem upd_updA {H : Hp} {a : Addr} {o o' : HO} : upd (upd H a o) a o' = upd H a o' := by
  funext b
  by_cases h : b = a
  · subst h; rw [upd_same, upd_same]
  · rw [upd_ne h, upd_ne h, upd_ne h]
section
variable {X : Cx} {rl : Option Addr} {a b c e : Expr} {es : List Expr} {fa fb fc : TV} {fs : TVs} {pos p p2 : Pos}
/-! ### max, min of two ints; int(x); divmod -/
def gI2 (f : Int → Int → PyData) : List W → (W → Prop) → Prop := fun ws Q => ∃ i j, ws = [.d (.int i), .d (.int j)] ∧ Q (.d (f i j))
theorem vc_i2 {f : Int → Int → V} {g : Int → Int → PyData} (h : ∀ K F i j, Rep K F (f i j) (g i j)) : VCall X rl (fun xs H Q => ∃ i j, xs = [.int i, .int j] ∧ Q (f i j) H) (gI2 g) := fun {F H vs ws} Qd Q s ra r ⟨i, j, ew, q⟩ k => by
  subst ew
  obtain ⟨v, u, rfl, r1, r2⟩ := rel2 r
  have e1 := rep_int r1
  have e2 := rep_int r2
  subst e1 e2
  exact ⟨i, j, rfl, k _ (.d _) _ _ (Grow.refl s ra) (h _ _ i j) trivial q⟩
theorem v_max2 (hm : X.mg "max" = none) (ha : PVs X rl [a, b] fs) (hc : X.calm = true := by rfl) (hg : Gl X "max" := by rfl) (he : starEach [a, b] X.env = (false, eval a X.env) :: starEach [b] X.env := by rfl) (hpl : (backTo pos (starEach [b] X.env)).any (·.1) = false := by rfl) :
    PV X rl (.Call (.Name "max" p) [a, b] [] pos) (vCall (gI2 fun i j => .int (max i j)) fs) :=
  v_callB (call_max2 hc) (vc_i2 (f := fun i j => .int (if j > i then j else i)) fun _ _ i j => (show (if j > i then j else i) = max i j by split <;> omega) ▸ .int _) hm (by rfl) ha hg (by decide) (by decide) he hpl
theorem v_min2 (hm : X.mg "min" = none) (ha : PVs X rl [a, b] fs) (hc : X.calm = true := by rfl) (hg : Gl X "min" := by rfl) (he : starEach [a, b] X.env = (false, eval a X.env) :: starEach [b] X.env := by rfl) (hpl : (backTo pos (starEach [b] X.env)).any (·.1) = false := by rfl) :
    PV X rl (.Call (.Name "min" p) [a, b] [] pos) (vCall (gI2 fun i j => .int (min i j)) fs) :=
  v_callB (call_min2 hc) (vc_i2 (f := fun i j => .int (if j < i then j else i)) fun _ _ i j => (show (if j < i then j else i) = min i j by split <;> omega) ▸ .int _) hm (by rfl) ha hg (by decide) (by decide) he hpl
def gDivmod : List W → (W → Prop) → Prop := fun ws Q => ∃ i j, ws = [.d (.int i), .d (.int j)] ∧ 0 < j ∧ j < 1073741824 ∧ Q (.d (.tuple [.int (i / j), .int (i % j)]))
theorem vc_divmod : VCall X rl (fun xs H Q => ∃ i j, xs = [.int i, .int j] ∧ CDiv i j ∧ ∀ p, H p = none → Q (.ref p) (upd H p (.tup [.int (i / j), .int (i % j)]))) gDivmod := fun {F H vs ws} Qd Q s ra r ⟨i, j, ew, h1, h2, q⟩ k => by
  subst ew
  obtain ⟨v, u, rfl, r1, r2⟩ := rel2 r
  have e1 := rep_int r1
  have e2 := rep_int r2
  subst e1 e2
  refine ⟨i, j, rfl, ⟨h1, h2⟩, fun p hp => ?_⟩
  have g := Grow.data (a := p) (o := .tup [.int (i / j), .int (i % j)]) s ra hp
  exact k _ (.d _) _ _ g (.tup (.inl (.inl upd_same)) (.cons (.int _) (.cons (.int _) .nil))) trivial q
theorem v_divmod (hm : X.mg "divmod" = none) (ha : PVs X rl [a, b] fs) (hg : Gl X "divmod" := by rfl) (he : starEach [a, b] X.env = (false, eval a X.env) :: starEach [b] X.env := by rfl) (hpl : (backTo pos (starEach [b] X.env)).any (·.1) = false := by rfl) :
    PV X rl (.Call (.Name "divmod" p) [a, b] [] pos) (vCall gDivmod fs) := v_callB call_divmod vc_divmod hm (by rfl) ha hg (by decide) (by decide) he hpl
def gInt1 : List W → (W → Prop) → Prop := fun ws Q => (∃ i, ws = [.d (.int i)] ∧ Q (.d (.int i))) ∨ ∃ k : Bool, ws = [.d (.bool k)] ∧ Q (.d (.int (if k then 1 else 0)))
theorem vc_int1 : VCall X rl (fun xs H Q => (∃ i, xs = [.int i] ∧ Q (.int i) H) ∨ ∃ k, xs = [.bl k] ∧ Q (.int (if k then 1 else 0)) H) gInt1 := fun {F H vs ws} Qd Q s ra r h k => by
  rcases h with ⟨i, ew, q⟩ | ⟨i, ew, q⟩
  · subst ew
    obtain ⟨v, rfl, r1⟩ := rel1 r
    have e1 := rep_int r1
    subst e1
    exact .inl ⟨i, rfl, k _ (.d _) _ _ (Grow.refl s ra) (.int _) trivial q⟩
  · subst ew
    obtain ⟨v, rfl, r1⟩ := rel1 r
    have e1 := rep_bl r1
    subst e1
    exact .inr ⟨i, rfl, k _ (.d _) _ _ (Grow.refl s ra) (.int _) trivial q⟩
theorem v_int1 (hm : X.mg "int" = none) (ha : PVs X rl [a] fs) (hg : Gl X "int" := by rfl) (he : starEach [a] X.env = (false, eval a X.env) :: starEach [] X.env := by rfl) (hpl : (backTo pos (starEach [] X.env)).any (·.1) = false := by rfl) :
    PV X rl (.Call (.Name "int" p) [a] [] pos) (vCall gInt1 fs) := v_callTy call_int1 vc_int1 hm (by rfl) ha hg (by decide) (by decide) he hpl
/-! ### x op= e, of ints -/
def ipC (C : Int → Int → Prop) (f : Int → Int → Int) : TIp := fun x y H Q => ∃ i j, x = .int i ∧ y = .int j ∧ C i j ∧ Q (.int (f i j)) H
theorem ip_addC : PIp X .Add (ipC (fun _ _ => True) fun i j => i + j) := fun pins s σ H x y v u Q I r1 r2 ⟨i, j, e1, e2, _, q⟩ => ip_add pins s σ H x y v u Q I r1 r2 ⟨i, j, e1, e2, q⟩
theorem ip_subC : PIp X .Sub (ipC (fun _ _ => True) fun i j => i - j) := fun pins s σ H x y v u Q I r1 r2 ⟨i, j, e1, e2, _, q⟩ => ip_sub pins s σ H x y v u Q I r1 r2 ⟨i, j, e1, e2, q⟩
theorem ip_mulC : PIp X .Mult (ipC CMulB fun i j => i * j) := by
  intro pins s σ H x y v u Q I r1 r2 h
  obtain ⟨i, j, e1, e2, hc, q⟩ := h
  subst e1; subst e2
  obtain ⟨t, rfl⟩ := r1
  obtain ⟨t', rfl⟩ := r2
  exact imul_int ⟨.int _, H, I.tok _, ⟨_, rfl⟩, q⟩ hc.ok
theorem ip_divC : PIp X .FloorDiv (ipC CDivB fun i j => i.fdiv j) := by
  intro pins s σ H x y v u Q I r1 r2 h
  obtain ⟨i, j, e1, e2, hc, q⟩ := h
  subst e1; subst e2
  obtain ⟨t, rfl⟩ := r1
  obtain ⟨t', rfl⟩ := r2
  exact ifloordiv_int hc.1 ⟨.int _, H, I.tok _, ⟨_, rfl⟩, q⟩ (.inl (PyProof.noPylong_of_log2 ((Nat.log2_lt (by have := hc.1; omega)).mpr hc.2)))
def vAug (i : Nat) (C : Int → Int → Prop) (f : Int → Int → Int) (fa : TV) : TSv := fun D ρ => ∃ n, ρ[i]? = some (some (.d (.int n))) ∧ fa ρ fun w => ∃ m, w = .d (.int m) ∧ C n m ∧ D.nx (ρ.set i (some (.d (.int (f n m)))))
theorem vs_aug (i : Nat) {x : Str} {op : Operator} {C : Int → Int → Prop} {f : Int → Int → Int} {pos' : Pos} (hN : X.N.Nodup) (ho : PIp X op (ipC C f)) (he : PV X rl e fa) (hi : X.N[i]? = some x := by rfl) (hx : Loc X.env.scope x := by first | exact Or.inl rfl | exact Or.inr rfl)
    (hf : X.fn x = true ∨ X.env.scope.names.lookup x = some .local := by first | exact .inl rfl | exact .inr rfl) : PSV X rl (.AugAssign (.Name x pos') op e pos) (vAug i C f fa) := by
  obtain ⟨t, p, k⟩ := he
  refine ⟨_, ps_aug hN hi hx p ho hf, fun R Dv D ok ⟨n, e1, q⟩ => ?_⟩
  obtain ⟨v, s1, r1, _⟩ := R.sl i _ e1
  have ev := rep_int r1
  subst ev
  refine ⟨_, s1, k R _ _ q fun v w F1 H1 g1 r1 n1 ⟨m, ew, hc, q1⟩ => ?_⟩
  subst ew
  have ev := rep_int r1
  subst ev
  exact ⟨n, m, rfl, rfl, hc, ok.nx _ _ _ _ g1.fs (R.set g1 (v := .int (f n m)) (w := .d (.int (f n m))) (.int _) trivial (fun _ z => by cases z) i) q1⟩
/-! ### slices -/
def cutD (xs : List PyData) (lo hi : Option Int) : List PyData := (xs.drop (HT.sIx xs.length 0 lo)).take (HT.sIx xs.length xs.length hi - HT.sIx xs.length 0 lo)
theorem Reps.cut {K : PySem.W.Frag} {F : Hp} {vs : List V} {ds : List PyData} (r : Reps K F vs ds) (lo hi : Option Int) : Reps K F (cutV vs lo hi) (cutD ds lo hi) := by
  unfold cutV cutD
  rw [r.length]
  exact (r.drop _).take _
abbrev TOv := En → (Option Int → Prop) → Prop
def PVO (X : Cx) (rl : Option Addr) (o : Option Expr) (f : TOv) : Prop := ∃ t, PO X o t ∧ ∀ {F₀ H₀ F H : Hp} {σ : St} {ρ : En}, VR X.K rl F₀ H₀ F H σ ρ → ∀ (Qd : Option Int → Prop) (Q : Option Int → Hp → Prop), f ρ Qd →
  (∀ o F' H', Grow rl F H F' H' → Qd o → Q o H') → t σ H Q
def oNo : TOv := fun _ Q => Q none
def oIt (fa : TV) : TOv := fun ρ Q => fa ρ fun w => ∃ i, w = .d (.int i) ∧ Q (some i)
theorem vo_none : PVO X rl none oNo := ⟨_, po_none, fun R Qd Q q k => k _ _ _ (Grow.refl R.sub R.reel) q⟩
theorem vo_some (h : PV X rl e fa) : PVO X rl (some e) (oIt fa) := by
  obtain ⟨t, p, k⟩ := h
  refine ⟨_, po_some p, fun R Qd Q q h => k R _ _ q fun v w F1 H1 g1 r1 n1 ⟨i, ew, q1⟩ => ?_⟩
  subst ew
  exact ⟨i, rep_int r1, h _ F1 H1 g1 q1⟩
/-- xs[lo:hi] of a list -/
def vSlL (fa : TV) (fl fh : TOv) : TV := fun ρ Q => fa ρ fun w => fl ρ fun l => fh ρ fun h => ∃ xs, w.dat = some (.list xs) ∧ Q (.ml (cutD xs l h))
theorem v_slL {lo hi : Option Expr} {fl fh : TOv} (ha : PV X rl a fa) (hl : PVO X rl lo fl) (hh : PVO X rl hi fh) : PV X rl (.Subscript a (.Slice lo hi none p2) pos) (vSlL fa fl fh) := by
  obtain ⟨t, p, k⟩ := ha
  obtain ⟨tl, pl, kl⟩ := hl
  obtain ⟨th, ph, kh⟩ := hh
  refine ⟨_, pe_slice sl_list p pl ph, fun R Qd Q q h => k R _ _ q fun v w F1 H1 g1 r1 n1 q1 => ?_⟩
  refine kl (R.grow g1) _ _ q1 fun l F2 H2 g2 q2 => kh ((R.grow g1).grow g2) _ _ q2 fun u F3 H3 g3 q3 => ?_
  obtain ⟨xs, ed, q3⟩ := q3
  have r3 := (r1.grow g2).grow g3
  obtain ⟨a, vs, rfl, sq, rs⟩ := r3.items g3.sub ed
  have g := (g1.trans g2).trans g3
  exact ⟨a, vs, rfl, sq, fun p hp => h _ (.ml _) _ _ (g.trans (Grow.laid g3.sub g3.reel hp)) (own_laid g3.sub g3.reel hp (rs.cut l u)) (fun a ea => by cases ea; exact g.freeB hp) q3⟩
/-! ### lists added -/
def gCatD : W → W → (W → Prop) → Prop := fun x y Q => ∃ xs ys, x.dat = some (.list xs) ∧ y.dat = some (.list ys) ∧ xs.length + ys.length ≤ sizeLine ∧ Q (.ml (xs ++ ys))
theorem RelW.lst {K : PySem.W.Frag} {F H : Hp} {v : V} {w : W} {xs : List PyData} (s : Same F H) (r : RelW K rl F H v w) (e : w.dat = some (.list xs)) : ∃ a vs, v = .ref a ∧ H a = some (.lst vs) ∧ Reps K F vs xs := by
  have own : OwnL K rl F H v xs → ∃ a vs, v = .ref a ∧ H a = some (.lst vs) ∧ Reps K F vs xs := fun ⟨a, vs, e1, _, _, e2, e3⟩ => ⟨a, vs, e1, e2, e3⟩
  cases w with
  | d y =>
    cases e
    cases (show Rep K F v (.list xs) from r) with
    | lst h q => exact ⟨_, _, rfl, s _ _ h, q⟩
  | ml ys => cases e; exact own r
  | pk ys => cases e; exact own r
  | reel => cases e
  | vv u => cases e
  | md u => cases e
  | nt u => cases e
  | lk => cases e
theorem vo_catD : VOp X rl rCat gCatD := fun {F H x y wx wy} Qd Q s ra r1 r2 q k => by
  obtain ⟨xs, ys, e1, e2, z, q⟩ := q
  obtain ⟨a, vs, rfl, h1, q1⟩ := r1.lst s e1
  obtain ⟨b, us, rfl, h2, q2⟩ := r2.lst s e2
  refine ⟨a, b, vs, us, rfl, rfl, h1, h2, by rw [q1.length, q2.length]; exact z, fun p hp => ?_⟩
  exact k _ (.ml _) _ _ (Grow.laid s ra hp) (own_laid s ra hp (q1.append q2)) (fun a ea => by cases ea; exact hp) q
theorem v_catD (ha : PV X rl a fa) (hb : PV X rl b fb) : PV X rl (.BinOp a .Add b pos) (vOp gCatD fa fb) := pv_op op_cat vo_catD ha hb
/-! ### a < b < c of ints -/
def vChain (p p' : Int → Int → Bool) (fa fb fc : TV) : TV := fun ρ Q => fa ρ fun x => fb ρ fun y => ∃ i j, x = .d (.int i) ∧ y = .d (.int j) ∧
  if p i j = true then fc ρ fun z => ∃ k, z = .d (.int k) ∧ Q (.d (.bool (p' j k))) else Q (.d (.bool false))
theorem v_chain {op op' : CmpOp} {p p' : Int → Int → Bool} (ho : OpR X (compareOp op) (rI0 fun i j => .bl (p i j))) (ho' : OpR X (compareOp op') (rI0 fun i j => .bl (p' i j))) (ha : PV X rl a fa) (hb : PV X rl b fb) (hc : PV X rl c fc)
    (hm : lastMarks [op, op'] [b, c] = false := by with_unfolding_all rfl) : PV X rl (.Compare a [op, op'] [b, c] pos) (vChain p p' fa fb fc) := by
  obtain ⟨t, p1, k1⟩ := ha
  obtain ⟨t2, p2, k2⟩ := hb
  obtain ⟨t3, p3, k3⟩ := hc
  refine ⟨_, pe_chain ho ho' p1 p2 p3 hm, fun R Qd Q q h => k1 R _ _ q fun v w F1 H1 g1 r1 n1 q1 => k2 (R.grow g1) _ _ q1 fun v2 w2 F2 H2 g2 r2 n2 q2 => ?_⟩
  obtain ⟨i, j, rfl, rfl, q2⟩ := q2
  have e1 := rep_int r1
  have e2 := rep_int r2
  subst e1 e2
  refine ⟨i, j, rfl, rfl, p i j, rfl, ?_⟩
  cases hp : p i j with
  | false =>
    rw [hp] at q2
    rw [if_neg (by decide)] at q2 ⊢
    exact h _ (.d _) F2 H2 (g1.trans g2) (.bl _) trivial q2
  | true =>
    rw [hp] at q2
    rw [if_pos rfl] at q2 ⊢
    refine k3 ((R.grow g1).grow g2) _ _ q2 fun v3 w3 F3 H3 g3 r3 n3 ⟨k, ek, q3⟩ => ?_
    subst ek
    have e3 := rep_int r3
    subst e3
    exact ⟨j, k, rfl, rfl, h _ (.d _) F3 H3 ((g1.trans g2).trans g3) (.bl _) trivial q3⟩
theorem vb_chain {op op' : CmpOp} {p p' : Int → Int → Bool} (ho : OpR X (compareOp op) (rI0 fun i j => .bl (p i j))) (ho' : OpR X (compareOp op') (rI0 fun i j => .bl (p' i j))) (ha : PV X rl a fa) (hb : PV X rl b fb) (hc : PV X rl c fc)
    (hm : lastMarks [op, op'] [b, c] = false := by with_unfolding_all rfl) : PB X rl (.Compare a [op, op'] [b, c] pos) (vTest (vChain p p' fa fb fc)) := by
  obtain ⟨t, p1, k1⟩ := ha
  obtain ⟨t2, p2, k2⟩ := hb
  obtain ⟨t3, p3, k3⟩ := hc
  refine ⟨_, pt_chain ho ho' p1 p2 p3 hm, fun R Qd Q q h => k1 R _ _ q fun v w F1 H1 g1 r1 n1 q1 => k2 (R.grow g1) _ _ q1 fun v2 w2 F2 H2 g2 r2 n2 q2 => ?_⟩
  obtain ⟨i, j, rfl, rfl, q2⟩ := q2
  have e1 := rep_int r1
  have e2 := rep_int r2
  subst e1 e2
  refine ⟨i, j, rfl, rfl, p i j, rfl, ?_⟩
  cases hp : p i j with
  | false =>
    rw [hp] at q2
    rw [if_neg (by decide)] at q2 ⊢
    obtain ⟨k, ek, q2⟩ := q2
    cases ek
    exact ⟨false, rfl, h false F2 H2 (g1.trans g2) q2⟩
  | true =>
    rw [hp] at q2
    rw [if_pos rfl] at q2 ⊢
    refine k3 ((R.grow g1).grow g2) _ _ q2 fun v3 w3 F3 H3 g3 r3 n3 ⟨k, ek, q3⟩ => ?_
    subst ek
    have e3 := rep_int r3
    subst e3
    obtain ⟨kk, ekk, q3⟩ := q3
    cases ekk
    exact ⟨j, k, rfl, rfl, p' j k, rfl, h _ F3 H3 ((g1.trans g2).trans g3) q3⟩
/-! ### a module's constant -/
structure GlD (K : PySem.W.Frag) (mg : Str → Option Value) (x : Str) (d : PyData) : Prop where
  ex : ∃ v u, mg x = some u ∧ RelV v u ∧ ∀ F, Rep K F v d
theorem v_glob {x : Str} {d : PyData} (G : GlD X.K X.mg x d) (hg : Gl X x := by rfl) (hd : (x == ("__debug__" : Str)) = false := by decide) : PV X rl (.Name x pos) (vC d) := by
  obtain ⟨v, u, h1, h2, h3⟩ := G.ex
  exact pv_glob h1 h2 h3 hg hd
/-- .. by the module's own objects -/
structure GlK (K : PySem.W.Frag) (x : Str) (d : PyData) : Prop where
  ex : ∃ v u, PySem.W.nsIn K mainGlobals x = some (some u) ∧ RelV v u ∧ ∀ F, Rep K F v d
theorem GlK.of {K : PySem.W.Frag} {x : Str} {d : PyData} {h : Heap} {mg : Str → Option Value} (k : GlK K x d) (Y : K.In h) (G : h.Ns mainGlobals mg) : GlD K mg x d := by
  obtain ⟨v, u, h1, h2, h3⟩ := k.ex
  exact ⟨v, u, PySem.W.mg_of Y G h1, h2, h3⟩
end
end L2.VL

namespace L2
open PySem PySem.Spec PyProof.Rows
section
variable {X : Cx} {a b : Expr} {ta : TA} {p q pos pos2 : Pos}
theorem paired_get {α β : Type} {R : α → β → Prop} : ∀ {xs : List α} {ys : List β}, xs.length = ys.length → (∀ (i : Nat) x y, xs[i]? = some x → ys[i]? = some y → R x y) → Paired R xs ys
  | [], [], _, _ => .nil
  | x :: xs, y :: ys, hl, h => .cons (h 0 x y rfl rfl) (paired_get (by simpa using hl) fun i x y e1 e2 => h (i + 1) x y (by simpa using e1) (by simpa using e2))
  | [], _ :: _, hl, _ => by simp at hl
  | _ :: _, [], hl, _ => by simp at hl
/-! list(range(a, b)) -/
def intsV (lo : Int) (n : Nat) : List V := (List.range n).map fun (i : Nat) => V.int (lo + i)
theorem vals_of_items {lo : Int} {n : Nat} {acc : Array Value} (h : ItemsOf (fun i v => ∃ t, v = .int (lo + i * 1) t) acc n) : Vals (intsV lo n) acc.toList := by
  obtain ⟨h1, h2⟩ := h
  refine paired_get ?_ ?_
  · simp [intsV, h1]
  · intro i v u e1 e2
    unfold intsV at e1
    rw [List.getElem?_map] at e1
    obtain ⟨t, e4⟩ := h2 i u (by simpa using e2)
    by_cases hi : i < n
    · rw [List.getElem?_eq_getElem (by simpa using hi)] at e1
      simp at e1
      subst e1
      exact ⟨t, by rw [e4]; simp⟩
    · rw [List.getElem?_eq_none (by simpa using hi)] at e1
      cases e1
theorem list_range {pins : List (Addr × Obj)} {σ : St} {H : Hp} {s : Shared} {Q : VK} {lo hi : Int} {t u v : Tok} {tk : Nat} (hc : X.calm = true) (I : Inv X pins σ H s) (h1 : -(2 ^ 62) ≤ lo) (h2 : lo < 2 ^ 62) (h3 : -(2 ^ 62) ≤ hi) (h4 : hi < 2 ^ 62) (h5 : (hi - lo).toNat ≤ 2 ^ 24)
    (q : ∀ l, H l = none → Q (.ref l) (upd H l (.lst (intsV lo (hi - lo).toNat)))) : wpAny (model X.prog X.w) X.A (call (.type "list") [.ref s.heap.objs.size]) (EP X pins σ Q) X.xe { s with heap := s.heap.push { cls := .type "range", data := .fields #[.int lo t, .int hi u, .int 1 v] }, toks := tk } := by
  have I1 : Inv X pins σ H { s with heap := s.heap.push { cls := .type "range", data := .fields #[.int lo t, .int hi u, .int 1 v] }, toks := tk } := I.kept fun b o e => Heap.get?_push_of_some _ e
  refine call_list_range (n := (hi - lo).toNat) (I.ok.hd hc) (IsRange.new ..) (small_one h1 h2 h3 h4) (by rw [rangeSize_one]; split <;> omega) h5 fun h' tk acc c hk hn hi => ?_
  have hv := vals_of_items hi
  refine ⟨.ref _, _, I1.laid (t' := tk) hk (Nat.le_refl _) (show ObjOk X.prog X.w _ h' _ (.lst _) from ⟨?_, acc.toList, c, hv, by rw [Array.toArray_toList]; exact hn⟩), rfl, q _ (I1.hok.fresh (Nat.le_refl _))⟩
  show (intsV lo _).length ≤ sizeLine
  rw [intsV, List.length_map, List.length_range]
  exact Nat.le_trans h5 (by decide)
def tLR2 (ta : TA) : TE := fun σ H Q => ta σ H fun vs H1 => ∃ i j : Int, vs = [.int i, .int j] ∧ (-(2 ^ 62) ≤ i ∧ i < 2 ^ 62 ∧ -(2 ^ 62) ≤ j ∧ j < 2 ^ 62) ∧ (j - i).toNat ≤ 2 ^ 24 ∧ ∀ l, H1 l = none → Q (.ref l) (upd H1 l (.lst (intsV i (j - i).toNat)))
def tLR1 (ta : TA) : TE := fun σ H Q => ta σ H fun vs H1 => ∃ j : Int, vs = [.int j] ∧ (-(2 ^ 62) ≤ j ∧ j < 2 ^ 62) ∧ j.toNat ≤ 2 ^ 24 ∧ ∀ l, H1 l = none → Q (.ref l) (upd H1 l (.lst (intsV 0 j.toNat)))
theorem pe_lrange2 (hc : X.calm = true) (hl : Gl X "list") (hml : X.mg "list" = none) (hg : Gl X "range") (hm : X.mg "range" = none) (ha : PA X [a, b] ta) (hs : starEach [a, b] X.env = [(false, eval a X.env), (false, eval b X.env)] := by rfl) (hs2 : starEach [b] X.env = [(false, eval b X.env)] := by rfl)
    (he : starEach [.Call (.Name "range" p) [a, b] [] pos2] X.env = (false, eval (.Call (.Name "range" p) [a, b] [] pos2) X.env) :: starEach [] X.env := by rfl) (hpl : (backTo pos (starEach [] X.env)).any (·.1) = false := by rfl) :
    PE X (.Call (.Name "list" q) [.Call (.Name "range" p) [a, b] [] pos2] [] pos) (tLR2 ta) := by
  intro pins s σ H Q I h
  refine wpAny_Call_Name_kw (ld_blt I hl hml (by rfl) ?_ (by decide) (by decide))
  refine PyProof.Rows.callWith_type1 ?_ he hpl
  rw [he]
  show wpAny _ _ (spliced ((false, eval (.Call (.Name "range" p) [a, b] [] pos2) X.env) :: backTo pos (starEach [] X.env))) _ _ s
  refine Calls.spliced_cons ?_
  refine Call_ (ld_blt I hg hm boot_range (PyProof.Rows.callWith_type1 (thn (ha pos2 pins s σ H _ I h) fun us s1 ⟨vs, H1, I1, r1, q1⟩ => ?_) (by rw [hs, hs2]) (by rw [hs2] <;> rfl)))
  obtain ⟨i, j, e, ⟨h1, h2, h3, h4⟩, h5, q1⟩ := q1
  subst e
  cases r1 with
  | cons r rr =>
    cases rr with
    | cons r' rr =>
      cases rr
      obtain ⟨t, rfl⟩ := r
      obtain ⟨t', rfl⟩ := r'
      exact call_range_2 (Calls.spliced_nil (list_range hc I1 h1 h2 h3 h4 h5 q1))
theorem pe_lrange1 (hc : X.calm = true) (hl : Gl X "list") (hml : X.mg "list" = none) (hg : Gl X "range") (hm : X.mg "range" = none) (ha : PA X [a] ta) (hs : starEach [a] X.env = [(false, eval a X.env)] := by rfl)
    (he : starEach [.Call (.Name "range" p) [a] [] pos2] X.env = (false, eval (.Call (.Name "range" p) [a] [] pos2) X.env) :: starEach [] X.env := by rfl) (hpl : (backTo pos (starEach [] X.env)).any (·.1) = false := by rfl) :
    PE X (.Call (.Name "list" q) [.Call (.Name "range" p) [a] [] pos2] [] pos) (tLR1 ta) := by
  intro pins s σ H Q I h
  refine wpAny_Call_Name_kw (ld_blt I hl hml (by rfl) ?_ (by decide) (by decide))
  refine PyProof.Rows.callWith_type1 ?_ he hpl
  rw [he]
  show wpAny _ _ (spliced ((false, eval (.Call (.Name "range" p) [a] [] pos2) X.env) :: backTo pos (starEach [] X.env))) _ _ s
  refine Calls.spliced_cons ?_
  refine Call_ (ld_blt I hg hm boot_range (PyProof.Rows.callWith_type1 (thn (ha pos2 pins s σ H _ I h) fun us s1 ⟨vs, H1, I1, r1, q1⟩ => ?_) hs rfl))
  obtain ⟨j, e, ⟨h3, h4⟩, h5, q1⟩ := q1
  subst e
  cases r1 with
  | cons r rr =>
    cases rr
    obtain ⟨t, rfl⟩ := r
    exact call_range_1 (Calls.spliced_nil (list_range hc I1 (by omega) (by omega) h3 h4 (by simpa using h5) (by simpa using q1)))
end
end L2
namespace L2.VL
open PySem PySem.Spec PyProof.Rows
section
variable {X : Cx} {rl : Option Addr} {a b c e : Expr} {es : List Expr} {fa fb fc : TV} {fs : TVs} {pos pos2 p q : Pos}
theorem reps_range {K : PySem.W.Frag} {F : Hp} (lo : Int) (n : Nat) : Reps K F (intsV lo n) (rangeD lo n) := by
  unfold intsV rangeD
  generalize List.range n = l
  induction l with
  | nil => exact .nil
  | cons x l ih => exact .cons (.int _) ih
def vLR2 (fs : TVs) : TV := fun ρ Q => fs ρ fun ws => ∃ i j : Int, ws = [.d (.int i), .d (.int j)] ∧ (-(2 ^ 62) ≤ i ∧ i < 2 ^ 62 ∧ -(2 ^ 62) ≤ j ∧ j < 2 ^ 62) ∧ (j - i).toNat ≤ 2 ^ 24 ∧ Q (.ml (rangeD i (j - i).toNat))
def vLR1 (fs : TVs) : TV := fun ρ Q => fs ρ fun ws => ∃ j : Int, ws = [.d (.int j)] ∧ (-(2 ^ 62) ≤ j ∧ j < 2 ^ 62) ∧ j.toNat ≤ 2 ^ 24 ∧ Q (.ml (rangeD 0 j.toNat))
theorem v_lrange2 (hml : X.mg "list" = none) (hm : X.mg "range" = none) (ha : PVs X rl [a, b] fs) (hc : X.calm = true := by rfl) (hl : Gl X "list" := by rfl) (hg : Gl X "range" := by rfl) (hs : starEach [a, b] X.env = [(false, eval a X.env), (false, eval b X.env)] := by rfl) (hs2 : starEach [b] X.env = [(false, eval b X.env)] := by rfl)
    (he : starEach [.Call (.Name "range" p) [a, b] [] pos2] X.env = (false, eval (.Call (.Name "range" p) [a, b] [] pos2) X.env) :: starEach [] X.env := by rfl) (hpl : (backTo pos (starEach [] X.env)).any (·.1) = false := by rfl) :
    PV X rl (.Call (.Name "list" q) [.Call (.Name "range" p) [a, b] [] pos2] [] pos) (vLR2 fs) := by
  obtain ⟨t, p1, k⟩ := ha
  refine ⟨_, pe_lrange2 hc hl hml hg hm p1 hs hs2 he hpl, fun R Qd Q q h => k R _ _ q fun vs ws F1 H1 g1 r1 ⟨i, j, ew, z, y, q1⟩ => ?_⟩
  subst ew
  obtain ⟨v, u, rfl, rv, ru⟩ := rel2 r1
  have e1 := rep_int rv
  have e2 := rep_int ru
  subst e1 e2
  exact ⟨i, j, rfl, z, y, fun l hl => h _ (.ml _) _ _ (g1.trans (Grow.laid g1.sub g1.reel hl)) (own_laid g1.sub g1.reel hl (reps_range _ _)) (fun a ea => by cases ea; exact g1.freeB hl) q1⟩
theorem v_lrange1 (hml : X.mg "list" = none) (hm : X.mg "range" = none) (ha : PVs X rl [a] fs) (hc : X.calm = true := by rfl) (hl : Gl X "list" := by rfl) (hg : Gl X "range" := by rfl) (hs : starEach [a] X.env = [(false, eval a X.env)] := by rfl)
    (he : starEach [.Call (.Name "range" p) [a] [] pos2] X.env = (false, eval (.Call (.Name "range" p) [a] [] pos2) X.env) :: starEach [] X.env := by rfl) (hpl : (backTo pos (starEach [] X.env)).any (·.1) = false := by rfl) :
    PV X rl (.Call (.Name "list" q) [.Call (.Name "range" p) [a] [] pos2] [] pos) (vLR1 fs) := by
  obtain ⟨t, p1, k⟩ := ha
  refine ⟨_, pe_lrange1 hc hl hml hg hm p1 hs he hpl, fun R Qd Q q h => k R _ _ q fun vs ws F1 H1 g1 r1 ⟨j, ew, z, y, q1⟩ => ?_⟩
  subst ew
  obtain ⟨v, rfl, rv⟩ := rel1 r1
  have e1 := rep_int rv
  subst e1
  exact ⟨j, rfl, z, y, fun l hl => h _ (.ml _) _ _ (g1.trans (Grow.laid g1.sub g1.reel hl)) (own_laid g1.sub g1.reel hl (reps_range _ _)) (fun a ea => by cases ea; exact g1.freeB hl) q1⟩
/-! ### A.append(B.pop(e)) of two own lists -/
def vAppPop (i j : Nat) (fa : TV) : TSv := fun D ρ => ∃ xs ys, ρ[i]? = some (some (.ml xs)) ∧ ρ[j]? = some (some (.ml ys)) ∧ fa ρ fun w => ∃ k y, w = .d (.int k) ∧ 0 ≤ k ∧ k < (ys.length : Int) ∧ ys.length < 2 ^ 62 ∧ ys[k.toNat]? = some y ∧ xs.length < sizeLine ∧
  D.nx ((ρ.set j (some (.ml (ys.eraseIdx k.toNat)))).set i (some (.ml (xs ++ [y]))))
theorem Reps.erase {K : PySem.W.Frag} {F : Hp} : ∀ {vs : List V} {ds : List PyData} (n : Nat), Reps K F vs ds → Reps K F (vs.eraseIdx n) (ds.eraseIdx n)
  | _, _, _, .nil => by simp; exact .nil
  | _, _, 0, .cons h r => r
  | _, _, n + 1, .cons h r => .cons h (Reps.erase n r)
theorem vs_appPop (i j : Nat) {x y : Str} {px py ap cp ap2 cp2 : Pos} (hij : i ≠ j) (ha : PV X rl e fa) (hN : X.N[i]? = some x := by rfl) (hv : Vis X.env.scope x := by first | exact Or.inl rfl | exact Or.inr (Or.inl rfl) | exact Or.inr (Or.inr rfl)) (hN2 : X.N[j]? = some y := by rfl) (hv2 : Vis X.env.scope y := by first | exact Or.inl rfl | exact Or.inr (Or.inl rfl) | exact Or.inr (Or.inr rfl))
    (hd : (x == ("__debug__" : Str)) = false := by decide) (hcd : (x == ("__classdict__" : Str)) = false := by decide) (hd2 : (y == ("__debug__" : Str)) = false := by decide) (hcd2 : (y == ("__classdict__" : Str)) = false := by decide)
    (hbase : attributeBase (.Name x px) "append" X.env (eval (.Name x px) X.env) = eval (.Name x px) X.env := by rfl) (hbase2 : attributeBase (.Name y py) "pop" X.env (eval (.Name y py) X.env) = eval (.Name y py) X.env := by rfl)
    (hfew2 : ((backTo cp2 (starEach [e] X.env)).all (fun x => !x.1) && (backToKw cp2 (keywordEach [] X.env)).all (fun x => x.1.isSome)
      && decide (([e]).length + ([] : List Keyword).length + (if ([] : List Keyword).isEmpty then 0 else 1) < 30)) = true := by rfl)
    (hline2 : (ap2.endLine == cp2.line) = true := by rfl) (hs2 : starEach [e] X.env = (false, eval e X.env) :: starEach [] X.env := by rfl) (hplain2 : (backTo cp2 (starEach [] X.env)).any (·.1) = false := by rfl)
    (hfew : ((backTo cp (starEach [.Call (.Attribute (.Name y py) "pop" ap2) [e] [] cp2] X.env)).all (fun x => !x.1) && (backToKw cp (keywordEach [] X.env)).all (fun x => x.1.isSome)
      && decide (([Expr.Call (.Attribute (.Name y py) "pop" ap2) [e] [] cp2]).length + ([] : List Keyword).length + (if ([] : List Keyword).isEmpty then 0 else 1) < 30)) = true := by rfl)
    (hline : (ap.endLine == cp.line) = true := by rfl) (hs : starEach [.Call (.Attribute (.Name y py) "pop" ap2) [e] [] cp2] X.env = (false, eval (.Call (.Attribute (.Name y py) "pop" ap2) [e] [] cp2) X.env) :: starEach [] X.env := by rfl) (hplain : (backTo cp (starEach [] X.env)).any (·.1) = false := by rfl)
    (hsw : swapsWith (.Call (.Attribute (.Name x px) "append" ap) [.Call (.Attribute (.Name y py) "pop" ap2) [e] [] cp2] [] cp) none pos.line X.env = pure false := by rfl) :
    PSV X rl (.Expr (.Call (.Attribute (.Name x px) "append" ap) [.Call (.Attribute (.Name y py) "pop" ap2) [e] [] cp2] [] cp) pos) (vAppPop i j fa) := by
  obtain ⟨t, p1, k⟩ := ha
  refine ⟨_, ps_expr (pe_bm PySem.F.plainAttrs_list PySem.F.slot_list_append PySem.F.type_list_append mt_append (pe_var hN hv hd hcd) (pa_cons (pe_bm PySem.F.plainAttrs_list PySem.F.slot_list_pop PySem.F.type_list_pop mt_popAt (pe_var hN2 hv2 hd2 hcd2) (pa_cons p1 pa_nil hs2) hbase2 hfew2 hline2 hs2 hplain2) pa_nil hs) hbase hfew hline hs hplain) hsw, fun {F₀ H₀ F H σ ρ} R Dv D ok ⟨xs, ys, e1, e2, q⟩ => ?_⟩
  obtain ⟨v, h1, h2, h3⟩ := R.sl i _ e1
  obtain ⟨a, vs, rfl, f, hr, hh, rs⟩ := (show OwnL X.K rl F H v xs from h2)
  obtain ⟨v', h1', h2', h3'⟩ := R.sl j _ e2
  obtain ⟨a', vs', rfl, f', hr', hh', rs'⟩ := (show OwnL X.K rl F H v' ys from h2')
  have hne : a ≠ a' := fun z => R.ap i j _ _ (.ref a) hij e1 e2 rfl rfl h1 (by rw [h1', z])
  refine ⟨.ref a, h1, .inl ⟨rfl, vs, .inl (.inl hh)⟩, .ref a', h1', .inl ⟨rfl, vs', .inl (.inl hh')⟩, k R _ _ q fun v w F1 H1 g1 r1 n1 ⟨kk, y, ew, b1, b2, b3, ey, hz, q1⟩ => ?_⟩
  subst ew
  have ev := rep_int r1
  subst ev
  have hA := g1.same a _ hh hr
  have hA' := g1.same a' _ hh' hr'
  have rs1 := rs.mono g1.fs
  have rs1' := rs'.mono g1.fs
  obtain ⟨vy, ey', ry⟩ := rs1'.get ey
  refine ⟨a', vs', kk, kk.toNat, vy, rfl, rfl, hA', by omega, by omega, ?_, ey', ?_⟩
  · have : kk < (vs'.length : Int) := by rw [rs'.length]; exact b2
    exact seqIndex_of b1 this
  · have R1 := (R.grow g1).own e2 h1' (rs1'.erase kk.toNat)
    have e1' : (ρ.set j (some (.ml (ys.eraseIdx kk.toNat))))[i]? = some (some (.ml xs)) := by rw [List.getElem?_set_ne (Ne.symm hij)]; exact e1
    refine ⟨a, vs, vy, rfl, rfl, by rw [upd_ne hne]; exact hA, by rw [rs.length]; exact hz, ?_⟩
    exact ok.nx _ _ _ _ g1.fs (R1.own e1' h1 (rs1.snoc ry)) q1
end
end L2.VL

namespace L2.VL
open PySem PySem.Spec PyProof.Rows
/-! ### comprehensions read at once -/
theorem vGo_rel {g : TGv} {ft : TB} {fe : TV} (R : PyData → Option PyData → Prop) (I : En → Prop) : ∀ (xs : List PyData) (ρ : En) (acc : List PyData) (Q : List PyData → Prop), I ρ →
    (∀ x ∈ xs, ∀ ρ, I ρ → ∀ (k : Option PyData → En → Prop), (∀ o ρ', R x o → I ρ' → k o ρ') → g x ρ fun ρ2 => ft ρ2 fun b => if b = true then fe ρ2 fun w => ∃ d, w.fz = .d d ∧ k (some d) ρ2 else k none ρ2) →
    acc.length + xs.length ≤ sizeLine → (∀ os, Paired R xs os → Q (acc ++ os.filterMap id)) → vGo g ft fe xs ρ acc Q
  | [], ρ, acc, Q, _, _, _, fin => by
    have := fin [] .nil
    simp at this
    exact this
  | x :: xs, ρ, acc, Q, hI, step, hl, fin => by
    have st := step x List.mem_cons_self ρ hI (fun o ρ2 => match o with
      | some d => acc.length < sizeLine ∧ vGo g ft fe xs ρ2 (acc ++ [d]) Q
      | none => vGo g ft fe xs ρ2 acc Q) (fun o ρ' r hI' => by
        cases o with
        | some d =>
          refine ⟨by simp at hl; omega, vGo_rel R I xs ρ' (acc ++ [d]) Q hI' (fun y hy => step y (List.mem_cons_of_mem _ hy)) (by simp at hl ⊢; omega) fun os ps => ?_⟩
          have := fin (some d :: os) (.cons r ps)
          simpa using this
        | none =>
          refine vGo_rel R I xs ρ' acc Q hI' (fun y hy => step y (List.mem_cons_of_mem _ hy)) (by simp at hl ⊢; omega) fun os ps => ?_
          have := fin (none :: os) (.cons r ps)
          simpa using this)
    exact st
theorem paired_fun {f : PyData → Option PyData} : ∀ {xs : List PyData} {os : List (Option PyData)}, Paired (fun x o => o = f x) xs os → os = xs.map f
  | _, _, .nil => rfl
  | _, _, .cons h r => by subst h; rw [paired_fun r]; rfl
/-- each item gives one thing, or none -/
theorem vGo_det {g : TGv} {ft : TB} {fe : TV} (f : PyData → Option PyData) (I : En → Prop) {xs : List PyData} {ρ : En} {Q : List PyData → Prop} (hI : I ρ)
    (step : ∀ x ∈ xs, ∀ ρ, I ρ → ∀ (k : Option PyData → En → Prop), (∀ ρ', I ρ' → k (f x) ρ') → g x ρ fun ρ2 => ft ρ2 fun b => if b = true then fe ρ2 fun w => ∃ d, w.fz = .d d ∧ k (some d) ρ2 else k none ρ2)
    (hl : xs.length ≤ sizeLine) (fin : Q (xs.filterMap f)) : vGo g ft fe xs ρ [] Q := by
  refine vGo_rel (fun x o => o = f x) I xs ρ [] Q hI (fun x hx ρ h k hk => step x hx ρ h k fun ρ' h' => hk _ ρ' rfl h') (by simpa using hl) fun os ps => ?_
  rw [paired_fun ps, List.filterMap_map]
  simpa using fin
theorem paired_some {R : PyData → PyData → Prop} : ∀ {xs : List PyData} {os : List (Option PyData)}, Paired (fun x o => ∃ d, o = some d ∧ R x d) xs os → ∃ ds, os.filterMap id = ds ∧ Paired R xs ds
  | _, _, .nil => ⟨[], rfl, .nil⟩
  | _, _, .cons ⟨d, e, h⟩ r => by
    subst e
    obtain ⟨ds, e1, e2⟩ := paired_some r
    exact ⟨d :: ds, by simp [e1], .cons h e2⟩
/-- each item gives one thing of a sort (no test) -/
theorem vGo_all {g : TGv} {fe : TV} (R : PyData → PyData → Prop) (I : En → Prop) {xs : List PyData} {ρ : En} {Q : List PyData → Prop} (hI : I ρ)
    (step : ∀ x ∈ xs, ∀ ρ, I ρ → ∀ (k : PyData → En → Prop), (∀ d ρ', R x d → I ρ' → k d ρ') → g x ρ fun ρ2 => fe ρ2 fun w => ∃ d, w.fz = .d d ∧ k d ρ2)
    (hl : xs.length ≤ sizeLine) (fin : ∀ ds, Paired R xs ds → Q ds) : vGo g (fun _ Q => Q true) fe xs ρ [] Q := by
  refine vGo_rel (fun x o => ∃ d, o = some d ∧ R x d) I xs ρ [] Q hI (fun x hx ρ h k hk => ?_) (by simpa using hl) fun os ps => ?_
  · have := step x hx ρ h (fun d ρ' => k (some d) ρ') fun d ρ' r h' => hk _ ρ' ⟨d, rfl, r⟩ h'
    simpa only [if_true] using this
  · obtain ⟨ds, e1, e2⟩ := paired_some ps
    rw [e1]
    simpa using fin ds e2
theorem paired_map {f : PyData → PyData} : ∀ {xs : List PyData} {os : List PyData}, Paired (fun x o => o = f x) xs os → os = xs.map f
  | _, _, .nil => rfl
  | _, _, .cons h r => by subst h; rw [paired_map r]; rfl
theorem vGo_map {g : TGv} {fe : TV} (f : PyData → PyData) (I : En → Prop) {xs : List PyData} {ρ : En} {Q : List PyData → Prop} (hI : I ρ)
    (step : ∀ x ∈ xs, ∀ ρ, I ρ → ∀ (k : PyData → En → Prop), (∀ ρ', I ρ' → k (f x) ρ') → g x ρ fun ρ2 => fe ρ2 fun w => ∃ d, w.fz = .d d ∧ k d ρ2)
    (hl : xs.length ≤ sizeLine) (fin : Q (xs.map f)) : vGo g (fun _ Q => Q true) fe xs ρ [] Q := by
  refine vGo_all (fun x d => d = f x) I hI (fun x hx ρ h k hk => step x hx ρ h k fun ρ' h' => hk _ ρ' rfl h') hl fun ds ps => ?_
  rw [paired_map ps]
  exact fin
/-! ### for-loops -/
theorem vLoop_range {lo : Int} {n : Nat} {g : TGv} {t : TSv} {D : VEnds} {ρ : En} (J : Nat → En → Prop) (h0 : J 0 ρ)
    (step : ∀ i ρ, i < n → J i ρ → g (.int (lo + i)) ρ fun ρ2 => t { D with nx := J (i + 1), ct := J (i + 1), bk := D.nx } ρ2) (fin : ∀ ρ, J n ρ → D.nx ρ) : vLoop (rangeD lo n) g t D ρ := by
  refine ⟨J, h0, fun i x ρ hx h => ?_, fun ρ h => fin ρ (by rw [rangeD_length] at h; exact h)⟩
  obtain ⟨hi, rfl⟩ := rangeD_get hx
  exact step i ρ hi h
end L2.VL
namespace L2.VL
open PySem PySem.Spec PyProof.Rows
theorem vLoop_map {α : Type} {xs : List α} {f : α → PyData} {g : TGv} {t : TSv} {D : VEnds} {ρ : En} (J : Nat → En → Prop) (h0 : J 0 ρ)
    (step : ∀ i (h : i < xs.length) ρ, J i ρ → g (f xs[i]) ρ fun ρ2 => t { D with nx := J (i + 1), ct := J (i + 1), bk := D.nx } ρ2) (fin : ∀ ρ, J xs.length ρ → D.nx ρ) : vLoop (xs.map f) g t D ρ := by
  refine ⟨J, h0, fun i x ρ hx h => ?_, fun ρ h => fin ρ (by rw [List.length_map] at h; exact h)⟩
  have hi : i < xs.length := by
    have := (List.getElem?_eq_some_iff.mp hx).1
    simpa using this
  have : x = f xs[i] := by
    rw [List.getElem?_map, List.getElem?_eq_getElem hi] at hx
    exact (Option.some.inj hx).symm
  subst this
  exact step i hi ρ h
theorem vLoop_mem {xs : List PyData} {g : TGv} {t : TSv} {D : VEnds} {ρ : En} (J : En → Prop) (h0 : J ρ)
    (step : ∀ x ∈ xs, ∀ ρ, J ρ → g x ρ fun ρ2 => t { D with nx := J, ct := J, bk := D.nx } ρ2) (fin : ∀ ρ, J ρ → D.nx ρ) : vLoop xs g t D ρ :=
  ⟨fun _ => J, h0, fun i x ρ hx h => step x (List.mem_of_getElem? hx) ρ h, fun ρ h => fin ρ h⟩
theorem foldl_succ {α β : Type} {xs : List α} {f : β → α → β} {a : β} {i : Nat} (h : i < xs.length) : (xs.take (i + 1)).foldl f a = f ((xs.take i).foldl f a) xs[i] := by
  rw [List.take_succ_eq_append_getElem h, List.foldl_append]
  rfl
end L2.VL
namespace L2.VL
open PySem PySem.Spec PyProof.Rows
/-! ### comprehensions over lists of things that are data by enc -/
theorem vGo_relA {α : Type} {enc : α → PyData} {g : TGv} {ft : TB} {fe : TV} (R : α → Option PyData → Prop) (I : En → Prop) : ∀ (xs : List α) (ρ : En) (acc : List PyData) (Q : List PyData → Prop), I ρ →
    (∀ x ∈ xs, ∀ ρ, I ρ → ∀ (k : Option PyData → En → Prop), (∀ o ρ', R x o → I ρ' → k o ρ') → g (enc x) ρ fun ρ2 => ft ρ2 fun b => if b = true then fe ρ2 fun w => ∃ d, w.fz = .d d ∧ k (some d) ρ2 else k none ρ2) →
    acc.length + xs.length ≤ sizeLine → (∀ os, Paired R xs os → Q (acc ++ os.filterMap id)) → vGo g ft fe (xs.map enc) ρ acc Q
  | [], ρ, acc, Q, _, _, _, fin => by
    have := fin [] .nil
    simp at this
    exact this
  | x :: xs, ρ, acc, Q, hI, step, hl, fin => by
    have st := step x List.mem_cons_self ρ hI (fun o ρ2 => match o with
      | some d => acc.length < sizeLine ∧ vGo g ft fe (xs.map enc) ρ2 (acc ++ [d]) Q
      | none => vGo g ft fe (xs.map enc) ρ2 acc Q) (fun o ρ' r hI' => by
        cases o with
        | some d =>
          refine ⟨by simp at hl; omega, vGo_relA R I xs ρ' (acc ++ [d]) Q hI' (fun y hy => step y (List.mem_cons_of_mem _ hy)) (by simp at hl ⊢; omega) fun os ps => ?_⟩
          have := fin (some d :: os) (.cons r ps)
          simpa using this
        | none =>
          refine vGo_relA R I xs ρ' acc Q hI' (fun y hy => step y (List.mem_cons_of_mem _ hy)) (by simp at hl ⊢; omega) fun os ps => ?_
          have := fin (none :: os) (.cons r ps)
          simpa using this)
    exact st
theorem paired_funA {α β : Type} {f : α → β} : ∀ {xs : List α} {os : List β}, Paired (fun x o => o = f x) xs os → os = xs.map f
  | _, _, .nil => rfl
  | _, _, .cons h r => by subst h; rw [paired_funA r]; rfl
theorem vGo_detA {α : Type} {enc : α → PyData} {g : TGv} {ft : TB} {fe : TV} (f : α → Option PyData) (I : En → Prop) {xs : List α} {ρ : En} {Q : List PyData → Prop} (hI : I ρ)
    (step : ∀ x ∈ xs, ∀ ρ, I ρ → ∀ (k : Option PyData → En → Prop), (∀ ρ', I ρ' → k (f x) ρ') → g (enc x) ρ fun ρ2 => ft ρ2 fun b => if b = true then fe ρ2 fun w => ∃ d, w.fz = .d d ∧ k (some d) ρ2 else k none ρ2)
    (hl : xs.length ≤ sizeLine) (fin : Q (xs.filterMap f)) : vGo g ft fe (xs.map enc) ρ [] Q := by
  refine vGo_relA (fun x o => o = f x) I xs ρ [] Q hI (fun x hx ρ h k hk => step x hx ρ h k fun ρ' h' => hk _ ρ' rfl h') (by simpa using hl) fun os ps => ?_
  rw [paired_funA ps, List.filterMap_map]
  simpa using fin
theorem vGo_mapA {α : Type} {enc : α → PyData} {g : TGv} {fe : TV} (f : α → PyData) (I : En → Prop) {xs : List α} {ρ : En} {Q : List PyData → Prop} (hI : I ρ)
    (step : ∀ x ∈ xs, ∀ ρ, I ρ → ∀ (k : PyData → En → Prop), (∀ ρ', I ρ' → k (f x) ρ') → g (enc x) ρ fun ρ2 => fe ρ2 fun w => ∃ d, w.fz = .d d ∧ k d ρ2)
    (hl : xs.length ≤ sizeLine) (fin : Q (xs.map f)) : vGo g (fun _ Q => Q true) fe (xs.map enc) ρ [] Q := by
  refine vGo_detA (fun x => some (f x)) I hI (fun x hx ρ h k hk => ?_) hl (by rw [List.filterMap_eq_map']; exact fin)
  have := step x hx ρ h (fun d ρ' => k (some d) ρ') hk
  simpa only [if_true] using this
/-- .. over a range -/
theorem vGo_mapR {lo : Int} {n : Nat} {g : TGv} {fe : TV} (f : Nat → PyData) (I : En → Prop) {ρ : En} {Q : List PyData → Prop} (hI : I ρ)
    (step : ∀ j, j < n → ∀ ρ, I ρ → ∀ (k : PyData → En → Prop), (∀ ρ', I ρ' → k (f j) ρ') → g (.int (lo + j)) ρ fun ρ2 => fe ρ2 fun w => ∃ d, w.fz = .d d ∧ k d ρ2)
    (hl : n ≤ sizeLine) (fin : Q ((List.range n).map f)) : vGo g (fun _ Q => Q true) fe (rangeD lo n) ρ [] Q :=
  vGo_mapA f I hI (fun j hj ρ h k hk => step j (List.mem_range.mp hj) ρ h k hk) (by simpa using hl) fin
theorem vGo_detR {lo : Int} {n : Nat} {g : TGv} {ft : TB} {fe : TV} (f : Nat → Option PyData) (I : En → Prop) {ρ : En} {Q : List PyData → Prop} (hI : I ρ)
    (step : ∀ j, j < n → ∀ ρ, I ρ → ∀ (k : Option PyData → En → Prop), (∀ ρ', I ρ' → k (f j) ρ') → g (.int (lo + j)) ρ fun ρ2 => ft ρ2 fun b => if b = true then fe ρ2 fun w => ∃ d, w.fz = .d d ∧ k (some d) ρ2 else k none ρ2)
    (hl : n ≤ sizeLine) (fin : Q ((List.range n).filterMap f)) : vGo g ft fe (rangeD lo n) ρ [] Q :=
  vGo_detA f I hI (fun j hj ρ h k hk => step j (List.mem_range.mp hj) ρ h k hk) (by simpa using hl) fin
end L2.VL
namespace L2.VL
open PySem PySem.Spec PyProof.Rows
/-! ### data that can be shown, built up -/
structure Sm (dp bk : Nat) (d : PyData) : Prop where
  nice : Nice d
  dep : d.depth ≤ dp
  blk : d.bulk ≤ bk
theorem niceAll_of : ∀ {xs : List PyData}, (∀ d ∈ xs, Nice d) → NiceAll xs
  | [], _ => trivial
  | x :: xs, h => ⟨h x List.mem_cons_self, niceAll_of fun d hd => h d (List.mem_cons_of_mem _ hd)⟩
theorem depthAll_le {k : Nat} : ∀ {xs : List PyData}, (∀ d ∈ xs, d.depth ≤ k) → PyData.depthAll xs ≤ k + 1
  | [], _ => by simp [PyData.depthAll]
  | x :: xs, h => by
    have h1 := h x List.mem_cons_self
    have h2 := depthAll_le (k := k) (xs := xs) fun d hd => h d (List.mem_cons_of_mem _ hd)
    simp only [PyData.depthAll]
    omega
theorem bulkAll_le {k : Nat} : ∀ {xs : List PyData}, (∀ d ∈ xs, d.bulk ≤ k) → PyData.bulkAll xs ≤ (k + 1) * xs.length
  | [], _ => by simp [PyData.bulkAll]
  | x :: xs, h => by
    have h1 := h x List.mem_cons_self
    have h2 := bulkAll_le (k := k) (xs := xs) fun d hd => h d (List.mem_cons_of_mem _ hd)
    simp only [PyData.bulkAll, List.length_cons, Nat.mul_succ]
    omega
theorem Sm.seq {dp bk n : Nat} {xs : List PyData} (h : ∀ d ∈ xs, Sm dp bk d) (hl : xs.length ≤ n) : Sm (dp + 2) ((bk + 1) * n) (.tuple xs) ∧ Sm (dp + 2) ((bk + 1) * n) (.list xs) := by
  have a := niceAll_of fun d hd => (h d hd).nice
  have b := depthAll_le fun d hd => (h d hd).dep
  have c : PyData.bulkAll xs ≤ (bk + 1) * n := Nat.le_trans (bulkAll_le fun d hd => (h d hd).blk) (Nat.mul_le_mul_left _ hl)
  refine ⟨⟨a, ?_, c⟩, ⟨a, ?_, c⟩⟩ <;> simp only [PyData.depth] <;> omega
theorem Sm.shw {dp bk : Nat} {d : PyData} (h : Sm dp bk d) (h1 : dp ≤ 60) (h2 : bk ≤ 8000) : Shw d := ⟨h.nice, by have := h.dep; omega, by have := h.blk; omega⟩
theorem Sm.of_lf {d : PyData} (h : Lf d) : Sm 2 2000 d := ⟨h.nice, h.dep, h.wt⟩
theorem Sm.int {i : Int} (h : i.natAbs < 2 ^ 1000) : Sm 0 0 (.int i) := ⟨(Lf.int h).nice, by simp [PyData.depth], by simp [PyData.bulk]⟩
theorem Sm.bool {b : Bool} : Sm 0 0 (.bool b) := ⟨trivial, by simp [PyData.depth], by simp [PyData.bulk]⟩
theorem Sm.none : Sm 0 0 .none := ⟨trivial, by simp [PyData.depth], by simp [PyData.bulk]⟩
theorem Sm.mono {dp bk dp' bk' : Nat} {d : PyData} (h : Sm dp bk d) (h1 : dp ≤ dp') (h2 : bk ≤ bk') : Sm dp' bk' d := ⟨h.nice, Nat.le_trans h.dep h1, Nat.le_trans h.blk h2⟩
theorem Sm.pair {a b : Int} (ha : a.natAbs < 2 ^ 1000) (hb : b.natAbs < 2 ^ 1000) : Sm 2 2 (.tuple [.int a, .int b]) :=
  (Sm.seq (dp := 0) (bk := 0) (n := 2) (xs := [.int a, .int b]) (fun d hd => by
    rcases List.mem_cons.mp hd with rfl | hd
    · exact Sm.int ha
    · rcases List.mem_cons.mp hd with rfl | hd
      · exact Sm.int hb
      · cases hd) (Nat.le_refl _)).1
theorem Shw.refl {d : PyData} (h : Shw d) : PyData.eqv d d = true := SeqAt.eqv_refl d (Nice.facts d h.1).2.1
theorem take_rangeF {α : Type} (f : Nat → α) {k n : Nat} (h : k ≤ n) : ((List.range n).map f).take k = (List.range k).map f := by
  rw [← List.map_take, List.take_range, Nat.min_eq_left h]
theorem drop_rangeF {α : Type} (f : Nat → α) {k n : Nat} (h : k ≤ n) : ((List.range n).map f).drop k = (List.range (n - k)).map fun j => f (k + j) := by
  apply List.ext_getElem
  · simp
  · intro i h1 h2
    simp
end L2.VL

namespace L2.VL
open PySem PySem.Spec PyProof.Rows
/-! ### the feed, by the hand layer -/
def fdO (c : Addr) (a l t : Int) : HO := .lst [.ref c, .int a, .int l, .int t]
theorem h_ix {K : PySem.W.Frag} {H : Hp} {r : Addr} {xs : List V} {k : Int} {v : V} {Q : VK} (h : H r = some (.lst xs)) (e : L2.atI xs k = some v) (q : Q v H) : rIx K (.ref r) (.int k) H Q := .inl ⟨r, xs, k, v, rfl, rfl, .inl (.inl h), e, q⟩
theorem h_set {H : Hp} {r : Addr} {xs : List V} {k : Int} {j : Nat} {v : V} {Q : Hp → Prop} (h : H r = some (.lst xs)) (e : ixN xs.length k = some j) (q : Q (upd H r (.lst (xs.set j v)))) : rSetL (.ref r) (.int k) v H Q := ⟨r, xs, k, j, rfl, rfl, h, e, q⟩
theorem at_toNat {ns : List Int} {k : Int} (h0 : 0 ≤ k) (h1 : k.toNat < ns.length) : L2.atI (ns.map V.int) k = some (.int ns[k.toNat]) := by
  obtain ⟨n, rfl⟩ := Int.eq_ofNat_of_zero_le h0
  exact atI_nat (by have h1 : n < ns.length := h1
                    rw [List.getElem?_map, List.getElem?_eq_getElem h1]; rfl)
theorem itT {b : Bool} {A B : Prop} (h : b = true) (a : A) : if b = true then A else B := by rw [if_pos h]; exact a
theorem itF {b : Bool} {A B : Prop} (h : b = false) (x : B) : if b = true then A else B := by rw [if_neg (by rw [h]; decide)]; exact x
theorem vi_ne {l : Int} (h : l ≠ 0) : decide (V.int l = V.int 0) = false := decide_eq_false fun z => h (by injection z)
/-- the source turned: the rest stays -/
theorem Grow.turn {F H : Hp} {r : Addr} {o : HO} (s : Same F H) (ra : RAt (some r) F H) (h : RO F o) : Grow (some r) F H F (upd H r o) := by
  have fr : F r = none := (ra r rfl).1
  have neF : ∀ b u, F b = some u → b ≠ r := fun b u q z => by subst z; rw [fr] at q; cases q
  refine ⟨fun b u q n => by rw [upd_ne (fun z => n (by rw [z]))]; exact q, .refl F, fun b u q => by rw [upd_ne (neF b u q)]; exact s b u q, fun _ _ _ => rfl, fun y z => ?_⟩
  cases z
  exact ⟨fr, ⟨o, upd_same, h⟩⟩
section
variable {P : Program} {w : World} {K : PySem.W.Frag} {mg : Str → Option Value} {base : Heap} {rl : Option Addr} {x : Str} {st : Stmt} {N ps : List Str} {k : Nat} {Pd : List W → (PyData → Prop) → Prop}
/-- a def by the hand layer's reading -/
theorem Dfn.hand (Fn : FnIn K mg x st ps) (S : FnScope N ps (defScope st)) (mono : ∀ ws Q Q', (∀ d, Q d → Q' d) → Pd ws Q → Pd ws Q') (len : ∀ ws Q, Pd ws Q → ws.length = ps.length)
    (h : ∀ (f : Addr) (cdv : Value) (A : Around) (outer : List Env) (s : Shared) (H : Hp) (E : XK) vs ws F (Q : PyData → Prop) (Qv : VK), Room k (A.deeper (envOfC x (defScope st) s.heap.objs.size f cdv)) → Same F H → RAt rl F H → RelWs K rl F H vs ws → Pd ws Q → (∀ v F' H' d, Grow rl F H F' H' → Rep K F' v d → Q d → Qv v H') →
      ∃ T, PSs (cxOf CX0 P w K mg base N x (defScope st) f cdv A outer s H E).nox (defBody st) T ∧ T { nx := fun _ H' => Qv .non H', rt := Qv } (start N vs) H) : Dfn P w K mg base rl x ps (k + 1) Pd := by
  obtain ⟨f, fd, hm, F, hb⟩ := Fn.ex
  refine ⟨mono, f, fd, hm, F.kp, hb, ?_⟩
  refine F.ok S (fun vs H Q E ⟨F, ws, _, _, r, _, q⟩ => (Paired.length r).trans (len ws _ q)) fun cdv A outer s H vs Q E hr h => ?_
  obtain ⟨F, ws, sm, ra, r, ok, q⟩ := h
  exact h f cdv A outer s H E vs ws F _ Q hr sm ra r q fun v F' H' d g rp qd => qd v F' H' g rp
end
end L2.VL

set_option exponentiation.threshold 10000
namespace L2.VL
open PySem PySem.Spec PyProof.Rows
/-- gcd of two numbers from 0 on -/
def gcdN : List W → (PyData → Prop) → Prop := fun ws Q => ∃ i j : Int, ws = [.d (.int i), .d (.int j)] ∧ 0 ≤ i ∧ 0 ≤ j ∧ Q (.int (Int.gcd i j))
theorem gcdN.mono : ∀ ws (Q Q' : PyData → Prop), (∀ d, Q d → Q' d) → gcdN ws Q → gcdN ws Q' := fun _ _ _ h ⟨i, j, e, a, b, q⟩ => ⟨i, j, e, a, b, h _ q⟩
theorem gcdN.len : ∀ ws (Q : PyData → Prop), gcdN ws Q → ws.length = 2 := fun _ _ ⟨_, _, e, _⟩ => by subst e; rfl
/-- a over b in lowest terms, b above 0 -/
def lowD (a b : Int) : PyData := .tuple [.int (a.fdiv (Int.gcd a b)), .int (b.fdiv (Int.gcd a b))]
def lowP : List W → (PyData → Prop) → Prop := fun ws Q => ∃ a b : Int, ws = [.d (.int a), .d (.int b)] ∧ 0 < b ∧ b.natAbs < 2 ^ 8000 ∧ Q (lowD a b)
theorem lowP.mono : ∀ ws (Q Q' : PyData → Prop), (∀ d, Q d → Q' d) → lowP ws Q → lowP ws Q' := fun _ _ _ h ⟨i, j, e, a, b, q⟩ => ⟨i, j, e, a, b, h _ q⟩
theorem lowP.len : ∀ ws (Q : PyData → Prop), lowP ws Q → ws.length = 2 := fun _ _ ⟨_, _, e, _⟩ => by subst e; rfl
theorem gcd_div {a b : Int} (hb : 0 < b) (z : b.natAbs < 2 ^ 8000) (i : Int) : CDivB i (Int.gcd a b : Int) := by
  have h1 := gcd_pos (a := a) (b := b) (by omega)
  have h2 := gcd_le (a := a) (b := b) (by omega)
  exact ⟨by omega, Nat.lt_of_le_of_lt (by omega) (Nat.lt_of_lt_of_le z (Nat.pow_le_pow_right (by decide) (by decide)))⟩
/-- one thing of one kind: int to int -/
def iP (n : Nat) (pre : List Int → Prop) (f : List Int → PyData) : List W → (PyData → Prop) → Prop := fun ws Q => ∃ xs : List Int, ws = xs.map (fun i => .d (.int i)) ∧ xs.length = n ∧ pre xs ∧ Q (f xs)
theorem iP.mono {n : Nat} {pre : List Int → Prop} {f : List Int → PyData} : ∀ ws (Q Q' : PyData → Prop), (∀ d, Q d → Q' d) → iP n pre f ws Q → iP n pre f ws Q' := fun _ _ _ h ⟨i, e, a, b, q⟩ => ⟨i, e, a, b, h _ q⟩
/-- f(a, b) of two intR -/
def i2P (pre : Int → Int → Prop) (f : Int → Int → PyData) : List W → (PyData → Prop) → Prop := fun ws Q => ∃ i j : Int, ws = [.d (.int i), .d (.int j)] ∧ pre i j ∧ Q (f i j)
theorem i2P.mono {pre : Int → Int → Prop} {f : Int → Int → PyData} : ∀ ws (Q Q' : PyData → Prop), (∀ d, Q d → Q' d) → i2P pre f ws Q → i2P pre f ws Q' := fun _ _ _ h ⟨i, j, e, a, q⟩ => ⟨i, j, e, a, h _ q⟩
theorem i2P.len {pre : Int → Int → Prop} {f : Int → Int → PyData} : ∀ ws (Q : PyData → Prop), i2P pre f ws Q → ws.length = 2 := fun _ _ ⟨_, _, e, _⟩ => by subst e; rfl
/-! an exchange: 0 to b - 1, each once, 0 first -/
structure IsEx (b : Int) (p : List Int) : Prop where
  len : p.length = b.toNat
  zero : p.head? = some 0
  nd : p.Nodup
  rng : ∀ x ∈ p, 0 ≤ x ∧ x < b
def exD (p : List Int) : PyData := .tuple (p.map .int)
def exP : List W → (PyData → Prop) → Prop := fun ws Q => ∃ b : Int, ws = [.reel, .d (.int b)] ∧ 2 ≤ b ∧ b ≤ 16 ∧ ∀ p, IsEx b p → Q (exD p)
theorem exP.mono : ∀ ws (Q Q' : PyData → Prop), (∀ d, Q d → Q' d) → exP ws Q → exP ws Q' := fun _ _ _ h ⟨b, e, x, y, q⟩ => ⟨b, e, x, y, fun p hp => h _ (q p hp)⟩
theorem exP.len : ∀ ws (Q : PyData → Prop), exP ws Q → ws.length = 2 := fun _ _ ⟨_, e, _⟩ => by subst e; rfl
def intR (lo : Int) (n : Nat) : List Int := (List.range n).map fun (i : Nat) => lo + i
theorem rangeD_ints (lo : Int) (n : Nat) : rangeD lo n = (intR lo n).map .int := by simp [rangeD, intR]
theorem intR_nodup (lo : Int) (n : Nat) : (intR lo n).Nodup := by
  unfold intR
  exact List.pairwise_map.mpr (List.Pairwise.imp (fun {a b} h z => h (by omega)) List.nodup_range)
theorem intR_mem {lo x : Int} {n : Nat} : x ∈ intR lo n ↔ lo ≤ x ∧ x < lo + n := by
  unfold intR
  simp only [List.mem_map, List.mem_range]
  constructor
  · rintro ⟨k, hk, rfl⟩; omega
  · rintro ⟨h1, h2⟩
    exact ⟨(x - lo).toNat, by omega, by omega⟩
theorem intR_length (lo : Int) (n : Nat) : (intR lo n).length = n := by simp [intR]
theorem isEx_of {b : Int} {f : List Int} (hb : 2 ≤ b) (h0 : f.head? = some 0) (p : f.Perm (0 :: intR 1 (b - 1).toNat)) : IsEx b f := by
  have nd : (0 :: intR 1 (b - 1).toNat).Nodup := List.nodup_cons.mpr ⟨fun h => by have := intR_mem.mp h; omega, intR_nodup _ _⟩
  refine ⟨?_, h0, p.nodup_iff.mpr nd, fun x hx => ?_⟩
  · rw [p.length_eq, List.length_cons, intR_length]; omega
  · rcases List.mem_cons.mp (p.mem_iff.mp hx) with rfl | h
    · omega
    · have := intR_mem.mp h; omega
theorem map_erase : ∀ (l : List Int) (k : Nat), (l.map PyData.int).eraseIdx k = (l.eraseIdx k).map .int
  | [], _ => by simp
  | _ :: _, 0 => rfl
  | x :: l, k + 1 => by simp [map_erase l k]
theorem erase_perm : ∀ {l : List Int} {k : Nat} (h : k < l.length), (l[k] :: l.eraseIdx k).Perm l
  | x :: l, 0, _ => .refl _
  | x :: l, k + 1, h => by
    have h' : k < l.length := by simpa using h
    show (l[k] :: x :: l.eraseIdx k).Perm (x :: l)
    exact (List.Perm.swap x l[k] _).trans (.cons x (erase_perm h'))
theorem pop_perm {f l : List Int} {k : Nat} (h : k < l.length) {c : List Int} (p : (f ++ l).Perm c) : ((f ++ [l[k]]) ++ l.eraseIdx k).Perm c := by
  have q := erase_perm h
  have : ((f ++ [l[k]]) ++ l.eraseIdx k) = f ++ (l[k] :: l.eraseIdx k) := by simp
  rw [this]
  exact (List.Perm.append_left f q).trans p
end L2.VL
namespace L2.VL
open PySem PySem.Spec PyProof.Rows
/-! rows -/
def rowD (rows : List (Int × List Int)) : PyData := .tuple (rows.map fun r => .tuple [.int r.1, exD r.2])
structure IsRow (rows : List (Int × List Int)) : Prop where
  lo : 1 ≤ rows.length
  hi : rows.length ≤ 4
  ok : ∀ r ∈ rows, 2 ≤ r.1 ∧ r.1 ≤ 16 ∧ IsEx r.1 r.2
  co : rows.Pairwise fun x y => Int.gcd x.1 y.1 = 1
def rowP : List W → (PyData → Prop) → Prop := fun ws Q => ∃ m : Int, ws = [.reel, .d (.int m)] ∧ 1 ≤ m ∧ m ≤ 4 ∧ ∀ rows, IsRow rows → rows.length ≤ m.toNat → Q (rowD rows)
theorem rowP.mono : ∀ ws (Q Q' : PyData → Prop), (∀ d, Q d → Q' d) → rowP ws Q → rowP ws Q' := fun _ _ _ h ⟨b, e, x, y, q⟩ => ⟨b, e, x, y, fun p hp hl => h _ (q p hp hl)⟩
theorem rowP.len : ∀ ws (Q : PyData → Prop), rowP ws Q → ws.length = 2 := fun _ _ ⟨_, e, _⟩ => by subst e; rfl
def GoodB (bs : List Int) : Prop := bs.length = 4 ∧ (∀ b ∈ bs, 2 ≤ b ∧ b ≤ 16) ∧ bs.Pairwise fun x y => Int.gcd x y = 1
instance (bs : List Int) : Decidable (GoodB bs) := by unfold GoodB; infer_instance
theorem sIx_int {n d : Nat} {k : Int} (h : 0 ≤ k) : HT.sIx n d (some k) = min k.toNat n := by
  obtain ⟨m, rfl⟩ := Int.eq_ofNat_of_zero_le h
  exact HT.sIx_nat n d m
theorem cut_from {xs : List PyData} {k : Int} (h : 0 ≤ k) : cutD xs (some k) none = xs.drop k.toNat := by
  unfold cutD
  rw [sIx_int h, HT.sIx_none]
  by_cases hk : k.toNat ≤ xs.length
  · rw [Nat.min_eq_left hk]
    exact List.take_of_length_le (by simp)
  · rw [Nat.min_eq_right (by omega), List.drop_length, List.drop_of_length_le (by omega)]
    simp
theorem cut_to {xs : List PyData} {k : Int} (h : 0 ≤ k) : cutD xs none (some k) = xs.take k.toNat := by
  unfold cutD
  rw [sIx_int h, HT.sIx_none, List.drop_zero, Nat.sub_zero]
  by_cases hk : k.toNat ≤ xs.length
  · rw [Nat.min_eq_left hk]
  · rw [Nat.min_eq_right (by omega), List.take_of_length_le (Nat.le_refl _), List.take_of_length_le (by omega)]
theorem turned_bases {bs : List Int} (g : GoodB bs) (k m : Nat) : ((bs.drop k ++ bs.take k).take m).Pairwise (fun x y => Int.gcd x y = 1) ∧ ∀ b ∈ (bs.drop k ++ bs.take k).take m, 2 ≤ b ∧ b ≤ 16 := by
  have p : (bs.drop k ++ bs.take k).Perm bs := (List.perm_append_comm).trans (by rw [List.take_append_drop])
  have q := (p.pairwise_iff (R := fun x y => Int.gcd x y = 1) (fun {a b} h => by rw [Int.gcd_comm]; exact h)).mpr g.2.2
  exact ⟨q.sublist (List.take_sublist _ _), fun b hb => g.2.1 b (p.mem_iff.mp (List.mem_of_mem_take hb))⟩
theorem rows_of : ∀ {cs : List Int} {ds : List PyData}, Paired (fun x d => ∃ b p, x = .int b ∧ d = .tuple [.int b, exD p] ∧ IsEx b p) (cs.map PyData.int) ds → ∃ rows : List (Int × List Int), ds = rows.map (fun r => .tuple [.int r.1, exD r.2]) ∧ rows.map (·.1) = cs ∧ ∀ r ∈ rows, IsEx r.1 r.2
  | [], _, h => by cases h; exact ⟨[], rfl, rfl, fun _ z => nomatch z⟩
  | c :: cs, _, h => by
    cases h with
    | cons h r =>
      obtain ⟨b, p, e1, e2, ex⟩ := h
      cases e1
      obtain ⟨rows, h1, h2, h3⟩ := rows_of r
      refine ⟨(c, p) :: rows, by simp [e2, h1], by simp [h2], fun r hr => ?_⟩
      rcases List.mem_cons.mp hr with rfl | hr
      · exact ex
      · exact h3 r hr
theorem isRow_of {bs : List Int} (g : GoodB bs) {k m : Nat} (h1 : 1 ≤ m) (h4 : m ≤ 4) {rows : List (Int × List Int)} (e : rows.map (·.1) = (bs.drop k ++ bs.take k).take m) (hx : ∀ r ∈ rows, IsEx r.1 r.2) : IsRow rows ∧ rows.length ≤ m := by
  have hl : rows.length = min m 4 := by
    have := congrArg List.length e
    have hb := g.1
    simp at this
    omega
  obtain ⟨q1, q2⟩ := turned_bases g k m
  rw [← e] at q1 q2
  refine ⟨⟨by omega, by omega, fun r hr => ?_, List.pairwise_map.mp q1⟩, by omega⟩
  obtain ⟨a, b⟩ := q2 r.1 (List.mem_map_of_mem hr)
  exact ⟨a, b, hx r hr⟩
end L2.VL
namespace L2.VL
open PySem PySem.Spec PyProof.Rows
/-- the least power that reaches n -/
def needP : List W → (PyData → Prop) → Prop := fun ws Q => ∃ b n : Int, ws = [.d (.int b), .d (.int n)] ∧ 2 ≤ b ∧ b ≤ 16 ∧ n < 2 ^ 40 ∧ ∀ e : Nat, n ≤ b ^ e → (∀ k < e, b ^ k < n) → Q (.int e)
theorem needP.mono : ∀ ws (Q Q' : PyData → Prop), (∀ d, Q d → Q' d) → needP ws Q → needP ws Q' := fun _ _ _ h ⟨b, n, e, x, y, z, q⟩ => ⟨b, n, e, x, y, z, fun p a b => h _ (q p a b)⟩
theorem needP.len : ∀ ws (Q : PyData → Prop), needP ws Q → ws.length = 2 := fun _ _ ⟨_, _, e, _⟩ => by subst e; rfl
def pr (a b : Int) : PyData := .tuple [.int a, .int b]
def belowP : List W → (PyData → Prop) → Prop := fun ws Q => ∃ a b c d : Int, ws = [.d (pr a b), .d (pr c d)] ∧ CMulB a d ∧ CMulB c b ∧ Q (.bool (decide (a * d < c * b)))
theorem belowP.mono : ∀ ws (Q Q' : PyData → Prop), (∀ d, Q d → Q' d) → belowP ws Q → belowP ws Q' := fun _ _ _ h ⟨b, n, c, d, e, x, y, q⟩ => ⟨b, n, c, d, e, x, y, h _ q⟩
theorem belowP.len : ∀ ws (Q : PyData → Prop), belowP ws Q → ws.length = 2 := fun _ _ ⟨_, _, _, _, e, _⟩ => by subst e; rfl
def lessP (f : Bool → PyData → PyData → PyData) : List W → (PyData → Prop) → Prop := fun ws Q => ∃ a b c d : Int, ws = [.d (pr a b), .d (pr c d)] ∧ CMulB a d ∧ CMulB c b ∧ Q (f (decide (a * d < c * b)) (pr a b) (pr c d))
theorem lessP.mono {f : Bool → PyData → PyData → PyData} : ∀ ws (Q Q' : PyData → Prop), (∀ d, Q d → Q' d) → lessP f ws Q → lessP f ws Q' := fun _ _ _ h ⟨b, n, c, d, e, x, y, q⟩ => ⟨b, n, c, d, e, x, y, h _ q⟩
theorem lessP.len {f : Bool → PyData → PyData → PyData} : ∀ ws (Q : PyData → Prop), lessP f ws Q → ws.length = 2 := fun _ _ ⟨_, _, _, _, e, _⟩ => by subst e; rfl
end L2.VL
namespace L2.VL
open PySem PySem.Spec PyProof.Rows
def needed (b n : Int) : Nat := ((List.range 31).filter fun k => decide (b ^ k < n)).length
theorem pow_le_pow {b : Int} (h : 1 ≤ b) {i j : Nat} (hij : i ≤ j) : b ^ i ≤ b ^ j := by
  induction hij with
  | refl => exact Int.le_refl _
  | step _ ih =>
    rw [Int.pow_succ]
    have : 0 ≤ b ^ i := Int.le_of_lt (Int.pow_pos (by omega))
    exact Int.le_trans ih (by
      rename_i m _
      have hm : 0 < b ^ m := Int.pow_pos (by omega)
      have := Int.mul_le_mul_of_nonneg_left h (Int.le_of_lt hm)
      omega)
theorem pow_mono {a b : Int} (h0 : 0 ≤ a) (h : a ≤ b) : ∀ k : Nat, a ^ k ≤ b ^ k
  | 0 => by simp
  | k + 1 => by
    rw [Int.pow_succ, Int.pow_succ]
    exact Int.mul_le_mul (pow_mono h0 h k) h h0 (Int.pow_nonneg (by omega))
theorem two_pow_le {b : Int} (h : 2 ≤ b) : ∀ k : Nat, (2 : Int) ^ k ≤ b ^ k
  | 0 => by simp
  | k + 1 => by
    rw [Int.pow_succ, Int.pow_succ]
    have := two_pow_le h k
    have h0 : (0 : Int) ≤ 2 ^ k := Int.le_of_lt (Int.pow_pos (by omega))
    calc (2 : Int) ^ k * 2 ≤ b ^ k * 2 := Int.mul_le_mul_of_nonneg_right this (by omega)
      _ ≤ b ^ k * b := Int.mul_le_mul_of_nonneg_left h (by omega)
theorem filter_below (e : Nat) : ∀ n : Nat, e ≤ n → ((List.range n).filter fun k => decide (k < e)).length = e
  | 0, h => by simp; omega
  | n + 1, h => by
    rw [List.range_succ, List.filter_append, List.length_append]
    by_cases he : e ≤ n
    · rw [filter_below e n he]
      simp
      omega
    · have : e = n + 1 := by omega
      subst this
      have : (List.range n).filter (fun k => decide (k < n + 1)) = List.range n := List.filter_eq_self.mpr fun a ha => by simp at ha ⊢; omega
      rw [this]
      simp
theorem needed_eq {b n : Int} {e : Nat} (hb : 2 ≤ b) (h1 : n ≤ b ^ e) (h2 : ∀ k < e, b ^ k < n) (hn : n ≤ 2 ^ 31) : needed b n = e := by
  have he : e ≤ 31 := by
    by_cases h : e ≤ 31
    · exact h
    · have := h2 31 (by omega)
      have := two_pow_le hb 31
      omega
  have key : ∀ k : Nat, decide (b ^ k < n) = decide (k < e) := fun k => by
    by_cases hk : k < e
    · rw [decide_eq_true hk, decide_eq_true (h2 k hk)]
    · rw [decide_eq_false hk, decide_eq_false]
      have := pow_le_pow (b := b) (by omega) (show e ≤ k by omega)
      omega
  unfold needed
  rw [List.filter_congr fun k _ => key k]
  exact filter_below e 31 he
theorem needed_le (b n : Int) : needed b n ≤ 31 := by
  unfold needed
  have := List.length_filter_le (fun k => decide (b ^ k < n)) (List.range 31)
  simpa using this
def stepB (n : Int) (p : Int) (r : Int × List Int) : Int := p * max 1 ((r.1 - 1) * needed r.1 n)
theorem stepB_bd {n : Int} : ∀ (rows : List (Int × List Int)) (p : Int), (∀ r ∈ rows, 2 ≤ r.1 ∧ r.1 ≤ 16 ∧ IsEx r.1 r.2) → 1 ≤ p → 1 ≤ rows.foldl (stepB n) p ∧ rows.foldl (stepB n) p ≤ p * 465 ^ rows.length
  | [], p, _, hp => by simp; omega
  | r :: rows, p, h, hp => by
    obtain ⟨h1, h2, _⟩ := h r List.mem_cons_self
    have hn : (needed r.1 n : Int) ≤ 31 := by have := needed_le r.1 n; omega
    have hb : (r.1 - 1) * needed r.1 n ≤ 465 := by
      calc (r.1 - 1) * needed r.1 n ≤ (r.1 - 1) * 31 := Int.mul_le_mul_of_nonneg_left hn (by omega)
        _ ≤ 465 := by omega
    have hm1 : 1 ≤ max 1 ((r.1 - 1) * needed r.1 n) := by omega
    have hm2 : max 1 ((r.1 - 1) * needed r.1 n) ≤ 465 := by omega
    have hs1 : 1 ≤ stepB n p r := by
      unfold stepB
      have := Int.mul_le_mul hp hm1 (by omega) (by omega)
      omega
    have hs2 : stepB n p r ≤ p * 465 := by
      unfold stepB
      exact Int.mul_le_mul_of_nonneg_left hm2 (by omega)
    obtain ⟨a, b⟩ := stepB_bd rows (stepB n p r) (fun r hr => h r (List.mem_cons_of_mem _ hr)) hs1
    refine ⟨a, Int.le_trans b ?_⟩
    rw [List.length_cons, Int.pow_succ]
    have h0 : (0 : Int) ≤ 465 ^ rows.length := Int.le_of_lt (Int.pow_pos (by decide))
    calc stepB n p r * 465 ^ rows.length ≤ (p * 465) * 465 ^ rows.length := Int.mul_le_mul_of_nonneg_right hs2 h0
      _ = p * (465 ^ rows.length * 465) := by rw [Int.mul_assoc, Int.mul_comm 465]
theorem stepB_small {n : Int} {rows : List (Int × List Int)} (h : IsRow rows) (i : Nat) : 1 ≤ (rows.take i).foldl (stepB n) 1 ∧ (rows.take i).foldl (stepB n) 1 < 2 ^ 40 := by
  obtain ⟨a, b⟩ := stepB_bd (n := n) (rows.take i) 1 (fun r hr => h.ok r (List.mem_of_mem_take hr)) (by omega)
  refine ⟨a, Int.lt_of_le_of_lt b ?_⟩
  have hl : (rows.take i).length ≤ 4 := by have := h.hi; simp; omega
  have := pow_le_pow (b := 465) (by omega) hl
  omega
/-- the bound of a row -/
def boundD (p n : Int) : PyData := lowD (min n p) n
theorem low_same {n : Int} (h : 0 < n) : lowD n n = pr 1 1 := by
  unfold lowD pr
  have e : (Int.gcd n n : Int) = n := by rw [Int.gcd_self]; omega
  rw [e, Int.fdiv_self (by omega)]
theorem low_small {a b : Int} (hb : 0 < b) (za : a.natAbs < 2 ^ 64) (zb : b.natAbs < 2 ^ 64) : ∃ x y : Int, lowD a b = pr x y ∧ x.natAbs < 2 ^ 64 ∧ y.natAbs < 2 ^ 64 ∧ 0 < y ∧ x * b = a * y ∧ x * (Int.gcd a b : Int) = a ∧ y * (Int.gcd a b : Int) = b := by
  have g := gcd_pos (a := a) (b := b) (by omega)
  have e1 : a.fdiv (Int.gcd a b) * (Int.gcd a b : Int) = a := Int.fdiv_mul_cancel (Int.gcd_dvd_left ..)
  have e2 : b.fdiv (Int.gcd a b) * (Int.gcd a b : Int) = b := Int.fdiv_mul_cancel (Int.gcd_dvd_right ..)
  refine ⟨_, _, rfl, Nat.lt_of_le_of_lt (natAbs_fdiv_le _ _) za, Nat.lt_of_le_of_lt (natAbs_fdiv_le _ _) zb, ?_, ?_, e1, e2⟩
  · rcases Int.lt_trichotomy 0 (b.fdiv (Int.gcd a b)) with h | h | h
    · exact h
    · rw [← h] at e2; omega
    · have := Int.mul_nonneg_of_nonpos_of_nonpos (Int.le_of_lt h) (by omega : -(Int.gcd a b : Int) ≤ 0)
      have h3 : b.fdiv (Int.gcd a b) * (Int.gcd a b : Int) ≤ 0 := Int.mul_nonpos_of_nonpos_of_nonneg (Int.le_of_lt h) (by omega)
      omega
  · have : a.fdiv (Int.gcd a b) * b = a.fdiv (Int.gcd a b) * (b.fdiv (Int.gcd a b) * (Int.gcd a b : Int)) := by rw [e2]
    rw [this, ← Int.mul_assoc, Int.mul_comm (a.fdiv _) (b.fdiv _), Int.mul_assoc, e1, Int.mul_comm]
end L2.VL
namespace L2.VL
open PySem PySem.Spec PyProof.Rows
def rbP : List W → (PyData → Prop) → Prop := fun ws Q => ∃ rows n, ws = [.d (rowD rows), .d (.int n)] ∧ IsRow rows ∧ 1 ≤ n ∧ n ≤ 2 ^ 31 ∧ Q (boundD (rows.foldl (stepB n) 1 + rows.length) n)
theorem rbP.mono : ∀ ws (Q Q' : PyData → Prop), (∀ d, Q d → Q' d) → rbP ws Q → rbP ws Q' := fun _ _ _ h ⟨b, n, e, x, y, z, q⟩ => ⟨b, n, e, x, y, z, h _ q⟩
theorem rbP.len : ∀ ws (Q : PyData → Prop), rbP ws Q → ws.length = 2 := fun _ _ ⟨_, _, e, _⟩ => by subst e; rfl
theorem bound_eq {p n : Int} (hn : 0 < n) (zp : p.natAbs < 2 ^ 64) (zn : n.natAbs < 2 ^ 64) : ∃ x y : Int, lowD p n = pr x y ∧ x.natAbs < 2 ^ 64 ∧ y.natAbs < 2 ^ 64 ∧ boundD p n = bif decide (x * 1 < 1 * y) then pr x y else pr 1 1 := by
  obtain ⟨x, y, e, h1, h2, h3, h4, h5, h6⟩ := low_small hn zp zn
  refine ⟨x, y, e, h1, h2, ?_⟩
  have g := gcd_pos (a := p) (b := n) (by omega)
  have key : x < y ↔ p < n := by
    constructor
    · intro h
      have := Int.mul_lt_mul_of_pos_right h g
      omega
    · intro h
      rcases Int.lt_or_le x y with k | k
      · exact k
      · have := Int.mul_le_mul_of_nonneg_right k (Int.le_of_lt g)
        omega
  unfold boundD
  by_cases hp : p < n
  · have hx := key.mpr hp
    rw [decide_eq_true (by omega), cond_true, ← e, show min n p = p by omega]
  · have hx : ¬ x < y := fun h => hp (key.mp h)
    rw [decide_eq_false (by omega), cond_false, show min n p = n by omega, low_same hn]
end L2.VL
namespace L2.VL
open PySem PySem.Spec PyProof.Rows
theorem shw_low {a b : Int} (za : a.natAbs < 2 ^ 240) (zb : b.natAbs < 2 ^ 240) : Shw (lowD a b) :=
  (Lf.p (Nat.lt_of_le_of_lt (natAbs_fdiv_le _ _) (Nat.lt_of_lt_of_le za (Nat.pow_le_pow_right (by decide) (by decide)))) (Nat.lt_of_le_of_lt (natAbs_fdiv_le _ _) (Nat.lt_of_lt_of_le zb (Nat.pow_le_pow_right (by decide) (by decide))))).shw
end L2.VL
namespace L2.VL
open PySem PySem.Spec PyProof.Rows
def belowF (b n : Int) : PyData → Option PyData
  | .int k => if decide (b ^ k.toNat < n) = true then some (.int k) else none
  | _ => none
theorem cnt_needed (b n : Int) : ((rangeD 0 31).filterMap (belowF b n)).length = needed b n := by
  have key : ∀ l : List Nat, ((l.map fun (i : Nat) => PyData.int (0 + i)).filterMap (belowF b n)).length = (l.filter fun k => decide (b ^ k < n)).length := by
    intro l
    induction l with
    | nil => rfl
    | cons x l ih =>
      rw [List.map_cons, List.filterMap_cons, List.filter_cons]
      have e : belowF b n (.int (0 + (x : Int))) = if decide (b ^ x < n) = true then some (.int (0 + (x : Int))) else none := by
        show (if decide (b ^ ((0 : Int) + x).toNat < n) = true then _ else _) = _
        rw [show ((0 : Int) + x).toNat = x by omega]
      rw [e]
      by_cases h : b ^ x < n
      · rw [if_pos (decide_eq_true h), if_pos (decide_eq_true h)]
        simp only [List.length_cons, ih]
      · rw [if_neg (by simpa using h), if_neg (by simpa using h)]
        exact ih
  exact key (List.range 31)
end L2.VL
namespace L2.VL
open PySem PySem.Spec PyProof.Rows
theorem range_mem {lo : Int} {n : Nat} {x : PyData} (h : x ∈ rangeD lo n) : ∃ j : Nat, j < n ∧ x = .int (lo + j) := by
  unfold rangeD at h
  obtain ⟨j, hj, rfl⟩ := List.mem_map.mp h
  exact ⟨j, List.mem_range.mp hj, rfl⟩
end L2.VL
namespace L2.VL
open PySem PySem.Spec PyProof.Rows
/-- a module's pair of ints -/
theorem GlK.pair {K : PySem.W.Frag} {x : Str} {a b : Int} {p : Addr} {od : Option Addr} {sl : Array (Option Value)} {t u : Tok} {n : Nat} (h1 : PySem.W.nsIn K mainGlobals x = some (some (.ref p)))
    (h2 : K.lookup p = some ⟨.type "tuple", od, .seq #[.int a t, .int b u] n, sl⟩) : GlK K x (pr a b) := by
  refine ⟨.ref p, .ref p, h1, rfl, fun F => .tup (vs := [.int a, .int b]) (.inr ⟨_, _, n, h2, rfl, rfl, (by show 2 ≤ sizeLine; decide), .cons ⟨t, rfl⟩ (.cons ⟨u, rfl⟩ .nil)⟩) (.cons (.int a) (.cons (.int b) .nil))⟩
end L2.VL

namespace L2
open PySem PySem.Spec PyProof.Rows
/-! ### reversed(xs): a list that stands still -/
def Itv (K : PySem.W.Frag) (a : Addr) (n : Nat) : It :=
  ⟨fun i H => i < n ∧ ∃ xs, SqL K H a xs ∧ xs.length = n, fun i H x H' => H' = H ∧ ∀ xs, SqL K H a xs → xs[n - 1 - i]? = some x, fun i H => n ≤ i⟩
theorem turn_rev {P : Program} {w : World} {K : PySem.W.Frag} {tg : Expr} (a it : Addr) (n : Nat) : Turn P w K tg (Itv K a n) [it] it (fun i h => h.IsRevIter it a ((n : Int) - 1 - (min i n : Nat))) where
  mem := by simp
  obj := fun i h st b hb => by
    have e : b = it := by simpa using hb
    subst e
    obtain ⟨o, e, c, d⟩ := st
    exact ⟨o, e, fun v z => by rw [d] at z; cases z⟩
  keep := fun i h h' st k => st.at fun o e => k it (by simp) o e
  item := by
    intro X hP hw hK hc i pins s σ H E I hf st hg
    subst hP hw hK
    obtain ⟨hi, xs, hq, hl⟩ := hg
    obtain ⟨its, rv, p, hz⟩ := I.list hq
    have hx : xs[n - 1 - i]? = some xs[n - 1 - i] := List.getElem?_eq_getElem (by omega)
    obtain ⟨u, hu, ru⟩ := rv.get hx
    obtain ⟨f0, f1, f2, f3, f4, f5⟩ := hf it (by simp)
    have e1 : (n : Int) - 1 - (min i n : Nat) = ((n - 1 - i : Nat) : Int) := by omega
    rw [e1] at st
    refine wpAny_pyNext_rev_item st p.isList (x := u) (by simpa using hu) fun h' st' sb => ?_
    have I1 : Inv X pins σ H { s with heap := h' } := I.turned (t' := s.toks) (fun b o hb e => (sb.2 b hb).trans e) f0 f1 f3 f4 f5
    have e2 : ((n - 1 - i : Nat) : Int) - 1 = (n : Int) - 1 - (min (i + 1) n : Nat) := by omega
    rw [e2] at st'
    obtain ⟨o, e, c, d⟩ := id st'
    exact ⟨u, rfl, go_of (s := { s with heap := h' }) e c d (by decide) ⟨_, H, I1, ru, ⟨rfl, fun ys hy => by rw [I.list_inj hy hq]; exact hx⟩, st', fun b hb => (hf b hb).1⟩⟩
  done := by
    intro X hP hw hK hc i pins s σ H E I hf st hg
    subst hP hw hK
    have hg : n ≤ i := hg
    obtain ⟨f0, f1, f2, f3, f4, f5⟩ := hf it (by simp)
    have e1 : (n : Int) - 1 - (min i n : Nat) = -1 := by omega
    rw [e1] at st
    exact wpAny_pyNext_rev_end (I.ok.hd hc) st fun h' eb => ⟨rfl, I.turned (t' := s.toks) (fun b o hb e => eb b o hb e) f0 f1 f3 f4 f5⟩
  self := fun _ _ _ _ _ st h => wpAny_pyIter_revIter st h
section
variable {X : Cx} {tg e : Expr} {ta te : TE} {p p2 pos : Pos}
def iRev (K : PySem.W.Frag) (t : TA) : TI := fun σ H R => t σ H fun vs H1 => ∃ a xs, vs = [.ref a] ∧ SqL K H1 a xs ∧ R (Itv K a xs.length) H1
theorem pi_rev {a : Expr} {ta : TA} (hg : Gl X "reversed") (hm : X.mg "reversed" = none) (ha : PA X [a] ta) (hs : starEach [a] X.env = [(false, eval a X.env)] := by rfl) : PI X tg (.Call (.Name "reversed" p) [a] [] pos) (iRev X.K ta) := by
  intro pins s σ H R I h
  refine Call_ (ld_blt I hg hm (by rfl) (PyProof.Rows.callWith_type1 (thn (ha pos pins s σ H _ I h) fun us s1 ⟨vs, H1, I1, r1, q1⟩ => ?_) hs rfl) (by decide) (by decide))
  obtain ⟨a, xs, e, hq, q⟩ := q1
  subst e
  cases r1 with
  | cons r rr =>
    cases rr
    cases r
    obtain ⟨its, rv, p, hz⟩ := I1.list hq
    have hl := rv.length
    refine call_reversed_list p.isList ?_
    refine wpAny_pyIter_revIter (it := s1.heap.objs.size) (l := a) (i := (xs.length : Int) - 1) ⟨_, Heap.get?_push_size _ rfl, rfl, by simp [hl, revObj]⟩ ?_
    refine ⟨s1.heap.objs.size, [s1.heap.objs.size], _, _, H1, rfl, I1.kept (t' := s1.toks) fun b o e => Heap.get?_push_of_some _ e, turn_rev a _ xs.length, ?_, fun b hb => ?_, q⟩
    · exact ⟨_, Heap.get?_push_size _ rfl, rfl, by simp [hl, revObj]⟩
    · have e : b = s1.heap.objs.size := by simpa using hb
      subst e
      exact I1.fpOk (Nat.le_refl _) (I1.hok.fresh (Nat.le_refl _))
/-! ### xs[::-1] of a list -/
def tRev (K : PySem.W.Frag) (te : TE) : TE := fun σ H Q => te σ H fun x H1 => ∃ a xs, x = .ref a ∧ SqL K H1 a xs ∧ ∀ l, H1 l = none → Q (.ref l) (upd H1 l (.lst xs.reverse))
theorem pe_rev {j : Nat} {p3 p4 : Pos} (he : PE X e te) : PE X (.Subscript e (.Slice none none (some (.UnaryOp .USub (.Constant (.int 1) j p3) p4)) p2) pos) (tRev X.K te) := by
  intro pins s σ H Q I h
  refine Subscript_ (thn (he pins s σ H _ I h) fun v s1 ⟨x, H1, I1, r1, q1⟩ => ?_)
  obtain ⟨a, xs, rfl, hq, q⟩ := q1
  cases r1
  refine wpAny_Slice ?_
  rw [evalPart_none]
  refine wpAny_pure (wpAny_pure ?_)
  refine thn (po_some (X := X) (pe_un un_neg pe_int) pins s1 σ H1 (fun o H => o = some (-1) ∧ H = H1) I1 ⟨1, rfl, -1, rfl, rfl, rfl⟩) fun vk s3 ⟨o, H3, I3, pk, eo, eH⟩ => ?_
  subst eo eH
  have I4 : Inv X pins σ H3 { s3 with heap := s3.heap.push { cls := .type "slice", data := .fields #[.none, .none, vk] } } := I3.kept (t' := s3.toks) fun b ob q => Heap.get?_push_of_some _ q
  obtain ⟨its, rv, p, hz⟩ := I4.list hq
  have hl := rv.length
  refine tail_any (ops := [.ref a, .ref s3.heap.objs.size]) p.isList.typeIs slot_list_getitem.lookup ?_ (by with_unfolding_all rfl)
  refine wpAny_getItem_list_slice p.isList (Heap.IsSliceOf.new ..) .none .none pk (by decide) ?_ (by rw [List.size_toArray] <;> omega)
  rw [PySem.W.krv_pick]
  refine ⟨.ref _, _, I4.laid (t' := s3.toks) (o := .lst xs.reverse) (fun b ob q => Heap.get?_push_of_some _ q) (Nat.le_refl _) ?_, rfl, q _ (I4.hok.fresh (Nat.le_refl _))⟩
  exact ⟨by rw [List.length_reverse]; exact hz, its.reverse, 0, rv.reverse, Heap.get?_push_size _ rfl⟩
end
end L2
namespace L2.VL
open PySem PySem.Spec PyProof.Rows
section
variable {X : Cx} {rl : Option Addr} {a b c e tg : Expr} {es : List Expr} {fa fb fc : TV} {fs : TVs} {pos pos2 p p2 q : Pos}
theorem Reps.rev {K : PySem.W.Frag} {F : Hp} : ∀ {vs : List V} {ds : List PyData}, Reps K F vs ds → Reps K F vs.reverse ds.reverse
  | _, _, .nil => .nil
  | _, _, .cons h r => by rw [List.reverse_cons, List.reverse_cons]; exact (Reps.rev r).snoc h
def iRv (fs : TVs) : En → (List PyData → Prop) → Prop := fun ρ Q => fs ρ fun ws => ∃ xs, ws = [.d (.list xs)] ∧ Q xs.reverse
theorem vi_reversedL (hm : X.mg "reversed" = none) (ha : PVs X rl [a] fs) (hg : Gl X "reversed" := by rfl) (hs : starEach [a] X.env = [(false, eval a X.env)] := by rfl) : PIV X rl tg (.Call (.Name "reversed" p) [a] [] pos) (iRv fs) := by
  obtain ⟨t, p1, k⟩ := ha
  refine ⟨_, pi_rev hg hm p1 hs, fun R Qd Q q h => k R _ _ q fun vs ws F1 H1 g1 r1 ⟨xs, ew, q1⟩ => ?_⟩
  subst ew
  obtain ⟨v, rfl, rv⟩ := rel1 r1
  cases (show Rep X.K F1 v (.list xs) from rv) with
  | @lst a vs _ sq rs =>
    have sqH : ∀ H, Same F1 H → SqL X.K H a vs := fun H s => .inl (.inl (s _ _ sq))
    have hl := rs.length
    refine ⟨a, vs, rfl, sqH H1 g1.sub, h _ xs.reverse F1 H1 g1 (.of (fun i H x e s => ⟨?_, vs, sqH H s, rfl⟩) (fun i H hl' s => ?_) (fun i H v H' x e s y => ?_)) q1⟩
    · have := (List.getElem?_eq_some_iff.mp e).1
      rw [List.length_reverse] at this
      omega
    · show vs.length ≤ i
      rw [List.length_reverse] at hl'
      omega
    · obtain ⟨e', hy⟩ := y
      obtain ⟨v', ev, rv'⟩ := rs.rev.get e
      have h1 := hy vs (sqH H s)
      have hi : i < vs.length := by
        have := (List.getElem?_eq_some_iff.mp ev).1
        simpa using this
      rw [List.getElem?_reverse hi, h1] at ev
      cases ev
      exact ⟨e', rv'⟩
def vRevL (fa : TV) : TV := fun ρ Q => fa ρ fun w => ∃ xs, w.dat = some (.list xs) ∧ Q (.ml xs.reverse)
theorem v_revL {j : Nat} {p3 p4 : Pos} (ha : PV X rl e fa) : PV X rl (.Subscript e (.Slice none none (some (.UnaryOp .USub (.Constant (.int 1) j p3) p4)) p2) pos) (vRevL fa) := by
  obtain ⟨t, p1, k⟩ := ha
  refine ⟨_, pe_rev p1, fun R Qd Q q h => k R _ _ q fun v w F1 H1 g1 r1 n1 ⟨xs, ed, q1⟩ => ?_⟩
  obtain ⟨a, vs, rfl, sq, rs⟩ := r1.items g1.sub ed
  exact ⟨a, vs, rfl, sq, fun l hl => h _ (.ml _) _ _ (g1.trans (Grow.laid g1.sub g1.reel hl)) (own_laid g1.sub g1.reel hl rs.rev) (fun a ea => by cases ea; exact g1.freeB hl) q1⟩
end
end L2.VL

set_option exponentiation.threshold 10000
namespace L2.VL
open PySem PySem.Spec PyProof.Rows
/-! ### figures -/
def digs (b n : Nat) : List Nat := if h : 2 ≤ b ∧ 0 < n then (n % b) :: digs b (n / b) else []
termination_by n
decreasing_by exact Nat.div_lt_self h.2 h.1
theorem digs_zero (b : Nat) : digs b 0 = [] := by unfold digs; simp
theorem digs_pos {b n : Nat} (hb : 2 ≤ b) (hn : 0 < n) : digs b n = (n % b) :: digs b (n / b) := by
  rw [digs]
  simp [hb, hn]
theorem digs_lt {b : Nat} (hb : 2 ≤ b) : ∀ n : Nat, ∀ a ∈ digs b n, a < b := by
  intro n
  induction n using Nat.strongRecOn with
  | ind n ih =>
    intro a ha
    by_cases hn : 0 < n
    · rw [digs_pos hb hn] at ha
      rcases List.mem_cons.mp ha with rfl | ha
      · exact Nat.mod_lt _ (by omega)
      · exact ih (n / b) (Nat.div_lt_self hn hb) a ha
    · have : n = 0 := by omega
      subst this
      rw [digs_zero] at ha
      cases ha
theorem digs_pow {b : Nat} (hb : 2 ≤ b) : ∀ n : Nat, 0 < n → b ^ (digs b n).length ≤ b * n := by
  intro n
  induction n using Nat.strongRecOn with
  | ind n ih =>
    intro hn
    rw [digs_pos hb hn, List.length_cons, Nat.pow_succ]
    by_cases h : 0 < n / b
    · have := ih (n / b) (Nat.div_lt_self hn hb) h
      have h2 : b * (n / b) ≤ n := Nat.mul_div_le n b
      calc b ^ (digs b (n / b)).length * b ≤ (b * (n / b)) * b := Nat.mul_le_mul_right b this
        _ ≤ n * b := Nat.mul_le_mul_right b h2
        _ = b * n := Nat.mul_comm _ _
    · have : n / b = 0 := Nat.eq_zero_of_not_pos h
      rw [this, digs_zero]
      simp
      exact Nat.le_mul_of_pos_right b hn
theorem digs_len {b n : Nat} (hb : 2 ≤ b) : 2 ^ (digs b n).length ≤ 2 * n + 1 := by
  induction n using Nat.strongRecOn with
  | ind n ih =>
    by_cases hn : 0 < n
    · rw [digs_pos hb hn, List.length_cons, Nat.pow_succ]
      by_cases h : 0 < n / b
      · have h1 := ih (n / b) (Nat.div_lt_self hn hb)
        have h2 : n / b ≤ n / 2 := Nat.div_le_div_left hb (by omega)
        have h3 : 2 * (n / 2) ≤ n := Nat.mul_div_le n 2
        have h4 : 2 ^ (digs b (n / b)).length ≤ 2 * (n / b) := by
          have e : (2 ^ (digs b (n / b)).length) % 2 = 0 := by
            rw [digs_pos hb h, List.length_cons, Nat.pow_succ]
            omega
          omega
        omega
      · have : n / b = 0 := Nat.eq_zero_of_not_pos h
        rw [this, digs_zero]
        simp
        omega
    · have : n = 0 := by omega
      subst this
      rw [digs_zero]
      simp
def powL (b : Int) (n : Nat) : Int := b ^ (digs b.toNat n).length
theorem powL_bd {b : Int} {n : Nat} (h2 : 2 ≤ b) (h16 : b ≤ 16) : 1 ≤ powL b n ∧ powL b n ≤ 16 * n + 1 := by
  have e : powL b n = ((b.toNat ^ (digs b.toNat n).length : Nat) : Int) := by
    unfold powL
    rw [Int.natCast_pow]
    congr
    omega
  rw [e]
  have hp : 0 < b.toNat ^ (digs b.toNat n).length := Nat.pow_pos (by omega)
  by_cases hn : 0 < n
  · have := digs_pow (b := b.toNat) (by omega) n hn
    have h3 : b.toNat * n ≤ 16 * n := Nat.mul_le_mul_right n (by omega)
    omega
  · have : n = 0 := by omega
    subst this
    rw [digs_zero]
    simp
def stepT (b : Int) (p : List Int) (t : Int) (a : Nat) : Int := t * b + p.getD a 0
def topOf (b : Int) (p : List Int) (n : Nat) : Int := (digs b.toNat n).foldl (stepT b p) 0
def turnD (b : Int) (p : List Int) (n : Nat) : PyData := lowD (topOf b p n) (powL b n)
theorem getD_bd {b : Int} {p : List Int} (ex : IsEx b p) {a : Nat} (h : a < b.toNat) : p[a]? = some (p.getD a 0) ∧ 0 ≤ p.getD a 0 ∧ p.getD a 0 < b := by
  have hl : a < p.length := by rw [ex.len]; exact h
  have e : p.getD a 0 = p[a] := by simp [List.getD, hl]
  have := ex.rng p[a] (List.getElem_mem hl)
  rw [e]
  exact ⟨List.getElem?_eq_getElem hl, this⟩
theorem foldT_bd {b : Int} {p : List Int} (h2 : 2 ≤ b) (ex : IsEx b p) : ∀ (l : List Nat) (t B : Int), (∀ a ∈ l, a < b.toNat) → 0 ≤ t → t < B → 0 ≤ l.foldl (stepT b p) t ∧ l.foldl (stepT b p) t < B * b ^ l.length
  | [], t, B, _, h0, h1 => by simp; exact ⟨h0, h1⟩
  | a :: l, t, B, hl, h0, h1 => by
    obtain ⟨_, e1, e2⟩ := getD_bd ex (hl a List.mem_cons_self)
    have s0 : 0 ≤ stepT b p t a := by
      unfold stepT
      have := Int.mul_nonneg h0 (show 0 ≤ b by omega)
      omega
    have s1 : stepT b p t a < B * b := by
      unfold stepT
      have : (t + 1) * b ≤ B * b := Int.mul_le_mul_of_nonneg_right (by omega) (by omega)
      rw [Int.add_mul] at this
      omega
    have := foldT_bd h2 ex l (stepT b p t a) (B * b) (fun x hx => hl x (List.mem_cons_of_mem _ hx)) s0 s1
    rw [List.length_cons, Int.pow_succ]
    refine ⟨this.1, ?_⟩
    have e : B * (b ^ l.length * b) = B * b * b ^ l.length := by rw [Int.mul_comm (b ^ l.length) b, Int.mul_assoc]
    rw [e]
    exact this.2
theorem top_bd {b : Int} {p : List Int} (h2 : 2 ≤ b) (ex : IsEx b p) (n : Nat) : 0 ≤ topOf b p n ∧ topOf b p n < powL b n := by
  have := foldT_bd h2 ex (digs b.toNat n) 0 1 (digs_lt (by omega) n) (by omega) (by omega)
  rw [Int.one_mul] at this
  exact this
/-! promises -/
def figP : List W → (PyData → Prop) → Prop := fun ws Q => ∃ b n : Int, ws = [.d (.int b), .d (.int n)] ∧ 2 ≤ b ∧ b ≤ 16 ∧ 0 ≤ n ∧ n < 2 ^ 100 ∧ Q (.list ((digs b.toNat n.toNat).map fun (k : Nat) => .int k))
theorem figP.mono : ∀ ws (Q Q' : PyData → Prop), (∀ d, Q d → Q' d) → figP ws Q → figP ws Q' := fun _ _ _ h ⟨b, n, e, x, y, z, u, q⟩ => ⟨b, n, e, x, y, z, u, h _ q⟩
theorem figP.len : ∀ ws (Q : PyData → Prop), figP ws Q → ws.length = 2 := fun _ _ ⟨_, _, e, _⟩ => by subst e; rfl
def numP : List W → (PyData → Prop) → Prop := fun ws Q => ∃ (b : Int) (xs : List Int), ws = [.d (.int b), .d (.list (xs.map .int))] ∧ 0 ≤ b ∧ b ≤ 16 ∧ Q (.int (xs.reverse.foldl (fun t a => t * b + a) 0))
theorem numP.mono : ∀ ws (Q Q' : PyData → Prop), (∀ d, Q d → Q' d) → numP ws Q → numP ws Q' := fun _ _ _ h ⟨b, n, e, x, y, q⟩ => ⟨b, n, e, x, y, h _ q⟩
theorem numP.len : ∀ ws (Q : PyData → Prop), numP ws Q → ws.length = 2 := fun _ _ ⟨_, _, e, _⟩ => by subst e; rfl
def turnP (f : Int → List Int → Nat → PyData) : List W → (PyData → Prop) → Prop := fun ws Q => ∃ (b : Int) (p : List Int) (n : Int), ws = [.d (.int b), .d (exD p), .d (.int n)] ∧ 2 ≤ b ∧ b ≤ 16 ∧ IsEx b p ∧ 0 ≤ n ∧ n < 2 ^ 100 ∧ Q (f b p n.toNat)
theorem turnP.mono {f : Int → List Int → Nat → PyData} : ∀ ws (Q Q' : PyData → Prop), (∀ d, Q d → Q' d) → turnP f ws Q → turnP f ws Q' := fun _ _ _ h ⟨b, p, n, e, x, y, z, u, v, q⟩ => ⟨b, p, n, e, x, y, z, u, v, h _ q⟩
theorem turnP.len {f : Int → List Int → Nat → PyData} : ∀ ws (Q : PyData → Prop), turnP f ws Q → ws.length = 3 := fun _ _ ⟨_, _, _, e, _⟩ => by subst e; rfl
theorem div_int {b n : Int} (hb : 0 ≤ b) (hn : 0 ≤ n) : n / b = ((n.toNat / b.toNat : Nat) : Int) := by
  obtain ⟨k, rfl⟩ := Int.eq_ofNat_of_zero_le hb
  obtain ⟨m, rfl⟩ := Int.eq_ofNat_of_zero_le hn
  simp
theorem mod_int2 {b n : Int} (hb : 0 ≤ b) (hn : 0 ≤ n) : n % b = ((n.toNat % b.toNat : Nat) : Int) := by
  obtain ⟨k, rfl⟩ := Int.eq_ofNat_of_zero_le hb
  obtain ⟨m, rfl⟩ := Int.eq_ofNat_of_zero_le hn
  simp
theorem fdiv_int {b n : Int} (hb : 0 ≤ b) (hn : 0 ≤ n) : n.fdiv b = ((n.toNat / b.toNat : Nat) : Int) := by
  rw [Int.fdiv_eq_ediv_of_nonneg _ hb, div_int hb hn]
theorem fmod_int {b n : Int} (hb : 0 ≤ b) (hn : 0 ≤ n) : n.fmod b = ((n.toNat % b.toNat : Nat) : Int) := by
  rw [Int.fmod_eq_emod_of_nonneg _ hb, mod_int2 hb hn]
end L2.VL
namespace L2.VL
open PySem PySem.Spec PyProof.Rows
def pointD (rows : List (Int × List Int)) (n : Nat) : PyData := .tuple (rows.map fun r => turnD r.1 r.2 n)
def ptsD (rows : List (Int × List Int)) (n m : Nat) : PyData := .tuple ((List.range m).map fun i => pointD rows (n + i))
def ptsP : List W → (PyData → Prop) → Prop := fun ws Q => ∃ rows n m, ws = [.d (rowD rows), .d (.int n), .d (.int m)] ∧ IsRow rows ∧ 0 ≤ n ∧ n < 2 ^ 60 ∧ 0 ≤ m ∧ m ≤ 1000 ∧ Q (ptsD rows n.toNat m.toNat)
theorem ptsP.mono : ∀ ws (Q Q' : PyData → Prop), (∀ d, Q d → Q' d) → ptsP ws Q → ptsP ws Q' := fun _ _ _ h ⟨b, p, n, e, x, y, z, u, v, q⟩ => ⟨b, p, n, e, x, y, z, u, v, h _ q⟩
theorem ptsP.len : ∀ ws (Q : PyData → Prop), ptsP ws Q → ws.length = 3 := fun _ _ ⟨_, _, _, e, _⟩ => by subst e; rfl
def unI : PyData → Int
  | .int i => i
  | _ => 0
theorem unI_map (p : List Int) : (p.map PyData.int).map unI = p := by
  rw [List.map_map]
  exact (List.map_congr_left fun a _ => rfl).trans (List.map_id p)
end L2.VL
namespace L2.VL
open PySem PySem.Spec PyProof.Rows
theorem sm_low {a b : Int} (za : a.natAbs < 2 ^ 1000) (zb : b.natAbs < 2 ^ 1000) : Sm 2 2 (lowD a b) :=
  Sm.pair (Nat.lt_of_le_of_lt (natAbs_fdiv_le _ _) za) (Nat.lt_of_le_of_lt (natAbs_fdiv_le _ _) zb)
theorem lt1000 {n k : Nat} (h : n < 2 ^ k) (hk : k ≤ 1000) : n < 2 ^ 1000 := Nat.lt_of_lt_of_le h (Nat.pow_le_pow_right (by decide) hk)
theorem sm_turn {b : Int} {p : List Int} {n : Nat} (h2 : 2 ≤ b) (h16 : b ≤ 16) (ex : IsEx b p) (hn : n < 2 ^ 200) : Sm 2 2 (turnD b p n) := by
  obtain ⟨a1, a2⟩ := powL_bd (n := n) h2 h16
  obtain ⟨b1, b2⟩ := top_bd h2 ex n
  have z1 : (topOf b p n).natAbs < 2 ^ 210 := by omega
  have z2 : (powL b n).natAbs < 2 ^ 210 := by omega
  exact sm_low (lt1000 z1 (by decide)) (lt1000 z2 (by decide))
theorem sm_point {rows : List (Int × List Int)} (hr : IsRow rows) {n : Nat} (hn : n < 2 ^ 200) : Sm 4 12 (pointD rows n) :=
  (Sm.seq (dp := 2) (bk := 2) (n := 4) (xs := rows.map fun (r : Int × List Int) => turnD r.1 r.2 n) (fun d hd => by
    obtain ⟨r, hr', rfl⟩ := List.mem_map.mp hd
    obtain ⟨c1, c2, c3⟩ := hr.ok r hr'
    exact sm_turn c1 c2 c3 hn) (by have := hr.hi; simpa using this)).1
theorem shw_pts {rows : List (Int × List Int)} (hr : IsRow rows) {n m : Nat} (hn : n < 2 ^ 100) (hm : m ≤ 500) : Shw (ptsD rows n m) :=
  ((Sm.seq (dp := 4) (bk := 12) (n := 500) (xs := (List.range m).map fun i => pointD rows (n + i)) (fun d hd => by
    obtain ⟨j, hj, rfl⟩ := List.mem_map.mp hd
    have : j < m := List.mem_range.mp hj
    exact sm_point hr (by have : n + j < 2 ^ 101 := by omega
                          exact Nat.lt_of_lt_of_le this (Nat.pow_le_pow_right (by decide) (by decide)))) (by simpa using hm)).1).shw (by decide) (by decide)
end L2.VL

namespace L2.VL
open PySem PySem.Spec PyProof.Rows
/-! ### defs that hand back a tuple made here -/
def NTup (K : PySem.W.Frag) (F : Hp) (v : V) (ds : List PyData) : Prop := ∃ a vs, v = .ref a ∧ F a = some (.tup vs) ∧ Reps K F vs ds
def vspT (K : PySem.W.Frag) (rl : Option Addr) (P : List W → (List PyData → Prop) → Prop) : Sp := fun vs H Q _ => ∃ F ws, Same F H ∧ RAt rl F H ∧ RelWs K rl F H vs ws ∧ ws.all argOk = true ∧ P ws fun xs => ∀ v F' H', Grow rl F H F' H' → NTup K F' v xs → Q v H'
def tEnds (Q : List PyData → Prop) : VEnds := ⟨fun _ => False, fun w => ∃ xs, w = .nt xs ∧ Q xs, fun _ => False, fun _ => False⟩
structure DfnT (P : Program) (w : World) (K : PySem.W.Frag) (mg : Str → Option Value) (base : Heap) (rl : Option Addr) (x : Str) (ps : List Str) (k : Nat) (Pd : List W → (List PyData → Prop) → Prop) : Prop where
  mono : ∀ ws Q Q', (∀ d, Q d → Q' d) → Pd ws Q → Pd ws Q'
  ex : ∃ f fd, mg x = some (.ref f) ∧ PySem.W.keepIn K (.ref f) = true ∧ Binds K fd ps [] ∧ FnOk P w K mg base CX0 k f fd ps (vspT K rl Pd)
section
variable {P : Program} {w : World} {K : PySem.W.Frag} {mg : Str → Option Value} {base : Heap} {rl : Option Addr} {x : Str} {st : Stmt} {N ps : List Str} {k : Nat} {Pd : List W → (List PyData → Prop) → Prop} {t : TSv}
theorem DfnT.of (Fn : FnIn K mg x st ps) (S : FnScope N ps (defScope st)) (mono : ∀ ws Q Q', (∀ d, Q d → Q' d) → Pd ws Q → Pd ws Q') (len : ∀ ws Q, Pd ws Q → ws.length = ps.length)
    (hbody : ∀ {f : Addr} (cdv : Value) (A : Around) (outer : List Env) (s : Shared) (H : Hp) (E : XK), Room k (A.deeper (envOfC x (defScope st) s.heap.objs.size f cdv)) →
      PSsV (cxOf CX0 P w K mg base N x (defScope st) f cdv A outer s H E).nox rl (defBody st) t)
    (hread : ∀ ws Q, Pd ws Q → t (tEnds Q) (startV N ws)) : DfnT P w K mg base rl x ps (k + 1) Pd := by
  obtain ⟨f, fd, hm, F, hb⟩ := Fn.ex
  refine ⟨mono, f, fd, hm, F.kp, hb, ?_⟩
  refine F.ok S (fun vs H Q E ⟨F, ws, _, _, r, _, q⟩ => (Paired.length r).trans (len ws _ q)) fun cdv A outer s H vs Q E hr h => ?_
  obtain ⟨F, ws, sm, ra, r, ok, q⟩ := h
  obtain ⟨T, p, kk⟩ := hbody cdv A outer s H E hr
  refine ⟨T, p, kk (vr_start sm ra r ok) (tEnds _) _ ⟨fun _ _ _ _ _ _ z => False.elim z, ?_, fun _ _ _ _ _ _ z => False.elim z, fun _ _ _ _ _ _ z => False.elim z⟩ (hread ws _ q)⟩
  rintro v w1 F1 H1 g1 r1 n1 ⟨xs, rfl, q1⟩
  exact q1 v F1 H1 g1 r1
end
section
variable {X : Cx} {rl : Option Addr} {a b c e : Expr} {es : List Expr} {fa fb fc : TV} {fs : TVs} {pos p p2 px apos cpos : Pos}
def vTupN (fs : TVs) : TV := fun ρ Q => fs ρ fun ws => ∃ ds, dats ws = some ds ∧ ds.length ≤ sizeLine ∧ Q (.nt ds)
theorem v_tupN {x1} (h : PVs X rl es fs) : PV X rl (.Tuple es x1 pos) (vTupN fs) := by
  obtain ⟨t, p, k⟩ := h
  refine ⟨_, pe_tup p, fun R Qd Q q h => k R _ _ q fun vs ws F1 H1 g1 r1 ⟨ds, e1, z, q1⟩ => ?_⟩
  have rs := dats_rel r1 e1
  refine ⟨by rw [rs.length]; exact z, fun p hp => ?_⟩
  have g2 := g1.trans (Grow.data (a := p) (o := .tup vs) g1.sub g1.reel hp)
  exact h _ (.nt ds) _ _ g2 ⟨p, vs, rfl, upd_same, rs.mono (Grow.data (o := .tup vs) g1.sub g1.reel hp).fs⟩ trivial q1
def vUseT (Pd : List W → (List PyData → Prop) → Prop) (fs : TVs) : TV := fun ρ Q => fs ρ fun ws => ws.all argOk = true ∧ Pd ws fun xs => Q (.nt xs)
theorem v_callT {x : Str} {ps : List Str} {k : Nat} {Pd : List W → (List PyData → Prop) → Prop} (D : DfnT X.prog X.w X.K X.mg X.base rl x ps k Pd) (hr : Room k X.A) (ha : PVs X rl (e :: es) fs) (hg : Gl X x := by rfl)
    (hdb : (x == ("__debug__" : Str)) = false := by decide) (he : starEach (e :: es) X.env = (false, eval e X.env) :: starEach es X.env := by rfl) (hpl : (backTo pos (starEach es X.env)).any (·.1) = false := by rfl) :
    PV X rl (.Call (.Name x p) (e :: es) [] pos) (vUseT Pd fs) := by
  obtain ⟨f, fd, hm, hk, hb, F⟩ := D.ex
  obtain ⟨t, p1, kk⟩ := ha
  refine ⟨_, pe_call F hr hg hm hk hb .nil pass0 p1 hdb he hpl, fun R Qd Q q h => kk R _ _ q fun vs ws F1 H1 g1 r1 ⟨ok, q1⟩ => ?_⟩
  refine ⟨F1, ws, g1.sub, g1.reel, by rw [List.append_nil]; exact r1, ok, ?_⟩
  exact D.mono ws _ _ (fun xs qd v F2 H2 g2 r2 => h v (.nt xs) F2 H2 (g1.trans g2) r2 trivial qd) q1
/-! ### a dict of one's own -/
def keyD : Key → PyData
  | .inl i => .int i
  | .inr x => .str x
theorem reps_key {K : PySem.W.Frag} {F : Hp} : ∀ {vs : List V} {ks : List Key}, Reps K F vs (ks.map keyD) → vs = ks.map kV
  | _, [], h => h.nil_iff
  | _, .inl i :: ks, .cons h r => by rw [rep_int h, reps_key r]; rfl
  | _, .inr i :: ks, .cons h r => by rw [rep_str h, reps_key r]; rfl
def valD (kvs : List (List Key × PyData)) (k : List Key) : Option PyData := (kvs.find? fun kv => decide (kv.1 = k)).map (·.2)
def putD (kvs : List (List Key × PyData)) (k : List Key) (x : PyData) : List (List Key × PyData) :=
  if (kvs.any fun kv => decide (kv.1 = k)) = true then kvs.map (fun kv => if kv.1 = k then (kv.1, x) else kv) else kvs ++ [(k, x)]
theorem KD.val {K : PySem.W.Frag} {F : Hp} {us : List (List Key × V)} {kvs : List (List Key × PyData)} (r : KD K F us kvs) (k : List Key) : (valV us k = none ∧ valD kvs k = none) ∨ ∃ v d, valV us k = some v ∧ valD kvs k = some d ∧ Rep K F v d := by
  induction r with
  | nil => exact .inl ⟨rfl, rfl⟩
  | @cons p q ps qs h t ih =>
    unfold valV valD at *
    rw [List.find?_cons, List.find?_cons, h.1]
    by_cases e : q.1 = k
    · simp only [e, decide_true]
      exact .inr ⟨p.2, q.2, rfl, rfl, h.2⟩
    · simp only [e, decide_false]
      exact ih
theorem KD.any {K : PySem.W.Frag} {F : Hp} {us : List (List Key × V)} {kvs : List (List Key × PyData)} (r : KD K F us kvs) (k : List Key) : (us.any fun kv => decide (kv.1 = k)) = kvs.any fun kv => decide (kv.1 = k) := by
  induction r with
  | nil => rfl
  | cons h t ih => rw [List.any_cons, List.any_cons, ih, h.1]
theorem KD.repl {K : PySem.W.Frag} {F : Hp} {us : List (List Key × V)} {kvs : List (List Key × PyData)} (r : KD K F us kvs) (k : List Key) {v : V} {d : PyData} (rv : Rep K F v d) : KD K F (us.map fun kv => if kv.1 = k then (kv.1, v) else kv) (kvs.map fun kv => if kv.1 = k then (kv.1, d) else kv) := by
  induction r with
  | nil => exact .nil
  | @cons p q ps qs h t ih =>
    refine .cons ?_ ih
    show (if p.1 = k then (p.1, v) else p).1 = (if q.1 = k then (q.1, d) else q).1 ∧ Rep K F (if p.1 = k then (p.1, v) else p).2 (if q.1 = k then (q.1, d) else q).2
    by_cases e : q.1 = k
    · have e' : p.1 = k := h.1.trans e
      rw [if_pos e, if_pos e']
      exact ⟨h.1, rv⟩
    · have e' : ¬ p.1 = k := fun z => e (h.1.symm.trans z)
      rw [if_neg e, if_neg e']
      exact h
theorem KD.snoc {K : PySem.W.Frag} {F : Hp} {us : List (List Key × V)} {kvs : List (List Key × PyData)} (r : KD K F us kvs) (k : List Key) {v : V} {d : PyData} (rv : Rep K F v d) : KD K F (us ++ [(k, v)]) (kvs ++ [(k, d)]) := by
  induction r with
  | nil => exact .cons ⟨rfl, rv⟩ .nil
  | cons h t ih => exact .cons h ih
theorem KD.put {K : PySem.W.Frag} {F : Hp} {us : List (List Key × V)} {kvs : List (List Key × PyData)} (r : KD K F us kvs) (k : List Key) {v : V} {d : PyData} (rv : Rep K F v d) : KD K F (putK us k v) (putD kvs k d) := by
  unfold putK putD
  rw [r.any k]
  split
  · exact r.repl k rv
  · exact r.snoc k rv
def vDict0 : TV := fun _ Q => Q (.md [])
theorem v_dict0 : PV X rl (.Dict [] [] pos) vDict0 := by
  refine ⟨_, pe_dnewT, fun R Qd Q q h p hp => ?_⟩
  refine h _ (.md []) _ _ (Grow.laid R.sub R.reel hp) ⟨p, [], rfl, R.sub.free hp, fun e => ?_, upd_same, .nil⟩ (fun a ea => by cases ea; exact hp) q
  obtain ⟨o, z⟩ := R.reel.live e
  rw [hp] at z
  cases z
theorem VR.ownD {K : PySem.W.Frag} {F₀ H₀ F H : Hp} {σ : St} {ρ : En} (r : VR K rl F₀ H₀ F H σ ρ) {i : Nat} {xs ys : List (List Key × PyData)} {a : Addr} {us : List (List Key × V)} (e : ρ[i]? = some (some (.md xs))) (es : σ[i]? = some (some (.ref a))) (rs : KD K F us ys) :
    VR K rl F₀ H₀ F (upd H a (.dT us)) σ (ρ.set i (some (.md ys))) := by
  obtain ⟨v, h1, h2, h3⟩ := r.sl i _ e
  rw [es] at h1
  cases h1
  obtain ⟨a', vs, ev, f, hr, hh, q⟩ := (show OwnD K rl F H (.ref a) xs from h2)
  cases ev
  have n0 : H₀ a = none := h3 a rfl
  have hi : i < ρ.length := (List.getElem?_eq_some_iff.mp e).1
  have neF : ∀ b u, F b = some u → b ≠ a := fun b u q z => by subst z; rw [f] at q; cases q
  have g : Grow rl F₀ H₀ F (upd H a (.dT us)) := by
    refine ⟨fun b o q1 n => by rw [upd_ne (ne_of_none q1 n0)]; exact r.g.same b o q1 n, r.g.fs, fun b o q1 => by rw [upd_ne (neF b o q1)]; exact r.sub b o q1, r.g.old, fun y z => ?_⟩
    obtain ⟨z1, ⟨u, h1, h2⟩⟩ := r.reel y z
    exact ⟨z1, ⟨u, by rw [upd_ne (fun q => hr (by rw [← q]; exact z))]; exact h1, h2⟩⟩
  refine ⟨g, fun j w e1 => ?_, fun j k ys' zs u hjk e1 e2 w1 w2 s1 s2 => ?_, fun j ys' z => ?_, by simp [r.len]⟩
  · by_cases hj : i = j
    · subst hj
      rw [List.getElem?_set_self hi] at e1
      cases e1
      exact ⟨_, es, ⟨a, us, rfl, f, hr, upd_same, rs⟩, h3⟩
    · rw [List.getElem?_set_ne hj] at e1
      obtain ⟨u, g1, g2, g3⟩ := r.sl j w e1
      refine ⟨u, g1, ?_, g3⟩
      cases w with
      | d x => exact g2
      | reel => exact g2
      | vv u => exact g2
      | ml zs =>
        obtain ⟨b, us', eb, f1, f2, f3, f4⟩ := (show OwnL K rl F H u zs from g2)
        have ne : b ≠ a := fun z => r.ap i j _ _ (.ref a) hj e e1 rfl rfl es (by rw [g1, eb, z])
        exact ⟨b, us', eb, f1, f2, by rw [upd_ne ne]; exact f3, f4⟩
      | pk zs => exact absurd e1 (r.np j zs)
      | md zs =>
        obtain ⟨b, us', eb, f1, f2, f3, f4⟩ := (show OwnD K rl F H u zs from g2)
        have ne : b ≠ a := fun z => r.ap i j _ _ (.ref a) hj e e1 rfl rfl es (by rw [g1, eb, z])
        exact ⟨b, us', eb, f1, f2, by rw [upd_ne ne]; exact f3, f4⟩
      | nt ds => exact g2
      | lk => trivial
  · have nd : ∀ (j : Nat) (z : W), (ρ.set i (some (W.md ys)))[j]? = some (some z) → z.own = true → ∃ z', ρ[j]? = some (some z') ∧ z'.own = true := fun j zs z o => by
      by_cases hj : i = j
      · subst hj
        exact ⟨_, e, rfl⟩
      · rw [List.getElem?_set_ne hj] at z
        exact ⟨zs, z, o⟩
    obtain ⟨_, d1, o1⟩ := nd j _ e1 w1
    obtain ⟨_, d2, o2⟩ := nd k _ e2 w2
    exact r.ap j k _ _ u hjk d1 d2 o1 o2 s1 s2
  · rw [List.getElem?_set] at z
    split at z
    · first | cases z | (split at z <;> cases z)
    · exact r.np j ys' z
/-- d.get(k, x) of an own dict -/
def vDGet (i : Nat) (fk fx : TV) : TV := fun ρ Q => ∃ kvs, ρ[i]? = some (some (.md kvs)) ∧ fk ρ fun wk => fx ρ fun wx => ∃ ks x, wk = .nt (ks.map keyD) ∧ wx = .d x ∧ Q (.d ((valD kvs ks).getD x))
theorem v_dget (i : Nat) {x : Str} {f : Expr} {fk fx : TV} (hu : X.A.units + 64 < cLine) (hk : PV X rl e fk) (hx : PV X rl f fx) (hN : X.N[i]? = some x := by rfl) (hv : Vis X.env.scope x := by first | exact Or.inl rfl | exact Or.inr (Or.inl rfl) | exact Or.inr (Or.inr rfl))
    (hd : (x == ("__debug__" : Str)) = false := by decide) (hcd : (x == ("__classdict__" : Str)) = false := by decide) (m : M2 X (.Name x px) "get" apos e f cpos := by exact ⟨rfl, rfl, rfl, rfl⟩) :
    PV X rl (.Call (.Attribute (.Name x px) "get" apos) [e, f] [] cpos) (vDGet i fk fx) := by
  obtain ⟨t, p1, k1⟩ := hk
  obtain ⟨t2, p2, k2⟩ := hx
  refine ⟨_, pe_dget2 (by omega) (pe_var hN hv hd hcd) p1 p2 m, fun {F₀ H₀ F H σ ρ} R Qd Q ⟨kvs, e1, q⟩ h => ?_⟩
  obtain ⟨v, h1, h2, h3⟩ := R.sl i _ e1
  obtain ⟨a, us, rfl, f0, hr, hh, rs⟩ := (show OwnD X.K rl F H v kvs from h2)
  refine ⟨.ref a, h1, a, rfl, .inr ⟨us, .inl hh⟩, k1 R _ _ q fun v1 w1 F1 H1 g1 r1 n1 q1 => ?_⟩
  refine k2 (R.grow g1) _ _ q1 fun v2 w2 F2 H2 g2 r2 n2 q2 => ?_
  obtain ⟨ks, d, rfl, rfl, q2⟩ := q2
  obtain ⟨b, vs, rfl, hb, rb⟩ := (show ∃ a vs, v1 = .ref a ∧ F1 a = some (.tup vs) ∧ Reps X.K F1 vs (ks.map keyD) from r1)
  have ev := reps_key rb
  subst ev
  have g := g1.trans g2
  refine ⟨_, DGet.t (g.same a _ hh hr) (g2.sub _ _ (g2.fs _ _ hb)), ?_⟩
  have rs2 : KD X.K F2 us kvs := Paired.mapP rs fun _ _ z => ⟨z.1, z.2.mono g.fs⟩
  rcases rs2.val ks with ⟨z1, z2⟩ | ⟨v3, d3, z1, z2, z3⟩
  · rw [z1]
    rw [z2] at q2
    exact h _ (.d d) _ _ g r2 trivial q2
  · rw [z1]
    rw [z2] at q2
    exact h _ (.d d3) _ _ g z3 trivial q2
/-- d[k] = x of an own dict -/
def vDPut (i : Nat) (fk fx : TV) : TSv := fun D ρ => ∃ kvs, ρ[i]? = some (some (.md kvs)) ∧ fx ρ fun wx => fk ρ fun wk => ∃ ks x, wk = .nt (ks.map keyD) ∧ wx = .d x ∧ kvs.length < sizeLine ∧ D.nx (ρ.set i (some (.md (putD kvs ks x))))
theorem vs_dput (i : Nat) {x : Str} {f : Expr} {fk fx : TV} {pos' : Pos} (hu : X.A.units + 64 < cLine) (hk : PV X rl e fk) (hx : PV X rl f fx) (hN : X.N[i]? = some x := by rfl) (hv : Vis X.env.scope x := by first | exact Or.inl rfl | exact Or.inr (Or.inl rfl) | exact Or.inr (Or.inr rfl))
    (hd : (x == ("__debug__" : Str)) = false := by decide) (hcd : (x == ("__classdict__" : Str)) = false := by decide) (hs : swapsWith f (some (.Subscript (.Name x px) e pos')) pos.line X.env = pure false := by rfl) :
    PSV X rl (.Assign [.Subscript (.Name x px) e pos'] f pos) (vDPut i fk fx) := by
  obtain ⟨t, p1, k1⟩ := hk
  obtain ⟨t2, p2, k2⟩ := hx
  refine ⟨_, ps_dput (by omega) (pe_var hN hv hd hcd) p1 p2 hs, fun {F₀ H₀ F H σ ρ} R Dv D ok ⟨kvs, e1, q⟩ => ?_⟩
  obtain ⟨v, h1, h2, h3⟩ := R.sl i _ e1
  obtain ⟨a, us, rfl, f0, hr, hh, rs⟩ := (show OwnD X.K rl F H v kvs from h2)
  refine k2 R _ _ q fun v2 w2 F2 H2 g2 r2 n2 q2 => ⟨.ref a, h1, k1 (R.grow g2) _ _ q2 fun v1 w1 F1 H1 g1 r1 n1 q3 => ?_⟩
  obtain ⟨ks, d, rfl, rfl, hz, q3⟩ := q3
  obtain ⟨b, vs, rfl, hb, rb⟩ := (show ∃ a vs, v1 = .ref a ∧ F1 a = some (.tup vs) ∧ Reps X.K F1 vs (ks.map keyD) from r1)
  have ev := reps_key rb
  subst ev
  have g := g2.trans g1
  have hl : us.length = kvs.length := Paired.length rs
  refine ⟨a, _, rfl, DPut.t (g.same a _ hh hr) (g1.sub _ _ hb) (by omega), ?_⟩
  have rs1 : KD X.K F1 us kvs := Paired.mapP rs fun _ _ z => ⟨z.1, z.2.mono g.fs⟩
  exact ok.nx _ _ _ _ g.fs ((R.grow g).ownD e1 h1 (rs1.put ks (Rep.mono g1.fs r2))) q3
end
end L2.VL

namespace L2.VL
open PySem PySem.Spec PyProof.Rows
/-! ### unlike numbers are unlike when turned about -/
theorem fold_split {b : Int} {p : List Int} : ∀ (l : List Nat) (t : Int), l.foldl (stepT b p) t = t * b ^ l.length + l.foldl (stepT b p) 0
  | [], t => by simp
  | a :: l, t => by
    rw [List.foldl_cons, List.foldl_cons, fold_split l (stepT b p t a), fold_split l (stepT b p 0 a), List.length_cons, Int.pow_succ]
    unfold stepT
    rw [Int.zero_mul, Int.zero_add, Int.add_mul, Int.mul_assoc t b, Int.mul_comm b (b ^ l.length)]
    omega
theorem top_rec {b : Int} {p : List Int} {n : Nat} (h2 : 2 ≤ b) (hn : 0 < n) : topOf b p n = p.getD (n % b.toNat) 0 * powL b (n / b.toNat) + topOf b p (n / b.toNat) := by
  unfold topOf powL
  rw [digs_pos (by omega) hn, List.foldl_cons, fold_split]
  unfold stepT
  rw [Int.zero_mul, Int.zero_add]
theorem pow_rec {b : Int} {n : Nat} (h2 : 2 ≤ b) (hn : 0 < n) : powL b n = powL b (n / b.toNat) * b := by
  unfold powL
  rw [digs_pos (by omega) hn, List.length_cons, Int.pow_succ]
theorem top_zero {b : Int} {p : List Int} : topOf b p 0 = 0 := by unfold topOf; rw [digs_zero]; rfl
theorem pow_zero' {b : Int} : powL b 0 = 1 := by unfold powL; rw [digs_zero]; simp
theorem ex_inj {b : Int} {p : List Int} (ex : IsEx b p) {i j : Nat} (hi : i < b.toNat) (hj : j < b.toNat) (h : p.getD i 0 = p.getD j 0) : i = j := by
  have li : i < p.length := by rw [ex.len]; exact hi
  have lj : j < p.length := by rw [ex.len]; exact hj
  have e1 : p.getD i 0 = p[i] := by simp [List.getD, li]
  have e2 : p.getD j 0 = p[j] := by simp [List.getD, lj]
  rw [e1, e2] at h
  rcases Nat.lt_trichotomy i j with z | z | z
  · exact absurd h (List.pairwise_iff_getElem.mp ex.nd i j li lj z)
  · exact z
  · exact absurd h.symm (List.pairwise_iff_getElem.mp ex.nd j i lj li z)
theorem ex_zero {b : Int} {p : List Int} (ex : IsEx b p) : p.getD 0 0 = 0 := by
  have := ex.zero
  cases p with
  | nil => cases this
  | cons x p => simp at this; simp [List.getD, this]
theorem quot_uniq {x y r s P : Int} (hr : 0 ≤ r) (hr' : r < P) (hs : 0 ≤ s) (hs' : s < P) (h : x * P + r = y * P + s) : x = y ∧ r = s := by
  have hp : 0 < P := by omega
  have e : x = y := by
    rcases Int.lt_trichotomy x y with z | z | z
    · have : (x + 1) * P ≤ y * P := Int.mul_le_mul_of_nonneg_right (by omega) (by omega)
      rw [Int.add_mul] at this
      omega
    · exact z
    · have : (y + 1) * P ≤ x * P := Int.mul_le_mul_of_nonneg_right (by omega) (by omega)
      rw [Int.add_mul] at this
      omega
  subst e
  exact ⟨rfl, by omega⟩
theorem turn_zero {b : Int} {p : List Int} (h2 : 2 ≤ b) (h16 : b ≤ 16) (ex : IsEx b p) : ∀ (N n : Nat), n ≤ N → topOf b p n = 0 → n = 0
  | 0, n, h, _ => by omega
  | N + 1, n, h, e => by
    by_cases hn : 0 < n
    · rw [top_rec h2 hn] at e
      have hm : n % b.toNat < b.toNat := Nat.mod_lt _ (by omega)
      obtain ⟨_, g0, _⟩ := getD_bd ex hm
      obtain ⟨t0, _⟩ := top_bd h2 ex (n / b.toNat)
      obtain ⟨p1, _⟩ := powL_bd (b := b) (n := n / b.toNat) h2 h16
      have m0 : 0 ≤ p.getD (n % b.toNat) 0 * powL b (n / b.toNat) := Int.mul_nonneg g0 (by omega)
      have m1 : p.getD (n % b.toNat) 0 * 1 ≤ p.getD (n % b.toNat) 0 * powL b (n / b.toNat) := Int.mul_le_mul_of_nonneg_left p1 g0
      have z := turn_zero h2 h16 ex N (n / b.toNat) (by have := Nat.div_lt_self hn (show 1 < b.toNat by omega); omega) (by omega)
      have a0 : n % b.toNat = 0 := ex_inj ex hm (by omega) (by rw [ex_zero ex]; omega)
      have := Nat.div_add_mod n b.toNat
      rw [z, a0] at this
      simp at this
      omega
    · omega
theorem turn_inj {b : Int} {p : List Int} (h2 : 2 ≤ b) (h16 : b ≤ 16) (ex : IsEx b p) : ∀ (N n m : Nat), n ≤ N → topOf b p n * powL b m = topOf b p m * powL b n → n = m
  | N, n, m, h, e => by
    by_cases hn : 0 < n
    · by_cases hm : 0 < m
      · cases N with
        | zero => omega
        | succ N =>
          rw [top_rec h2 hn, top_rec h2 hm, pow_rec h2 hn, pow_rec h2 hm] at e
          have an : n % b.toNat < b.toNat := Nat.mod_lt _ (by omega)
          have am : m % b.toNat < b.toNat := Nat.mod_lt _ (by omega)
          obtain ⟨t0, t1⟩ := top_bd h2 ex (n / b.toNat)
          obtain ⟨u0, u1⟩ := top_bd h2 ex (m / b.toNat)
          have hlt := Nat.div_lt_self hn (show 1 < b.toNat by omega)
          have ih := turn_inj h2 h16 ex N (n / b.toNat) (m / b.toNat) (by omega)
          have inj := fun z => ex_inj (i := n % b.toNat) (j := m % b.toNat) ex an am z
          have dn := Nat.div_add_mod n b.toNat
          have dm := Nat.div_add_mod m b.toNat
          obtain ⟨p1, _⟩ := powL_bd (b := b) (n := n / b.toNat) h2 h16
          obtain ⟨q1, _⟩ := powL_bd (b := b) (n := m / b.toNat) h2 h16
          generalize topOf b p (n / b.toNat) = T at *
          generalize topOf b p (m / b.toNat) = U at *
          generalize powL b (n / b.toNat) = A at *
          generalize powL b (m / b.toNat) = B at *
          generalize p.getD (n % b.toNat) 0 = x at *
          generalize p.getD (m % b.toNat) 0 = y at *
          have e2 : ((x * A + T) * B) * b = ((y * B + U) * A) * b := by rw [Int.mul_assoc, Int.mul_assoc]; exact e
          have e3 : (x * A + T) * B = (y * B + U) * A := Int.eq_of_mul_eq_mul_right (by omega) e2
          have e4 : x * (A * B) + T * B = y * (A * B) + U * A := by
            rw [Int.add_mul, Int.add_mul, Int.mul_assoc, Int.mul_assoc, Int.mul_comm B A] at e3
            exact e3
          have f1 : T * B < A * B := Int.mul_lt_mul_of_pos_right t1 (by omega)
          have f2 : U * A < B * A := Int.mul_lt_mul_of_pos_right u1 (by omega)
          rw [Int.mul_comm B A] at f2
          obtain ⟨r1, r2⟩ := quot_uniq (Int.mul_nonneg t0 (by omega)) f1 (Int.mul_nonneg u0 (by omega)) f2 e4
          have i1 := inj r1
          have i2 := ih r2
          rw [← dn, ← dm, i1, i2]
      · have : m = 0 := by omega
        subst this
        rw [top_zero, pow_zero', Int.zero_mul, Int.mul_one] at e
        exact turn_zero h2 h16 ex n n (Nat.le_refl _) e
    · have : n = 0 := by omega
      subst this
      rw [top_zero, pow_zero', Int.zero_mul, Int.mul_one] at e
      exact (turn_zero h2 h16 ex m m (Nat.le_refl _) e.symm).symm
theorem low_cross {a b c d : Int} (hb : 0 < b) (hd : 0 < d) (h1 : a.fdiv (Int.gcd a b) = c.fdiv (Int.gcd c d)) (h2 : b.fdiv (Int.gcd a b) = d.fdiv (Int.gcd c d)) : a * d = c * b := by
  have g1 := gcd_pos (a := a) (b := b) (by omega)
  have g2 := gcd_pos (a := c) (b := d) (by omega)
  have f : ∀ x y : Int, 0 < y → x.fdiv y = x / y := fun x y h => Int.fdiv_eq_ediv_of_nonneg _ (by omega)
  rw [f _ _ g1, f _ _ g2] at h1 h2
  have ea := Int.mul_ediv_cancel' (Int.gcd_dvd_left a b)
  have eb := Int.mul_ediv_cancel' (Int.gcd_dvd_right a b)
  have ec := Int.mul_ediv_cancel' (Int.gcd_dvd_left c d)
  have ed := Int.mul_ediv_cancel' (Int.gcd_dvd_right c d)
  rw [h1] at ea
  rw [h2] at eb
  generalize c / (Int.gcd c d : Int) = X at *
  generalize d / (Int.gcd c d : Int) = Y at *
  generalize (Int.gcd a b : Int) = G at *
  generalize (Int.gcd c d : Int) = K at *
  rw [← ea, ← ed, ← ec, ← eb]
  ac_rfl
theorem low_lt {a b : Int} (h0 : 0 ≤ a) (h : a < b) : 0 ≤ a.fdiv (Int.gcd a b) ∧ a.fdiv (Int.gcd a b) < b.fdiv (Int.gcd a b) := by
  have g1 := gcd_pos (a := a) (b := b) (by omega)
  have f : ∀ x y : Int, 0 < y → x.fdiv y = x / y := fun x y h => Int.fdiv_eq_ediv_of_nonneg _ (by omega)
  rw [f _ _ g1, f _ _ g1]
  have ea := Int.mul_ediv_cancel' (Int.gcd_dvd_left a b)
  have eb := Int.mul_ediv_cancel' (Int.gcd_dvd_right a b)
  refine ⟨Int.ediv_nonneg h0 (by omega), ?_⟩
  generalize a / (Int.gcd a b : Int) = X at *
  generalize b / (Int.gcd a b : Int) = Y at *
  generalize (Int.gcd a b : Int) = G at *
  rcases Int.lt_or_le X Y with z | z
  · exact z
  · have := Int.mul_le_mul_of_nonneg_left z (show 0 ≤ G by omega)
    omega
/-! promises -/
def lowL (a b : Int) : List PyData := [.int (a.fdiv (Int.gcd a b)), .int (b.fdiv (Int.gcd a b))]
def lowK (a b : Int) : List Key := [.inl (a.fdiv (Int.gcd a b)), .inl (b.fdiv (Int.gcd a b))]
theorem lowL_key (a b : Int) : lowL a b = (lowK a b).map keyD := rfl
theorem lowD_L (a b : Int) : PyData.tuple (lowL a b) = lowD a b := rfl
def lowT : List W → (List PyData → Prop) → Prop := fun ws Q => ∃ a b : Int, ws = [.d (.int a), .d (.int b)] ∧ 0 < b ∧ b.natAbs < 2 ^ 8000 ∧ Q (lowL a b)
theorem lowT.mono : ∀ ws (Q Q' : List PyData → Prop), (∀ d, Q d → Q' d) → lowT ws Q → lowT ws Q' := fun _ _ _ h ⟨i, j, e, a, b, q⟩ => ⟨i, j, e, a, b, h _ q⟩
theorem lowT.len : ∀ ws (Q : List PyData → Prop), lowT ws Q → ws.length = 2 := fun _ _ ⟨_, _, e, _⟩ => by subst e; rfl
def turnT : List W → (List PyData → Prop) → Prop := fun ws Q => ∃ (b : Int) (p : List Int) (n : Int), ws = [.d (.int b), .d (exD p), .d (.int n)] ∧ 2 ≤ b ∧ b ≤ 16 ∧ IsEx b p ∧ 0 ≤ n ∧ n < 2 ^ 100 ∧ Q (lowL (topOf b p n.toNat) (powL b n.toNat))
theorem turnT.mono : ∀ ws (Q Q' : List PyData → Prop), (∀ d, Q d → Q' d) → turnT ws Q → turnT ws Q' := fun _ _ _ h ⟨b, p, n, e, x, y, z, u, v, q⟩ => ⟨b, p, n, e, x, y, z, u, v, h _ q⟩
theorem turnT.len : ∀ ws (Q : List PyData → Prop), turnT ws Q → ws.length = 3 := fun _ _ ⟨_, _, _, e, _⟩ => by subst e; rfl
/-- what the dict of a law holds -/
def Met (b : Int) (p : List Int) (kvs : List (List Key × PyData)) : Prop := ∀ kv ∈ kvs, ∃ m : Nat, kv = (lowK (topOf b p m) (powL b m), .int m)
theorem Met.get {b : Int} {p : List Int} {kvs : List (List Key × PyData)} (h2 : 2 ≤ b) (h16 : b ≤ 16) (ex : IsEx b p) (h : Met b p kvs) (n : Nat) : (valD kvs (lowK (topOf b p n) (powL b n))).getD (.int n) = .int n := by
  unfold valD
  cases e : kvs.find? fun kv => decide (kv.1 = lowK (topOf b p n) (powL b n)) with
  | none => rfl
  | some kv =>
    obtain ⟨m, rfl⟩ := h kv (List.mem_of_find?_eq_some e)
    have q0 := List.find?_some e
    have q : lowK (topOf b p m) (powL b m) = lowK (topOf b p n) (powL b n) := by simpa only [decide_eq_true_eq] using q0
    simp only [lowK, List.cons.injEq, Sum.inl.injEq, and_true] at q
    have i1 := (powL_bd (b := b) (n := m) h2 h16).1
    have i2 := (powL_bd (b := b) (n := n) h2 h16).1
    have := turn_inj h2 h16 ex m m n (Nat.le_refl _) (low_cross (by omega) (by omega) q.1 q.2)
    subst this
    rfl
theorem Met.put {b : Int} {p : List Int} {kvs : List (List Key × PyData)} (h : Met b p kvs) (n : Nat) : Met b p (putD kvs (lowK (topOf b p n) (powL b n)) (.int n)) := by
  unfold putD
  split
  · intro kv hkv
    obtain ⟨kv', h1, rfl⟩ := List.mem_map.mp hkv
    split
    · rename_i e
      exact ⟨n, by rw [e]⟩
    · exact h kv' h1
  · intro kv hkv
    rcases List.mem_append.mp hkv with h1 | h1
    · exact h kv h1
    · rw [List.mem_singleton.mp h1]; exact ⟨n, rfl⟩
theorem putD_len (kvs : List (List Key × PyData)) (k : List Key) (x : PyData) : (putD kvs k x).length ≤ kvs.length + 1 := by
  unfold putD
  split
  · simp
  · simp
end L2.VL

namespace K37
open PySem PySem.Spec PyProof.Rows L2 L2.VL
def top (i : Nat) : Stmt := PySem.Challenge.pw_evenpoints_k37_figures_turned_about.main.body.getD i (.Pass ⟨0, 0, 0, 0⟩)
section
variable {P : Program} {w : World} {K : PySem.W.Frag} {mg : Str → Option Value} {base : Heap} {rl : Option Addr}
theorem sc_src : FnScope ["_law_script"] ["_law_script"] (defScope (top 12)) := ⟨rfl, rfl, rfl, by decide +kernel, rfl, by decide +kernel, by decide +kernel⟩
theorem ok_src {f : Addr} {fd : FuncData} (F : Fun K "_law_feed" "_law_feed" (top 12) f fd) (Z : Bz mg) : FnOk P w K mg base CX0 1 f fd ["_law_script"] (spSrc K) := by
  refine F.ok sc_src (fun vs H Q E h => ?_) (fun cdv A outer s H vs Q E hr h => ?_)
  · obtain ⟨a, ns, rfl, _⟩ := h
    rfl
  · obtain ⟨a, ns, rfl, hS, hl, k⟩ := h
    refine ⟨_, pss_one (ps_ret (pe_lst (pa_cons (pe_callTy call_list_of rfl Z.list_ (by rfl) (pa_cons (pe_slice sl_list (pv 0) po_none (po_some pe_int)) pa_nil)) (pa_cons pe_int (pa_cons pe_int (pa_cons pe_int pa_nil)))))), ?_⟩
    refine ⟨_, rfl, 63, rfl, a, ns.map V.int, rfl, hS, fun q hq => ?_⟩
    refine ⟨q, _, rfl, .inl (.inl (.inl upd_same)), fun c hc => ?_⟩
    refine ⟨(by show 4 ≤ sizeLine; decide), fun p hp => ?_⟩
    rw [cutV_all hl] at *
    have hcq : c ≠ q := fun z => by rw [z, upd_same] at hc; cases hc
    have hpc : p ≠ c := fun z => by rw [z, upd_same] at hp; cases hp
    have hpq : p ≠ q := fun z => by rw [z, upd_ne hcq.symm, upd_same] at hp; cases hp
    refine k p (upd (fun _ => none) c (.lst (ns.map V.int))) _ ?_ ?_ ?_
    · have := hp
      rw [upd_ne hpc, upd_ne hpq] at this
      exact this
    · intro b o e
      by_cases hb : b = c
      · subst hb
        rw [upd_same] at e
        rw [upd_ne hpc.symm, upd_same]
        exact e
      · rw [upd_ne hb] at e
        cases e
    · intro r e
      cases e
      exact ⟨by rw [upd_ne hpc], ⟨_, upd_same, c, ns, 0, 0, 0, rfl, upd_same, hl, by decide, by decide, by decide⟩⟩
theorem sc__law_draw : FnScope ["_law_feed_here", "_law_many", "_law_found", "_law_cell", "_law_stirred"] ["_law_feed_here", "_law_many"] (defScope (top 13)) := ⟨rfl, rfl, rfl, by decide +kernel, rfl, by decide +kernel, by decide +kernel⟩
theorem d__law_draw (Fn : FnIn K mg "_law_draw" (top 13) ["_law_feed_here", "_law_many"]) (Z : Bz mg)   : Dfn P w K mg base rl "_law_draw" ["_law_feed_here", "_law_many"] 1 pickP := by
  have sc := sc__law_draw
  refine Dfn.hand Fn sc (pickP.mono) (pickP.len) ?_
  intro f cdv A outer s H E vs ws F Q Qv hr sm ra rw' hq fin
  obtain ⟨m, rfl, hm, hb, q⟩ := hq
  have hm0 : m ≠ 0 := by omega
  have hmd : ∀ i : Int, CDivB i m := fun i => CDivB.of hm0 (by omega)
  obtain ⟨v, u, rfl, ⟨r, er, ev⟩, r2⟩ := rel2 rw'
  subst ev er
  have eu := rep_int r2
  subst eu
  obtain ⟨fr, ⟨o, ho, c, ns, a, l, t, rfl, hc, hl, ha, hl0, ht⟩⟩ := ra r rfl
  have hcr : c ≠ r := fun z => by rw [z, fr] at hc; cases hc
  have hcH : H c = some (.lst (ns.map V.int)) := sm _ _ hc
  -- the end: any number of the sort, the feed turned
  have out : ∀ (k a l t : Int), 0 ≤ k → k < m → 0 ≤ a → 0 ≤ l → 0 ≤ t → Qv (.int k) (upd H r (fdO c a l t)) := fun k a l t h1 h2 h3 h4 h5 =>
    fin _ F _ (.int k) (Grow.turn sm ra ⟨c, ns, a, l, t, rfl, hc, hl, h3, h4, h5⟩) (.int k) (q k h1 h2)
  have g0 : ∀ {a l t : Int}, (upd H r (fdO c a l t)) r = some (.lst [.ref c, .int a, .int l, .int t]) := upd_same
  have gc : ∀ {a l t : Int}, (upd H r (fdO c a l t)) c = some (.lst (ns.map V.int)) := by intro a l t; rw [upd_ne hcr]; exact hcH
  have i0 : ∀ {x0 x1 x2 x3 : V}, L2.atI [x0, x1, x2, x3] 0 = some x0 := rfl
  have i1 : ∀ {x0 x1 x2 x3 : V}, L2.atI [x0, x1, x2, x3] 1 = some x1 := rfl
  have i2 : ∀ {x0 x1 x2 x3 : V}, L2.atI [x0, x1, x2, x3] 2 = some x2 := rfl
  have i3 : ∀ {x0 x1 x2 x3 : V}, L2.atI [x0, x1, x2, x3] 3 = some x3 := rfl
  have fm : ∀ i : Int, 0 ≤ i.fmod m ∧ i.fmod m < m := fun i => ⟨Int.fmod_nonneg_of_pos _ hm, Int.fmod_lt_of_pos _ hm⟩
  -- feed[1] = feed[1] + 1
  refine ⟨_, (pss_cons (ps_asg (pe_op op_add (pe_ix ix_seq (pv 0) pe_int (fun _ _ => rfl)) pe_int) (pg_sub (pv 0) pe_int set_list))
      (pss_cons (ps_while PassesOwn.never (pw_and (pt_cmpR op_eq (pe_ix ix_seq (pv 0) pe_int (fun _ _ => rfl)) pe_int (nomark _)) (pw_and1 (pt_cmpR op_lt (pe_ix ix_seq (pv 0) pe_int (fun _ _ => rfl)) (pe_callB call_len_seq (by rfl) Z.len_ (by rfl) (pa_cons (pe_ix ix_seq (pv 0) pe_int (fun _ _ => rfl)) pa_nil)) (nomark _)))).pt (pss_cons (ps_if (pt_cmpR op_ge (pe_callB call_abs (by rfl) Z.abs_ (by rfl) (pa_cons (pe_ix ix_seq (pe_ix ix_seq (pv 0) pe_int (fun _ _ => rfl)) (pe_ix ix_seq (pv 0) pe_int (fun _ _ => rfl)) (fun _ _ => rfl)) pa_nil)) (pe_op op_pow pe_int pe_int) (nomark _)) (pss_one (ps_asg (pe_callB call_abs (by rfl) Z.abs_ (by rfl) (pa_cons (pe_ix ix_seq (pe_ix ix_seq (pv 0) pe_int (fun _ _ => rfl)) (pe_ix ix_seq (pv 0) pe_int (fun _ _ => rfl)) (fun _ _ => rfl)) pa_nil)) (pg_sub (pv 0) pe_int set_list))) pss_nil)
      (pss_one (ps_asg (pe_op op_add (pe_ix ix_seq (pv 0) pe_int (fun _ _ => rfl)) pe_int) (pg_sub (pv 0) pe_int set_list)))))
      (pss_cons (ps_if (pt_cmpR op_gt (pe_ix ix_seq (pv 0) pe_int (fun _ _ => rfl)) pe_int (nomark _)) (pss_cons (ps_set (i := 2) sc.nd rfl (Or.inl rfl) (pe_op op_modN (pe_ix ix_seq (pv 0) pe_int (fun _ _ => rfl)) (pv 1)))
      (pss_cons (ps_asg (pe_op op_fdivB (pe_ix ix_seq (pv 0) pe_int (fun _ _ => rfl)) (pv 1)) (pg_sub (pv 0) pe_int set_list))
      (pss_one (ps_ret (pv 2))))) pss_nil)
      (pss_cons (ps_set (i := 3) sc.nd rfl (Or.inl rfl) pe_int)
      (pss_cons (ps_if (pt_cmpR op_gt (pe_callB call_len_seq (by rfl) Z.len_ (by rfl) (pa_cons (pe_ix ix_seq (pv 0) pe_int (fun _ _ => rfl)) pa_nil)) pe_int (nomark _)) (pss_one (ps_set (i := 3) sc.nd rfl (Or.inl rfl) (pe_ix ix_seq (pe_ix ix_seq (pv 0) pe_int (fun _ _ => rfl)) (pe_op op_modN (pe_ix ix_seq (pv 0) pe_int (fun _ _ => rfl)) (pe_callB call_len_seq (by rfl) Z.len_ (by rfl) (pa_cons (pe_ix ix_seq (pv 0) pe_int (fun _ _ => rfl)) pa_nil))) (fun _ _ => rfl)))) pss_nil)
      (pss_cons (ps_set (i := 4) sc.nd rfl (Or.inl rfl) (pe_op op_modN (pe_op op_add (pe_op op_add (pe_op op_mulB (pe_op op_modN (pv 3) pe_int) pe_int) (pe_op op_mulB pe_int (pe_ix ix_seq (pv 0) pe_int (fun _ _ => rfl)))) pe_int) pe_int))
      (pss_cons (ps_set (i := 4) sc.nd rfl (Or.inl rfl) (pe_op op_modN (pe_op op_mulB (pv 4) (pe_op op_add (pv 4) pe_int)) pe_int))
      (pss_one (ps_ret (pe_op op_modN (pe_op op_modN (pe_op op_mulB (pv 4) pe_int) pe_int) (pv 1))))))))))), ?_⟩
  refine ⟨_, rfl, h_ix ho i1 ⟨a, 1, rfl, rfl, ?_⟩⟩
  refine ⟨_, rfl, h_set ho rfl ?_⟩
  show tSeq _ _ _ _ (upd H r (fdO c (a + 1) l t))
  refine ⟨fun n σ' H' => ∃ l t, σ' = [some (.ref r), some (.int m), none, none, none] ∧ H' = upd H r (fdO c (a + 1) l t) ∧ 0 ≤ l ∧ 0 ≤ t ∧ n = ns.length - t.toNat, ⟨_, l, t, rfl, rfl, hl0, ht, rfl⟩, ?_⟩
  rintro n σ' H' ⟨l, t, rfl, rfl, hl0, ht, rfl⟩
  -- the loop's test
  refine ⟨_, rfl, h_ix g0 i2 ⟨rfl, _, rfl, ?_⟩⟩
  by_cases hz : l = 0
  · subst hz
    refine itT (by simp) ?_
    refine ⟨_, rfl, h_ix g0 i3 ⟨_, rfl, h_ix g0 i0 ⟨c, _, rfl, .inl (.inl (.inl gc)), ⟨t, _, rfl, rfl, _, rfl, ?_⟩⟩⟩⟩
    by_cases hlt : t < ((ns.map V.int).length : Int)
    · refine itT (decide_eq_true hlt) ?_
      have hlt' : t.toNat < ns.length := by rw [List.length_map] at hlt; omega
      have at_ : L2.atI (ns.map V.int) t = some (.int ns[t.toNat]) := at_toNat ht hlt'
      refine ⟨fun σ' H' => ∃ l t', σ' = [some (.ref r), some (.int m), none, none, none] ∧ H' = upd H r (fdO c (a + 1) l t') ∧ 0 ≤ l ∧ 0 ≤ t' ∧ ns.length - t'.toNat < ns.length - t.toNat, fun σ' H' ⟨l, t', h1, h2, h3, h4, h5⟩ => ⟨_, h5, l, t', h1, h2, h3, h4, rfl⟩, ?_⟩
      refine ⟨_, rfl, h_ix g0 i0 ⟨_, rfl, h_ix g0 i3 (h_ix gc at_ ⟨_, rfl, 10, 18, rfl, rfl, ⟨by decide, by decide, by decide⟩, ⟨_, _, rfl, rfl, _, rfl, ?_⟩⟩)⟩⟩
      by_cases hbig : (10 : Int) ^ Int.toNat 18 ≤ (if ns[t.toNat] < 0 then -ns[t.toNat] else ns[t.toNat])
      · refine itT (decide_eq_true hbig) ?_
        refine ⟨_, rfl, h_ix g0 i0 ⟨_, rfl, h_ix g0 i3 (h_ix gc at_ ⟨_, rfl, ?_⟩)⟩⟩
        refine ⟨_, rfl, h_set g0 rfl ?_⟩
        rw [upd_upd]
        refine ⟨_, rfl, h_ix g0 i3 ⟨_, _, rfl, rfl, ?_⟩⟩
        refine ⟨_, rfl, h_set g0 rfl ?_⟩
        rw [upd_upd]
        exact ⟨_, _, rfl, rfl, by split <;> omega, by omega, by omega⟩
      · refine itF (decide_eq_false hbig) ?_
        refine ⟨_, rfl, h_ix g0 i3 ⟨_, _, rfl, rfl, ?_⟩⟩
        refine ⟨_, rfl, h_set g0 rfl ?_⟩
        rw [upd_upd]
        exact ⟨_, _, rfl, rfl, by omega, by omega, by omega⟩
    · refine itF (decide_eq_false hlt) ?_
      refine ⟨_, rfl, h_ix g0 i2 ⟨_, _, rfl, rfl, _, rfl, ?_⟩⟩
      by_cases hp : 0 < (0 : Int)
      · refine itT (decide_eq_true hp) ?_
        refine ⟨_, rfl, h_ix g0 i2 ⟨_, rfl, _, _, rfl, rfl, hm0, ?_⟩⟩
        refine ⟨_, rfl, h_ix g0 i2 ⟨_, rfl, _, _, rfl, rfl, hmd _, ?_⟩⟩
        refine ⟨_, rfl, h_set g0 rfl ?_⟩
        rw [upd_upd]
        refine ⟨_, rfl, ?_⟩
        exact out _ _ _ _ (fm _).1 (fm _).2 (by omega) (Int.fdiv_nonneg (by omega) (by omega)) ht
      · refine itF (decide_eq_false hp) ?_
        refine ⟨_, rfl, h_ix g0 i0 ⟨c, _, rfl, .inl (.inl (.inl gc)), ⟨_, _, rfl, rfl, _, rfl, ?_⟩⟩⟩
        by_cases hn : (0 : Int) < ((ns.map V.int).length : Int)
        · refine itT (decide_eq_true hn) ?_
          have hnn : (0 : Int) < (ns.length : Int) := by rw [List.length_map] at hn; exact hn
          have b1 := Int.fmod_nonneg_of_pos (a + 1) hnn
          have b2 := Int.fmod_lt_of_pos (a + 1) hnn
          have hk : ((a + 1).fmod (ns.length : Int)).toNat < ns.length := by omega
          have at2 : L2.atI (ns.map V.int) ((a + 1).fmod ((ns.map V.int).length : Int)) = some (.int ns[((a + 1).fmod (ns.length : Int)).toNat]) := by simpa only [List.length_map] using at_toNat b1 hk
          refine ⟨_, rfl, h_ix g0 i0 ⟨_, rfl, h_ix g0 i1 ⟨_, rfl, h_ix g0 i0 ⟨c, _, rfl, .inl (.inl (.inl gc)), _, _, rfl, rfl, by omega, h_ix gc at2 ?_⟩⟩⟩⟩
          refine ⟨_, rfl, _, _, rfl, rfl, (show (2147483647 : Int) ≠ 0 by decide), _, _, rfl, rfl, CMulB.rt (by decide), _, rfl, h_ix g0 i1 ⟨_, _, rfl, rfl, CMulB.lt (by decide), _, _, rfl, rfl, _, _, rfl, rfl, _, _, rfl, rfl, (show (2147483629 : Int) ≠ 0 by decide), ?_⟩⟩
          refine ⟨_, rfl, _, rfl, _, _, rfl, rfl, _, _, rfl, rfl, CMulB.lt (small_fmod (by decide) (by decide)), _, _, rfl, rfl, (show (2147483587 : Int) ≠ 0 by decide), ?_⟩
          refine ⟨_, rfl, _, _, rfl, rfl, CMulB.rt (by decide), _, _, rfl, rfl, (show (2147483563 : Int) ≠ 0 by decide), _, rfl, _, _, rfl, rfl, hm0, ?_⟩
          exact out _ _ _ _ (fm _).1 (fm _).2 (by omega) (by omega) ht
        · refine itF (decide_eq_false hn) ?_
          refine ⟨_, rfl, _, _, rfl, rfl, (show (2147483647 : Int) ≠ 0 by decide), _, _, rfl, rfl, CMulB.rt (by decide), _, rfl, h_ix g0 i1 ⟨_, _, rfl, rfl, CMulB.lt (by decide), _, _, rfl, rfl, _, _, rfl, rfl, _, _, rfl, rfl, (show (2147483629 : Int) ≠ 0 by decide), ?_⟩⟩
          refine ⟨_, rfl, _, rfl, _, _, rfl, rfl, _, _, rfl, rfl, CMulB.lt (small_fmod (by decide) (by decide)), _, _, rfl, rfl, (show (2147483587 : Int) ≠ 0 by decide), ?_⟩
          refine ⟨_, rfl, _, _, rfl, rfl, CMulB.rt (by decide), _, _, rfl, rfl, (show (2147483563 : Int) ≠ 0 by decide), _, rfl, _, _, rfl, rfl, hm0, ?_⟩
          exact out _ _ _ _ (fm _).1 (fm _).2 (by omega) (by omega) ht
  · refine itF (vi_ne hz) ?_
    refine ⟨_, rfl, h_ix g0 i2 ⟨_, _, rfl, rfl, _, rfl, ?_⟩⟩
    by_cases hp : 0 < l
    · refine itT (decide_eq_true hp) ?_
      refine ⟨_, rfl, h_ix g0 i2 ⟨_, rfl, _, _, rfl, rfl, hm0, ?_⟩⟩
      refine ⟨_, rfl, h_ix g0 i2 ⟨_, rfl, _, _, rfl, rfl, hmd _, ?_⟩⟩
      refine ⟨_, rfl, h_set g0 rfl ?_⟩
      rw [upd_upd]
      refine ⟨_, rfl, ?_⟩
      exact out _ _ _ _ (fm _).1 (fm _).2 (by omega) (Int.fdiv_nonneg (by omega) (by omega)) ht
    · refine itF (decide_eq_false hp) ?_
      refine ⟨_, rfl, h_ix g0 i0 ⟨c, _, rfl, .inl (.inl (.inl gc)), ⟨_, _, rfl, rfl, _, rfl, ?_⟩⟩⟩
      by_cases hn : (0 : Int) < ((ns.map V.int).length : Int)
      · refine itT (decide_eq_true hn) ?_
        have hnn : (0 : Int) < (ns.length : Int) := by rw [List.length_map] at hn; exact hn
        have b1 := Int.fmod_nonneg_of_pos (a + 1) hnn
        have b2 := Int.fmod_lt_of_pos (a + 1) hnn
        have hk : ((a + 1).fmod (ns.length : Int)).toNat < ns.length := by omega
        have at2 : L2.atI (ns.map V.int) ((a + 1).fmod ((ns.map V.int).length : Int)) = some (.int ns[((a + 1).fmod (ns.length : Int)).toNat]) := by simpa only [List.length_map] using at_toNat b1 hk
        refine ⟨_, rfl, h_ix g0 i0 ⟨_, rfl, h_ix g0 i1 ⟨_, rfl, h_ix g0 i0 ⟨c, _, rfl, .inl (.inl (.inl gc)), _, _, rfl, rfl, by omega, h_ix gc at2 ?_⟩⟩⟩⟩
        refine ⟨_, rfl, _, _, rfl, rfl, (show (2147483647 : Int) ≠ 0 by decide), _, _, rfl, rfl, CMulB.rt (by decide), _, rfl, h_ix g0 i1 ⟨_, _, rfl, rfl, CMulB.lt (by decide), _, _, rfl, rfl, _, _, rfl, rfl, _, _, rfl, rfl, (show (2147483629 : Int) ≠ 0 by decide), ?_⟩⟩
        refine ⟨_, rfl, _, rfl, _, _, rfl, rfl, _, _, rfl, rfl, CMulB.lt (small_fmod (by decide) (by decide)), _, _, rfl, rfl, (show (2147483587 : Int) ≠ 0 by decide), ?_⟩
        refine ⟨_, rfl, _, _, rfl, rfl, CMulB.rt (by decide), _, _, rfl, rfl, (show (2147483563 : Int) ≠ 0 by decide), _, rfl, _, _, rfl, rfl, hm0, ?_⟩
        exact out _ _ _ _ (fm _).1 (fm _).2 (by omega) (by omega) ht
      · refine itF (decide_eq_false hn) ?_
        refine ⟨_, rfl, _, _, rfl, rfl, (show (2147483647 : Int) ≠ 0 by decide), _, _, rfl, rfl, CMulB.rt (by decide), _, rfl, h_ix g0 i1 ⟨_, _, rfl, rfl, CMulB.lt (by decide), _, _, rfl, rfl, _, _, rfl, rfl, _, _, rfl, rfl, (show (2147483629 : Int) ≠ 0 by decide), ?_⟩⟩
        refine ⟨_, rfl, _, rfl, _, _, rfl, rfl, _, _, rfl, rfl, CMulB.lt (small_fmod (by decide) (by decide)), _, _, rfl, rfl, (show (2147483587 : Int) ≠ 0 by decide), ?_⟩
        refine ⟨_, rfl, _, _, rfl, rfl, CMulB.rt (by decide), _, _, rfl, rfl, (show (2147483563 : Int) ≠ 0 by decide), _, rfl, _, _, rfl, rfl, hm0, ?_⟩
        exact out _ _ _ _ (fm _).1 (fm _).2 (by omega) (by omega) ht
theorem sc__law_gcd : FnScope ["_law_one", "_law_other"] ["_law_one", "_law_other"] (defScope (top 14)) := ⟨rfl, rfl, rfl, by decide +kernel, rfl, by decide +kernel, by decide +kernel⟩
theorem d__law_gcd (Fn : FnIn K mg "_law_gcd" (top 14) ["_law_one", "_law_other"]) (Z : Bz mg)   : Dfn P w K mg base rl "_law_gcd" ["_law_one", "_law_other"] 1 gcdN := by
  have sc := sc__law_gcd
  refine Dfn.of Fn sc (gcdN.mono) (gcdN.len) (fun cdv A outer s H E hr => (vs_cons (vs_while PassesOwn.never (vb_cmp op_gt vo_gt (nomark _) (vn 1) pv_int) (vs_one (vs_par 0 1 rfl sc.nd (pvs_cons (vn 1) (pvs_cons (v_mod (vn 0) (vn 1)) pvs_nil)))))
      (vs_one (vs_ret (vn 0))))) ?_
  rintro ws Q ⟨i, j, rfl, hi, hj, q⟩
  simp only [vSeq, vNext, vIfS, vRet, vRetN, vSet, vTest, vAnd, vOr, vNot, vAndV, vOrV, vNotV, vIf, vOp, vCall, vCons, vNil, vVar, vC, vTup, vLst, vUse, vAsg, vPar, vNeg, hName, hNil, hCons, hTup, gI, gI0, gEqD, gInD, gIx, gCat, gAbs, gLen, gIsi, gRepr, gStrI, fz_d, fz_ml, fz_pk, fz_reel, fz_vv, pk_d, pk_ml, pk_reel, pk_vv, dat_d, dat_ml, dat_pk, isPk_d, isPk_ml, isPk_reel, dats_nil, dats_d, arg_d, arg_reel, item_l, item_t, len_l, len_t, at0, at1, ite_t, ite_f, vEnds, startV, List.map_cons, List.map_nil, List.length_cons, List.length_nil, List.getElem?_cons_zero, List.getElem?_cons_succ, List.set_cons_zero, List.set_cons_succ, List.replicate, List.cons_append, List.nil_append, List.all_cons, List.all_nil, Bool.and_true, Option.some.injEq, W.d.injEq, W.vv.injEq, V.ty.injEq, List.cons.injEq, PyData.int.injEq, PyData.bool.injEq, PyData.tuple.injEq, PyData.list.injEq, PyData.str.injEq, Option.map_some, and_assoc, exists_eq_left, exists_eq_left', exists_and_left, exists_eq, and_true, true_and, exists_const, shaped_i, eqv_ii, shaped_b, fn1, fn2, gcdP, if_true, rf0, pickP, seq_l, seq_t, gI2, gDivmod, gInt1, vAug, vSlL, oNo, oIt, gCatD, vChain, vLR2, vLR1, vAppPop, gcdN, lowP, i2P, exP, vComp, frEn, W.cap, Option.bind_some, Option.bind_none, Option.join_some, List.set_nil, iL, iT, iR1, iR2, vFor, Option.join, gTupO, gLstO, vMut, gApp, gExt, vWhile, W.isPk, Option.bind, id, Bool.false_eq_true, ↓reduceIte, W.ml.injEq, W.pk.injEq, gEqS, vRevL, iRv, figP, numP, turnP, rowP, vFrz]
  refine ⟨fun m ρ => ∃ x y : Int, ρ = [some (.d (.int x)), some (.d (.int y))] ∧ m = y.natAbs ∧ 0 ≤ x ∧ 0 ≤ y ∧ Int.gcd x y = Int.gcd i j, ⟨_, i, j, rfl, rfl, hi, hj, rfl⟩, ?_⟩
  rintro m ρ ⟨x, y, rfl, rfl, hx, hy0, e⟩
  simp only [vSeq, vNext, vIfS, vRet, vRetN, vSet, vTest, vAnd, vOr, vNot, vAndV, vOrV, vNotV, vIf, vOp, vCall, vCons, vNil, vVar, vC, vTup, vLst, vUse, vAsg, vPar, vNeg, hName, hNil, hCons, hTup, gI, gI0, gEqD, gInD, gIx, gCat, gAbs, gLen, gIsi, gRepr, gStrI, fz_d, fz_ml, fz_pk, fz_reel, fz_vv, pk_d, pk_ml, pk_reel, pk_vv, dat_d, dat_ml, dat_pk, isPk_d, isPk_ml, isPk_reel, dats_nil, dats_d, arg_d, arg_reel, item_l, item_t, len_l, len_t, at0, at1, ite_t, ite_f, vEnds, startV, List.map_cons, List.map_nil, List.length_cons, List.length_nil, List.getElem?_cons_zero, List.getElem?_cons_succ, List.set_cons_zero, List.set_cons_succ, List.replicate, List.cons_append, List.nil_append, List.all_cons, List.all_nil, Bool.and_true, Option.some.injEq, W.d.injEq, W.vv.injEq, V.ty.injEq, List.cons.injEq, PyData.int.injEq, PyData.bool.injEq, PyData.tuple.injEq, PyData.list.injEq, PyData.str.injEq, Option.map_some, and_assoc, exists_eq_left, exists_eq_left', exists_and_left, exists_eq, and_true, true_and, exists_const, shaped_i, eqv_ii, shaped_b, fn1, fn2, gcdP, if_true, rf0, pickP, seq_l, seq_t, gI2, gDivmod, gInt1, vAug, vSlL, oNo, oIt, gCatD, vChain, vLR2, vLR1, vAppPop, gcdN, lowP, i2P, exP, vComp, frEn, W.cap, Option.bind_some, Option.bind_none, Option.join_some, List.set_nil, iL, iT, iR1, iR2, vFor, Option.join, gTupO, gLstO, vMut, gApp, gExt, vWhile, W.isPk, Option.bind, id, Bool.false_eq_true, ↓reduceIte, W.ml.injEq, W.pk.injEq, gEqS, vRevL, iRv, figP, numP, turnP, rowP, vFrz]
  by_cases hy : y = 0
  · subst hy
    rw [if_neg (by decide)]
    have ex : x = (Int.gcd i j : Int) := by rw [← e, Int.gcd_zero_right]; omega
    rw [ex]
    exact q
  · have hp : 0 < y := by omega
    rw [if_pos (by simpa using hp)]
    exact ⟨hy, _, fmod_abs_lt hy, rfl, hy0, Int.fmod_nonneg_of_pos _ hp, by rw [gcd_fmod, e]⟩
theorem sc__law_frac : FnScope ["_law_top", "_law_bottom", "_law_common"] ["_law_top", "_law_bottom"] (defScope (top 15)) := ⟨rfl, rfl, rfl, by decide +kernel, rfl, by decide +kernel, by decide +kernel⟩
theorem d__law_frac (Fn : FnIn K mg "_law_frac" (top 15) ["_law_top", "_law_bottom"]) (Z : Bz mg) (d__law_gcd : Dfn P w K mg base rl "_law_gcd" ["_law_one", "_law_other"] 1 gcdN)  : Dfn P w K mg base rl "_law_frac" ["_law_top", "_law_bottom"] 2 lowP := by
  have sc := sc__law_frac
  refine Dfn.of Fn sc (lowP.mono) (lowP.len) (fun cdv A outer s H E hr => (vs_cons (vs_set 2 sc.nd (v_call d__law_gcd (hr.mono (by decide)) (pvs_cons (v_abs Z.abs_ (pvs_cons (vn 0) pvs_nil)) (pvs_cons (vn 1) pvs_nil))))
      (vs_one (vs_ret (v_tup (pvs_cons (v_div (vn 0) (vn 2)) (pvs_cons (v_div (vn 1) (vn 2)) pvs_nil))))))) ?_
  rintro ws Q ⟨a, b, rfl, hb, hz, q⟩
  simp only [vSeq, vNext, vIfS, vRet, vRetN, vSet, vTest, vAnd, vOr, vNot, vAndV, vOrV, vNotV, vIf, vOp, vCall, vCons, vNil, vVar, vC, vTup, vLst, vUse, vAsg, vPar, vNeg, hName, hNil, hCons, hTup, gI, gI0, gEqD, gInD, gIx, gCat, gAbs, gLen, gIsi, gRepr, gStrI, fz_d, fz_ml, fz_pk, fz_reel, fz_vv, pk_d, pk_ml, pk_reel, pk_vv, dat_d, dat_ml, dat_pk, isPk_d, isPk_ml, isPk_reel, dats_nil, dats_d, arg_d, arg_reel, item_l, item_t, len_l, len_t, at0, at1, ite_t, ite_f, vEnds, startV, List.map_cons, List.map_nil, List.length_cons, List.length_nil, List.getElem?_cons_zero, List.getElem?_cons_succ, List.set_cons_zero, List.set_cons_succ, List.replicate, List.cons_append, List.nil_append, List.all_cons, List.all_nil, Bool.and_true, Option.some.injEq, W.d.injEq, W.vv.injEq, V.ty.injEq, List.cons.injEq, PyData.int.injEq, PyData.bool.injEq, PyData.tuple.injEq, PyData.list.injEq, PyData.str.injEq, Option.map_some, and_assoc, exists_eq_left, exists_eq_left', exists_and_left, exists_eq, and_true, true_and, exists_const, shaped_i, eqv_ii, shaped_b, fn1, fn2, gcdP, if_true, rf0, pickP, seq_l, seq_t, gI2, gDivmod, gInt1, vAug, vSlL, oNo, oIt, gCatD, vChain, vLR2, vLR1, vAppPop, gcdN, lowP, i2P, exP, vComp, frEn, W.cap, Option.bind_some, Option.bind_none, Option.join_some, List.set_nil, iL, iT, iR1, iR2, vFor, Option.join, gTupO, gLstO, vMut, gApp, gExt, vWhile, W.isPk, Option.bind, id, Bool.false_eq_true, ↓reduceIte, W.ml.injEq, W.pk.injEq, gEqS, vRevL, iRv, figP, numP, turnP, rowP, vFrz]
  refine ⟨by split <;> omega, by omega, ?_⟩
  have e : Int.gcd (if a < 0 then -a else a) b = Int.gcd a b := by split <;> simp [Int.gcd]
  rw [e]
  exact ⟨gcd_div hb hz _, gcd_div hb hz _, by decide, q⟩
theorem sc_common_divisor : FnScope ["one", "other"] ["one", "other"] (defScope (top 4)) := ⟨rfl, rfl, rfl, by decide +kernel, rfl, by decide +kernel, by decide +kernel⟩
theorem d_common_divisor (Fn : FnIn K mg "common_divisor" (top 4) ["one", "other"]) (Z : Bz mg)   : Dfn P w K mg base rl "common_divisor" ["one", "other"] 1 gcdP := by
  have sc := sc_common_divisor
  refine Dfn.of Fn sc (gcdP.mono) (gcdP.len) (fun cdv A outer s H E hr => (vs_cons (vs_while PassesOwn.never (vb_cmp (op_neD hr.units) vo_eqD (nomark _) (vn 1) pv_int) (vs_one (vs_par 0 1 rfl sc.nd (pvs_cons (vn 1) (pvs_cons (v_mod (vn 0) (vn 1)) pvs_nil)))))
      (vs_one (vs_ret (v_abs Z.abs_ (pvs_cons (vn 0) pvs_nil)))))) ?_
  rintro ws Q ⟨i, j, rfl, q⟩
  simp only [vSeq, vNext, vIfS, vRet, vRetN, vSet, vTest, vAnd, vOr, vNot, vAndV, vOrV, vNotV, vIf, vOp, vCall, vCons, vNil, vVar, vC, vTup, vLst, vUse, vAsg, vPar, vNeg, hName, hNil, hCons, hTup, gI, gI0, gEqD, gInD, gIx, gCat, gAbs, gLen, gIsi, gRepr, gStrI, fz_d, fz_ml, fz_pk, fz_reel, fz_vv, pk_d, pk_ml, pk_reel, pk_vv, dat_d, dat_ml, dat_pk, isPk_d, isPk_ml, isPk_reel, dats_nil, dats_d, arg_d, arg_reel, item_l, item_t, len_l, len_t, at0, at1, ite_t, ite_f, vEnds, startV, List.map_cons, List.map_nil, List.length_cons, List.length_nil, List.getElem?_cons_zero, List.getElem?_cons_succ, List.set_cons_zero, List.set_cons_succ, List.replicate, List.cons_append, List.nil_append, List.all_cons, List.all_nil, Bool.and_true, Option.some.injEq, W.d.injEq, W.vv.injEq, V.ty.injEq, List.cons.injEq, PyData.int.injEq, PyData.bool.injEq, PyData.tuple.injEq, PyData.list.injEq, PyData.str.injEq, Option.map_some, and_assoc, exists_eq_left, exists_eq_left', exists_and_left, exists_eq, and_true, true_and, exists_const, shaped_i, eqv_ii, shaped_b, fn1, fn2, gcdP, if_true, rf0, pickP, seq_l, seq_t, gI2, gDivmod, gInt1, vAug, vSlL, oNo, oIt, gCatD, vChain, vLR2, vLR1, vAppPop, gcdN, lowP, i2P, exP, vComp, frEn, W.cap, Option.bind_some, Option.bind_none, Option.join_some, List.set_nil, iL, iT, iR1, iR2, vFor, Option.join, gTupO, gLstO, vMut, gApp, gExt, vWhile, W.isPk, Option.bind, id, Bool.false_eq_true, ↓reduceIte, W.ml.injEq, W.pk.injEq, gEqS, vRevL, iRv, figP, numP, turnP, rowP, vFrz]
  refine ⟨fun m ρ => ∃ x y : Int, ρ = [some (.d (.int x)), some (.d (.int y))] ∧ m = y.natAbs ∧ Int.gcd x y = Int.gcd i j, ⟨_, i, j, rfl, rfl, rfl⟩, ?_⟩
  rintro m ρ ⟨x, y, rfl, rfl, e⟩
  simp only [vSeq, vNext, vIfS, vRet, vRetN, vSet, vTest, vAnd, vOr, vNot, vAndV, vOrV, vNotV, vIf, vOp, vCall, vCons, vNil, vVar, vC, vTup, vLst, vUse, vAsg, vPar, vNeg, hName, hNil, hCons, hTup, gI, gI0, gEqD, gInD, gIx, gCat, gAbs, gLen, gIsi, gRepr, gStrI, fz_d, fz_ml, fz_pk, fz_reel, fz_vv, pk_d, pk_ml, pk_reel, pk_vv, dat_d, dat_ml, dat_pk, isPk_d, isPk_ml, isPk_reel, dats_nil, dats_d, arg_d, arg_reel, item_l, item_t, len_l, len_t, at0, at1, ite_t, ite_f, vEnds, startV, List.map_cons, List.map_nil, List.length_cons, List.length_nil, List.getElem?_cons_zero, List.getElem?_cons_succ, List.set_cons_zero, List.set_cons_succ, List.replicate, List.cons_append, List.nil_append, List.all_cons, List.all_nil, Bool.and_true, Option.some.injEq, W.d.injEq, W.vv.injEq, V.ty.injEq, List.cons.injEq, PyData.int.injEq, PyData.bool.injEq, PyData.tuple.injEq, PyData.list.injEq, PyData.str.injEq, Option.map_some, and_assoc, exists_eq_left, exists_eq_left', exists_and_left, exists_eq, and_true, true_and, exists_const, shaped_i, eqv_ii, shaped_b, fn1, fn2, gcdP, if_true, rf0, pickP, seq_l, seq_t, gI2, gDivmod, gInt1, vAug, vSlL, oNo, oIt, gCatD, vChain, vLR2, vLR1, vAppPop, gcdN, lowP, i2P, exP, vComp, frEn, W.cap, Option.bind_some, Option.bind_none, Option.join_some, List.set_nil, iL, iT, iR1, iR2, vFor, Option.join, gTupO, gLstO, vMut, gApp, gExt, vWhile, W.isPk, Option.bind, id, Bool.false_eq_true, ↓reduceIte, W.ml.injEq, W.pk.injEq, gEqS, vRevL, iRv, figP, numP, turnP, rowP, vFrz, shaped_i, eqv_ii]
  by_cases hy : y = 0
  · subst hy
    rw [if_neg (by simp)]
    rw [show (if x < 0 then -x else x) = (Int.gcd i j : Int) by rw [← e, Int.gcd_zero_right]; omega]
    exact q
  · rw [if_pos (by simpa using hy)]
    exact ⟨hy, _, fmod_abs_lt hy, rfl, by rw [gcd_fmod, e]⟩
theorem sc_fraction : FnScope ["top", "bottom", "divisor"] ["top", "bottom"] (defScope (top 5)) := ⟨rfl, rfl, rfl, by decide +kernel, rfl, by decide +kernel, by decide +kernel⟩
theorem d_fraction (Fn : FnIn K mg "fraction" (top 5) ["top", "bottom"]) (Z : Bz mg) (d_common_divisor : Dfn P w K mg base rl "common_divisor" ["one", "other"] 1 gcdP)  : DfnT P w K mg base rl "fraction" ["top", "bottom"] 2 lowT := by
  have sc := sc_fraction
  refine DfnT.of Fn sc (lowT.mono) (lowT.len) (fun cdv A outer s H E hr => (vs_cons (vs_if (vb_cmp (op_eqD hr.units) vo_eqD (nomark _) (vn 1) pv_int) (vs_one vs_never) vs_nil)
      (vs_cons (vs_set 2 sc.nd (v_call d_common_divisor (hr.mono (by decide)) (pvs_cons (vn 0) (pvs_cons (vn 1) pvs_nil))))
      (vs_cons (vs_if (vb_cmp op_lt vo_lt (nomark _) (vn 1) pv_int) (vs_one (vs_set 2 sc.nd (v_neg (vn 2)))) vs_nil)
      (vs_one (vs_ret (v_tupN (pvs_cons (v_div (vn 0) (vn 2)) (pvs_cons (v_div (vn 1) (vn 2)) pvs_nil))))))))) ?_
  rintro ws Q ⟨a, b, rfl, hb, hz, q⟩
  simp only [vSeq, vNext, vIfS, vRet, vRetN, vSet, vTest, vAnd, vOr, vNot, vAndV, vOrV, vNotV, vIf, vOp, vCall, vCons, vNil, vVar, vC, vTup, vLst, vUse, vAsg, vPar, vNeg, hName, hNil, hCons, hTup, gI, gI0, gEqD, gInD, gIx, gCat, gAbs, gLen, gIsi, gRepr, gStrI, fz_d, fz_ml, fz_pk, fz_reel, fz_vv, pk_d, pk_ml, pk_reel, pk_vv, dat_d, dat_ml, dat_pk, isPk_d, isPk_ml, isPk_reel, dats_nil, dats_d, arg_d, arg_reel, item_l, item_t, len_l, len_t, at0, at1, ite_t, ite_f, vEnds, startV, List.map_cons, List.map_nil, List.length_cons, List.length_nil, List.getElem?_cons_zero, List.getElem?_cons_succ, List.set_cons_zero, List.set_cons_succ, List.replicate, List.cons_append, List.nil_append, List.all_cons, List.all_nil, Bool.and_true, Option.some.injEq, W.d.injEq, W.vv.injEq, V.ty.injEq, List.cons.injEq, PyData.int.injEq, PyData.bool.injEq, PyData.tuple.injEq, PyData.list.injEq, PyData.str.injEq, Option.map_some, and_assoc, exists_eq_left, exists_eq_left', exists_and_left, exists_eq, and_true, true_and, exists_const, shaped_i, eqv_ii, shaped_b, fn1, fn2, gcdP, if_true, rf0, pickP, seq_l, seq_t, gI2, gDivmod, gInt1, vAug, vSlL, oNo, oIt, gCatD, vChain, vLR2, vLR1, vAppPop, gcdN, lowP, i2P, exP, vComp, frEn, W.cap, Option.bind_some, Option.bind_none, Option.join_some, List.set_nil, iL, iT, iR1, iR2, vFor, Option.join, gTupO, gLstO, vMut, gApp, gExt, vWhile, W.isPk, Option.bind, id, Bool.false_eq_true, ↓reduceIte, W.ml.injEq, W.pk.injEq, gEqS, vRevL, iRv, figP, numP, turnP, rowP, vFrz, lowT, turnT, vUseT, tEnds, vTupN, vDict0, vDGet, vDPut, fz_nt, pk_nt, dat_nt, isPk_nt, isPk_md, W.nt.injEq]
  rw [if_neg (by simp; omega), if_neg (by simp; omega)]
  exact ⟨gcd_div hb hz _, gcd_div hb hz _, by decide, q⟩
theorem sc__law_exchange : FnScope ["_law_feed_here", "_law_base", "_law_left", "_law_found", "_law_plain", "_law_k"] ["_law_feed_here", "_law_base"] (defScope (top 16)) := ⟨rfl, rfl, rfl, by decide +kernel, rfl, by decide +kernel, by decide +kernel⟩
theorem d__law_exchange (Fn : FnIn K mg "_law_exchange" (top 16) ["_law_feed_here", "_law_base"]) (Z : Bz mg) (d__law_draw : Dfn P w K mg base rl "_law_draw" ["_law_feed_here", "_law_many"] 1 pickP)  : Dfn P w K mg base rl "_law_exchange" ["_law_feed_here", "_law_base"] 2 exP := by
  have sc := sc__law_exchange
  refine Dfn.of Fn sc (exP.mono) (exP.len) (fun cdv A outer s H E hr => (vs_cons (vs_set 2 sc.nd (v_lrange2 Z.list_ Z.range_ (pvs_cons pv_int (pvs_cons (vn 1) pvs_nil))))
      (vs_cons (vs_set 3 sc.nd (v_lst (pvs_cons pv_int pvs_nil)))
      (vs_cons (vs_set 4 sc.nd (v_cmp (op_eqD hr.units) vo_eqD (nomark _) (v_call d__law_draw (hr.mono (by decide)) (pvs_cons (vn 0) (pvs_cons pv_int pvs_nil))) pv_int))
      (vs_cons (vs_for PassesOwn.never rfl (vi_range1 Z.range_ (pvs_cons (v_sub (vn 1) pv_int) pvs_nil)) (vg_name 5 sc.nd) (vs_one (vs_appPop 3 2 (by decide) (v_ifExp (vb_val (vn 4)) pv_int (v_call d__law_draw (hr.mono (by decide)) (pvs_cons (vn 0) (pvs_cons (v_len Z.len_ (pvs_cons (vn 2) pvs_nil)) pvs_nil)))))))
      (vs_one (vs_ret (v_tuple Z.tuple_ (pvs_cons (vn 3) pvs_nil))))))))) ?_
  rintro ws Q ⟨b, rfl, h2, h16, q⟩
  simp only [vSeq, vNext, vIfS, vRet, vRetN, vSet, vTest, vAnd, vOr, vNot, vAndV, vOrV, vNotV, vIf, vOp, vCall, vCons, vNil, vVar, vC, vTup, vLst, vUse, vAsg, vPar, vNeg, hName, hNil, hCons, hTup, gI, gI0, gEqD, gInD, gIx, gCat, gAbs, gLen, gIsi, gRepr, gStrI, fz_d, fz_ml, fz_pk, fz_reel, fz_vv, pk_d, pk_ml, pk_reel, pk_vv, dat_d, dat_ml, dat_pk, isPk_d, isPk_ml, isPk_reel, dats_nil, dats_d, arg_d, arg_reel, item_l, item_t, len_l, len_t, at0, at1, ite_t, ite_f, vEnds, startV, List.map_cons, List.map_nil, List.length_cons, List.length_nil, List.getElem?_cons_zero, List.getElem?_cons_succ, List.set_cons_zero, List.set_cons_succ, List.replicate, List.cons_append, List.nil_append, List.all_cons, List.all_nil, Bool.and_true, Option.some.injEq, W.d.injEq, W.vv.injEq, V.ty.injEq, List.cons.injEq, PyData.int.injEq, PyData.bool.injEq, PyData.tuple.injEq, PyData.list.injEq, PyData.str.injEq, Option.map_some, and_assoc, exists_eq_left, exists_eq_left', exists_and_left, exists_eq, and_true, true_and, exists_const, shaped_i, eqv_ii, shaped_b, fn1, fn2, gcdP, if_true, rf0, pickP, seq_l, seq_t, gI2, gDivmod, gInt1, vAug, vSlL, oNo, oIt, gCatD, vChain, vLR2, vLR1, vAppPop, gcdN, lowP, i2P, exP, vComp, frEn, W.cap, Option.bind_some, Option.bind_none, Option.join_some, List.set_nil, iL, iT, iR1, iR2, vFor, Option.join, gTupO, gLstO, vMut, gApp, gExt, vWhile, W.isPk, Option.bind, id, Bool.false_eq_true, ↓reduceIte, W.ml.injEq, W.pk.injEq, gEqS, vRevL, iRv, figP, numP, turnP, rowP, vFrz]
  repeat (first | refine And.intro (by decide) ?_ | refine And.intro (by omega) ?_ | refine And.intro (show CPow _ _ from ⟨by decide, by decide, by decide⟩) ?_)
  intro k h0 h3
  repeat (first | refine And.intro (by decide) ?_ | refine And.intro (by omega) ?_ | refine And.intro (show CPow _ _ from ⟨by decide, by decide, by decide⟩) ?_)
  have hb1 : ((b - 1).toNat : Int) = b - 1 := by omega
  have hb1 : ((b - 1).toNat : Int) = b - 1 := by omega
  refine vLoop_range (fun i ρ => ∃ (f l : List Int) (o : Option W), ρ = [some .reel, some (.d (.int b)), some (.ml (l.map .int)), some (.ml (f.map .int)), some (.d (.bool (k == 0))), o] ∧ f.head? = some 0 ∧ (f ++ l).Perm (0 :: intR 1 (b - 1).toNat) ∧ f.length = i + 1) ⟨[0], intR 1 (b - 1).toNat, none, ?_, rfl, .refl _, rfl⟩ ?_ ?_
  · rw [rangeD_ints]; rfl
  · rintro i ρ hi ⟨f, l, o, rfl, hf, hp, hl⟩
    simp only [vSeq, vNext, vIfS, vRet, vRetN, vSet, vTest, vAnd, vOr, vNot, vAndV, vOrV, vNotV, vIf, vOp, vCall, vCons, vNil, vVar, vC, vTup, vLst, vUse, vAsg, vPar, vNeg, hName, hNil, hCons, hTup, gI, gI0, gEqD, gInD, gIx, gCat, gAbs, gLen, gIsi, gRepr, gStrI, fz_d, fz_ml, fz_pk, fz_reel, fz_vv, pk_d, pk_ml, pk_reel, pk_vv, dat_d, dat_ml, dat_pk, isPk_d, isPk_ml, isPk_reel, dats_nil, dats_d, arg_d, arg_reel, item_l, item_t, len_l, len_t, at0, at1, ite_t, ite_f, vEnds, startV, List.map_cons, List.map_nil, List.length_cons, List.length_nil, List.getElem?_cons_zero, List.getElem?_cons_succ, List.set_cons_zero, List.set_cons_succ, List.replicate, List.cons_append, List.nil_append, List.all_cons, List.all_nil, Bool.and_true, Option.some.injEq, W.d.injEq, W.vv.injEq, V.ty.injEq, List.cons.injEq, PyData.int.injEq, PyData.bool.injEq, PyData.tuple.injEq, PyData.list.injEq, PyData.str.injEq, Option.map_some, and_assoc, exists_eq_left, exists_eq_left', exists_and_left, exists_eq, and_true, true_and, exists_const, shaped_i, eqv_ii, shaped_b, fn1, fn2, gcdP, if_true, rf0, pickP, seq_l, seq_t, gI2, gDivmod, gInt1, vAug, vSlL, oNo, oIt, gCatD, vChain, vLR2, vLR1, vAppPop, gcdN, lowP, i2P, exP, vComp, frEn, W.cap, Option.bind_some, Option.bind_none, Option.join_some, List.set_nil, iL, iT, iR1, iR2, vFor, Option.join, gTupO, gLstO, vMut, gApp, gExt, vWhile, W.isPk, Option.bind, id, Bool.false_eq_true, ↓reduceIte, W.ml.injEq, W.pk.injEq, gEqS, vRevL, iRv, figP, numP, turnP, rowP, vFrz]
    have hlen : l.length + i = (b - 1).toNat := by
      have := hp.length_eq
      rw [List.length_append, List.length_cons, intR_length] at this
      omega
    have sz := PySem.sizeLine_eq
    have fin : ∀ z : Int, 0 ≤ z → z < (l.length : Int) → 0 ≤ z ∧ z < ((l.map PyData.int).length : Int) ∧ (l.map PyData.int).length < 2 ^ 62 ∧ ∃ y, (l.map PyData.int)[z.toNat]? = some y ∧ (f.map PyData.int).length < sizeLine ∧
        ∃ (f' l' : List Int), (l.map PyData.int).eraseIdx z.toNat = l'.map .int ∧ f.map PyData.int ++ [y] = f'.map .int ∧ f'.head? = some 0 ∧ (f' ++ l').Perm (0 :: intR 1 (b - 1).toNat) ∧ f'.length = i + 1 + 1 := fun z z0 z1 => by
      have hz : z.toNat < l.length := by omega
      refine ⟨z0, by simpa using z1, by simp; omega, .int l[z.toNat], by simp [hz], by simp; omega, f ++ [l[z.toNat]], l.eraseIdx z.toNat, map_erase _ _, by simp, ?_, pop_perm hz hp, by simp [hl]⟩
      cases f with
      | nil => cases hf
      | cons x f => exact hf
    by_cases hk : k = 0
    · rw [if_pos (by simp [hk])]
      exact fin 0 (by omega) (by omega)
    · rw [if_neg (by simp [hk])]
      refine ⟨by simp; omega, by simp; omega, fun z z0 z1 => fin z z0 (by simpa using z1)⟩
  · rintro ρ ⟨f, l, o, rfl, hf, hp, hl⟩
    simp only [vSeq, vNext, vIfS, vRet, vRetN, vSet, vTest, vAnd, vOr, vNot, vAndV, vOrV, vNotV, vIf, vOp, vCall, vCons, vNil, vVar, vC, vTup, vLst, vUse, vAsg, vPar, vNeg, hName, hNil, hCons, hTup, gI, gI0, gEqD, gInD, gIx, gCat, gAbs, gLen, gIsi, gRepr, gStrI, fz_d, fz_ml, fz_pk, fz_reel, fz_vv, pk_d, pk_ml, pk_reel, pk_vv, dat_d, dat_ml, dat_pk, isPk_d, isPk_ml, isPk_reel, dats_nil, dats_d, arg_d, arg_reel, item_l, item_t, len_l, len_t, at0, at1, ite_t, ite_f, vEnds, startV, List.map_cons, List.map_nil, List.length_cons, List.length_nil, List.getElem?_cons_zero, List.getElem?_cons_succ, List.set_cons_zero, List.set_cons_succ, List.replicate, List.cons_append, List.nil_append, List.all_cons, List.all_nil, Bool.and_true, Option.some.injEq, W.d.injEq, W.vv.injEq, V.ty.injEq, List.cons.injEq, PyData.int.injEq, PyData.bool.injEq, PyData.tuple.injEq, PyData.list.injEq, PyData.str.injEq, Option.map_some, and_assoc, exists_eq_left, exists_eq_left', exists_and_left, exists_eq, and_true, true_and, exists_const, shaped_i, eqv_ii, shaped_b, fn1, fn2, gcdP, if_true, rf0, pickP, seq_l, seq_t, gI2, gDivmod, gInt1, vAug, vSlL, oNo, oIt, gCatD, vChain, vLR2, vLR1, vAppPop, gcdN, lowP, i2P, exP, vComp, frEn, W.cap, Option.bind_some, Option.bind_none, Option.join_some, List.set_nil, iL, iT, iR1, iR2, vFor, Option.join, gTupO, gLstO, vMut, gApp, gExt, vWhile, W.isPk, Option.bind, id, Bool.false_eq_true, ↓reduceIte, W.ml.injEq, W.pk.injEq, gEqS, vRevL, iRv, figP, numP, turnP, rowP, vFrz]
    have hlen : l.length = 0 := by
      have := hp.length_eq
      rw [List.length_append, List.length_cons, intR_length] at this
      omega
    have : l = [] := List.length_eq_zero_iff.mp hlen
    subst this
    rw [List.append_nil] at hp
    exact q f (isEx_of h2 hf hp)
theorem sc_power : FnScope ["base", "exponent", "product", "step"] ["base", "exponent"] (defScope (top 7)) := ⟨rfl, rfl, rfl, by decide +kernel, rfl, by decide +kernel, by decide +kernel⟩
theorem d_power (Fn : FnIn K mg "power" (top 7) ["base", "exponent"]) (Z : Bz mg)   : Dfn P w K mg base rl "power" ["base", "exponent"] 1 (i2P (fun b k => 2 ≤ b ∧ b ≤ 16 ∧ 0 ≤ k ∧ k ≤ 200) fun b k => .int (b ^ k.toNat)) := by
  have sc := sc_power
  refine Dfn.of Fn sc (i2P.mono) (i2P.len) (fun cdv A outer s H E hr => (vs_cons (vs_set 2 sc.nd pv_int)
      (vs_cons (vs_for PassesOwn.never rfl (vi_range1 Z.range_ (pvs_cons (vn 1) pvs_nil)) (vg_name 3 sc.nd) (vs_one (vs_aug 2 sc.nd ip_mulC (vn 0))))
      (vs_one (vs_ret (vn 2)))))) ?_
  rintro ws Q ⟨b, k, rfl, ⟨h1, h2, h3, h4⟩, q⟩
  simp only [vSeq, vNext, vIfS, vRet, vRetN, vSet, vTest, vAnd, vOr, vNot, vAndV, vOrV, vNotV, vIf, vOp, vCall, vCons, vNil, vVar, vC, vTup, vLst, vUse, vAsg, vPar, vNeg, hName, hNil, hCons, hTup, gI, gI0, gEqD, gInD, gIx, gCat, gAbs, gLen, gIsi, gRepr, gStrI, fz_d, fz_ml, fz_pk, fz_reel, fz_vv, pk_d, pk_ml, pk_reel, pk_vv, dat_d, dat_ml, dat_pk, isPk_d, isPk_ml, isPk_reel, dats_nil, dats_d, arg_d, arg_reel, item_l, item_t, len_l, len_t, at0, at1, ite_t, ite_f, vEnds, startV, List.map_cons, List.map_nil, List.length_cons, List.length_nil, List.getElem?_cons_zero, List.getElem?_cons_succ, List.set_cons_zero, List.set_cons_succ, List.replicate, List.cons_append, List.nil_append, List.all_cons, List.all_nil, Bool.and_true, Option.some.injEq, W.d.injEq, W.vv.injEq, V.ty.injEq, List.cons.injEq, PyData.int.injEq, PyData.bool.injEq, PyData.tuple.injEq, PyData.list.injEq, PyData.str.injEq, Option.map_some, and_assoc, exists_eq_left, exists_eq_left', exists_and_left, exists_eq, and_true, true_and, exists_const, shaped_i, eqv_ii, shaped_b, fn1, fn2, gcdP, if_true, rf0, pickP, seq_l, seq_t, gI2, gDivmod, gInt1, vAug, vSlL, oNo, oIt, gCatD, vChain, vLR2, vLR1, vAppPop, gcdN, lowP, i2P, exP, vComp, frEn, W.cap, Option.bind_some, Option.bind_none, Option.join_some, List.set_nil, iL, iT, iR1, iR2, vFor, Option.join, gTupO, gLstO, vMut, gApp, gExt, vWhile, W.isPk, Option.bind, id, Bool.false_eq_true, ↓reduceIte, W.ml.injEq, W.pk.injEq, gEqS, vRevL, iRv, figP, numP, turnP, rowP, vFrz]
  refine ⟨by omega, by omega, ?_⟩
  refine vLoop_range (fun i ρ => ∃ o, ρ = [some (.d (.int b)), some (.d (.int k)), some (.d (.int (b ^ i))), o]) ⟨_, by rw [Int.pow_zero]⟩ ?_ ?_
  · rintro i ρ hi ⟨o, rfl⟩
    simp only [vSeq, vNext, vIfS, vRet, vRetN, vSet, vTest, vAnd, vOr, vNot, vAndV, vOrV, vNotV, vIf, vOp, vCall, vCons, vNil, vVar, vC, vTup, vLst, vUse, vAsg, vPar, vNeg, hName, hNil, hCons, hTup, gI, gI0, gEqD, gInD, gIx, gCat, gAbs, gLen, gIsi, gRepr, gStrI, fz_d, fz_ml, fz_pk, fz_reel, fz_vv, pk_d, pk_ml, pk_reel, pk_vv, dat_d, dat_ml, dat_pk, isPk_d, isPk_ml, isPk_reel, dats_nil, dats_d, arg_d, arg_reel, item_l, item_t, len_l, len_t, at0, at1, ite_t, ite_f, vEnds, startV, List.map_cons, List.map_nil, List.length_cons, List.length_nil, List.getElem?_cons_zero, List.getElem?_cons_succ, List.set_cons_zero, List.set_cons_succ, List.replicate, List.cons_append, List.nil_append, List.all_cons, List.all_nil, Bool.and_true, Option.some.injEq, W.d.injEq, W.vv.injEq, V.ty.injEq, List.cons.injEq, PyData.int.injEq, PyData.bool.injEq, PyData.tuple.injEq, PyData.list.injEq, PyData.str.injEq, Option.map_some, and_assoc, exists_eq_left, exists_eq_left', exists_and_left, exists_eq, and_true, true_and, exists_const, shaped_i, eqv_ii, shaped_b, fn1, fn2, gcdP, if_true, rf0, pickP, seq_l, seq_t, gI2, gDivmod, gInt1, vAug, vSlL, oNo, oIt, gCatD, vChain, vLR2, vLR1, vAppPop, gcdN, lowP, i2P, exP, vComp, frEn, W.cap, Option.bind_some, Option.bind_none, Option.join_some, List.set_nil, iL, iT, iR1, iR2, vFor, Option.join, gTupO, gLstO, vMut, gApp, gExt, vWhile, W.isPk, Option.bind, id, Bool.false_eq_true, ↓reduceIte, W.ml.injEq, W.pk.injEq, gEqS, vRevL, iRv, figP, numP, turnP, rowP, vFrz]
    exact ⟨.rt (by omega), by rw [Int.pow_succ], _, rfl⟩
  · rintro ρ ⟨o, rfl⟩
    simp only [vSeq, vNext, vIfS, vRet, vRetN, vSet, vTest, vAnd, vOr, vNot, vAndV, vOrV, vNotV, vIf, vOp, vCall, vCons, vNil, vVar, vC, vTup, vLst, vUse, vAsg, vPar, vNeg, hName, hNil, hCons, hTup, gI, gI0, gEqD, gInD, gIx, gCat, gAbs, gLen, gIsi, gRepr, gStrI, fz_d, fz_ml, fz_pk, fz_reel, fz_vv, pk_d, pk_ml, pk_reel, pk_vv, dat_d, dat_ml, dat_pk, isPk_d, isPk_ml, isPk_reel, dats_nil, dats_d, arg_d, arg_reel, item_l, item_t, len_l, len_t, at0, at1, ite_t, ite_f, vEnds, startV, List.map_cons, List.map_nil, List.length_cons, List.length_nil, List.getElem?_cons_zero, List.getElem?_cons_succ, List.set_cons_zero, List.set_cons_succ, List.replicate, List.cons_append, List.nil_append, List.all_cons, List.all_nil, Bool.and_true, Option.some.injEq, W.d.injEq, W.vv.injEq, V.ty.injEq, List.cons.injEq, PyData.int.injEq, PyData.bool.injEq, PyData.tuple.injEq, PyData.list.injEq, PyData.str.injEq, Option.map_some, and_assoc, exists_eq_left, exists_eq_left', exists_and_left, exists_eq, and_true, true_and, exists_const, shaped_i, eqv_ii, shaped_b, fn1, fn2, gcdP, if_true, rf0, pickP, seq_l, seq_t, gI2, gDivmod, gInt1, vAug, vSlL, oNo, oIt, gCatD, vChain, vLR2, vLR1, vAppPop, gcdN, lowP, i2P, exP, vComp, frEn, W.cap, Option.bind_some, Option.bind_none, Option.join_some, List.set_nil, iL, iT, iR1, iR2, vFor, Option.join, gTupO, gLstO, vMut, gApp, gExt, vWhile, W.isPk, Option.bind, id, Bool.false_eq_true, ↓reduceIte, W.ml.injEq, W.pk.injEq, gEqS, vRevL, iRv, figP, numP, turnP, rowP, vFrz]
    exact q
theorem sc_figures_of : FnScope ["base", "n", "figures", "figure"] ["base", "n"] (defScope (top 8)) := ⟨rfl, rfl, rfl, by decide +kernel, rfl, by decide +kernel, by decide +kernel⟩
theorem d_figures_of (Fn : FnIn K mg "figures_of" (top 8) ["base", "n"]) (Z : Bz mg)   : Dfn P w K mg base rl "figures_of" ["base", "n"] 1 figP := by
  have sc := sc_figures_of
  refine Dfn.of Fn sc (figP.mono) (figP.len) (fun cdv A outer s H E hr => (vs_cons (vs_set 2 sc.nd (v_lst pvs_nil))
      (vs_cons (vs_while PassesOwn.never (vb_cmp op_gt vo_gt (nomark _) (vn 1) pv_int) (vs_cons (vs_asg (v_divmod Z.divmod_ (pvs_cons (vn 1) (pvs_cons (vn 0) pvs_nil))) (vg_tup (n := 2) rfl (vgs_cons (vg_name 1 sc.nd) (vgs_cons (vg_name 3 sc.nd) vgs_nil))))
      (vs_one (vs_app 2 (pvs_cons (vn 3) pvs_nil)))))
      (vs_one (vs_frz 2 (vs_ret (vn 2))))))) ?_
  rintro ws Q ⟨b, n, rfl, h2, h16, hn0, hn, q⟩
  simp only [vSeq, vNext, vIfS, vRet, vRetN, vSet, vTest, vAnd, vOr, vNot, vAndV, vOrV, vNotV, vIf, vOp, vCall, vCons, vNil, vVar, vC, vTup, vLst, vUse, vAsg, vPar, vNeg, hName, hNil, hCons, hTup, gI, gI0, gEqD, gInD, gIx, gCat, gAbs, gLen, gIsi, gRepr, gStrI, fz_d, fz_ml, fz_pk, fz_reel, fz_vv, pk_d, pk_ml, pk_reel, pk_vv, dat_d, dat_ml, dat_pk, isPk_d, isPk_ml, isPk_reel, dats_nil, dats_d, arg_d, arg_reel, item_l, item_t, len_l, len_t, at0, at1, ite_t, ite_f, vEnds, startV, List.map_cons, List.map_nil, List.length_cons, List.length_nil, List.getElem?_cons_zero, List.getElem?_cons_succ, List.set_cons_zero, List.set_cons_succ, List.replicate, List.cons_append, List.nil_append, List.all_cons, List.all_nil, Bool.and_true, Option.some.injEq, W.d.injEq, W.vv.injEq, V.ty.injEq, List.cons.injEq, PyData.int.injEq, PyData.bool.injEq, PyData.tuple.injEq, PyData.list.injEq, PyData.str.injEq, Option.map_some, and_assoc, exists_eq_left, exists_eq_left', exists_and_left, exists_eq, and_true, true_and, exists_const, shaped_i, eqv_ii, shaped_b, fn1, fn2, gcdP, if_true, rf0, pickP, seq_l, seq_t, gI2, gDivmod, gInt1, vAug, vSlL, oNo, oIt, gCatD, vChain, vLR2, vLR1, vAppPop, gcdN, lowP, i2P, exP, vComp, frEn, W.cap, Option.bind_some, Option.bind_none, Option.join_some, List.set_nil, iL, iT, iR1, iR2, vFor, Option.join, gTupO, gLstO, vMut, gApp, gExt, vWhile, W.isPk, Option.bind, id, Bool.false_eq_true, ↓reduceIte, W.ml.injEq, W.pk.injEq, gEqS, vRevL, iRv, figP, numP, turnP, rowP, vFrz]
  repeat (first | refine And.intro (by decide) ?_ | refine And.intro (by omega) ?_ | refine And.intro (show CPow _ _ from ⟨by decide, by decide, by decide⟩) ?_)
  refine ⟨fun m ρ => ∃ (k : Nat) (f : List Nat) (o : Option W), ρ = [some (.d (.int b)), some (.d (.int k)), some (.ml (f.map fun (k : Nat) => PyData.int k)), o] ∧ f ++ digs b.toNat k = digs b.toNat n.toNat ∧ m = k, ⟨_, n.toNat, [], none, by rw [Int.toNat_of_nonneg hn0]; rfl, rfl, rfl⟩, ?_⟩
  rintro k ρ ⟨_, f, o, rfl, e, rfl⟩
  simp only [vSeq, vNext, vIfS, vRet, vRetN, vSet, vTest, vAnd, vOr, vNot, vAndV, vOrV, vNotV, vIf, vOp, vCall, vCons, vNil, vVar, vC, vTup, vLst, vUse, vAsg, vPar, vNeg, hName, hNil, hCons, hTup, gI, gI0, gEqD, gInD, gIx, gCat, gAbs, gLen, gIsi, gRepr, gStrI, fz_d, fz_ml, fz_pk, fz_reel, fz_vv, pk_d, pk_ml, pk_reel, pk_vv, dat_d, dat_ml, dat_pk, isPk_d, isPk_ml, isPk_reel, dats_nil, dats_d, arg_d, arg_reel, item_l, item_t, len_l, len_t, at0, at1, ite_t, ite_f, vEnds, startV, List.map_cons, List.map_nil, List.length_cons, List.length_nil, List.getElem?_cons_zero, List.getElem?_cons_succ, List.set_cons_zero, List.set_cons_succ, List.replicate, List.cons_append, List.nil_append, List.all_cons, List.all_nil, Bool.and_true, Option.some.injEq, W.d.injEq, W.vv.injEq, V.ty.injEq, List.cons.injEq, PyData.int.injEq, PyData.bool.injEq, PyData.tuple.injEq, PyData.list.injEq, PyData.str.injEq, Option.map_some, and_assoc, exists_eq_left, exists_eq_left', exists_and_left, exists_eq, and_true, true_and, exists_const, shaped_i, eqv_ii, shaped_b, fn1, fn2, gcdP, if_true, rf0, pickP, seq_l, seq_t, gI2, gDivmod, gInt1, vAug, vSlL, oNo, oIt, gCatD, vChain, vLR2, vLR1, vAppPop, gcdN, lowP, i2P, exP, vComp, frEn, W.cap, Option.bind_some, Option.bind_none, Option.join_some, List.set_nil, iL, iT, iR1, iR2, vFor, Option.join, gTupO, gLstO, vMut, gApp, gExt, vWhile, W.isPk, Option.bind, id, Bool.false_eq_true, ↓reduceIte, W.ml.injEq, W.pk.injEq, gEqS, vRevL, iRv, figP, numP, turnP, rowP, vFrz]
  by_cases hk : 0 < k
  · rw [if_pos (by simpa using hk)]
    repeat (first | refine And.intro (by decide) ?_ | refine And.intro (by omega) ?_ | refine And.intro (show CPow _ _ from ⟨by decide, by decide, by decide⟩) ?_)
    have hf : (f.map fun (k : Nat) => PyData.int k).length < sizeLine := by
      have h1 := congrArg List.length e
      rw [List.length_append] at h1
      have h3 : (digs b.toNat n.toNat).length < 200 := by
        have := digs_len (b := b.toNat) (n := n.toNat) (by omega)
        by_cases hl : (digs b.toNat n.toNat).length < 200
        · exact hl
        · have h4 : 2 ^ 200 ≤ 2 ^ (digs b.toNat n.toNat).length := Nat.pow_le_pow_right (by decide) (by omega)
          omega
      have sz := PySem.sizeLine_eq
      rw [List.length_map]
      omega
    have e1 : (k : Int) / b = ((k / b.toNat : Nat) : Int) := by rw [div_int (by omega) (by omega), Int.toNat_natCast]
    have e2 : (k : Int) % b = ((k % b.toNat : Nat) : Int) := by rw [mod_int2 (by omega) (by omega), Int.toNat_natCast]
    refine ⟨hf, k / b.toNat, Nat.div_lt_self hk (show 2 ≤ b.toNat by omega), k / b.toNat, e1, f ++ [k % b.toNat], ?_, ?_, rfl⟩
    · rw [e2, List.map_append]; rfl
    · rw [← e, digs_pos (by omega) hk]; simp
  · rw [if_neg (by simpa using hk)]
    have : k = 0 := by omega
    subst this
    rw [digs_zero, List.append_nil] at e
    rw [e]
    exact q
theorem sc_number_of : FnScope ["base", "figures", "n", "figure"] ["base", "figures"] (defScope (top 9)) := ⟨rfl, rfl, rfl, by decide +kernel, rfl, by decide +kernel, by decide +kernel⟩
theorem d_number_of (Fn : FnIn K mg "number_of" (top 9) ["base", "figures"]) (Z : Bz mg)   : Dfn P w K mg base rl "number_of" ["base", "figures"] 1 numP := by
  have sc := sc_number_of
  refine Dfn.of Fn sc (numP.mono) (numP.len) (fun cdv A outer s H E hr => (vs_cons (vs_set 2 sc.nd pv_int)
      (vs_cons (vs_for PassesOwn.never rfl (vi_reversedL Z.reversed_ (pvs_cons (vn 1) pvs_nil)) (vg_name 3 sc.nd) (vs_one (vs_set 2 sc.nd (v_add (v_mul (vn 2) (vn 0)) (vn 3)))))
      (vs_one (vs_ret (vn 2)))))) ?_
  rintro ws Q ⟨b, xs, rfl, h0, h16, q⟩
  simp only [vSeq, vNext, vIfS, vRet, vRetN, vSet, vTest, vAnd, vOr, vNot, vAndV, vOrV, vNotV, vIf, vOp, vCall, vCons, vNil, vVar, vC, vTup, vLst, vUse, vAsg, vPar, vNeg, hName, hNil, hCons, hTup, gI, gI0, gEqD, gInD, gIx, gCat, gAbs, gLen, gIsi, gRepr, gStrI, fz_d, fz_ml, fz_pk, fz_reel, fz_vv, pk_d, pk_ml, pk_reel, pk_vv, dat_d, dat_ml, dat_pk, isPk_d, isPk_ml, isPk_reel, dats_nil, dats_d, arg_d, arg_reel, item_l, item_t, len_l, len_t, at0, at1, ite_t, ite_f, vEnds, startV, List.map_cons, List.map_nil, List.length_cons, List.length_nil, List.getElem?_cons_zero, List.getElem?_cons_succ, List.set_cons_zero, List.set_cons_succ, List.replicate, List.cons_append, List.nil_append, List.all_cons, List.all_nil, Bool.and_true, Option.some.injEq, W.d.injEq, W.vv.injEq, V.ty.injEq, List.cons.injEq, PyData.int.injEq, PyData.bool.injEq, PyData.tuple.injEq, PyData.list.injEq, PyData.str.injEq, Option.map_some, and_assoc, exists_eq_left, exists_eq_left', exists_and_left, exists_eq, and_true, true_and, exists_const, shaped_i, eqv_ii, shaped_b, fn1, fn2, gcdP, if_true, rf0, pickP, seq_l, seq_t, gI2, gDivmod, gInt1, vAug, vSlL, oNo, oIt, gCatD, vChain, vLR2, vLR1, vAppPop, gcdN, lowP, i2P, exP, vComp, frEn, W.cap, Option.bind_some, Option.bind_none, Option.join_some, List.set_nil, iL, iT, iR1, iR2, vFor, Option.join, gTupO, gLstO, vMut, gApp, gExt, vWhile, W.isPk, Option.bind, id, Bool.false_eq_true, ↓reduceIte, W.ml.injEq, W.pk.injEq, gEqS, vRevL, iRv, figP, numP, turnP, rowP, vFrz]
  rw [← List.map_reverse]
  refine vLoop_map (fun i ρ => ∃ o, ρ = [some (.d (.int b)), some (.d (.list (xs.map .int))), some (.d (.int ((xs.reverse.take i).foldl (fun t a => t * b + a) 0))), o]) ⟨_, rfl⟩ ?_ ?_
  · rintro i hi ρ ⟨o, rfl⟩
    simp only [vSeq, vNext, vIfS, vRet, vRetN, vSet, vTest, vAnd, vOr, vNot, vAndV, vOrV, vNotV, vIf, vOp, vCall, vCons, vNil, vVar, vC, vTup, vLst, vUse, vAsg, vPar, vNeg, hName, hNil, hCons, hTup, gI, gI0, gEqD, gInD, gIx, gCat, gAbs, gLen, gIsi, gRepr, gStrI, fz_d, fz_ml, fz_pk, fz_reel, fz_vv, pk_d, pk_ml, pk_reel, pk_vv, dat_d, dat_ml, dat_pk, isPk_d, isPk_ml, isPk_reel, dats_nil, dats_d, arg_d, arg_reel, item_l, item_t, len_l, len_t, at0, at1, ite_t, ite_f, vEnds, startV, List.map_cons, List.map_nil, List.length_cons, List.length_nil, List.getElem?_cons_zero, List.getElem?_cons_succ, List.set_cons_zero, List.set_cons_succ, List.replicate, List.cons_append, List.nil_append, List.all_cons, List.all_nil, Bool.and_true, Option.some.injEq, W.d.injEq, W.vv.injEq, V.ty.injEq, List.cons.injEq, PyData.int.injEq, PyData.bool.injEq, PyData.tuple.injEq, PyData.list.injEq, PyData.str.injEq, Option.map_some, and_assoc, exists_eq_left, exists_eq_left', exists_and_left, exists_eq, and_true, true_and, exists_const, shaped_i, eqv_ii, shaped_b, fn1, fn2, gcdP, if_true, rf0, pickP, seq_l, seq_t, gI2, gDivmod, gInt1, vAug, vSlL, oNo, oIt, gCatD, vChain, vLR2, vLR1, vAppPop, gcdN, lowP, i2P, exP, vComp, frEn, W.cap, Option.bind_some, Option.bind_none, Option.join_some, List.set_nil, iL, iT, iR1, iR2, vFor, Option.join, gTupO, gLstO, vMut, gApp, gExt, vWhile, W.isPk, Option.bind, id, Bool.false_eq_true, ↓reduceIte, W.ml.injEq, W.pk.injEq, gEqS, vRevL, iRv, figP, numP, turnP, rowP, vFrz]
    exact ⟨.rt (by omega), by rw [foldl_succ hi], _, rfl⟩
  · rintro ρ ⟨o, rfl⟩
    rw [List.take_of_length_le (Nat.le_refl _)]
    simp only [vSeq, vNext, vIfS, vRet, vRetN, vSet, vTest, vAnd, vOr, vNot, vAndV, vOrV, vNotV, vIf, vOp, vCall, vCons, vNil, vVar, vC, vTup, vLst, vUse, vAsg, vPar, vNeg, hName, hNil, hCons, hTup, gI, gI0, gEqD, gInD, gIx, gCat, gAbs, gLen, gIsi, gRepr, gStrI, fz_d, fz_ml, fz_pk, fz_reel, fz_vv, pk_d, pk_ml, pk_reel, pk_vv, dat_d, dat_ml, dat_pk, isPk_d, isPk_ml, isPk_reel, dats_nil, dats_d, arg_d, arg_reel, item_l, item_t, len_l, len_t, at0, at1, ite_t, ite_f, vEnds, startV, List.map_cons, List.map_nil, List.length_cons, List.length_nil, List.getElem?_cons_zero, List.getElem?_cons_succ, List.set_cons_zero, List.set_cons_succ, List.replicate, List.cons_append, List.nil_append, List.all_cons, List.all_nil, Bool.and_true, Option.some.injEq, W.d.injEq, W.vv.injEq, V.ty.injEq, List.cons.injEq, PyData.int.injEq, PyData.bool.injEq, PyData.tuple.injEq, PyData.list.injEq, PyData.str.injEq, Option.map_some, and_assoc, exists_eq_left, exists_eq_left', exists_and_left, exists_eq, and_true, true_and, exists_const, shaped_i, eqv_ii, shaped_b, fn1, fn2, gcdP, if_true, rf0, pickP, seq_l, seq_t, gI2, gDivmod, gInt1, vAug, vSlL, oNo, oIt, gCatD, vChain, vLR2, vLR1, vAppPop, gcdN, lowP, i2P, exP, vComp, frEn, W.cap, Option.bind_some, Option.bind_none, Option.join_some, List.set_nil, iL, iT, iR1, iR2, vFor, Option.join, gTupO, gLstO, vMut, gApp, gExt, vWhile, W.isPk, Option.bind, id, Bool.false_eq_true, ↓reduceIte, W.ml.injEq, W.pk.injEq, gEqS, vRevL, iRv, figP, numP, turnP, rowP, vFrz]
    exact q
theorem sc_turned : FnScope ["base", "exchange", "n", "figures"] ["base", "exchange", "n"] (defScope (top 10)) := ⟨rfl, rfl, rfl, by decide +kernel, rfl, by decide +kernel, by decide +kernel⟩
theorem d_turned (Fn : FnIn K mg "turned" (top 10) ["base", "exchange", "n"]) (Z : Bz mg) (d_fraction : DfnT P w K mg base rl "fraction" ["top", "bottom"] 2 lowT) (d_number_of : Dfn P w K mg base rl "number_of" ["base", "figures"] 1 numP) (d_power : Dfn P w K mg base rl "power" ["base", "exponent"] 1 (i2P (fun b k => 2 ≤ b ∧ b ≤ 16 ∧ 0 ≤ k ∧ k ≤ 200) fun b k => .int (b ^ k.toNat))) (d_figures_of : Dfn P w K mg base rl "figures_of" ["base", "n"] 1 figP)  : DfnT P w K mg base rl "turned" ["base", "exchange", "n"] 3 turnT := by
  have sc := sc_turned
  refine DfnT.of Fn sc (turnT.mono) (turnT.len) (fun cdv A outer s H E hr => (vs_cons (vs_setcomp 3 sc.nd ["figure", "exchange"] [none, some 1] rfl (vi_list (v_call d_figures_of (hr.mono (by decide)) (pvs_cons (vn 0) (pvs_cons (vn 2) pvs_nil)))) (fun _ => (vg_name 0 (show List.Nodup (["figure", "exchange"] : List Str) by decide +kernel))) (fun _ => vt_nil) (fun _ => (v_ix (vn 1) (vn 0))))
      (vs_one (vs_ret (v_callT d_fraction (hr.mono (by decide)) (pvs_cons (v_call d_number_of (hr.mono (by decide)) (pvs_cons (vn 0) (pvs_cons (v_revL (vn 3)) pvs_nil))) (pvs_cons (v_call d_power (hr.mono (by decide)) (pvs_cons (vn 0) (pvs_cons (v_len Z.len_ (pvs_cons (vn 3) pvs_nil)) pvs_nil))) pvs_nil))))))) ?_
  rintro ws Q ⟨b, p, n, rfl, h2, h16, ex, hn0, hn, q⟩
  simp only [vSeq, vNext, vIfS, vRet, vRetN, vSet, vTest, vAnd, vOr, vNot, vAndV, vOrV, vNotV, vIf, vOp, vCall, vCons, vNil, vVar, vC, vTup, vLst, vUse, vAsg, vPar, vNeg, hName, hNil, hCons, hTup, gI, gI0, gEqD, gInD, gIx, gCat, gAbs, gLen, gIsi, gRepr, gStrI, fz_d, fz_ml, fz_pk, fz_reel, fz_vv, pk_d, pk_ml, pk_reel, pk_vv, dat_d, dat_ml, dat_pk, isPk_d, isPk_ml, isPk_reel, dats_nil, dats_d, arg_d, arg_reel, item_l, item_t, len_l, len_t, at0, at1, ite_t, ite_f, vEnds, startV, List.map_cons, List.map_nil, List.length_cons, List.length_nil, List.getElem?_cons_zero, List.getElem?_cons_succ, List.set_cons_zero, List.set_cons_succ, List.replicate, List.cons_append, List.nil_append, List.all_cons, List.all_nil, Bool.and_true, Option.some.injEq, W.d.injEq, W.vv.injEq, V.ty.injEq, List.cons.injEq, PyData.int.injEq, PyData.bool.injEq, PyData.tuple.injEq, PyData.list.injEq, PyData.str.injEq, Option.map_some, and_assoc, exists_eq_left, exists_eq_left', exists_and_left, exists_eq, and_true, true_and, exists_const, shaped_i, eqv_ii, shaped_b, fn1, fn2, gcdP, if_true, rf0, pickP, seq_l, seq_t, gI2, gDivmod, gInt1, vAug, vSlL, oNo, oIt, gCatD, vChain, vLR2, vLR1, vAppPop, gcdN, lowP, i2P, exP, vComp, frEn, W.cap, Option.bind_some, Option.bind_none, Option.join_some, List.set_nil, iL, iT, iR1, iR2, vFor, Option.join, gTupO, gLstO, vMut, gApp, gExt, vWhile, W.isPk, Option.bind, id, Bool.false_eq_true, ↓reduceIte, W.ml.injEq, W.pk.injEq, gEqS, vRevL, iRv, figP, numP, turnP, rowP, vFrz, lowT, turnT, vUseT, tEnds, vTupN, vDict0, vDGet, vDPut, fz_nt, pk_nt, dat_nt, isPk_nt, isPk_md, W.nt.injEq, exD]
  refine ⟨h2, h16, hn0, hn, ?_⟩
  have hl : (digs b.toNat n.toNat).length < 200 := by
    have := digs_len (b := b.toNat) (n := n.toNat) (by omega)
    by_cases hl : (digs b.toNat n.toNat).length < 200
    · exact hl
    · have h4 : 2 ^ 200 ≤ 2 ^ (digs b.toNat n.toNat).length := Nat.pow_le_pow_right (by decide) (by omega)
      omega
  have sz := PySem.sizeLine_eq
  refine vGo_map (fun x => match x with | .int k => .int (p.getD k.toNat 0) | d => d) (fun ρ => ∃ o, ρ = [o, some (.d (exD p))]) ⟨_, rfl⟩ ?_ ?_ ?_
  · rintro x hx ρ ⟨o, rfl⟩ k hk
    obtain ⟨a, ha, rfl⟩ := List.mem_map.mp hx
    obtain ⟨e1, _⟩ := getD_bd ex (digs_lt (by omega) _ a ha)
    simp only [vSeq, vNext, vIfS, vRet, vRetN, vSet, vTest, vAnd, vOr, vNot, vAndV, vOrV, vNotV, vIf, vOp, vCall, vCons, vNil, vVar, vC, vTup, vLst, vUse, vAsg, vPar, vNeg, hName, hNil, hCons, hTup, gI, gI0, gEqD, gInD, gIx, gCat, gAbs, gLen, gIsi, gRepr, gStrI, fz_d, fz_ml, fz_pk, fz_reel, fz_vv, pk_d, pk_ml, pk_reel, pk_vv, dat_d, dat_ml, dat_pk, isPk_d, isPk_ml, isPk_reel, dats_nil, dats_d, arg_d, arg_reel, item_l, item_t, len_l, len_t, at0, at1, ite_t, ite_f, vEnds, startV, List.map_cons, List.map_nil, List.length_cons, List.length_nil, List.getElem?_cons_zero, List.getElem?_cons_succ, List.set_cons_zero, List.set_cons_succ, List.replicate, List.cons_append, List.nil_append, List.all_cons, List.all_nil, Bool.and_true, Option.some.injEq, W.d.injEq, W.vv.injEq, V.ty.injEq, List.cons.injEq, PyData.int.injEq, PyData.bool.injEq, PyData.tuple.injEq, PyData.list.injEq, PyData.str.injEq, Option.map_some, and_assoc, exists_eq_left, exists_eq_left', exists_and_left, exists_eq, and_true, true_and, exists_const, shaped_i, eqv_ii, shaped_b, fn1, fn2, gcdP, if_true, rf0, pickP, seq_l, seq_t, gI2, gDivmod, gInt1, vAug, vSlL, oNo, oIt, gCatD, vChain, vLR2, vLR1, vAppPop, gcdN, lowP, i2P, exP, vComp, frEn, W.cap, Option.bind_some, Option.bind_none, Option.join_some, List.set_nil, iL, iT, iR1, iR2, vFor, Option.join, gTupO, gLstO, vMut, gApp, gExt, vWhile, W.isPk, Option.bind, id, Bool.false_eq_true, ↓reduceIte, W.ml.injEq, W.pk.injEq, gEqS, vRevL, iRv, figP, numP, turnP, rowP, vFrz, lowT, turnT, vUseT, tEnds, vTupN, vDict0, vDGet, vDPut, fz_nt, pk_nt, dat_nt, isPk_nt, isPk_md, W.nt.injEq, exD]
    refine ⟨_, atI_nat (by rw [List.getElem?_map, e1]; rfl), ?_⟩
    exact hk _ ⟨_, rfl⟩
  · rw [List.length_map]; omega
  · have em : ((digs b.toNat n.toNat).map fun (k : Nat) => PyData.int k).map (fun x => match x with | PyData.int k => PyData.int (p.getD k.toNat 0) | d => d) = ((digs b.toNat n.toNat).map fun a => p.getD a 0).map PyData.int := by
      rw [List.map_map, List.map_map]
      exact List.map_congr_left fun a _ => rfl
    rw [em]
    simp only [List.length_map, Int.toNat_natCast]
    obtain ⟨p1, p2⟩ := powL_bd (n := n.toNat) h2 h16
    unfold powL at p1 p2
    refine ⟨((digs b.toNat n.toNat).map fun a => p.getD a 0).reverse, by rw [List.map_reverse], by omega, by omega, h2, h16, by omega, by omega, by omega, ?_, ?_⟩
    · exact Nat.lt_of_lt_of_le (show (b ^ (digs b.toNat n.toNat).length).natAbs < 2 ^ 200 by omega) (Nat.pow_le_pow_right (by decide) (by decide))
    · rw [List.reverse_reverse, List.foldl_map]
      exact q
theorem sc__law_turned : FnScope ["_law_base", "_law_exchange_here", "_law_n", "_law_top", "_law_bottom"] ["_law_base", "_law_exchange_here", "_law_n"] (defScope (top 17)) := ⟨rfl, rfl, rfl, by decide +kernel, rfl, by decide +kernel, by decide +kernel⟩
theorem d__law_turned (Fn : FnIn K mg "_law_turned" (top 17) ["_law_base", "_law_exchange_here", "_law_n"]) (Z : Bz mg)   : Dfn P w K mg base rl "_law_turned" ["_law_base", "_law_exchange_here", "_law_n"] 1 (turnP fun b p n => pr (topOf b p n) (powL b n)) := by
  have sc := sc__law_turned
  refine Dfn.of Fn sc (turnP.mono) (turnP.len) (fun cdv A outer s H E hr => (vs_cons (vs_asg (v_tup (pvs_cons pv_int (pvs_cons pv_int pvs_nil))) (vg_tup (n := 2) rfl (vgs_cons (vg_name 3 sc.nd) (vgs_cons (vg_name 4 sc.nd) vgs_nil))))
      (vs_cons (vs_while PassesOwn.never (vb_cmp op_gt vo_gt (nomark _) (vn 2) pv_int) (vs_cons (vs_set 3 sc.nd (v_add (v_mul (vn 3) (vn 0)) (v_ix (vn 1) (v_mod (vn 2) (vn 0)))))
      (vs_cons (vs_set 4 sc.nd (v_mul (vn 4) (vn 0)))
      (vs_one (vs_set 2 sc.nd (v_div (vn 2) (vn 0)))))))
      (vs_one (vs_ret (v_tup (pvs_cons (vn 3) (pvs_cons (vn 4) pvs_nil)))))))) ?_
  rintro ws Q ⟨b, p, n, rfl, h2, h16, ex, hn0, hn, q⟩
  simp only [vSeq, vNext, vIfS, vRet, vRetN, vSet, vTest, vAnd, vOr, vNot, vAndV, vOrV, vNotV, vIf, vOp, vCall, vCons, vNil, vVar, vC, vTup, vLst, vUse, vAsg, vPar, vNeg, hName, hNil, hCons, hTup, gI, gI0, gEqD, gInD, gIx, gCat, gAbs, gLen, gIsi, gRepr, gStrI, fz_d, fz_ml, fz_pk, fz_reel, fz_vv, pk_d, pk_ml, pk_reel, pk_vv, dat_d, dat_ml, dat_pk, isPk_d, isPk_ml, isPk_reel, dats_nil, dats_d, arg_d, arg_reel, item_l, item_t, len_l, len_t, at0, at1, ite_t, ite_f, vEnds, startV, List.map_cons, List.map_nil, List.length_cons, List.length_nil, List.getElem?_cons_zero, List.getElem?_cons_succ, List.set_cons_zero, List.set_cons_succ, List.replicate, List.cons_append, List.nil_append, List.all_cons, List.all_nil, Bool.and_true, Option.some.injEq, W.d.injEq, W.vv.injEq, V.ty.injEq, List.cons.injEq, PyData.int.injEq, PyData.bool.injEq, PyData.tuple.injEq, PyData.list.injEq, PyData.str.injEq, Option.map_some, and_assoc, exists_eq_left, exists_eq_left', exists_and_left, exists_eq, and_true, true_and, exists_const, shaped_i, eqv_ii, shaped_b, fn1, fn2, gcdP, if_true, rf0, pickP, seq_l, seq_t, gI2, gDivmod, gInt1, vAug, vSlL, oNo, oIt, gCatD, vChain, vLR2, vLR1, vAppPop, gcdN, lowP, i2P, exP, vComp, frEn, W.cap, Option.bind_some, Option.bind_none, Option.join_some, List.set_nil, iL, iT, iR1, iR2, vFor, Option.join, gTupO, gLstO, vMut, gApp, gExt, vWhile, W.isPk, Option.bind, id, Bool.false_eq_true, ↓reduceIte, W.ml.injEq, W.pk.injEq, gEqS, vRevL, iRv, figP, numP, turnP, rowP, vFrz, exD]
  repeat (first | refine And.intro (by decide) ?_ | refine And.intro (by omega) ?_ | refine And.intro (show CPow _ _ from ⟨by decide, by decide, by decide⟩) ?_)
  refine ⟨fun m ρ => ∃ (k : Nat) (t B : Int), ρ = [some (.d (.int b)), some (.d (exD p)), some (.d (.int k)), some (.d (.int t)), some (.d (.int B))] ∧ (digs b.toNat k).foldl (stepT b p) t = topOf b p n.toNat ∧ B * powL b k = powL b n.toNat ∧ m = k, ⟨_, n.toNat, 0, 1, by rw [Int.toNat_of_nonneg hn0]; rfl, rfl, by rw [Int.one_mul], rfl⟩, ?_⟩
  rintro k ρ ⟨_, t, B, rfl, e1, e2, rfl⟩
  simp only [vSeq, vNext, vIfS, vRet, vRetN, vSet, vTest, vAnd, vOr, vNot, vAndV, vOrV, vNotV, vIf, vOp, vCall, vCons, vNil, vVar, vC, vTup, vLst, vUse, vAsg, vPar, vNeg, hName, hNil, hCons, hTup, gI, gI0, gEqD, gInD, gIx, gCat, gAbs, gLen, gIsi, gRepr, gStrI, fz_d, fz_ml, fz_pk, fz_reel, fz_vv, pk_d, pk_ml, pk_reel, pk_vv, dat_d, dat_ml, dat_pk, isPk_d, isPk_ml, isPk_reel, dats_nil, dats_d, arg_d, arg_reel, item_l, item_t, len_l, len_t, at0, at1, ite_t, ite_f, vEnds, startV, List.map_cons, List.map_nil, List.length_cons, List.length_nil, List.getElem?_cons_zero, List.getElem?_cons_succ, List.set_cons_zero, List.set_cons_succ, List.replicate, List.cons_append, List.nil_append, List.all_cons, List.all_nil, Bool.and_true, Option.some.injEq, W.d.injEq, W.vv.injEq, V.ty.injEq, List.cons.injEq, PyData.int.injEq, PyData.bool.injEq, PyData.tuple.injEq, PyData.list.injEq, PyData.str.injEq, Option.map_some, and_assoc, exists_eq_left, exists_eq_left', exists_and_left, exists_eq, and_true, true_and, exists_const, shaped_i, eqv_ii, shaped_b, fn1, fn2, gcdP, if_true, rf0, pickP, seq_l, seq_t, gI2, gDivmod, gInt1, vAug, vSlL, oNo, oIt, gCatD, vChain, vLR2, vLR1, vAppPop, gcdN, lowP, i2P, exP, vComp, frEn, W.cap, Option.bind_some, Option.bind_none, Option.join_some, List.set_nil, iL, iT, iR1, iR2, vFor, Option.join, gTupO, gLstO, vMut, gApp, gExt, vWhile, W.isPk, Option.bind, id, Bool.false_eq_true, ↓reduceIte, W.ml.injEq, W.pk.injEq, gEqS, vRevL, iRv, figP, numP, turnP, rowP, vFrz, exD]
  by_cases hk : 0 < k
  · rw [if_pos (by simpa using hk)]
    have d1 : (k : Int).fdiv b = ((k / b.toNat : Nat) : Int) := by rw [fdiv_int (by omega) (by omega), Int.toNat_natCast]
    have d2 : (k : Int).fmod b = ((k % b.toNat : Nat) : Int) := by rw [fmod_int (by omega) (by omega), Int.toNat_natCast]
    obtain ⟨g1, _⟩ := getD_bd ex (Nat.mod_lt k (show 0 < b.toNat by omega))
    refine ⟨.rt (by omega), by omega, .int (p.getD (k % b.toNat) 0), by rw [d2]; exact atI_nat (by rw [List.getElem?_map, g1]; rfl), _, rfl, .rt (by omega), .of (by omega) (by omega), k / b.toNat, Nat.div_lt_self hk (by omega), k / b.toNat, d1, ?_, ?_, rfl⟩
    · rw [← e1, digs_pos (by omega) hk]; rfl
    · rw [← e2]
      unfold powL
      rw [digs_pos (by omega) hk, List.length_cons, Int.pow_succ, Int.mul_comm (b ^ _) b, Int.mul_assoc]
  · rw [if_neg (by simpa using hk)]
    have : k = 0 := by omega
    subst this
    rw [digs_zero] at e1
    have e2 : B = powL b n.toNat := by rw [← e2]; simp [powL, digs_zero]
    have e1 : t = topOf b p n.toNat := e1
    subst e1 e2
    exact ⟨by decide, q⟩
theorem sc_law : FnScope ["_law_script", "_law_feed_here", "_law_turn", "_law_base", "_law_exchange_here", "_law_met", "_law_k", "_law_n", "_law_top", "_law_bottom", "_law_found"] ["_law_script"] (defScope (top 18)) := ⟨rfl, rfl, rfl, by decide +kernel, rfl, by decide +kernel, by decide +kernel⟩
def lawEnds : VEnds := ⟨fun _ => False, fun w => w = .d (.bool true), fun _ => False, fun _ => False⟩
theorem law_rest (Z : Bz mg) (d__law_exchange : Dfn P w K mg base rl "_law_exchange" ["_law_feed_here", "_law_base"] 2 exP) (d__law_draw : Dfn P w K mg base rl "_law_draw" ["_law_feed_here", "_law_many"] 1 pickP) (d__law_turned : Dfn P w K mg base rl "_law_turned" ["_law_base", "_law_exchange_here", "_law_n"] 1 (turnP fun b p n => pr (topOf b p n) (powL b n))) (d_turned : DfnT P w K mg base rl "turned" ["base", "exchange", "n"] 3 turnT) (d__law_frac : Dfn P w K mg base rl "_law_frac" ["_law_top", "_law_bottom"] 2 lowP)  {f : Addr} (cdv : Value) (A : Around) (outer : List Env) (s : Shared) (H : Hp) (E : XK) (hr : Room 4 (A.deeper (envOfC "law" (defScope (top 18)) s.heap.objs.size f cdv))) :
    ∃ t, PSsV (cxOf CX0 P w K mg base ["_law_script", "_law_feed_here", "_law_turn", "_law_base", "_law_exchange_here", "_law_met", "_law_k", "_law_n", "_law_top", "_law_bottom", "_law_found"] "law" (defScope (top 18)) f cdv A outer s H E).nox rl ((defBody (top 18)).drop 1) t ∧ t lawEnds [none, some .reel, none, none, none, none, none, none, none, none, none] := by
  have sc := sc_law
  refine ⟨_, (vs_cons (vs_for PassesOwn.never rfl (vi_range1 Z.range_ (pvs_cons pv_int pvs_nil)) (vg_name 2 sc.nd) (vs_cons (vs_set 3 sc.nd (v_add pv_int (v_call d__law_draw (hr.mono (by decide)) (pvs_cons (vn 1) (pvs_cons pv_int pvs_nil)))))
      (vs_cons (vs_set 4 sc.nd (v_call d__law_exchange (hr.mono (by decide)) (pvs_cons (vn 1) (pvs_cons (vn 3) pvs_nil))))
      (vs_cons (vs_set 5 sc.nd v_dict0)
      (vs_cons (vs_for PassesOwn.never rfl (vi_range1 Z.range_ (pvs_cons pv_int pvs_nil)) (vg_name 6 sc.nd) (vs_cons (vs_set 7 sc.nd (v_call d__law_draw (hr.mono (by decide)) (pvs_cons (vn 1) (pvs_cons (v_ix (v_lst (pvs_cons pv_int (pvs_cons (vn 3) (pvs_cons (v_mul (vn 3) (vn 3)) (pvs_cons pv_int (pvs_cons (v_pow pv_int pv_int) (pvs_cons (v_add (v_pow pv_int pv_int) pv_int) pvs_nil))))))) (v_call d__law_draw (hr.mono (by decide)) (pvs_cons (vn 1) (pvs_cons pv_int pvs_nil)))) pvs_nil))))
      (vs_cons (vs_asg (v_call d__law_turned (hr.mono (by decide)) (pvs_cons (vn 3) (pvs_cons (vn 4) (pvs_cons (vn 7) pvs_nil)))) (vg_tup (n := 2) rfl (vgs_cons (vg_name 8 sc.nd) (vgs_cons (vg_name 9 sc.nd) vgs_nil))))
      (vs_cons (vs_set 10 sc.nd (v_callT d_turned (hr.mono (by decide)) (pvs_cons (vn 3) (pvs_cons (vn 4) (pvs_cons (vn 7) pvs_nil)))))
      (vs_cons (vs_if (PBW.pb (vb_or (vb_cmp op_ne vo_neS (nomark _) (v_repr (hr.mono (Nat.zero_le _)) Z.repr_ (pvs_cons (vn 10) pvs_nil)) (v_repr (hr.mono (Nat.zero_le _)) Z.repr_ (pvs_cons (v_call d__law_frac (hr.mono (by decide)) (pvs_cons (vn 8) (pvs_cons (vn 9) pvs_nil))) pvs_nil))) (vb_or1 (vb_not (vb_chain op_le op_lt pv_int (v_ix (vn 10) pv_int) (v_ix (vn 10) pv_int)))))) (vs_one (vs_ret pv_bl)) vs_nil)
      (vs_cons (vs_if (vb_cmp (op_neD hr.units) vo_eqD (nomark _) (v_dget 5 hr.units (vn 10) (vn 7)) (vn 7)) (vs_one (vs_ret pv_bl)) vs_nil)
      (vs_one (vs_dput 5 hr.units (vn 10) (vn 7)))))))))
      (vs_one (vs_if (vb_cmp op_ne vo_neS (nomark _) (v_repr (hr.mono (Nat.zero_le _)) Z.repr_ (pvs_cons (v_callT d_turned (hr.mono (by decide)) (pvs_cons (vn 3) (pvs_cons (vn 4) (pvs_cons pv_int pvs_nil)))) pvs_nil)) pv_str) (vs_one (vs_ret pv_bl)) vs_nil)))))))
      (vs_one (vs_ret pv_bl))), ?_⟩
  simp only [vSeq, vNext, vIfS, vRet, vRetN, vSet, vTest, vAnd, vOr, vNot, vAndV, vOrV, vNotV, vIf, vOp, vCall, vCons, vNil, vVar, vC, vTup, vLst, vUse, vAsg, vPar, vNeg, hName, hNil, hCons, hTup, gI, gI0, gEqD, gInD, gIx, gCat, gAbs, gLen, gIsi, gRepr, gStrI, fz_d, fz_ml, fz_pk, fz_reel, fz_vv, pk_d, pk_ml, pk_reel, pk_vv, dat_d, dat_ml, dat_pk, isPk_d, isPk_ml, isPk_reel, dats_nil, dats_d, arg_d, arg_reel, item_l, item_t, len_l, len_t, at0, at1, ite_t, ite_f, vEnds, startV, List.map_cons, List.map_nil, List.length_cons, List.length_nil, List.getElem?_cons_zero, List.getElem?_cons_succ, List.set_cons_zero, List.set_cons_succ, List.replicate, List.cons_append, List.nil_append, List.all_cons, List.all_nil, Bool.and_true, Option.some.injEq, W.d.injEq, W.vv.injEq, V.ty.injEq, List.cons.injEq, PyData.int.injEq, PyData.bool.injEq, PyData.tuple.injEq, PyData.list.injEq, PyData.str.injEq, Option.map_some, and_assoc, exists_eq_left, exists_eq_left', exists_and_left, exists_eq, and_true, true_and, exists_const, shaped_i, eqv_ii, shaped_b, fn1, fn2, gcdP, if_true, rf0, pickP, seq_l, seq_t, gI2, gDivmod, gInt1, vAug, vSlL, oNo, oIt, gCatD, vChain, vLR2, vLR1, vAppPop, gcdN, lowP, i2P, exP, vComp, frEn, W.cap, Option.bind_some, Option.bind_none, Option.join_some, List.set_nil, iL, iT, iR1, iR2, vFor, Option.join, gTupO, gLstO, vMut, gApp, gExt, vWhile, W.isPk, Option.bind, id, Bool.false_eq_true, ↓reduceIte, W.ml.injEq, W.pk.injEq, gEqS, vRevL, iRv, figP, numP, turnP, rowP, vFrz, lowT, turnT, vUseT, tEnds, vTupN, vDict0, vDGet, vDPut, fz_nt, pk_nt, dat_nt, isPk_nt, isPk_md, W.nt.injEq, lawEnds]
  repeat (first | refine And.intro (by decide) ?_ | refine And.intro (by omega) ?_ | refine And.intro (show CPow _ _ from ⟨by decide, by decide, by decide⟩) ?_)
  have sz := PySem.sizeLine_eq
  refine vLoop_range (fun i ρ => ∃ o2 o3 o4 o5 o6 o7 o8 o9 o10, ρ = [none, some .reel, o2, o3, o4, o5, o6, o7, o8, o9, o10]) ⟨_, _, _, _, _, _, _, _, _, rfl⟩ ?_ ?_
  · rintro i ρ hi ⟨o2, o3, o4, o5, o6, o7, o8, o9, o10, rfl⟩
    simp only [vSeq, vNext, vIfS, vRet, vRetN, vSet, vTest, vAnd, vOr, vNot, vAndV, vOrV, vNotV, vIf, vOp, vCall, vCons, vNil, vVar, vC, vTup, vLst, vUse, vAsg, vPar, vNeg, hName, hNil, hCons, hTup, gI, gI0, gEqD, gInD, gIx, gCat, gAbs, gLen, gIsi, gRepr, gStrI, fz_d, fz_ml, fz_pk, fz_reel, fz_vv, pk_d, pk_ml, pk_reel, pk_vv, dat_d, dat_ml, dat_pk, isPk_d, isPk_ml, isPk_reel, dats_nil, dats_d, arg_d, arg_reel, item_l, item_t, len_l, len_t, at0, at1, ite_t, ite_f, vEnds, startV, List.map_cons, List.map_nil, List.length_cons, List.length_nil, List.getElem?_cons_zero, List.getElem?_cons_succ, List.set_cons_zero, List.set_cons_succ, List.replicate, List.cons_append, List.nil_append, List.all_cons, List.all_nil, Bool.and_true, Option.some.injEq, W.d.injEq, W.vv.injEq, V.ty.injEq, List.cons.injEq, PyData.int.injEq, PyData.bool.injEq, PyData.tuple.injEq, PyData.list.injEq, PyData.str.injEq, Option.map_some, and_assoc, exists_eq_left, exists_eq_left', exists_and_left, exists_eq, and_true, true_and, exists_const, shaped_i, eqv_ii, shaped_b, fn1, fn2, gcdP, if_true, rf0, pickP, seq_l, seq_t, gI2, gDivmod, gInt1, vAug, vSlL, oNo, oIt, gCatD, vChain, vLR2, vLR1, vAppPop, gcdN, lowP, i2P, exP, vComp, frEn, W.cap, Option.bind_some, Option.bind_none, Option.join_some, List.set_nil, iL, iT, iR1, iR2, vFor, Option.join, gTupO, gLstO, vMut, gApp, gExt, vWhile, W.isPk, Option.bind, id, Bool.false_eq_true, ↓reduceIte, W.ml.injEq, W.pk.injEq, gEqS, vRevL, iRv, figP, numP, turnP, rowP, vFrz, lowT, turnT, vUseT, tEnds, vTupN, vDict0, vDGet, vDPut, fz_nt, pk_nt, dat_nt, isPk_nt, isPk_md, W.nt.injEq]
    repeat (first | refine And.intro (by decide) ?_ | refine And.intro (by omega) ?_ | refine And.intro (show CPow _ _ from ⟨by decide, by decide, by decide⟩) ?_)
    intro bk bk0 bk1
    repeat (first | refine And.intro (by decide) ?_ | refine And.intro (by omega) ?_ | refine And.intro (show CPow _ _ from ⟨by decide, by decide, by decide⟩) ?_)
    intro p hp
    repeat (first | refine And.intro (by decide) ?_ | refine And.intro (by omega) ?_ | refine And.intro (show CPow _ _ from ⟨by decide, by decide, by decide⟩) ?_)
    refine vLoop_range (fun j ρ => ∃ kvs : List (List Key × PyData), (kvs.length ≤ j ∧ Met (2 + bk) p kvs) ∧ ∃ o2 o6 o7 o8 o9 o10, ρ = [none, some .reel, o2, some (.d (.int (2 + bk))), some (.d (exD p)), some (.md kvs), o6, o7, o8, o9, o10]) ⟨[], ⟨Nat.le_refl _, fun _ h => by simp at h⟩, _, _, _, _, _, _, rfl⟩ ?_ ?_
    · rintro j ρ hj ⟨kvs, ⟨hkl, hm⟩, o2, o6, o7, o8, o9, o10, rfl⟩
      simp only [vSeq, vNext, vIfS, vRet, vRetN, vSet, vTest, vAnd, vOr, vNot, vAndV, vOrV, vNotV, vIf, vOp, vCall, vCons, vNil, vVar, vC, vTup, vLst, vUse, vAsg, vPar, vNeg, hName, hNil, hCons, hTup, gI, gI0, gEqD, gInD, gIx, gCat, gAbs, gLen, gIsi, gRepr, gStrI, fz_d, fz_ml, fz_pk, fz_reel, fz_vv, pk_d, pk_ml, pk_reel, pk_vv, dat_d, dat_ml, dat_pk, isPk_d, isPk_ml, isPk_reel, dats_nil, dats_d, arg_d, arg_reel, item_l, item_t, len_l, len_t, at0, at1, ite_t, ite_f, vEnds, startV, List.map_cons, List.map_nil, List.length_cons, List.length_nil, List.getElem?_cons_zero, List.getElem?_cons_succ, List.set_cons_zero, List.set_cons_succ, List.replicate, List.cons_append, List.nil_append, List.all_cons, List.all_nil, Bool.and_true, Option.some.injEq, W.d.injEq, W.vv.injEq, V.ty.injEq, List.cons.injEq, PyData.int.injEq, PyData.bool.injEq, PyData.tuple.injEq, PyData.list.injEq, PyData.str.injEq, Option.map_some, and_assoc, exists_eq_left, exists_eq_left', exists_and_left, exists_eq, and_true, true_and, exists_const, shaped_i, eqv_ii, shaped_b, fn1, fn2, gcdP, if_true, rf0, pickP, seq_l, seq_t, gI2, gDivmod, gInt1, vAug, vSlL, oNo, oIt, gCatD, vChain, vLR2, vLR1, vAppPop, gcdN, lowP, i2P, exP, vComp, frEn, W.cap, Option.bind_some, Option.bind_none, Option.join_some, List.set_nil, iL, iT, iR1, iR2, vFor, Option.join, gTupO, gLstO, vMut, gApp, gExt, vWhile, W.isPk, Option.bind, id, Bool.false_eq_true, ↓reduceIte, W.ml.injEq, W.pk.injEq, gEqS, vRevL, iRv, figP, numP, turnP, rowP, vFrz, lowT, turnT, vUseT, tEnds, vTupN, vDict0, vDGet, vDPut, fz_nt, pk_nt, dat_nt, isPk_nt, isPk_md, W.nt.injEq]
      have e6 : (10 : Int) ^ Int.toNat 6 = 1000000 := by decide
      have e9 : (10 : Int) ^ Int.toNat 9 = 1000000000 := by decide
      have q1 : 0 < (2 + bk) * (2 + bk) := Int.mul_pos (by omega) (by omega)
      have q2 : (2 + bk) * (2 + bk) ≤ 16 * 16 := Int.mul_le_mul (by omega) (by omega) (by omega) (by omega)
      refine ⟨.rt (by omega), ⟨by decide, by decide, by decide⟩, ⟨by decide, by decide, by decide⟩, by omega, by omega, by omega, fun r r0 r1 => ?_⟩
      refine at_use r0 (by simpa using r1) fun z mz => ?_
      obtain ⟨M, rfl, m1, m2⟩ : ∃ m : Int, z = .int m ∧ 1 ≤ m ∧ m ≤ 2000000000 := by
        simp only [List.mem_cons, List.not_mem_nil, or_false] at mz
        rcases mz with rfl | rfl | rfl | rfl | rfl | rfl <;> exact ⟨_, rfl, by omega, by omega⟩
      refine ⟨M, rfl, by omega, by omega, fun n n0 n1 => ?_⟩
      have hb2 : 2 ≤ 2 + bk := by omega
      have hb16 : 2 + bk ≤ 16 := by omega
      obtain ⟨t0, t1⟩ := top_bd hb2 hp n.toNat
      obtain ⟨w0, w1⟩ := powL_bd (n := n.toNat) hb2 hb16
      refine ⟨p, rfl, hb2, hb16, hp, n0, by omega, _, rfl, rfl, _, _, rfl, _, _, rfl, rfl, p, rfl, hb2, hb16, hp, n0, by omega, ?_⟩
      have sh : Shw (.tuple (lowL (topOf (2 + bk) p n.toNat) (powL (2 + bk) n.toNat))) := shw_low (Nat.lt_of_lt_of_le (show _ < 2 ^ 100 by omega) (Nat.pow_le_pow_right (by decide) (by decide))) (Nat.lt_of_lt_of_le (show _ < 2 ^ 100 by omega) (Nat.pow_le_pow_right (by decide) (by decide)))
      refine ⟨sh, _, rfl, _, rfl, by omega, Nat.lt_of_lt_of_le (show _ < 2 ^ 100 by omega) (Nat.pow_le_pow_right (by decide) (by decide)), sh, ?_⟩
      rw [lowD_L, if_neg (by simp)]
      obtain ⟨l0, l1⟩ := low_lt t0 t1
      refine ⟨_, at0 _ _, _, rfl, ?_⟩
      rw [if_pos (by simpa using l0)]
      refine ⟨_, at1 _ _ _, _, rfl, ?_⟩
      rw [if_neg (by simpa using l1)]
      refine ⟨kvs, rfl, _, lowL_key _ _, ?_⟩
      have en : PyData.int n = .int (n.toNat : Int) := by rw [Int.toNat_of_nonneg n0]
      have gt : (valD kvs (lowK (topOf (2 + bk) p n.toNat) (powL (2 + bk) n.toNat))).getD (.int n) = .int n := by rw [en]; exact hm.get hb2 hb16 hp _
      rw [gt]
      refine ⟨rfl, ?_⟩
      rw [if_neg (by simp [eqv_ii])]
      refine ⟨kvs, rfl, _, lowL_key _ _, by omega, _, Nat.le_trans (putD_len _ _ _) (by omega), ?_, rfl, _, rfl⟩
      rw [en]
      exact hm.put _
    · rintro ρ ⟨kvs, ⟨hkl, hm⟩, o2, o6, o7, o8, o9, o10, rfl⟩
      simp only [vSeq, vNext, vIfS, vRet, vRetN, vSet, vTest, vAnd, vOr, vNot, vAndV, vOrV, vNotV, vIf, vOp, vCall, vCons, vNil, vVar, vC, vTup, vLst, vUse, vAsg, vPar, vNeg, hName, hNil, hCons, hTup, gI, gI0, gEqD, gInD, gIx, gCat, gAbs, gLen, gIsi, gRepr, gStrI, fz_d, fz_ml, fz_pk, fz_reel, fz_vv, pk_d, pk_ml, pk_reel, pk_vv, dat_d, dat_ml, dat_pk, isPk_d, isPk_ml, isPk_reel, dats_nil, dats_d, arg_d, arg_reel, item_l, item_t, len_l, len_t, at0, at1, ite_t, ite_f, vEnds, startV, List.map_cons, List.map_nil, List.length_cons, List.length_nil, List.getElem?_cons_zero, List.getElem?_cons_succ, List.set_cons_zero, List.set_cons_succ, List.replicate, List.cons_append, List.nil_append, List.all_cons, List.all_nil, Bool.and_true, Option.some.injEq, W.d.injEq, W.vv.injEq, V.ty.injEq, List.cons.injEq, PyData.int.injEq, PyData.bool.injEq, PyData.tuple.injEq, PyData.list.injEq, PyData.str.injEq, Option.map_some, and_assoc, exists_eq_left, exists_eq_left', exists_and_left, exists_eq, and_true, true_and, exists_const, shaped_i, eqv_ii, shaped_b, fn1, fn2, gcdP, if_true, rf0, pickP, seq_l, seq_t, gI2, gDivmod, gInt1, vAug, vSlL, oNo, oIt, gCatD, vChain, vLR2, vLR1, vAppPop, gcdN, lowP, i2P, exP, vComp, frEn, W.cap, Option.bind_some, Option.bind_none, Option.join_some, List.set_nil, iL, iT, iR1, iR2, vFor, Option.join, gTupO, gLstO, vMut, gApp, gExt, vWhile, W.isPk, Option.bind, id, Bool.false_eq_true, ↓reduceIte, W.ml.injEq, W.pk.injEq, gEqS, vRevL, iRv, figP, numP, turnP, rowP, vFrz, lowT, turnT, vUseT, tEnds, vTupN, vDict0, vDGet, vDPut, fz_nt, pk_nt, dat_nt, isPk_nt, isPk_md, W.nt.injEq]
      refine ⟨p, rfl, by omega, by omega, hp, by omega, by omega, ?_⟩
      rw [show Int.toNat 0 = 0 from rfl, top_zero, pow_zero']
      refine ⟨shw_low (by decide) (by decide), ?_⟩
      rw [if_neg (by decide +kernel)]
      exact ⟨_, rfl⟩
  · rintro ρ ⟨o2, o3, o4, o5, o6, o7, o8, o9, o10, rfl⟩
    simp only [vSeq, vNext, vIfS, vRet, vRetN, vSet, vTest, vAnd, vOr, vNot, vAndV, vOrV, vNotV, vIf, vOp, vCall, vCons, vNil, vVar, vC, vTup, vLst, vUse, vAsg, vPar, vNeg, hName, hNil, hCons, hTup, gI, gI0, gEqD, gInD, gIx, gCat, gAbs, gLen, gIsi, gRepr, gStrI, fz_d, fz_ml, fz_pk, fz_reel, fz_vv, pk_d, pk_ml, pk_reel, pk_vv, dat_d, dat_ml, dat_pk, isPk_d, isPk_ml, isPk_reel, dats_nil, dats_d, arg_d, arg_reel, item_l, item_t, len_l, len_t, at0, at1, ite_t, ite_f, vEnds, startV, List.map_cons, List.map_nil, List.length_cons, List.length_nil, List.getElem?_cons_zero, List.getElem?_cons_succ, List.set_cons_zero, List.set_cons_succ, List.replicate, List.cons_append, List.nil_append, List.all_cons, List.all_nil, Bool.and_true, Option.some.injEq, W.d.injEq, W.vv.injEq, V.ty.injEq, List.cons.injEq, PyData.int.injEq, PyData.bool.injEq, PyData.tuple.injEq, PyData.list.injEq, PyData.str.injEq, Option.map_some, and_assoc, exists_eq_left, exists_eq_left', exists_and_left, exists_eq, and_true, true_and, exists_const, shaped_i, eqv_ii, shaped_b, fn1, fn2, gcdP, if_true, rf0, pickP, seq_l, seq_t, gI2, gDivmod, gInt1, vAug, vSlL, oNo, oIt, gCatD, vChain, vLR2, vLR1, vAppPop, gcdN, lowP, i2P, exP, vComp, frEn, W.cap, Option.bind_some, Option.bind_none, Option.join_some, List.set_nil, iL, iT, iR1, iR2, vFor, Option.join, gTupO, gLstO, vMut, gApp, gExt, vWhile, W.isPk, Option.bind, id, Bool.false_eq_true, ↓reduceIte, W.ml.injEq, W.pk.injEq, gEqS, vRevL, iRv, figP, numP, turnP, rowP, vFrz, lowT, turnT, vUseT, tEnds, vTupN, vDict0, vDGet, vDPut, fz_nt, pk_nt, dat_nt, isPk_nt, isPk_md, W.nt.injEq]
theorem slot0 {j : Nat} {w : W} (h : ([none, some .reel, none, none, none, none, none, none, none, none, none] : En)[j]? = some (some w)) : j = 1 ∧ w = .reel := by
  rcases j with _ | _ | _ | _ | _ | _ | _ | _ | _ | _ | _ | j
  all_goals simp at h
  exact ⟨rfl, h.symm⟩
structure Txt (K : PySem.W.Frag) (mg : Str → Option Value) : Prop where
  bz : Bz mg
  f__law_feed : FnIn K mg "_law_feed" (top 12) ["_law_script"]
  f__law_draw : FnIn K mg "_law_draw" (top 13) ["_law_feed_here", "_law_many"]
  f__law_gcd : FnIn K mg "_law_gcd" (top 14) ["_law_one", "_law_other"]
  f__law_frac : FnIn K mg "_law_frac" (top 15) ["_law_top", "_law_bottom"]
  f_common_divisor : FnIn K mg "common_divisor" (top 4) ["one", "other"]
  f_fraction : FnIn K mg "fraction" (top 5) ["top", "bottom"]
  f__law_exchange : FnIn K mg "_law_exchange" (top 16) ["_law_feed_here", "_law_base"]
  f_power : FnIn K mg "power" (top 7) ["base", "exponent"]
  f_figures_of : FnIn K mg "figures_of" (top 8) ["base", "n"]
  f_number_of : FnIn K mg "number_of" (top 9) ["base", "figures"]
  f_turned : FnIn K mg "turned" (top 10) ["base", "exchange", "n"]
  f__law_turned : FnIn K mg "_law_turned" (top 17) ["_law_base", "_law_exchange_here", "_law_n"]

def spLaw (K : PySem.W.Frag) : Sp := fun vs H Q _ => ∃ (a : Addr) (ns : List Int), vs = [.ref a] ∧ SqL K H a (ns.map V.int) ∧ ns.length ≤ 63 ∧ ∀ H', Q (.bl true) H'
theorem ok_law {f : Addr} {fd : FuncData} (F : Fun K "law" "law" (top 18) f fd) (T : Txt K mg) : FnOk P w K mg base CX0 5 f fd ["_law_script"] (spLaw K) := by
  obtain ⟨fR, fdR, mR, FR, bR⟩ := T.f__law_feed.ex
  have GR : FnOk P w K mg base CX0 1 fR fdR ["_law_script"] (spSrc K) := ok_src FR T.bz
  refine F.ok sc_law (fun vs H Q E h => ?_) (fun cdv A outer s H vs Q E hr h => ?_)
  · obtain ⟨a, ns, rfl, _⟩ := h
    rfl
  · obtain ⟨a, ns, rfl, hS, hl, k⟩ := h
    refine ⟨_, pss_cons (ps_set (i := 1) sc_law.nd rfl (Or.inl rfl) (pe_call GR (hr.mono (by decide)) rfl mR FR.kp bR .nil pass0 (pa_cons (pv 0) pa_nil))) (pss_any _ _), ?_⟩
    refine ⟨_, rfl, a, ns, rfl, hS, hl, fun r F H' hr0 sub ra => ?_⟩
    intro pins s1 I1
    have d__law_draw : Dfn P w K mg base (some r) "_law_draw" ["_law_feed_here", "_law_many"] 1 _ := K37.d__law_draw T.f__law_draw T.bz  
    have d__law_gcd : Dfn P w K mg base (some r) "_law_gcd" ["_law_one", "_law_other"] 1 _ := K37.d__law_gcd T.f__law_gcd T.bz  
    have d__law_frac : Dfn P w K mg base (some r) "_law_frac" ["_law_top", "_law_bottom"] 2 _ := K37.d__law_frac T.f__law_frac T.bz d__law_gcd 
    have d_common_divisor : Dfn P w K mg base (some r) "common_divisor" ["one", "other"] 1 _ := K37.d_common_divisor T.f_common_divisor T.bz  
    have d_fraction : DfnT P w K mg base (some r) "fraction" ["top", "bottom"] 2 _ := K37.d_fraction T.f_fraction T.bz d_common_divisor 
    have d__law_exchange : Dfn P w K mg base (some r) "_law_exchange" ["_law_feed_here", "_law_base"] 2 _ := K37.d__law_exchange T.f__law_exchange T.bz d__law_draw 
    have d_power : Dfn P w K mg base (some r) "power" ["base", "exponent"] 1 _ := K37.d_power T.f_power T.bz  
    have d_figures_of : Dfn P w K mg base (some r) "figures_of" ["base", "n"] 1 _ := K37.d_figures_of T.f_figures_of T.bz  
    have d_number_of : Dfn P w K mg base (some r) "number_of" ["base", "figures"] 1 _ := K37.d_number_of T.f_number_of T.bz  
    have d_turned : DfnT P w K mg base (some r) "turned" ["base", "exchange", "n"] 3 _ := K37.d_turned T.f_turned T.bz d_fraction d_number_of d_power d_figures_of 
    have d__law_turned : Dfn P w K mg base (some r) "_law_turned" ["_law_base", "_law_exchange_here", "_law_n"] 1 _ := K37.d__law_turned T.f__law_turned T.bz  
    obtain ⟨t, ⟨TT, p, kk⟩, q⟩ := law_rest T.bz d__law_exchange d__law_draw d__law_turned d_turned d__law_frac  cdv A outer s H E hr
    refine p pins s1 _ H' _ I1 (kk (F₀ := F) (H₀ := H') (F := F) (ρ := [none, some .reel, none, none, none, none, none, none, none, none, none]) ?_ lawEnds _ ⟨fun _ _ _ _ _ _ z => False.elim z, ?_, fun _ _ _ _ _ _ z => False.elim z, fun _ _ _ _ _ _ z => False.elim z⟩ q)
    · refine ⟨Grow.refl sub ra, fun j w e => ?_, fun j k xs ys v _ e1 _ o1 _ _ _ => ?_, fun j xs e => ?_, rfl⟩
      · obtain ⟨rfl, rfl⟩ := slot0 e
        exact ⟨.ref r, rfl, ⟨r, rfl, rfl⟩, trivial⟩
      · obtain ⟨_, z⟩ := slot0 e1
        rw [z] at o1
        cases o1
      · obtain ⟨_, z⟩ := slot0 e
        cases z
    · rintro v w1 F1 H1 g1 r1 n1 z
      have z : w1 = .d (.bool true) := z
      subst z
      have e := rep_bl r1
      subst e
      exact k H1
end
theorem all_mk {l : PySem.W.OpenLaw} {w : World} {K : PySem.W.Frag} {h : Heap} {mg : Str → Option Value} {fa : Addr} (X : K.In h) (G : h.Ns mainGlobals mg) (hfa : mg "law" = some (.ref fa))
    {f1 f2 f3 f4 f5 f6 f7 f8 f9 f10 f11 f12 f13 : Addr} {od1 an1 od2 an2 od3 an3 od4 an4 od5 an5 od6 an6 od7 an7 od8 an8 od9 an9 od10 an10 od11 an11 od12 an12 od13 an13 : Option Addr} {sl1 sl2 sl3 sl4 sl5 sl6 sl7 sl8 sl9 sl10 sl11 sl12 sl13 : Array (Option Value)} {oc1 kV1 dc1 pm1 cd1 ct1 oc2 kV2 dc2 pm2 cd2 ct2 oc3 kV3 dc3 pm3 cd3 ct3 oc4 kV4 dc4 pm4 cd4 ct4 oc5 kV5 dc5 pm5 cd5 ct5 oc6 kV6 dc6 pm6 cd6 ct6 oc7 kV7 dc7 pm7 cd7 ct7 oc8 kV8 dc8 pm8 cd8 ct8 oc9 kV9 dc9 pm9 cd9 ct9 oc10 kV10 dc10 pm10 cd10 ct10 oc11 kV11 dc11 pm11 cd11 ct11 oc12 kV12 dc12 pm12 cd12 ct12 oc13 kV13 dc13 pm13 cd13 ct13 : Value}
    (a1 : PySem.W.nsIn K mainGlobals "_law_feed" = some (some (.ref f1))) (l1 : K.lookup f1 = some ⟨oc1, od1, .func (PySem.W.fnOf "_law_feed" "_law_feed" (defArgs (top 12)) (defBody (top 12)) (defScope (top 12)) .none kV1 dc1 pm1 an1 cd1 ct1), sl1⟩) (c1 : PySem.W.codeIn K cd1 "_law_feed" = true) (k1 : PySem.W.keepIn K (.ref f1) = true) (a2 : PySem.W.nsIn K mainGlobals "_law_draw" = some (some (.ref f2))) (l2 : K.lookup f2 = some ⟨oc2, od2, .func (PySem.W.fnOf "_law_draw" "_law_draw" (defArgs (top 13)) (defBody (top 13)) (defScope (top 13)) .none kV2 dc2 pm2 an2 cd2 ct2), sl2⟩) (c2 : PySem.W.codeIn K cd2 "_law_draw" = true) (k2 : PySem.W.keepIn K (.ref f2) = true) (a3 : PySem.W.nsIn K mainGlobals "_law_gcd" = some (some (.ref f3))) (l3 : K.lookup f3 = some ⟨oc3, od3, .func (PySem.W.fnOf "_law_gcd" "_law_gcd" (defArgs (top 14)) (defBody (top 14)) (defScope (top 14)) .none kV3 dc3 pm3 an3 cd3 ct3), sl3⟩) (c3 : PySem.W.codeIn K cd3 "_law_gcd" = true) (k3 : PySem.W.keepIn K (.ref f3) = true) (a4 : PySem.W.nsIn K mainGlobals "_law_frac" = some (some (.ref f4))) (l4 : K.lookup f4 = some ⟨oc4, od4, .func (PySem.W.fnOf "_law_frac" "_law_frac" (defArgs (top 15)) (defBody (top 15)) (defScope (top 15)) .none kV4 dc4 pm4 an4 cd4 ct4), sl4⟩) (c4 : PySem.W.codeIn K cd4 "_law_frac" = true) (k4 : PySem.W.keepIn K (.ref f4) = true) (a5 : PySem.W.nsIn K mainGlobals "common_divisor" = some (some (.ref f5))) (l5 : K.lookup f5 = some ⟨oc5, od5, .func (PySem.W.fnOf "common_divisor" "common_divisor" (defArgs (top 4)) (defBody (top 4)) (defScope (top 4)) .none kV5 dc5 pm5 an5 cd5 ct5), sl5⟩) (c5 : PySem.W.codeIn K cd5 "common_divisor" = true) (k5 : PySem.W.keepIn K (.ref f5) = true) (a6 : PySem.W.nsIn K mainGlobals "fraction" = some (some (.ref f6))) (l6 : K.lookup f6 = some ⟨oc6, od6, .func (PySem.W.fnOf "fraction" "fraction" (defArgs (top 5)) (defBody (top 5)) (defScope (top 5)) .none kV6 dc6 pm6 an6 cd6 ct6), sl6⟩) (c6 : PySem.W.codeIn K cd6 "fraction" = true) (k6 : PySem.W.keepIn K (.ref f6) = true) (a7 : PySem.W.nsIn K mainGlobals "_law_exchange" = some (some (.ref f7))) (l7 : K.lookup f7 = some ⟨oc7, od7, .func (PySem.W.fnOf "_law_exchange" "_law_exchange" (defArgs (top 16)) (defBody (top 16)) (defScope (top 16)) .none kV7 dc7 pm7 an7 cd7 ct7), sl7⟩) (c7 : PySem.W.codeIn K cd7 "_law_exchange" = true) (k7 : PySem.W.keepIn K (.ref f7) = true) (a8 : PySem.W.nsIn K mainGlobals "power" = some (some (.ref f8))) (l8 : K.lookup f8 = some ⟨oc8, od8, .func (PySem.W.fnOf "power" "power" (defArgs (top 7)) (defBody (top 7)) (defScope (top 7)) .none kV8 dc8 pm8 an8 cd8 ct8), sl8⟩) (c8 : PySem.W.codeIn K cd8 "power" = true) (k8 : PySem.W.keepIn K (.ref f8) = true) (a9 : PySem.W.nsIn K mainGlobals "figures_of" = some (some (.ref f9))) (l9 : K.lookup f9 = some ⟨oc9, od9, .func (PySem.W.fnOf "figures_of" "figures_of" (defArgs (top 8)) (defBody (top 8)) (defScope (top 8)) .none kV9 dc9 pm9 an9 cd9 ct9), sl9⟩) (c9 : PySem.W.codeIn K cd9 "figures_of" = true) (k9 : PySem.W.keepIn K (.ref f9) = true) (a10 : PySem.W.nsIn K mainGlobals "number_of" = some (some (.ref f10))) (l10 : K.lookup f10 = some ⟨oc10, od10, .func (PySem.W.fnOf "number_of" "number_of" (defArgs (top 9)) (defBody (top 9)) (defScope (top 9)) .none kV10 dc10 pm10 an10 cd10 ct10), sl10⟩) (c10 : PySem.W.codeIn K cd10 "number_of" = true) (k10 : PySem.W.keepIn K (.ref f10) = true) (a11 : PySem.W.nsIn K mainGlobals "turned" = some (some (.ref f11))) (l11 : K.lookup f11 = some ⟨oc11, od11, .func (PySem.W.fnOf "turned" "turned" (defArgs (top 10)) (defBody (top 10)) (defScope (top 10)) .none kV11 dc11 pm11 an11 cd11 ct11), sl11⟩) (c11 : PySem.W.codeIn K cd11 "turned" = true) (k11 : PySem.W.keepIn K (.ref f11) = true) (a12 : PySem.W.nsIn K mainGlobals "_law_turned" = some (some (.ref f12))) (l12 : K.lookup f12 = some ⟨oc12, od12, .func (PySem.W.fnOf "_law_turned" "_law_turned" (defArgs (top 17)) (defBody (top 17)) (defScope (top 17)) .none kV12 dc12 pm12 an12 cd12 ct12), sl12⟩) (c12 : PySem.W.codeIn K cd12 "_law_turned" = true) (k12 : PySem.W.keepIn K (.ref f12) = true) (a13 : PySem.W.nsIn K mainGlobals "law" = some (some (.ref f13))) (l13 : K.lookup f13 = some ⟨oc13, od13, .func (PySem.W.fnOf "law" "law" (defArgs (top 18)) (defBody (top 18)) (defScope (top 18)) .none kV13 dc13 pm13 an13 cd13 ct13), sl13⟩) (c13 : PySem.W.codeIn K cd13 "law" = true) (k13 : PySem.W.keepIn K (.ref f13) = true)
    (z_int : PySem.W.nsIn K mainGlobals "int" = some none) (z_bool : PySem.W.nsIn K mainGlobals "bool" = some none) (z_str : PySem.W.nsIn K mainGlobals "str" = some none) (z_list : PySem.W.nsIn K mainGlobals "list" = some none) (z_tuple : PySem.W.nsIn K mainGlobals "tuple" = some none) (z_dict : PySem.W.nsIn K mainGlobals "dict" = some none) (z_isinstance : PySem.W.nsIn K mainGlobals "isinstance" = some none) (z_len : PySem.W.nsIn K mainGlobals "len" = some none) (z_abs : PySem.W.nsIn K mainGlobals "abs" = some none) (z_repr : PySem.W.nsIn K mainGlobals "repr" = some none) (z_range : PySem.W.nsIn K mainGlobals "range" = some none) (z_all : PySem.W.nsIn K mainGlobals "all" = some none) (z_any : PySem.W.nsIn K mainGlobals "any" = some none) (z_sum : PySem.W.nsIn K mainGlobals "sum" = some none) (z_min : PySem.W.nsIn K mainGlobals "min" = some none) (z_max : PySem.W.nsIn K mainGlobals "max" = some none) (z_sorted : PySem.W.nsIn K mainGlobals "sorted" = some none) (z_zip : PySem.W.nsIn K mainGlobals "zip" = some none) (z_enumerate : PySem.W.nsIn K mainGlobals "enumerate" = some none) (z_reversed : PySem.W.nsIn K mainGlobals "reversed" = some none) (z_divmod : PySem.W.nsIn K mainGlobals "divmod" = some none) (z_set : PySem.W.nsIn K mainGlobals "set" = some none)  :
    ∃ fd : FuncData, (∀ (s : Shared) (v : Value), BindsTo s fd ⟨[v], []⟩ [("_law_script", v)]) ∧ ∀ base : Heap, K.In base → base.Ns mainGlobals mg → FnOk l.prog w K mg base CX0 5 fa fd ["_law_script"] (spLaw K) := by
  have e := hfa.symm.trans (PySem.W.mg_of X G a13)
  cases e
  have B : Bz mg := ⟨PySem.W.mg_none_of X G z_int, PySem.W.mg_none_of X G z_bool, PySem.W.mg_none_of X G z_str, PySem.W.mg_none_of X G z_list, PySem.W.mg_none_of X G z_tuple, PySem.W.mg_none_of X G z_dict, PySem.W.mg_none_of X G z_isinstance, PySem.W.mg_none_of X G z_len, PySem.W.mg_none_of X G z_abs, PySem.W.mg_none_of X G z_repr, PySem.W.mg_none_of X G z_range, PySem.W.mg_none_of X G z_all, PySem.W.mg_none_of X G z_any, PySem.W.mg_none_of X G z_sum, PySem.W.mg_none_of X G z_min, PySem.W.mg_none_of X G z_max, PySem.W.mg_none_of X G z_sorted, PySem.W.mg_none_of X G z_zip, PySem.W.mg_none_of X G z_enumerate, PySem.W.mg_none_of X G z_reversed, PySem.W.mg_none_of X G z_divmod, PySem.W.mg_none_of X G z_set⟩
  have T : Txt K mg := ⟨B, ⟨⟨f1, _, PySem.W.mg_of X G a1, fun_mk (st := top 12) l1 c1 k1, (fun_mk (st := top 12) l1 c1 k1).binds (ps := ["_law_script"]) fun _ _ _ _ _ _ us hl => match us, hl with | [_], _ => rfl⟩⟩, ⟨⟨f2, _, PySem.W.mg_of X G a2, fun_mk (st := top 13) l2 c2 k2, (fun_mk (st := top 13) l2 c2 k2).binds (ps := ["_law_feed_here", "_law_many"]) fun _ _ _ _ _ _ us hl => match us, hl with | [_, _], _ => rfl⟩⟩, ⟨⟨f3, _, PySem.W.mg_of X G a3, fun_mk (st := top 14) l3 c3 k3, (fun_mk (st := top 14) l3 c3 k3).binds (ps := ["_law_one", "_law_other"]) fun _ _ _ _ _ _ us hl => match us, hl with | [_, _], _ => rfl⟩⟩, ⟨⟨f4, _, PySem.W.mg_of X G a4, fun_mk (st := top 15) l4 c4 k4, (fun_mk (st := top 15) l4 c4 k4).binds (ps := ["_law_top", "_law_bottom"]) fun _ _ _ _ _ _ us hl => match us, hl with | [_, _], _ => rfl⟩⟩, ⟨⟨f5, _, PySem.W.mg_of X G a5, fun_mk (st := top 4) l5 c5 k5, (fun_mk (st := top 4) l5 c5 k5).binds (ps := ["one", "other"]) fun _ _ _ _ _ _ us hl => match us, hl with | [_, _], _ => rfl⟩⟩, ⟨⟨f6, _, PySem.W.mg_of X G a6, fun_mk (st := top 5) l6 c6 k6, (fun_mk (st := top 5) l6 c6 k6).binds (ps := ["top", "bottom"]) fun _ _ _ _ _ _ us hl => match us, hl with | [_, _], _ => rfl⟩⟩, ⟨⟨f7, _, PySem.W.mg_of X G a7, fun_mk (st := top 16) l7 c7 k7, (fun_mk (st := top 16) l7 c7 k7).binds (ps := ["_law_feed_here", "_law_base"]) fun _ _ _ _ _ _ us hl => match us, hl with | [_, _], _ => rfl⟩⟩, ⟨⟨f8, _, PySem.W.mg_of X G a8, fun_mk (st := top 7) l8 c8 k8, (fun_mk (st := top 7) l8 c8 k8).binds (ps := ["base", "exponent"]) fun _ _ _ _ _ _ us hl => match us, hl with | [_, _], _ => rfl⟩⟩, ⟨⟨f9, _, PySem.W.mg_of X G a9, fun_mk (st := top 8) l9 c9 k9, (fun_mk (st := top 8) l9 c9 k9).binds (ps := ["base", "n"]) fun _ _ _ _ _ _ us hl => match us, hl with | [_, _], _ => rfl⟩⟩, ⟨⟨f10, _, PySem.W.mg_of X G a10, fun_mk (st := top 9) l10 c10 k10, (fun_mk (st := top 9) l10 c10 k10).binds (ps := ["base", "figures"]) fun _ _ _ _ _ _ us hl => match us, hl with | [_, _], _ => rfl⟩⟩, ⟨⟨f11, _, PySem.W.mg_of X G a11, fun_mk (st := top 10) l11 c11 k11, (fun_mk (st := top 10) l11 c11 k11).binds (ps := ["base", "exchange", "n"]) fun _ _ _ _ _ _ us hl => match us, hl with | [_, _, _], _ => rfl⟩⟩, ⟨⟨f12, _, PySem.W.mg_of X G a12, fun_mk (st := top 17) l12 c12 k12, (fun_mk (st := top 17) l12 c12 k12).binds (ps := ["_law_base", "_law_exchange_here", "_law_n"]) fun _ _ _ _ _ _ us hl => match us, hl with | [_, _, _], _ => rfl⟩⟩⟩
  have FL := fun_mk (st := top 18) l13 c13 k13
  exact ⟨_, fun s v => .of_eq rfl, fun base _ _ => ok_law FL T⟩
theorem walk {l : PySem.W.OpenLaw} {q : Program} {loose : List Str} {XP : (Str → Option Value) → Heap → Prop} {YP : World → Heap → Prop} {d : DefRec} {K : Params → PySem.W.Frag} (hn : l.most = some 63) (hdf : d.params.defaults = [])
    (hY : ∀ (w : World) (h : Heap), YP w h → (K w.params).In h)
    (F : ∀ (w : World) (mg : Str → Option Value) (fa : Addr) (h : Heap), (K w.params).In h → h.Ns mainGlobals mg → mg d.name = some (.ref fa) →
      ∃ fd : FuncData, (∀ (s : Shared) (u : Value), BindsTo s fd ⟨[u], []⟩ [("_law_script", u)]) ∧ ∀ base : Heap, (K w.params).In base → base.Ns mainGlobals mg → FnOk l.prog w (K w.params) mg base CX0 5 fa fd ["_law_script"] (spLaw (K w.params))) :
    PySem.W.WalkO q loose XP YP l.row.toRowW d [] (fun f vs => PySem.call f vs) :=
  L2.walk_of (n := 63) (k := 5) (x := "_law_script") (CX := fun _ => CX0) (sp := fun w => spLaw (K w.params)) hn (by decide) hdf ⟨rfl, by decide, by decide, rfl⟩ hY F (fun _ _ a ns hl _ hS => ⟨a, ns, rfl, hS, hl, fun _ => rfl⟩) fun _ _ _ _ _ z => z
end K37
open PySem PySem.W PyProof.Rows
set_option maxRecDepth 100000 in
set_option maxHeartbeats 0 in
theorem PySem.Challenge.cw_evenpoints_k37_figures_turned_about_holds : PySem.Challenge.rw_evenpoints_k37_figures_turned_about.Holds := by
  w_on; o_law; k_head; (case hw => w_witness2)
  k_fill
  refine K37.walk (l := PySem.Challenge.rw_evenpoints_k37_figures_turned_about) rfl rfl (fun w h Y => PySem.W.kIn_of Y) ?F
  case F =>
    intro w mg fa h KX G hmg
    refine' K37.all_mk KX G hmg ?a1 ?l1 ?c1 ?k1 ?a2 ?l2 ?c2 ?k2 ?a3 ?l3 ?c3 ?k3 ?a4 ?l4 ?c4 ?k4 ?a5 ?l5 ?c5 ?k5 ?a6 ?l6 ?c6 ?k6 ?a7 ?l7 ?c7 ?k7 ?a8 ?l8 ?c8 ?k8 ?a9 ?l9 ?c9 ?k9 ?a10 ?l10 ?c10 ?k10 ?a11 ?l11 ?c11 ?k11 ?a12 ?l12 ?c12 ?k12 ?a13 ?l13 ?c13 ?k13 ?zint ?zbool ?zstr ?zlist ?ztuple ?zdict ?zisinstance ?zlen ?zabs ?zrepr ?zrange ?zall ?zany ?zsum ?zmin ?zmax ?zsorted ?zzip ?zenumerate ?zreversed ?zdivmod ?zset 
    (case a1 => k_is); (case l1 => k_is); (case c1 => k_is); (case k1 => k_is)
    (case a2 => k_is); (case l2 => k_is); (case c2 => k_is); (case k2 => k_is)
    (case a3 => k_is); (case l3 => k_is); (case c3 => k_is); (case k3 => k_is)
    (case a4 => k_is); (case l4 => k_is); (case c4 => k_is); (case k4 => k_is)
    (case a5 => k_is); (case l5 => k_is); (case c5 => k_is); (case k5 => k_is)
    (case a6 => k_is); (case l6 => k_is); (case c6 => k_is); (case k6 => k_is)
    (case a7 => k_is); (case l7 => k_is); (case c7 => k_is); (case k7 => k_is)
    (case a8 => k_is); (case l8 => k_is); (case c8 => k_is); (case k8 => k_is)
    (case a9 => k_is); (case l9 => k_is); (case c9 => k_is); (case k9 => k_is)
    (case a10 => k_is); (case l10 => k_is); (case c10 => k_is); (case k10 => k_is)
    (case a11 => k_is); (case l11 => k_is); (case c11 => k_is); (case k11 => k_is)
    (case a12 => k_is); (case l12 => k_is); (case c12 => k_is); (case k12 => k_is)
    (case a13 => k_is); (case l13 => k_is); (case c13 => k_is); (case k13 => k_is)
    (case zint => k_is)
    (case zbool => k_is)
    (case zstr => k_is)
    (case zlist => k_is)
    (case ztuple => k_is)
    (case zdict => k_is)
    (case zisinstance => k_is)
    (case zlen => k_is)
    (case zabs => k_is)
    (case zrepr => k_is)
    (case zrange => k_is)
    (case zall => k_is)
    (case zany => k_is)
    (case zsum => k_is)
    (case zmin => k_is)
    (case zmax => k_is)
    (case zsorted => k_is)
    (case zzip => k_is)
    (case zenumerate => k_is)
    (case zreversed => k_is)
    (case zdivmod => k_is)
    (case zset => k_is)

