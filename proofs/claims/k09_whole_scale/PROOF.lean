import PyProof.Rows.All
import Wide.All
import OpenK.AllK
import Wide.FinOn
import Lean
import PyProof.EqAt
import PyProof.EqKinds
import PyProof.TupleCall
import PySem.Challenge.RW_fewstones_k09_whole_scale
set_option Elab.async false
set_option linter.all false
set_option maxRecDepth 100000
/-! THE HAND LAYER, for ints, bools, texts, own classes, LISTS and tuples (index, slices, in, append, pop ..), calls, loops. Paste it whole ahead of your own text; what your proof does not reach may be deleted. -/
namespace L2
open PySem PySem.Spec PyProof.Rows

/-- a key: an int or a str -/
abbrev Key := Sum Int Str
def keyIs : Key → Value → Bool
  | .inl k, v => Value.isInt k v
  | .inr x, v => Value.isStrOf x v
def keyH (w : World) : Key → Int
  | .inl k => hashInt k
  | .inr x => hashStr w x
theorem keyIs_shape : ∀ {k : Key} {v : Value}, keyIs k v = true → (∃ i t, k = Sum.inl i ∧ v = Value.int i t) ∨ (∃ x t, k = Sum.inr x ∧ v = Value.str x t)
  | .inl i, v, h => by
    obtain ⟨t, e⟩ := Value.isInt_shape (k := i) (v := v) h
    exact .inl ⟨i, t, rfl, e⟩
  | .inr x, v, h => by
    obtain ⟨t, e⟩ := Value.isStrOf_shape (x := x) (v := v) h
    exact .inr ⟨x, t, rfl, e⟩
theorem keyIs_int (i : Int) (t : Tok) : keyIs (.inl i) (.int i t) = true := by simp [keyIs, Value.isInt]
theorem keyIs_str (x : Str) (t : Tok) : keyIs (.inr x) (.str x t) = true := by simp [keyIs, Value.isStrOf]
theorem key_ll (a b : Int) : decide ((Sum.inl a : Key) = Sum.inl b) = (a == b) := by
  by_cases e : a = b
  · subst e; simp
  · have h : ¬ (Sum.inl a : Key) = Sum.inl b := fun q => e (Sum.inl.inj q)
    rw [decide_eq_false h]
    exact (beq_eq_false_iff_ne.mpr e).symm
theorem key_rr (a b : Str) : decide ((Sum.inr a : Key) = Sum.inr b) = decide (a = b) := by
  by_cases e : a = b
  · subst e; simp
  · have h : ¬ (Sum.inr a : Key) = Sum.inr b := fun q => e (Sum.inr.inj q)
    rw [decide_eq_false h, decide_eq_false e]
theorem key_lr (a : Int) (b : Str) : decide ((Sum.inl a : Key) = Sum.inr b) = false := decide_eq_false (fun q => nomatch q)
theorem key_rl (a : Str) (b : Int) : decide ((Sum.inr a : Key) = Sum.inl b) = false := decide_eq_false (fun q => nomatch q)

def mixKind (prog : Program) (w : World) : PySem.KeyKind prog w Key where
  is := keyIs
  hash := keyH w
  inj := fun v a b ha hb => by
    rcases keyIs_shape ha with ⟨i, t, rfl, rfl⟩ | ⟨x, t, rfl, rfl⟩
    · rcases keyIs_shape hb with ⟨j, u, rfl, e⟩ | ⟨y, u, rfl, e⟩
      · injection e with e1 _; rw [e1]
      · exact nomatch e
    · rcases keyIs_shape hb with ⟨j, u, rfl, e⟩ | ⟨y, u, rfl, e⟩
      · exact nomatch e
      · injection e with e1 _; rw [e1]
  byValue := fun k v h => by
    rcases keyIs_shape h with ⟨i, t, rfl, rfl⟩ | ⟨x, t, rfl, rfl⟩ <;> rfl
  pyHash := fun hv h => by
    rcases keyIs_shape hv with ⟨i, t, rfl, rfl⟩ | ⟨x, t, rfl, rfl⟩
    · exact wpAny_pyHash_int h
    · exact wpAny_pyHash_str h
  eqBool := fun hu hv h => by
    rcases keyIs_shape hu with ⟨i, t, rfl, rfl⟩ | ⟨x, t, rfl, rfl⟩
    · rcases keyIs_shape hv with ⟨j, u, rfl, rfl⟩ | ⟨y, u, rfl, rfl⟩
      · rw [key_ll] at h; exact wpAny_eqBool_int h
      · rw [key_lr] at h; exact SeqAt.EqAt.int_str i t y u _ _ _ _ h
    · rcases keyIs_shape hv with ⟨j, u, rfl, rfl⟩ | ⟨y, u, rfl, rfl⟩
      · rw [key_rl] at h; exact SeqAt.EqAt.str_int x t j u _ _ _ _ h
      · rw [key_rr] at h; exact wpAny_eqBool_str h
  «strs» := fun k x t v h => by
    rcases keyIs_shape h with ⟨i, u, rfl, e⟩ | ⟨y, u, rfl, e⟩
    · exact nomatch e
    · injection e with e1 _
      subst e1
      cases v <;> rfl

theorem mixKind_is (prog : Program) (w : World) (k : Key) (v : Value) : (mixKind prog w).is k v = keyIs k v := rfl
theorem mixKind_int (prog : Program) (w : World) (i : Int) (t : Tok) : (mixKind prog w).is (.inl i) (.int i t) = true := keyIs_int i t
theorem mixKind_str (prog : Program) (w : World) (x : Str) (t : Tok) : (mixKind prog w).is (.inr x) (.str x t) = true := keyIs_str x t
end L2

namespace L2
open PySem PySem.Spec PyProof.Rows

/-- a value, without the heap -/
inductive V where
  | non | bl (b : Bool) | int (i : Int) | str (x : Str) | byt (b : Array UInt8) | flt (b : UInt64) | ref (a : Addr) | ty (n : String)
  deriving DecidableEq

def RelV : V → Value → Prop
  | .non, u => u = Value.none
  | .bl b, u => u = Value.bool b
  | .int i, u => ∃ t, u = Value.int i t
  | .str x, u => ∃ t, u = Value.str x t
  | .byt b, u => ∃ t, u = Value.bytes b t
  | .flt b, u => ∃ t, u = Value.float b t
  | .ref a, u => u = Value.ref a
  | .ty n, u => u = Value.type n

abbrev Vals : List V → List Value → Prop := Paired RelV
theorem Vals.length {xs : List V} {us : List Value} (r : Vals xs us) : xs.length = us.length := Paired.length r
theorem Vals.get : ∀ {xs : List V} {us : List Value} {i : Nat} {x : V}, Vals xs us → xs[i]? = some x → ∃ u, us[i]? = some u ∧ RelV x u
  | _, _, _, _, .nil, e => by simp at e
  | _, _, 0, _, .cons r _, e => by simp at e; subst e; exact ⟨_, rfl, r⟩
  | _, _, i + 1, x, .cons _ t, e => by
    obtain ⟨u, h1, h2⟩ := Vals.get (i := i) (x := x) t (by simpa using e)
    exact ⟨u, by simpa using h1, h2⟩
theorem Vals.set {x : V} {u : Value} (r : RelV x u) : ∀ {xs : List V} {us : List Value} (i : Nat), Vals xs us → Vals (xs.set i x) (us.set i u)
  | _, _, _, .nil => .nil
  | _, _, 0, .cons _ t => .cons r t
  | _, _, i + 1, .cons q t => .cons q (Vals.set r i t)
theorem Vals.append : ∀ {xs ys : List V} {us ws : List Value}, Vals xs us → Vals ys ws → Vals (xs ++ ys) (us ++ ws)
  | _, _, _, _, .nil, s => s
  | _, _, _, _, .cons r t, s => .cons r (Vals.append t s)
theorem Vals.take : ∀ {xs : List V} {us : List Value} (n : Nat), Vals xs us → Vals (xs.take n) (us.take n)
  | _, _, 0, _ => .nil
  | _, _, _ + 1, .nil => .nil
  | _, _, n + 1, .cons r t => .cons r (Vals.take n t)
theorem Vals.drop : ∀ {xs : List V} {us : List Value} (n : Nat), Vals xs us → Vals (xs.drop n) (us.drop n)
  | _, _, 0, r => r
  | _, _, _ + 1, .nil => .nil
  | _, _, n + 1, .cons _ t => Vals.drop n t
theorem Vals.none_of : ∀ {xs : List V} {us : List Value} {i : Nat}, Vals xs us → xs[i]? = none → us[i]? = none := fun {xs us i} r e => by
  have h1 := r.length
  have h2 : xs.length ≤ i := List.getElem?_eq_none_iff.mp e
  exact List.getElem?_eq_none_iff.mpr (by omega)

def RelO : Option V → Option Value → Prop
  | some v, some u => RelV v u
  | none, none => True
  | _, _ => False
def KV {κ : Type} : List (κ × V) → List (κ × Value) → Prop := Paired fun (p : κ × V) (q : κ × Value) => p.1 = q.1 ∧ RelV p.2 q.2

/-- a key of a dict (00_mix): an int or a text -/
def kV : Key → V
  | .inl i => .int i
  | .inr x => .str x

/-- what stands at a tracked address -/
inductive HO where
  /-- a list -/
  | lst (xs : List V)
  /-- a tuple (never changes) -/
  | tup (xs : List V)
  /-- a dict whose keys are ints and texts; one whose keys are tuples of ints and texts (the empty one is both) -/
  | dK (kvs : List (Key × V)) | dT (kvs : List (List Key × V))
  /-- a set of ints: its members, its size -/
  | set (S : Int → Bool) (n : Nat)
  /-- an instance of the class at C, its dict at dx, its attributes -/
  | ins (C dx : Addr) (fs : List (Str × V))
  /-- the dict of the instance at x -/
  | own (x : Addr)
  /-- the dict of an exception -/
  | xd (fs : List (Str × V))
  /-- a bound method, f of x -/
  | met (f x : Addr)
  /-- a range object lo, lo + 1, .. below hi -/
  | rng (lo hi : Int)
  /-- a thing that is known to the object (the script; a dict while a loop walks it): read, never written while it is so -/
  | frz (o : Obj) (u : HO)
  /-- a code object's table -/
  | tbl (ps : Array Value)
  /-- any other thing, by what is true of its one object (a def of one's own: SetO a S n := HO.ext fun h => ..) -/
  | ext (φ : Heap → Prop)

abbrev Hp := Addr → Option HO
def upd (H : Hp) (a : Addr) (o : HO) : Hp := fun b => if b = a then some o else H b
theorem upd_same {H : Hp} {a : Addr} {o : HO} : upd H a o a = some o := by unfold upd; rw [if_pos rfl]
theorem upd_ne {H : Hp} {a b : Addr} {o : HO} (h : b ≠ a) : upd H a o b = H b := by unfold upd; rw [if_neg h]
theorem upd_upd {H : Hp} {a : Addr} {o u : HO} : upd (upd H a o) a u = upd H a u := by
  funext b; unfold upd; split <;> rfl
/-- two objects of different content stand apart -/
theorem ne_of {H : Hp} {a b : Addr} {o u : HO} (h : H a = some o) (h' : H b = some u) (d : o ≠ u) : a ≠ b := by
  intro e; subst e; rw [h] at h'; exact d (Option.some.inj h')
theorem ne_of_none {H : Hp} {a b : Addr} {o : HO} (h : H a = some o) (h' : H b = none) : a ≠ b := by
  intro e; subst e; rw [h] at h'; cases h'

section
variable (P : Program) (w : World)
def ObjOk (H : Hp) (h : Heap) (a : Addr) : HO → Prop
  | .lst xs => xs.length ≤ sizeLine ∧ ∃ (its : List Value) (n : Nat), Vals xs its ∧ h.get? a = some { cls := .type "list", data := .seq its.toArray n }
  | .tup xs => xs.length ≤ sizeLine ∧ ∃ its : List Value, Vals xs its ∧ IsTup h a its.toArray
  | .dK kvs => kvs.length ≤ sizeLine ∧ (a == sysModules) = false ∧ ∃ vs, KV kvs vs ∧ h.DictOf (mixKind P w) a vs
  | .dT kvs => kvs.length ≤ sizeLine ∧ (a == sysModules) = false ∧ ∃ xs : List (List Key × Addr × Value),
      Paired (fun (p : List Key × V) (q : List Key × Addr × Value) => p.1 = q.1 ∧ H q.2.1 = some (.tup (p.1.map kV)) ∧ RelV p.2 q.2.2) kvs xs ∧
      ∃ o es ep, h.get? a = some o ∧ o.ExactDict ∧ o.data = .dict es ep ∧ es.toList = xs.map (entryOfKey (tupleKind (mixKind P w))) ∧ (xs.map (·.1)).Nodup
  | .set S n => h.SetOf (intKind P w) a S n
  | .ins C dx fs => H dx = some (.own a) ∧ fs.length ≤ 1000 ∧ dx ≠ a ∧ h.get? a = some (PySem.W.instObj C dx) ∧
      ∃ mA, h.Ns1 dx mA ∧ (∀ f, RelO (fs.lookup f) (mA f)) ∧ PySem.Within mA (fs.map (·.1))
  | .own _ => ∃ o, h.get? a = some o
  | .xd fs => ∃ mA, h.Ns1 a mA ∧ ∀ f, RelO (fs.lookup f) (mA f)
  | .rng lo hi => ∃ t u v, h.get? a = some { cls := .type "range", data := .fields #[.int lo t, .int hi u, .int 1 v] }
  | .frz o u => h.get? a = some o ∧ ObjOk H h a u
  | .tbl ps => h.get? a = some { cls := .none, data := .fields ps }
  | .met f x => h.get? a = some (PySem.W.methodObj (.ref f) (.ref x))
  | .ext φ => φ h ∧ (∃ o, h.get? a = some o) ∧ ∀ h1 h2 : Heap, φ h1 → (∀ o, h1.get? a = some o → h2.get? a = some o) → φ h2
/-- the abstract heap is held -/
def HOk (H : Hp) (h : Heap) : Prop := ∀ a o, H a = some o → ObjOk P w H h a o
end

section
variable {P : Program} {w : World} {H H' : Hp} {h h' : Heap} {a : Addr} {o : HO}
theorem ObjOk.lt (x : ObjOk P w H h a o) : a < h.objs.size := by
  cases o with
  | lst xs => obtain ⟨_, _, _, _, e⟩ := x; exact Heap.lt_size e
  | tup xs => obtain ⟨_, _, _, p⟩ := x; exact p.lt
  | dK kvs => obtain ⟨_, _, _, _, o, _, _, e, _⟩ := x; exact Heap.lt_size e
  | dT kvs => obtain ⟨_, _, _, _, o, _, _, e, _⟩ := x; exact Heap.lt_size e
  | set S n => obtain ⟨o, _, _, _, e, _⟩ := x; exact Heap.lt_size e
  | ins C dx fs => obtain ⟨_, _, _, e, _⟩ := x; exact Heap.lt_size e
  | own y => obtain ⟨_, e⟩ := x; exact Heap.lt_size e
  | xd fs => obtain ⟨_, ⟨_, _, _, e, _⟩, _⟩ := x; exact Heap.lt_size e
  | rng lo hi => obtain ⟨_, _, _, e⟩ := x; exact Heap.lt_size e
  | frz ob u => obtain ⟨e, _⟩ := x; exact Heap.lt_size e
  | tbl ps => exact Heap.lt_size (show h.get? a = some _ from x)
  | met f y => exact Heap.lt_size (show h.get? a = some _ from x)
  | ext φ => obtain ⟨_, ⟨_, e⟩, _⟩ := x; exact Heap.lt_size e
theorem Paired.mapP {α β : Type} {F G : α → β → Prop} : ∀ {l₁ : List α} {l₂ : List β}, Paired F l₁ l₂ → (∀ a b, F a b → G a b) → Paired G l₁ l₂
  | _, _, .nil, _ => .nil
  | _, _, .cons r t, f => .cons (f _ _ r) (Paired.mapP t f)
theorem Paired.imp' {α β : Type} {F G : α → β → Prop} (f : ∀ a b, F a b → G a b) {l₁ : List α} {l₂ : List β} (r : Paired F l₁ l₂) : Paired G l₁ l₂ := Paired.mapP r f
/-- what an object's description leans on: its own object, its own dict, the tuples -/
theorem ObjOk.stay (x : ObjOk P w H h a o) (k : ∀ b u, (b = a ∨ H b = some (.own a)) → h.get? b = some u → h'.get? b = some u)
    (ho : ∀ b, H b = some (.own a) → H' b = some (.own a)) (ht : ∀ b xs, H b = some (.tup xs) → H' b = some (.tup xs)) : ObjOk P w H' h' a o := by
  induction o with
  | lst xs => obtain ⟨z, its, n, r, e⟩ := x; exact ⟨z, its, n, r, k _ _ (.inl rfl) e⟩
  | tup xs => obtain ⟨z, its, r, ob, e, c⟩ := x; exact ⟨z, its, r, ob, k _ _ (.inl rfl) e, c⟩
  | dK kvs => obtain ⟨z, y, vs, r, ob, es, ep, e, c⟩ := x; exact ⟨z, y, vs, r, ob, es, ep, k _ _ (.inl rfl) e, c⟩
  | dT kvs =>
    obtain ⟨z, y, xs, r, ob, es, ep, e, c⟩ := x
    exact ⟨z, y, xs, Paired.mapP r fun p q z => ⟨z.1, ht _ _ z.2.1, z.2.2⟩, ob, es, ep, k _ _ (.inl rfl) e, c⟩
  | set S n => obtain ⟨ob, es, ep, t, e, c⟩ := x; exact ⟨ob, es, ep, t, k _ _ (.inl rfl) e, c⟩
  | ins C dx fs =>
    obtain ⟨d, z, ne, e, mA, ⟨od, es, ep, e2, c⟩, r⟩ := x
    exact ⟨ho _ d, z, ne, k _ _ (.inl rfl) e, mA, ⟨od, es, ep, k _ _ (.inr d) e2, c⟩, r⟩
  | own y => obtain ⟨ob, e⟩ := x; exact ⟨ob, k _ _ (.inl rfl) e⟩
  | xd fs => obtain ⟨mA, ⟨od, es, ep, e, c⟩, r⟩ := x; exact ⟨mA, ⟨od, es, ep, k _ _ (.inl rfl) e, c⟩, r⟩
  | rng lo hi => obtain ⟨t, u, v, e⟩ := x; exact ⟨t, u, v, k _ _ (.inl rfl) e⟩
  | frz ob u ih => obtain ⟨e, q⟩ := x; exact ⟨k _ _ (.inl rfl) e, ih q⟩
  | tbl ps =>
    have e : h.get? a = some { cls := .none, data := .fields ps } := x
    show h'.get? a = some { cls := .none, data := .fields ps }
    exact k a _ (.inl rfl) e
  | met f y =>
    have e : h.get? a = some (PySem.W.methodObj (.ref f) (.ref y)) := x
    show h'.get? a = some (PySem.W.methodObj (.ref f) (.ref y))
    exact k a _ (.inl rfl) e
  | ext φ => obtain ⟨p, ⟨o, e⟩, st⟩ := x; exact ⟨st _ _ p fun o q => k _ _ (.inl rfl) q, ⟨o, k _ _ (.inl rfl) e⟩, st⟩
theorem HOk.lt (x : HOk P w H h) (e : H a = some o) : a < h.objs.size := (x a o e).lt
theorem HOk.fresh (x : HOk P w H h) (e : h.objs.size ≤ a) : H a = none := by
  cases q : H a with
  | none => rfl
  | some u => exact absurd (Nat.lt_of_lt_of_le (x.lt q) e) (Nat.lt_irrefl _)
/-- every object of the heap is kept -/
theorem HOk.kept (x : HOk P w H h) (k : ∀ b u, h.get? b = some u → h'.get? b = some u) : HOk P w H h' := fun a o e =>
  (x a o e).stay (fun b u _ q => k b u q) (fun _ q => q) fun _ _ q => q
/-- a new object is laid and tracked -/
theorem HOk.laid (x : HOk P w H h) (k : ∀ b u, h.get? b = some u → h'.get? b = some u) (hp : h.objs.size ≤ a) (new : ObjOk P w (upd H a o) h' a o) : HOk P w (upd H a o) h' := fun b u e => by
  have hn := x.fresh hp
  by_cases hb : b = a
  · subst hb; rw [upd_same] at e; cases e; exact new
  · rw [upd_ne hb] at e
    exact (x b u e).stay (fun c v _ q => k c v q) (fun c q => by rw [upd_ne (ne_of_none q hn)]; exact q) fun c xs q => by rw [upd_ne (ne_of_none q hn)]; exact q
end

/-- what may be read as u: it is u, or a known u -/
def Rd (H : Hp) (a : Addr) (u : HO) : Prop := H a = some u ∨ ∃ o, H a = some (.frz o u)
theorem Rd.of {H : Hp} {a : Addr} {u : HO} (h : H a = some u) : Rd H a u := .inl h
theorem Rd.ok {P : Program} {w : World} {H : Hp} {h : Heap} {a : Addr} {u : HO} (r : Rd H a u) (x : HOk P w H h) : ObjOk P w H h a u := by
  rcases r with r | ⟨o, r⟩
  · exact x a u r
  · obtain ⟨_, q⟩ := x a _ r
    exact q
/-- what may be written -/
def Mut : Option HO → Prop
  | some (.lst _) => True
  | some (.dK _) => True
  | some (.dT _) => True
  | some (.set _ _) => True
  | some (.ins _ _ _) => True
  | some (.ext _) => True
  | _ => False
section
variable {P : Program} {w : World} {H : Hp} {h h' : Heap} {x e : Addr} {o' : HO}
/-- the object at e is changed: x itself, or the dict of the instance x -/
theorem HOk.write (ok : HOk P w H h) (mu : Mut (H x)) (he : e = x ∨ H e = some (.own x)) (k : ∀ b u, b ≠ e → h.get? b = some u → h'.get? b = some u) (heo : ∃ u, h'.get? e = some u)
    (new : ObjOk P w (upd H x o') h' x o') : HOk P w (upd H x o') h' := fun b u q => by
  have nown : ∀ c y, H c = some (.own y) → c ≠ x := fun c y r z => by subst z; rw [r] at mu; exact mu
  have ntup : ∀ c xs, H c = some (.tup xs) → c ≠ x := fun c xs r z => by subst z; rw [r] at mu; exact mu
  by_cases hb : b = x
  · subst hb; rw [upd_same] at q; cases q; exact new
  · rw [upd_ne hb] at q
    by_cases hbe : b = e
    · have q' : H b = some (.own x) := by
        rcases he with z | z
        · exact absurd (hbe.trans z) hb
        · rw [hbe]; exact z
      rw [q] at q'; cases q'
      obtain ⟨v, hv⟩ := heo
      exact ⟨v, by rw [hbe]; exact hv⟩
    · refine (ok b u q).stay (fun c v hc r => k c v ?_ r) (fun c r => by rw [upd_ne (nown c b r)]; exact r) fun c xs r => by rw [upd_ne (ntup c xs r)]; exact r
      rcases hc with rfl | hc
      · exact hbe
      · rintro rfl
        rcases he with z | z
        · exact nown c b hc z
        · rw [hc] at z; cases z; exact hb rfl
end

/-! ### kept unless tracked; of the frames at fs (the callers') the slots may change (an exception that passes writes there); of the records at ex (iterators) nothing is said -/
structure Un (fs ex : List Addr) (H H' : Hp) (h h' : Heap) : Prop where
  keep : ∀ b o, h.get? b = some o → H b = none → b ∉ fs → b ∉ ex → h'.get? b = some o
  slot : ∀ b o, h.get? b = some o → H b = none → b ∈ fs → b ∉ ex → ∃ sl, h'.get? b = some { o with slots := sl }
  free : ∀ b o, h.get? b = some o → H b = none → b ∉ ex → H' b = none
  there : ∀ b o, h.get? b = some o → b ∉ ex → ∃ o', h'.get? b = some o'
  tups : ∀ b xs, H b = some (.tup xs) → H' b = some (.tup xs)
  frzs : ∀ b o u, H b = some (.frz o u) → H' b = some (.frz o u)
  tbls : ∀ b ps, H b = some (.tbl ps) → ∃ more, H' b = some (.tbl (ps ++ more))
section
variable {fs fs' ex ex' : List Addr} {H H1 H2 : Hp} {h h1 h2 h' : Heap} {a x e : Addr} {o : HO}
theorem Un.any (u : Un fs ex H H1 h h1) {b : Addr} {ob : Obj} (q : h.get? b = some ob) (n : H b = none) (hx : b ∉ ex) : ∃ sl, h1.get? b = some { ob with slots := sl } := by
  by_cases hb : b ∈ fs
  · exact u.slot b ob q n hb hx
  · exact ⟨ob.slots, u.keep b ob q n hb hx⟩
theorem Un.trans (a : Un fs ex H H1 h h1) (b : Un fs ex H1 H2 h1 h2) : Un fs ex H H2 h h2 where
  keep := fun c ob q n hc hx => b.keep c ob (a.keep c ob q n hc hx) (a.free c ob q n hx) hc hx
  slot := fun c ob q n hc hx => by
    obtain ⟨sl, e1⟩ := a.slot c ob q n hc hx
    obtain ⟨sl', e2⟩ := b.slot c _ e1 (a.free c ob q n hx) hc hx
    exact ⟨sl', e2⟩
  free := fun c ob q n hx => by
    obtain ⟨o', e1⟩ := a.there c ob q hx
    exact b.free c o' e1 (a.free c ob q n hx) hx
  there := fun c ob q hx => by
    obtain ⟨o', e1⟩ := a.there c ob q hx
    exact b.there c o' e1 hx
  tups := fun c xs q => b.tups c xs (a.tups c xs q)
  frzs := fun c ob xs q => b.frzs c ob xs (a.frzs c ob xs q)
  tbls := fun c ps q => by
    obtain ⟨m1, e1⟩ := a.tbls c ps q
    obtain ⟨m2, e2⟩ := b.tbls c _ e1
    exact ⟨m1 ++ m2, by rw [e2, Array.append_assoc]⟩
theorem Un.kept (k : ∀ b u, h.get? b = some u → h'.get? b = some u) : Un fs ex H H h h' :=
  ⟨fun b ob q _ _ _ => k b ob q, fun b ob q _ _ _ => ⟨ob.slots, k b ob q⟩, fun _ _ _ n _ => n, fun b ob q _ => ⟨ob, k b ob q⟩, fun _ _ q => q, fun _ _ _ q => q, fun _ ps q => ⟨#[], by rw [q]; simp⟩⟩
theorem Un.refl : Un fs ex H H h h := Un.kept fun _ _ q => q
theorem Un.laid (k : ∀ b u, h.get? b = some u → h'.get? b = some u) (hp : h.objs.size ≤ a) (hn : H a = none) : Un fs ex H (upd H a o) h h' where
  keep := fun b u q _ _ _ => k b u q
  slot := fun b u q _ _ _ => ⟨u.slots, k b u q⟩
  free := fun b u q n _ => by rw [upd_ne (Nat.ne_of_lt (Nat.lt_of_lt_of_le (Heap.lt_size q) hp))]; exact n
  there := fun b u q _ => ⟨u, k b u q⟩
  tups := fun b xs q => by rw [upd_ne (ne_of_none q hn)]; exact q
  frzs := fun b u xs q => by rw [upd_ne (ne_of_none q hn)]; exact q
  tbls := fun b ps q => ⟨#[], by rw [upd_ne (ne_of_none q hn), q]; simp⟩
theorem Un.write (mu : Mut (H x)) (he : e = x ∨ H e = some (.own x)) (k : ∀ b u, b ≠ e → h.get? b = some u → h'.get? b = some u) (heo : ∃ u, h'.get? e = some u) : Un fs ex H (upd H x o) h h' := by
  have hx : ∀ b, H b = none → b ≠ x := fun b n z => by subst z; rw [n] at mu; exact mu
  have hb : ∀ b, H b = none → b ≠ e := fun b n z => by
    subst z
    rcases he with r | r
    · exact hx b n r
    · rw [n] at r; cases r
  have hm : ∀ b u, H b = some u → ¬ Mut (some u) → b ≠ x := fun b u q nm z => by subst z; rw [q] at mu; exact nm mu
  refine ⟨fun b u q n _ _ => k b u (hb b n) q, fun b u q n _ _ => ⟨u.slots, k b u (hb b n) q⟩, fun b u q n _ => by rw [upd_ne (hx b n)]; exact n, fun b u q _ => ?_,
    fun b xs q => by rw [upd_ne (hm b _ q fun z => z)]; exact q, fun b u xs q => by rw [upd_ne (hm b _ q fun z => z)]; exact q, fun b ps q => ⟨#[], by rw [upd_ne (hm b _ q fun z => z), q]; simp⟩⟩
  by_cases hbe : b = e
  · subst hbe; exact heo
  · exact ⟨u, k b u hbe q⟩
theorem Un.mono (u : Un fs ex H H1 h h1) (hs : ∀ b ∈ fs, b ∈ fs') (hx : ∀ b ∈ ex, b ∈ ex') : Un fs' ex' H H1 h h1 :=
  ⟨fun b ob q n hb he => u.keep b ob q n (fun z => hb (hs b z)) fun z => he (hx b z), fun _ _ q n _ he => u.any q n fun z => he (hx _ z), fun b ob q n he => u.free b ob q n fun z => he (hx b z), fun b ob q he => u.there b ob q fun z => he (hx b z), u.tups, u.frzs, u.tbls⟩
end

/-! ### the heap without what is tracked -/
def trk (h : Heap) (H : Hp) : List Addr := (List.range h.objs.size).filter fun a => (H a).isSome
def hidT (h : Heap) (H : Hp) : Heap := PySem.W.hideAll h (trk h H)
theorem hidT_size (h : Heap) (H : Hp) : (hidT h H).objs.size = h.objs.size := PySem.W.hideAll_size _ _
theorem hidT_get {h : Heap} {H : Hp} {b : Addr} {o : Obj} (e : h.get? b = some o) (n : H b = none) : (hidT h H).get? b = some o :=
  PySem.W.hideAll_get _ e fun hm => by
    have q : (H b).isSome = true := (List.mem_filter.mp hm).2
    rw [n] at q; simp at q
theorem of_hidT {h : Heap} {H : Hp} {b : Addr} {o : Obj} (e : (hidT h H).get? b = some o) : h.get? b = some o ∧ H b = none := by
  have e' : h.get? b = some o := PySem.W.of_hideAll (trk h H) e
  refine ⟨e', ?_⟩
  cases q : H b with
  | none => rfl
  | some x =>
    have hm : b ∈ trk h H := List.mem_filter.mpr ⟨List.mem_range.mpr (Heap.lt_size e'), by simp [q]⟩
    have z : (hidT h H).get? b = none := PySem.W.hideAll_none (trk h H) hm
    rw [z] at e; cases e

/-! ### OpenK's ledger, filled with every new object but one -/
def allNews (g h : Heap) (L : Addr) : List (Addr × Obj) := (List.range h.objs.size).filterMap fun a => if a = L ∨ (g.get? a).isSome = true then none else (h.get? a).map fun o => (a, o)
theorem mem_allNews {g h : Heap} {L a : Addr} {o : Obj} (h1 : a ≠ L) (h2 : g.get? a = none) (h3 : h.get? a = some o) : (a, o) ∈ allNews g h L :=
  List.mem_filterMap.mpr ⟨a, List.mem_range.mpr (Heap.lt_size h3), by simp [h1, h2, h3]⟩
theorem of_mem_allNews {g h : Heap} {L : Addr} {p : Addr × Obj} (hp : p ∈ allNews g h L) : p.1 ≠ L ∧ g.get? p.1 = none ∧ h.get? p.1 = some p.2 := by
  obtain ⟨b, _, e⟩ := List.mem_filterMap.mp hp
  split at e
  · cases e
  · rename_i hn
    cases q : h.get? b with
    | none => rw [q] at e; simp at e
    | some u =>
      rw [q] at e
      simp only [Option.map_some, Option.some.injEq] at e
      subst e
      refine ⟨fun z => hn (.inl z), ?_, q⟩
      show g.get? b = none
      cases r : g.get? b with
      | none => rfl
      | some v => exact (hn (.inr (by simp [r]))).elim
def rest (g h : Heap) (L d : Addr) : List (Addr × Obj) := (allNews g h L).filter fun p => decide (p.1 ≠ d)
theorem rest_ne {g h : Heap} {L d : Addr} : ∀ p ∈ rest g h L d, p.1 ≠ d := fun p hp => of_decide_eq_true (List.mem_filter.mp hp).2
theorem mem_rest {g h : Heap} {L d a : Addr} {o : Obj} (h1 : a ≠ L) (h2 : g.get? a = none) (h3 : h.get? a = some o) (h4 : a ≠ d) : (a, o) ∈ rest g h L d :=
  List.mem_filter.mpr ⟨mem_allNews h1 h2 h3, decide_eq_true h4⟩
theorem news_all {g h : Heap} {L : Addr} : News g L h (allNews g h L) := fun p hp => let ⟨a, b, c⟩ := of_mem_allNews hp; ⟨c, a, b⟩
theorem news_at {g h : Heap} {L d : Addr} {o : Obj} (h1 : d ≠ L) (h2 : g.get? d = none) (h3 : h.get? d = some o) : News g L h ((d, o) :: rest g h L d) := fun p hp => by
  rcases List.mem_cons.mp hp with rfl | hp
  · exact ⟨h3, h1, h2⟩
  · exact news_all p (List.mem_filter.mp hp).1
/-- behind a rule that changed d alone: all else but the frame is kept -/
theorem kept_of_news {g h h' : Heap} {L d : Addr} {m : Str → Option Value} (k : ∀ b o, g.get? b = some o → h.get? b = some o) (F : Fr g L h' m) (N : News g L h' (rest g h L d)) :
    ∀ b o, b ≠ L → b ≠ d → h.get? b = some o → h'.get? b = some o := fun b o h1 h2 e => by
  cases q : g.get? b with
  | some u =>
    have := k b u q
    rw [e] at this; cases this
    exact F.keep b _ q
  | none => exact (N (b, o) (mem_rest h1 q e h2)).1
end L2

namespace L2
open PySem PySem.Spec PyProof.Rows

/-- the module's facts, over the base: the heap at the law's entry without what is tracked there -/
structure Mod (K : PySem.W.Frag) (mg : Str → Option Value) (base : Heap) : Prop where
  kin : K.In base
  glob : base.Ns mainGlobals mg
  blt : ∃ mb, base.Ns builtinsNs mb ∧ ∀ x : Str, x ≠ "__name__" → mb x = bootBuiltins x
  nolimit : base.NoLimit

/-- the context: a def's body (or a comprehension's block) running. base: fixed through the whole law; s₀, H₀: the entry; outer: the frames whose slots others may change (a def's callers); stack: all frames that run;
   ex: iterators that were made ahead of the entry and are walked here (a comprehension's); fn: the names whose cells were made at the entry (a def: all; a comprehension's block: its own); calm: not within an except suite; pn: pins that every state bears; xe: what is wanted of an exception that leaves the code -/
structure Cx where
  prog : Program
  w : World
  K : PySem.W.Frag
  mg : Str → Option Value
  base : Heap
  A : Around
  N : List Str
  s₀ : Shared
  H₀ : Hp
  env : Env
  outer : List Env
  stack : List Env
  ex : List Addr
  fn : Str → Bool
  calm : Bool
  pn : List (Addr × Obj)
  xe : Value → Shared → Prop
/-- the callers' frames -/
def frs (l : List Env) : List Addr := l.filterMap (·.frame)
abbrev Cx.fs (X : Cx) : List Addr := frs X.outer

def Vis (sc : Scope) (x : Str) : Prop := sc.names.lookup x = some .local ∨ sc.names.lookup x = some .cell ∨ sc.names.lookup x = some .free
def Loc (sc : Scope) (x : Str) : Prop := sc.names.lookup x = some .local ∨ sc.names.lookup x = some .cell
def Look (env : Env) (h : Heap) (m : Str → Option Value) (x : Str) (u : Value) : Prop :=
  (env.kindOf x = some .local ∧ m x = some u) ∨ ((env.kindOf x = some .cell ∨ env.kindOf x = some .free) ∧ ∃ c, env.cells.lookup x = some c ∧ h.IsCell c (some u))

structure Cx.Ok (X : Cx) : Prop where
  mod : Mod X.K X.mg X.base
  kind : X.env.scope.kind = .function
  glob : X.env.globals = mainGlobals
  blt : X.env.builtins = builtinsNs
  above : X.s₀.heap.objs.size ≤ X.env.locals
  inj : ∀ x y c, X.env.cells.lookup x = some c → X.env.cells.lookup y = some c → x = y
  has : ∀ x, (X.env.kindOf x = some .cell ∨ X.env.kindOf x = some .free) → ∃ c, X.env.cells.lookup x = some c
  cab : ∀ x c, X.fn x = true → X.env.cells.lookup x = some c → X.s₀.heap.objs.size ≤ c
  hd : X.calm = true → X.A.handled = none
  frames : X.A.frames = some X.stack
  stk : X.stack = X.outer ∨ (X.stack = X.env :: X.outer ∧ X.env.frame = some X.env.locals)
  exf : ∀ b ∈ X.ex, b ≠ X.env.locals ∧ ∀ x c, X.env.cells.lookup x = some c → c ≠ b
  bs : ∀ b o, X.base.get? b = some o → X.s₀.heap.get? b = some o ∧ X.H₀ b = none
  bsz : X.base.objs.size ≤ X.s₀.heap.objs.size
  noex : ∀ b o, X.base.get? b = some o → b ∉ X.ex
  exfs : ∀ b ∈ X.ex, b ∉ X.fs
  funs : X.s₀.heap.FunFrames X.base X.outer
  frf : ∀ b ∈ X.fs, X.H₀ b = none

structure Inv (X : Cx) (pins : List (Addr × Obj)) (σ : List (Option V)) (H : Hp) (s : Shared) : Prop where
  ok : X.Ok
  os : s.os = X.s₀.os
  bare : AllBare s.gens
  base : Un X.fs X.ex X.H₀ H X.s₀.heap s.heap
  loc : ∃ m, s.heap.Ns X.env.locals m ∧ ∀ (i : Nat) (x : Str) (v : V), X.N[i]? = some x → σ[i]? = some (some v) → Vis X.env.scope x → ∃ u, RelV v u ∧ Look X.env s.heap m x u
  cell : ∀ x c, X.env.cells.lookup x = some c → ∃ v, s.heap.IsCell c v
  free : H X.env.locals = none
  freeC : ∀ x c, X.env.cells.lookup x = some c → H c = none
  pin : ∀ p ∈ X.pn ++ pins, s.heap.get? p.1 = some p.2 ∧ H p.1 = none ∧ p.1 ≠ X.env.locals ∧ p.1 ∉ X.fs ∧ ∀ v, p.2.data ≠ .cell v
  hok : HOk X.prog X.w H s.heap
  len : σ.length = X.N.length

section
variable {X : Cx} {pins : List (Addr × Obj)} {σ : List (Option V)} {H H' : Hp} {s : Shared} {h' : Heap}

theorem Cx.Ok.nofr (ok : X.Ok) {b : Addr} {o : Obj} (e : X.base.get? b = some o) : b ∉ X.fs := fun hb => by
  have := (ok.funs.mem hb).1
  rw [e] at this; cases this
theorem Inv.bs (I : Inv X pins σ H s) : ∀ b o, X.base.get? b = some o → s.heap.get? b = some o ∧ H b = none := fun b o e =>
  ⟨I.base.keep b o (I.ok.bs b o e).1 (I.ok.bs b o e).2 (I.ok.nofr e) (I.ok.noex b o e), I.base.free b o (I.ok.bs b o e).1 (I.ok.bs b o e).2 (I.ok.noex b o e)⟩
theorem Inv.bk (I : Inv X pins σ H s) : ∀ b o, X.base.get? b = some o → s.heap.get? b = some o := fun b o e => (I.bs b o e).1
theorem Inv.mod (I : Inv X pins σ H s) : Mod X.K X.mg X.base := I.ok.mod
theorem Inv.kIn (I : Inv X pins σ H s) : X.K.In s.heap := I.ok.mod.kin.keeps I.bk
theorem Inv.nolimit (I : Inv X pins σ H s) : s.heap.NoLimit := I.ok.mod.nolimit.keeps I.bk
/-- the frame over the base: for OpenK's rules (K.In X.base is I.mod.kin) -/
theorem Inv.fr (I : Inv X pins σ H s) : ∃ m, Fr X.base X.env.locals s.heap m :=
  let ⟨m, hn, _⟩ := I.loc
  ⟨m, hn, I.bk, Nat.le_trans I.ok.bsz I.ok.above⟩
theorem Inv.lt (I : Inv X pins σ H s) : X.env.locals < s.heap.objs.size := let ⟨_, hn, _⟩ := I.loc; hn.lt
theorem Inv.sz (I : Inv X pins σ H s) : X.s₀.heap.objs.size ≤ s.heap.objs.size := Nat.le_trans I.ok.above (Nat.le_of_lt I.lt)
theorem Inv.nofs (I : Inv X pins σ H s) {a : Addr} (h : s.heap.objs.size ≤ a) : a ∉ X.fs := fun hb => by
  obtain ⟨_, o, ho, _⟩ := I.ok.funs.mem hb
  exact absurd (Nat.lt_of_lt_of_le (Heap.lt_size ho) (Nat.le_trans I.sz h)) (Nat.lt_irrefl _)
theorem Inv.cne (I : Inv X pins σ H s) : ∀ x c, X.env.cells.lookup x = some c → c ≠ X.env.locals := fun x c e z => by
  obtain ⟨v, o, ho, hd⟩ := I.cell x c e
  obtain ⟨m, ⟨o', es, ep, ho', hd', _⟩, _⟩ := I.loc
  rw [z, ho'] at ho; cases ho; rw [hd'] at hd; cases hd
theorem Inv.funs (I : Inv X pins σ H s) : s.heap.FunFrames X.base X.outer := by
  have all : ∀ (l : List Env), (∀ b ∈ frs l, b ∈ X.fs) → X.s₀.heap.FunFrames X.base l → s.heap.FunFrames X.base l := by
    intro l
    induction l with
    | nil => intro _ _; trivial
    | cons env r ih =>
      intro hs hl
      obtain ⟨hk, ⟨L, o, hf, hn, ho, hd⟩, hr⟩ := hl
      have hL : L ∈ X.fs := hs L (by unfold frs; rw [List.filterMap_cons, hf]; exact List.mem_cons_self)
      obtain ⟨sl, e⟩ := I.base.slot L o ho (I.ok.frf L hL) hL fun z => I.ok.exfs L z hL
      exact ⟨hk, ⟨L, _, hf, hn, e, hd⟩, ih (fun b hb => hs b (by unfold frs; rw [List.filterMap_cons, hf]; exact List.mem_cons_of_mem _ hb)) hr⟩
  exact all X.outer (fun _ hb => hb) I.ok.funs

/-- the frames that run, for a call -/
theorem Inv.stack (I : Inv X pins σ H s) : s.heap.FunFrames X.base X.stack := by
  rcases I.ok.stk with e | ⟨e, hf⟩
  · rw [e]; exact I.funs
  · rw [e]
    obtain ⟨m, hn, _⟩ := I.loc
    refine .cons (by rw [I.ok.kind]; decide) hf hn ?_ I.funs
    exact Heap.get?_none_of_le (Nat.le_trans I.ok.bsz I.ok.above)
theorem Inv.stkSub (I : Inv X pins σ H s) : ∀ b ∈ frs X.stack, b ∈ X.env.locals :: X.fs := fun b hb => by
  rcases I.ok.stk with e | ⟨e, hf⟩
  · rw [e] at hb; exact List.mem_cons_of_mem _ hb
  · rw [e] at hb
    unfold frs at hb
    rw [List.filterMap_cons, hf] at hb
    exact hb
theorem Inv.stkFree (I : Inv X pins σ H s) : ∀ b ∈ frs X.stack, H b = none := fun b hb => by
  rcases List.mem_cons.mp (I.stkSub b hb) with e | hb
  · rw [e]; exact I.free
  · obtain ⟨_, o, ho, _⟩ := I.ok.funs.mem hb
    exact I.base.free b o ho (I.ok.frf b hb) fun z => I.ok.exfs b z hb

/-- THE STEP: the untracked objects but the frame and the records at ch are kept (the callers' frames up to slots), the frame's map is kept, the new abstract heap is held -/
theorem Inv.step {g' : Array GenState} {t' : Nat} {d' : Drawn} {ch : List Addr} (I : Inv X pins σ H s)
    (hch : ∀ b ∈ ch, (b ∈ X.ex ∨ X.s₀.heap.objs.size ≤ b) ∧ b ≠ X.env.locals ∧ (∀ x c, X.env.cells.lookup x = some c → c ≠ b) ∧ ∀ p ∈ X.pn ++ pins, p.1 ≠ b)
    (keep : ∀ b o, b ≠ X.env.locals → b ∉ X.fs → b ∉ ch → s.heap.get? b = some o → H b = none → h'.get? b = some o)
    (slot : ∀ b o, b ≠ X.env.locals → b ∈ X.fs → b ∉ ch → s.heap.get? b = some o → H b = none → ∃ sl, h'.get? b = some { o with slots := sl }) (free : ∀ b o, b ∉ ch → s.heap.get? b = some o → H b = none → H' b = none)
    (there : ∀ b o, b ∉ ch → s.heap.get? b = some o → ∃ o', h'.get? b = some o')
    (tups : ∀ b xs, H b = some (.tup xs) → H' b = some (.tup xs)) (frzs : ∀ b o u, H b = some (.frz o u) → H' b = some (.frz o u)) (tbls : ∀ b ps, H b = some (.tbl ps) → ∃ more, H' b = some (.tbl (ps ++ more)))
    (ns : ∀ m, s.heap.Ns X.env.locals m → h'.Ns X.env.locals m) (hok : HOk X.prog X.w H' h') (hg : AllBare g') :
    Inv X pins σ H' { s with heap := h', gens := g', drawn := d', toks := t' } := by
  have neL : ∀ b o, X.s₀.heap.get? b = some o → b ≠ X.env.locals := fun b o e => Nat.ne_of_lt (Nat.lt_of_lt_of_le (Heap.lt_size e) I.ok.above)
  have neC : ∀ b o, X.s₀.heap.get? b = some o → b ∉ X.ex → b ∉ ch := fun b o e hx hb => by
    rcases (hch b hb).1 with z | z
    · exact hx z
    · exact absurd (Nat.lt_of_lt_of_le (Heap.lt_size e) z) (Nat.lt_irrefl _)
  have cellK : ∀ x c, X.env.cells.lookup x = some c → ∀ v, s.heap.IsCell c v → h'.IsCell c v := fun x c e v ⟨o, ho, hd⟩ => by
    have nch : c ∉ ch := fun z => (hch c z).2.2.1 x c e rfl
    by_cases hc : c ∈ X.fs
    · obtain ⟨sl, q⟩ := slot c o (I.cne x c e) hc nch ho (I.freeC x c e)
      exact ⟨_, q, hd⟩
    · exact ⟨o, keep c o (I.cne x c e) hc nch ho (I.freeC x c e), hd⟩
  refine ⟨I.ok, I.os, hg, ⟨fun b o e n hb hx => ?_, fun b o e n hb hx => ?_, fun b o e n hx => ?_, fun b o e hx => ?_, fun b xs e => tups b xs (I.base.tups b xs e), fun b o xs e => frzs b o xs (I.base.frzs b o xs e), fun b ps e => ?_⟩, ?_, fun x c e => ?_, ?_, fun x c e => ?_, fun p hp => ?_, hok, I.len⟩
  · exact keep b o (neL b o e) hb (neC b o e hx) (I.base.keep b o e n hb hx) (I.base.free b o e n hx)
  · obtain ⟨sl, e1⟩ := I.base.slot b o e n hb hx
    obtain ⟨sl', e2⟩ := slot b _ (neL b o e) hb (neC b o e hx) e1 (I.base.free b o e n hx)
    exact ⟨sl', e2⟩
  · obtain ⟨o', e1⟩ := I.base.there b o e hx
    exact free b o' (neC b o e hx) e1 (I.base.free b o e n hx)
  · obtain ⟨o', e1⟩ := I.base.there b o e hx
    exact there b o' (neC b o e hx) e1
  · obtain ⟨m1, e1⟩ := I.base.tbls b ps e
    obtain ⟨m2, e2⟩ := tbls b _ e1
    exact ⟨m1 ++ m2, by rw [e2, Array.append_assoc]⟩
  · obtain ⟨m, hn, hl⟩ := I.loc
    refine ⟨m, ns m hn, fun i x v e1 e2 e3 => ?_⟩
    obtain ⟨u, r, l⟩ := hl i x v e1 e2 e3
    refine ⟨u, r, ?_⟩
    rcases l with l | ⟨k, c, e, z⟩
    · exact .inl l
    · exact .inr ⟨k, c, e, cellK x c e _ z⟩
  · obtain ⟨v, z⟩ := I.cell x c e
    exact ⟨v, cellK x c e v z⟩
  · obtain ⟨m, ⟨o, _, _, ho, _⟩, _⟩ := I.loc
    exact free _ o (fun z => (hch _ z).2.1 rfl) ho I.free
  · obtain ⟨v, o, ho, hd⟩ := I.cell x c e
    exact free c o (fun z => (hch c z).2.2.1 x c e rfl) ho (I.freeC x c e)
  · obtain ⟨e, n, ne, nf, d⟩ := I.pin p hp
    have nch : p.1 ∉ ch := fun z => (hch p.1 z).2.2.2 p hp rfl
    exact ⟨keep p.1 p.2 ne nf nch e n, free p.1 p.2 nch e n, ne, nf, d⟩
/-- .. where the frame's own object is kept too -/
theorem Inv.un {t' : Nat} (I : Inv X pins σ H s) (u : Un X.fs [] H H' s.heap h') (hok : HOk X.prog X.w H' h') : Inv X pins σ H' { s with heap := h', toks := t' } := by
  obtain ⟨m, ⟨o, es, ep, ho, r⟩, _⟩ := id I.loc
  obtain ⟨sl, hL⟩ := u.any ho I.free (by simp)
  exact I.step (g' := s.gens) (d' := s.drawn) (ch := []) (fun _ z => nomatch z) (fun b o _ hb _ e n => u.keep b o e n hb (by simp)) (fun b o _ hb _ e n => u.slot b o e n hb (by simp)) (fun b o _ e n => u.free b o e n (by simp)) (fun b o _ e => u.there b o e (by simp)) u.tups u.frzs u.tbls (fun m' hm => by
    obtain ⟨o', es', ep', ho', r'⟩ := hm
    rw [ho] at ho'; cases ho'
    exact ⟨_, es', ep', hL, r'⟩) hok I.bare
/-- behind a call (or a comprehension's block): the slots of this frame may have changed too, the records at ch may have turned -/
theorem Inv.call {g' : Array GenState} {t' : Nat} {d' : Drawn} {ch : List Addr} (I : Inv X pins σ H s) (u : Un (frs X.stack) ch H H' s.heap h') (hok : HOk X.prog X.w H' h') (hg : AllBare g')
    (hch : ∀ b ∈ ch, (b ∈ X.ex ∨ X.s₀.heap.objs.size ≤ b) ∧ b ≠ X.env.locals ∧ (∀ x c, X.env.cells.lookup x = some c → c ≠ b) ∧ ∀ p ∈ X.pn ++ pins, p.1 ≠ b) :
    Inv X pins σ H' { s with heap := h', gens := g', drawn := d', toks := t' } := by
  obtain ⟨m, ⟨o, es, ep, ho, r⟩, _⟩ := id I.loc
  obtain ⟨sl, hL⟩ := u.any ho I.free fun z => (hch _ z).2.1 rfl
  exact I.step (ch := ch) hch (fun b o hL hb hc e n => u.keep b o e n (fun z => (List.mem_cons.mp (I.stkSub b z)).elim hL hb) hc) (fun b o _ _ hc e n => u.any e n hc) (fun b o hc e n => u.free b o e n hc) (fun b o hc e => u.there b o e hc) u.tups u.frzs u.tbls (fun m' hm => by
    obtain ⟨o', es', ep', ho', r'⟩ := hm
    rw [ho] at ho'; cases ho'
    exact ⟨_, es', ep', hL, r'⟩) hok hg
/-- an untracked record of ours (an iterator) has turned -/
theorem Inv.turned {t' : Nat} {it : Addr} (I : Inv X pins σ H s) (k : ∀ b o, b ≠ it → s.heap.get? b = some o → h'.get? b = some o) (hn : H it = none) (hL : it ≠ X.env.locals)
    (h1 : it ∈ X.ex ∨ X.s₀.heap.objs.size ≤ it) (h2 : ∀ x c, X.env.cells.lookup x = some c → c ≠ it) (h3 : ∀ p ∈ X.pn ++ pins, p.1 ≠ it) : Inv X pins σ H { s with heap := h', toks := t' } := by
  have nit : ∀ b u, H b = some u → b ≠ it := fun b u e z => by rw [z, hn] at e; cases e
  refine I.step (g' := s.gens) (d' := s.drawn) (ch := [it]) (fun b hb => ?_) (fun b o _ _ hc e _ => k b o (fun z => hc (by simp [z])) e) (fun b o _ _ hc e _ => ⟨o.slots, k b o (fun z => hc (by simp [z])) e⟩) (fun _ _ _ _ n => n)
    (fun b o hc e => ⟨o, k b o (fun z => hc (by simp [z])) e⟩) (fun _ _ e => e) (fun _ _ _ e => e) (fun b ps e => ⟨#[], by rw [e]; simp⟩) (fun m hm => ?_) (fun b u e => ?_) I.bare
  · have e : b = it := by simpa using hb
    subst e
    exact ⟨h1, hL, h2, h3⟩
  · obtain ⟨o, es, ep, ho, r⟩ := hm
    exact ⟨o, es, ep, k _ o (Ne.symm hL) ho, r⟩
  · refine (I.hok b u e).stay (fun c v hc q => k c v ?_ q) (fun _ q => q) fun _ _ q => q
    rcases hc with z | z
    · rw [z]; exact nit b u e
    · exact nit c _ z
theorem Inv.tok (I : Inv X pins σ H s) (t : Nat) : Inv X pins σ H { s with toks := t } := I.un (h' := s.heap) (t' := t) Un.refl I.hok
/-- all objects kept -/
theorem Inv.kept {t' : Nat} (I : Inv X pins σ H s) (k : ∀ b u, s.heap.get? b = some u → h'.get? b = some u) : Inv X pins σ H { s with heap := h', toks := t' } := I.un (Un.kept k) (I.hok.kept k)
/-- a new object laid and tracked -/
theorem Inv.laid {a : Addr} {o : HO} {t' : Nat} (I : Inv X pins σ H s) (k : ∀ b u, s.heap.get? b = some u → h'.get? b = some u) (hp : s.heap.objs.size ≤ a) (new : ObjOk X.prog X.w (upd H a o) h' a o) :
    Inv X pins σ (upd H a o) { s with heap := h', toks := t' } := I.un (Un.laid k hp (I.hok.fresh hp)) (I.hok.laid k hp new)
/-- an object written -/
theorem Inv.write {x e : Addr} {o : HO} {t' : Nat} (I : Inv X pins σ H s) (mu : Mut (H x)) (he : e = x ∨ H e = some (.own x)) (k : ∀ b u, b ≠ e → s.heap.get? b = some u → h'.get? b = some u) (heo : ∃ u, h'.get? e = some u)
    (new : ObjOk X.prog X.w (upd H x o) h' x o) : Inv X pins σ (upd H x o) { s with heap := h', toks := t' } := I.un (Un.write mu he k heo) (I.hok.write mu he k heo new)
/-- forgetting slots, pins -/
theorem Inv.weak {σ' : List (Option V)} (I : Inv X pins σ H s) (hl : σ'.length = σ.length) (w : ∀ (i : Nat) v, σ'[i]? = some (some v) → σ[i]? = some (some v)) : Inv X pins σ' H s :=
  ⟨I.ok, I.os, I.bare, I.base, let ⟨m, hn, hl'⟩ := I.loc; ⟨m, hn, fun i x v e1 e2 e3 => hl' i x v e1 (w i v e2) e3⟩, I.cell, I.free, I.freeC, I.pin, I.hok, hl.trans I.len⟩
theorem Inv.pins_of {pins' : List (Addr × Obj)} (I : Inv X pins σ H s) (h : ∀ p ∈ pins', s.heap.get? p.1 = some p.2 ∧ H p.1 = none ∧ p.1 ≠ X.env.locals ∧ p.1 ∉ X.fs ∧ ∀ v, p.2.data ≠ .cell v) : Inv X pins' σ H s :=
  ⟨I.ok, I.os, I.bare, I.base, I.loc, I.cell, I.free, I.freeC, fun p hp => (List.mem_append.mp hp).elim (fun z => I.pin p (List.mem_append_left _ z)) (h p), I.hok, I.len⟩

theorem nodup_ix {N : List Str} (hN : N.Nodup) {i j : Nat} {x : Str} (a : N[i]? = some x) (b : N[j]? = some x) : i = j := by
  obtain ⟨h1, e1⟩ := List.getElem?_eq_some_iff.mp a
  obtain ⟨h2, e2⟩ := List.getElem?_eq_some_iff.mp b
  exact (List.getElem_inj hN).mp (e1.trans e2.symm)

/-- a name is stored; what changed -/
theorem store_ok2 {M : Model} {A : Around} {E : Value → Shared → Prop} {i : Nat} {x : Str} {v : V} {u : Value} {Q : Unit → Shared → Prop} (I : Inv X pins σ H s) (hN : X.N.Nodup) (hi : X.N[i]? = some x) (hx : Loc X.env.scope x) (r : RelV v u)
    (h : ∀ s', Inv X pins (σ.set i (some v)) H s' → (∃ a, Heap.SameBut a s.heap s'.heap ∧ (a = X.env.locals ∨ X.env.cells.lookup x = some a)) → Q () s') (hf : X.fn x = true ∨ X.env.scope.names.lookup x = some .local := by first | exact .inl rfl | exact .inr rfl | assumption) : wpAny M A (storeName X.env x u) Q E s := by
  obtain ⟨m, hn, hl⟩ := id I.loc
  have hcls : (X.env.scope.kind == .class || (X.env.scope.kind == .module && X.env.locals != X.env.globals)) = false := by rw [I.ok.kind]; rfl
  have hiσ : i < σ.length := by rw [I.len]; exact (List.getElem?_eq_some_iff.mp hi).1
  have cne := I.cne
  have tracked : ∀ {a : Addr} {h' : Heap}, (∃ o, s.heap.get? a = some o ∧ H a = none) → Heap.SameBut a s.heap h' → HOk X.prog X.w H h' := fun {a h'} ha hs b ob e => by
    obtain ⟨_, _, hfree⟩ := ha
    refine (I.hok b ob e).stay (fun c w' hc q => (hs.2 c ?_).trans q) (fun _ q => q) fun _ _ q => q
    rintro rfl
    rcases hc with rfl | hc
    · rw [hfree] at e; cases e
    · rw [hfree] at hc; cases hc
  rcases hx with hk | hk
  · refine wpAny_storeName_local hk hn (fun h' hn' hs => ?_) hcls
    obtain ⟨oL, _, _, hoL, _⟩ := id hn
    refine h _ ⟨I.ok, I.os, I.bare, ⟨fun b o e n hb hx => ?_, fun b o e n hb hx => ?_, I.base.free, fun b o e hx => ?_, I.base.tups, I.base.frzs, I.base.tbls⟩, ⟨_, hn', fun j y v' e1 e2 e3 => ?_⟩, fun y c e => ?_, I.free, I.freeC, fun p hp => ?_, tracked ⟨oL, hoL, I.free⟩ hs, by simpa using I.len⟩ ⟨_, hs, .inl rfl⟩
    · exact (hs.2 b (Nat.ne_of_lt (Nat.lt_of_lt_of_le (Heap.lt_size e) I.ok.above))).trans (I.base.keep b o e n hb hx)
    · obtain ⟨sl, e1⟩ := I.base.slot b o e n hb hx
      exact ⟨sl, (hs.2 b (Nat.ne_of_lt (Nat.lt_of_lt_of_le (Heap.lt_size e) I.ok.above))).trans e1⟩
    · obtain ⟨o', e1⟩ := I.base.there b o e hx
      exact ⟨o', (hs.2 b (Nat.ne_of_lt (Nat.lt_of_lt_of_le (Heap.lt_size e) I.ok.above))).trans e1⟩
    · by_cases hj : j = i
      · subst hj
        rw [hi] at e1; cases e1
        rw [List.getElem?_set_self hiσ] at e2
        cases e2
        exact ⟨u, r, .inl ⟨hk, by simp⟩⟩
      · rw [List.getElem?_set_ne (Ne.symm hj)] at e2
        obtain ⟨u', r', q⟩ := hl j y v' e1 e2 e3
        refine ⟨u', r', ?_⟩
        rcases q with ⟨k, e⟩ | ⟨k, c, e, z⟩
        · refine .inl ⟨k, ?_⟩
          have : y ≠ x := fun e => hj (nodup_ix hN e1 (e ▸ hi))
          simp [this, e]
        · exact .inr ⟨k, c, e, z.sameBut hs (cne y c e)⟩
    · obtain ⟨w', z⟩ := I.cell y c e
      exact ⟨w', z.sameBut hs (cne y c e)⟩
    · obtain ⟨e, n, ne, nf, d⟩ := I.pin p hp
      exact ⟨(hs.2 p.1 ne).trans e, n, ne, nf, d⟩
  · have hfn : X.fn x = true := by
      rcases hf with z | z
      · exact z
      · rw [z] at hk; cases hk
    obtain ⟨c, hc⟩ := I.ok.has x (.inl hk)
    obtain ⟨w', z⟩ := I.cell x c hc
    refine wpAny_storeName_cell I.ok.kind hk hc z (fun h' hc' hs => ?_)
    obtain ⟨oc, hoc, hocd⟩ := id z
    refine h { s with heap := h' } ⟨I.ok, I.os, I.bare, ⟨fun b o e n hb hx => ?_, fun b o e n hb hx => ?_, I.base.free, fun b o e hx => ?_, I.base.tups, I.base.frzs, I.base.tbls⟩, ⟨m, hn.sameBut hs (Ne.symm (cne x c hc)), fun j y v' e1 e2 e3 => ?_⟩, fun y c' e => ?_, I.free, I.freeC, fun p hp => ?_, tracked ⟨oc, hoc, I.freeC x c hc⟩ hs, by simpa using I.len⟩ ⟨c, hs, .inr hc⟩
    · exact (hs.2 b (Nat.ne_of_lt (Nat.lt_of_lt_of_le (Heap.lt_size e) (I.ok.cab x c hfn hc)))).trans (I.base.keep b o e n hb hx)
    · obtain ⟨sl, e1⟩ := I.base.slot b o e n hb hx
      exact ⟨sl, (hs.2 b (Nat.ne_of_lt (Nat.lt_of_lt_of_le (Heap.lt_size e) (I.ok.cab x c hfn hc)))).trans e1⟩
    · obtain ⟨o', e1⟩ := I.base.there b o e hx
      exact ⟨o', (hs.2 b (Nat.ne_of_lt (Nat.lt_of_lt_of_le (Heap.lt_size e) (I.ok.cab x c hfn hc)))).trans e1⟩
    · by_cases hj : j = i
      · subst hj
        rw [hi] at e1; cases e1
        rw [List.getElem?_set_self hiσ] at e2
        cases e2
        exact ⟨u, r, .inr ⟨.inl hk, c, hc, hc'⟩⟩
      · rw [List.getElem?_set_ne (Ne.symm hj)] at e2
        obtain ⟨u', r', q⟩ := hl j y v' e1 e2 e3
        refine ⟨u', r', ?_⟩
        rcases q with q | ⟨k, c', e, z'⟩
        · exact .inl q
        · refine .inr ⟨k, c', e, z'.sameBut hs ?_⟩
          rintro rfl
          exact hj (nodup_ix hN e1 (I.ok.inj _ _ _ e hc ▸ hi))
    · by_cases hcc : c' = c
      · subst hcc; exact ⟨_, hc'⟩
      · obtain ⟨w2, z2⟩ := I.cell y c' e
        exact ⟨w2, z2.sameBut hs hcc⟩
    · obtain ⟨e, n, ne, nf, d⟩ := I.pin p hp
      refine ⟨(hs.2 p.1 ?_).trans e, n, ne, nf, d⟩
      intro q
      rw [q, hoc] at e
      have q' : oc = p.2 := Option.some.inj e
      exact d w' (by rw [← q']; exact hocd)
theorem store_ok {M : Model} {A : Around} {E : Value → Shared → Prop} {i : Nat} {x : Str} {v : V} {u : Value} {Q : Unit → Shared → Prop} (I : Inv X pins σ H s) (hN : X.N.Nodup) (hi : X.N[i]? = some x) (hx : Loc X.env.scope x) (r : RelV v u)
    (h : ∀ s', Inv X pins (σ.set i (some v)) H s' → Q () s') (hf : X.fn x = true ∨ X.env.scope.names.lookup x = some .local := by first | exact .inl rfl | exact .inr rfl | assumption) : wpAny M A (storeName X.env x u) Q E s :=
  store_ok2 I hN hi hx r (fun s' I' _ => h s' I') hf
/-- behind a call or a block, the state as it is -/
theorem Inv.call' {s' : Shared} {ch : List Addr} (I : Inv X pins σ H s) (ho : s'.os = s.os) (u : Un (frs X.stack) ch H H' s.heap s'.heap) (hok : HOk X.prog X.w H' s'.heap) (hg : AllBare s'.gens)
    (hch : ∀ b ∈ ch, (b ∈ X.ex ∨ X.s₀.heap.objs.size ≤ b) ∧ b ≠ X.env.locals ∧ (∀ x c, X.env.cells.lookup x = some c → c ≠ b) ∧ ∀ p ∈ X.pn ++ pins, p.1 ≠ b) : Inv X pins σ H' s' := by
  obtain ⟨h', g', d', t', o'⟩ := s'
  have e : o' = s.os := ho
  subst e
  exact I.call (g' := g') (t' := t') (d' := d') u hok hg hch
end

/-! ### the judgements -/
/-- an exception: its class, its own dict's address (where it has one), the abstract heap behind it -/
abbrev XK := Value → Option Addr → Hp → Prop
abbrev St := List (Option V)
abbrev VK := V → Hp → Prop
/-- an expression's reading; a test's; an argument list's -/
abbrev TE := St → Hp → VK → Prop
abbrev TT := St → Hp → (Bool → Hp → Prop) → Prop
abbrev TA := St → Hp → (List V → Hp → Prop) → Prop
/-- what is wanted behind a statement -/
structure Ends where
  nx : St → Hp → Prop
  rt : VK
  bk : St → Hp → Prop := fun _ _ => False
  ct : St → Hp → Prop := fun _ _ => False
abbrev TS := Ends → St → Hp → Prop

def EP (X : Cx) (pins : List (Addr × Obj)) (σ : St) (Q : VK) (u : Value) (s' : Shared) : Prop := ∃ v H', Inv X pins σ H' s' ∧ RelV v u ∧ Q v H'
def TP (X : Cx) (pins : List (Addr × Obj)) (σ : St) (Q : Bool → Hp → Prop) (b : Bool) (s' : Shared) : Prop := ∃ H', Inv X pins σ H' s' ∧ Q b H'
def AP (X : Cx) (pins : List (Addr × Obj)) (σ : St) (Q : List V → Hp → Prop) (us : List Value) (s' : Shared) : Prop := ∃ vs H', Inv X pins σ H' s' ∧ Vals vs us ∧ Q vs H'
def SP (X : Cx) (pins : List (Addr × Obj)) (D : Ends) (f : Flow) (s' : Shared) : Prop :=
  match f with
  | .next => ∃ σ' H', Inv X pins σ' H' s' ∧ D.nx σ' H'
  | .brk => ∃ σ' H', Inv X pins σ' H' s' ∧ D.bk σ' H'
  | .cont => ∃ σ' H', Inv X pins σ' H' s' ∧ D.ct σ' H'
  | .ret u => ∃ v σ' H', Inv X pins σ' H' s' ∧ RelV v u ∧ D.rt v H'

def PE (X : Cx) (e : Expr) (t : TE) : Prop :=
  ∀ (pins : List (Addr × Obj)) (s : Shared) (σ : St) (H : Hp) (Q : VK), Inv X pins σ H s → t σ H Q → wpAny (model X.prog X.w) X.A (eval e X.env) (EP X pins σ Q) X.xe s
def PT (X : Cx) (e : Expr) (t : TT) : Prop :=
  ∀ (pins : List (Addr × Obj)) (s : Shared) (σ : St) (H : Hp) (Q : Bool → Hp → Prop), Inv X pins σ H s → t σ H Q → wpAny (model X.prog X.w) X.A (isTrue e X.env (eval e X.env)) (TP X pins σ Q) X.xe s
/-- a test whatever its 'whole' is (and, or) -/
def PW (X : Cx) (e : Expr) (t : TT) : Prop :=
  ∀ (whole : Sem Value) (pins : List (Addr × Obj)) (s : Shared) (σ : St) (H : Hp) (Q : Bool → Hp → Prop), Inv X pins σ H s → t σ H Q → wpAny (model X.prog X.w) X.A (isTrue e X.env whole) (TP X pins σ Q) X.xe s
theorem PW.pt {X : Cx} {e : Expr} {t : TT} (h : PW X e t) : PT X e t := h _
/-- an argument list (no star), from the left -/
def PA (X : Cx) (es : List Expr) (t : TA) : Prop :=
  ∀ (pos : Pos) (pins : List (Addr × Obj)) (s : Shared) (σ : St) (H : Hp) (Q : List V → Hp → Prop), Inv X pins σ H s → t σ H Q → wpAny (model X.prog X.w) X.A (spliced (backTo pos (starEach es X.env))) (AP X pins σ Q) X.xe s
def PS (X : Cx) (st : Stmt) (t : TS) : Prop :=
  ∀ (pins : List (Addr × Obj)) (s : Shared) (σ : St) (H : Hp) (D : Ends), Inv X pins σ H s → t D σ H → wpAny (model X.prog X.w) X.A (exec st X.env) (SP X pins D) X.xe s
def PSs (X : Cx) (st : List Stmt) (t : TS) : Prop :=
  ∀ (pins : List (Addr × Obj)) (s : Shared) (σ : St) (H : Hp) (D : Ends), Inv X pins σ H s → t D σ H → wpAny (model X.prog X.w) X.A (execs st X.env) (SP X pins D) X.xe s
/-- weaken the end -/
theorem thn {α : Type} {t : Sem α} {Q Q' : α → Shared → Prop} {M : Model} {A : Around} {E : Value → Shared → Prop} {s : Shared} (h : wpAny M A t Q E s) (hQ : ∀ a s, Q a s → Q' a s) : wpAny M A t Q' E s := wpAny_mono h hQ fun _ _ x => x
end L2

namespace L2
open PySem PySem.Spec PyProof.Rows
section
variable {X : Cx}

/-- two expressions in a row -/
theorem bin {a b : Expr} {ta tb : TE} (ha : PE X a ta) (hb : PE X b tb) {pins : List (Addr × Obj)} {s : Shared} {σ : St} {H : Hp} {R : V → V → Hp → Prop} (I : Inv X pins σ H s) (h : ta σ H fun x H1 => tb σ H1 fun y H2 => R x y H2)
    {α : Type} {Q : α → Shared → Prop} {f : Value → Value → Sem α}
    (hf : ∀ v u s2 x y H2, Inv X pins σ H2 s2 → RelV x v → RelV y u → R x y H2 → wpAny (model X.prog X.w) X.A (f v u) Q X.xe s2) :
    wpAny (model X.prog X.w) X.A (eval a X.env) (fun v s₁ => wpAny (model X.prog X.w) X.A (eval b X.env) (fun u s₂ => wpAny (model X.prog X.w) X.A (f v u) Q X.xe s₂) X.xe s₁) X.xe s := by
  refine thn (ha pins s σ H _ I h) fun v s1 ⟨x, H1, I1, r1, q1⟩ => ?_
  refine thn (hb pins s1 σ H1 _ I1 q1) fun u s2 ⟨y, H2, I2, r2, q2⟩ => ?_
  exact hf v u s2 x y H2 I2 r1 r2 q2

/-! ### names and constants -/
def tVar (i : Nat) : TE := fun σ H Q => ∃ v, σ[i]? = some (some v) ∧ Q v H
def tC (v : V) : TE := fun _ H Q => Q v H
theorem pe_var {i : Nat} {x : Str} {pos : Pos} (hN : X.N[i]? = some x) (hv : Vis X.env.scope x) (hd : (x == ("__debug__" : Str)) = false := by decide) (hcd : (x == ("__classdict__" : Str)) = false := by decide) : PE X (.Name x pos) (tVar i) := by
  intro pins s σ H Q I h
  obtain ⟨v, e, h⟩ := h
  obtain ⟨m, hn, hl⟩ := I.loc
  obtain ⟨u, r, l⟩ := hl i x v hN e hv
  have fin : EP X pins σ Q u s := ⟨v, H, I, r, h⟩
  rcases l with ⟨hk, hm⟩ | ⟨hk, c, hc, hcell⟩
  · exact wpAny_Name (wpAny_loadName_local I.ok.kind hk hn hm fin) hd
  · rcases hk with hk | hk
    · exact wpAny_Name (wpAny_loadName_cell I.ok.kind hk hc hcell fin) hd
    · exact wpAny_Name (wpAny_loadName_free I.ok.kind hk hc hcell fin hcd) hd
theorem pe_int {i j pos} : PE X (.Constant (.int i) j pos) (tC (.int i)) := fun _ _ _ H _ I h => wpAny_Constant_int ⟨.int i, H, I.tok _, ⟨_, rfl⟩, h⟩
theorem pe_bl {b j pos} : PE X (.Constant (.bool b) j pos) (tC (.bl b)) := fun _ _ _ H _ I h => Constant_bool ⟨.bl b, H, I, rfl, h⟩
theorem pe_non {j pos} : PE X (.Constant .none j pos) (tC .non) := fun _ _ _ H _ I h => Constant_none ⟨.non, H, I, rfl, h⟩
theorem pe_str {x j pos} : PE X (.Constant (.str x) j pos) (tC (.str x)) := fun _ _ _ H _ I h => Calls.Constant_str ⟨.str x, H, I.tok _, ⟨_, rfl⟩, h⟩

/-- a global name of the def -/
def Gl (X : Cx) (x : Str) : Prop := X.env.kindOf x = some .globalImplicit
theorem ld_glob {E : Value → Shared → Prop} {pins : List (Addr × Obj)} {s : Shared} {σ : St} {H : Hp} {x : Str} {u : Value} {pos : Pos} {Q : Value → Shared → Prop} (I : Inv X pins σ H s) (hg : Gl X x) (hm : X.mg x = some u) (h : Q u s)
    (hd : (x == ("__debug__" : Str)) = false := by decide) : wpAny (model X.prog X.w) X.A (eval (.Name x pos) X.env) Q E s :=
  Calls.Name_function_global I.ok.kind hg (Calls.loadGlobal_global (by rw [I.ok.glob]; exact I.mod.glob.keeps I.bk) hm h) hd
theorem ld_blt {E : Value → Shared → Prop} {pins : List (Addr × Obj)} {s : Shared} {σ : St} {H : Hp} {x : Str} {u : Value} {pos : Pos} {Q : Value → Shared → Prop} (I : Inv X pins σ H s) (hg : Gl X x) (hm : X.mg x = none) (hv : bootBuiltins x = some u) (h : Q u s)
    (hn : x ≠ "__name__" := by decide) (hd : (x == ("__debug__" : Str)) = false := by decide) : wpAny (model X.prog X.w) X.A (eval (.Name x pos) X.env) Q E s := by
  obtain ⟨mb, h1, h2⟩ := I.mod.blt
  exact Calls.Name_function_global I.ok.kind hg (Calls.loadGlobal_builtin (by rw [I.ok.glob]; exact I.mod.glob.keeps I.bk) hm (by rw [I.ok.blt]; exact h1.keeps I.bk) ((h2 x hn).trans hv) h) hd
/-- a module's constant, a class, a function, as a value -/
theorem pe_glob {x : Str} {v : V} {u : Value} {pos : Pos} (hg : Gl X x) (hm : X.mg x = some u) (r : RelV v u) (hd : (x == ("__debug__" : Str)) = false := by decide) : PE X (.Name x pos) (tC v) :=
  fun _ _ _ H _ I h => ld_glob I hg hm ⟨v, H, I, r, h⟩ hd
theorem pe_bltn {x : Str} {v : V} {u : Value} {pos : Pos} (hg : Gl X x) (hm : X.mg x = none) (hv : bootBuiltins x = some u) (r : RelV v u) (hn : x ≠ "__name__" := by decide) (hd : (x == ("__debug__" : Str)) = false := by decide) : PE X (.Name x pos) (tC v) :=
  fun _ _ _ H _ I h => ld_blt I hg hm hv ⟨v, H, I, r, h⟩ hn hd

/-! ### arithmetic -/
/-- two ints -/
def t2I (ta tb : TE) (k : Int → Int → Hp → Prop) : St → Hp → Prop := fun σ H => ta σ H fun x H1 => tb σ H1 fun y H2 => ∃ i j, x = .int i ∧ y = .int j ∧ k i j H2
def tAdd (ta tb : TE) : TE := fun σ H Q => t2I ta tb (fun i j H2 => Q (.int (i + j)) H2) σ H
def tSub (ta tb : TE) : TE := fun σ H Q => t2I ta tb (fun i j H2 => Q (.int (i - j)) H2) σ H
/-- the left factor below 2^64 -/
def tMul (ta tb : TE) : TE := fun σ H Q => t2I ta tb (fun i j H2 => (-(2 ^ 64) < i ∧ i < 2 ^ 64) ∧ Q (.int (i * j)) H2) σ H
variable {a b : Expr} {ta tb : TE} {pos : Pos}
theorem pe_add (ha : PE X a ta) (hb : PE X b tb) : PE X (.BinOp a .Add b pos) (tAdd ta tb) := by
  intro pins s σ H Q I h
  refine wpAny_BinOp (bin ha hb I h fun v u s2 x y H2 I2 rx ry q => ?_)
  obtain ⟨i, j, rfl, rfl, q⟩ := q
  obtain ⟨t, rfl⟩ := rx
  obtain ⟨t', rfl⟩ := ry
  exact add_int ⟨.int _, H2, I2.tok _, ⟨_, rfl⟩, q⟩
theorem pe_sub (ha : PE X a ta) (hb : PE X b tb) : PE X (.BinOp a .Sub b pos) (tSub ta tb) := by
  intro pins s σ H Q I h
  refine wpAny_BinOp (bin ha hb I h fun v u s2 x y H2 I2 rx ry q => ?_)
  obtain ⟨i, j, rfl, rfl, q⟩ := q
  obtain ⟨t, rfl⟩ := rx
  obtain ⟨t', rfl⟩ := ry
  exact sub_int ⟨.int _, H2, I2.tok _, ⟨_, rfl⟩, q⟩
theorem pe_mul (ha : PE X a ta) (hb : PE X b tb) : PE X (.BinOp a .Mult b pos) (tMul ta tb) := by
  intro pins s σ H Q I h
  refine wpAny_BinOp (bin ha hb I h fun v u s2 x y H2 I2 rx ry q => ?_)
  obtain ⟨i, j, rfl, rfl, ⟨q1, q2⟩, q⟩ := q
  obtain ⟨t, rfl⟩ := rx
  obtain ⟨t', rfl⟩ := ry
  exact mul_int ⟨.int _, H2, I2.tok _, ⟨_, rfl⟩, q⟩ (.of_left (intBits_le_64 q1 q2))

/-! ### comparisons -/
def PC (X : Cx) (op : CmpOp) (a b : Expr) (t : TE) : Prop :=
  ∀ (pins : List (Addr × Obj)) (s : Shared) (σ : St) (H : Hp) (Q : VK), Inv X pins σ H s → t σ H Q →
    wpAny (model X.prog X.w) X.A (eval a X.env) (fun v s₁ => wpAny (model X.prog X.w) X.A (eval b X.env) (fun u s₂ => wpAny (model X.prog X.w) X.A (compareOp op v u) (EP X pins σ Q) X.xe s₂) X.xe s₁) X.xe s
theorem nobehind (b : Expr) {op : CmpOp} (h : op ≠ .In) (h2 : op ≠ .NotIn) : behindInMarks op b = false := by
  have e1 : (op == CmpOp.In) = false := by cases op <;> first | rfl | exact absurd rfl h
  have e2 : (op == CmpOp.NotIn) = false := by cases op <;> first | rfl | exact absurd rfl h2
  cases b <;> simp [behindInMarks, e1, e2]
def tCmp (p : Int → Int → Bool) (ta tb : TE) : TE := fun σ H Q => t2I ta tb (fun i j H2 => Q (.bl (p i j)) H2) σ H
abbrev tLt : TE → TE → TE := tCmp fun i j => decide (i < j)
abbrev tLe : TE → TE → TE := tCmp fun i j => decide (i ≤ j)
abbrev tGt : TE → TE → TE := tCmp fun i j => decide (j < i)
abbrev tGe : TE → TE → TE := tCmp fun i j => decide (j ≤ i)
abbrev tEqI : TE → TE → TE := tCmp fun i j => decide (i = j)
abbrev tNeI : TE → TE → TE := tCmp fun i j => !decide (i = j)
/-- a comparison of two ints, by its rule -/
theorem pc_int {op : CmpOp} {p : Int → Int → Bool} (ha : PE X a ta) (hb : PE X b tb)
    (rule : ∀ (i j : Int) (t u : Tok) (Q : Value → Shared → Prop) (s : Shared), Q (.bool (p i j)) s → wpAny (model X.prog X.w) X.A (compareOp op (.int i t) (.int j u)) Q X.xe s) : PC X op a b (tCmp p ta tb) := by
  intro pins s σ H Q I h
  refine bin ha hb I h fun v u s2 x y H2 I2 rx ry q => ?_
  obtain ⟨i, j, rfl, rfl, q⟩ := q
  obtain ⟨t, rfl⟩ := rx
  obtain ⟨t', rfl⟩ := ry
  exact rule i j t t' _ s2 ⟨.bl _, H2, I2, rfl, q⟩
theorem pc_lt (ha : PE X a ta) (hb : PE X b tb) : PC X .Lt a b (tLt ta tb) := pc_int ha hb fun _ _ _ _ _ _ h => lt_int h
theorem pc_le (ha : PE X a ta) (hb : PE X b tb) : PC X .LtE a b (tLe ta tb) := pc_int ha hb fun _ _ _ _ _ _ h => le_int h
theorem pc_gt (ha : PE X a ta) (hb : PE X b tb) : PC X .Gt a b (tGt ta tb) := pc_int ha hb fun _ _ _ _ _ _ h => gt_int h
theorem pc_ge (ha : PE X a ta) (hb : PE X b tb) : PC X .GtE a b (tGe ta tb) := pc_int ha hb fun _ _ _ _ _ _ h => ge_int h
theorem pc_eqI (ha : PE X a ta) (hb : PE X b tb) : PC X .Eq a b (tEqI ta tb) := pc_int ha hb fun _ _ _ _ _ _ h => eq_int (by rw [Bool.beq_eq_decide_eq]; exact h)
theorem pc_neI (ha : PE X a ta) (hb : PE X b tb) : PC X .NotEq a b (tNeI ta tb) := pc_int ha hb fun _ _ _ _ _ _ h => ne_int (by rw [bne, Bool.beq_eq_decide_eq]; exact h)
/-- is None -/
def tIsN (ta : TE) : TE := fun σ H Q => ta σ H fun x H1 => Q (.bl (decide (x = .non))) H1
def tNotN (ta : TE) : TE := fun σ H Q => ta σ H fun x H1 => Q (.bl (!decide (x = .non))) H1
theorem RelV.none_iff {x : V} {v : Value} (r : RelV x v) : (v == Value.none) = decide (x = .non) := by
  cases x with
  | non => cases r; rfl
  | bl _ => cases r; rfl
  | int _ => obtain ⟨t, rfl⟩ := r; rfl
  | str _ => obtain ⟨t, rfl⟩ := r; rfl
  | byt _ => obtain ⟨t, rfl⟩ := r; rfl
  | flt _ => obtain ⟨t, rfl⟩ := r; rfl
  | ref _ => cases r; rfl
  | ty _ => cases r; rfl
theorem pc_isN {j pos'} (ha : PE X a ta) : PC X .Is a (.Constant .none j pos') (tIsN ta) := by
  intro pins s σ H Q I h
  refine thn (ha pins s σ H _ I h) fun v s1 ⟨x, H1, I1, r1, q1⟩ => ?_
  exact Constant_none (is_none_gen ⟨.bl _, H1, I1, by rw [r1.none_iff]; rfl, q1⟩)
theorem pc_notN {j pos'} (ha : PE X a ta) : PC X .IsNot a (.Constant .none j pos') (tNotN ta) := by
  intro pins s σ H Q I h
  refine thn (ha pins s σ H _ I h) fun v s1 ⟨x, H1, I1, r1, q1⟩ => ?_
  exact Constant_none (isnot_none_gen ⟨.bl _, H1, I1, by rw [r1.none_iff]; rfl, q1⟩)
/-- a comparison as a value, as a test -/
def tB (t : TE) : TT := fun σ H Q => t σ H fun x H1 => ∃ c, x = .bl c ∧ Q c H1
theorem pe_cmp {op : CmpOp} {t : TE} (h : PC X op a b t) (h1 : behindInMarks op b = false := by first | exact nobehind _ (by decide) (by decide) | rfl) : PE X (.Compare a [op] [b] pos) t := fun pins s σ H Q I hw => wpAny_Compare1 (h pins s σ H Q I hw) h1
theorem pt_cmp {op : CmpOp} {t : TE} (h : PC X op a b t) (h1 : behindInMarks op b = false := by first | exact nobehind _ (by decide) (by decide) | rfl) : PT X (.Compare a [op] [b] pos) (tB t) := by
  intro pins s σ H Q I hw
  refine wpAny_isTrue_Compare1 (thn (h pins s σ H _ I hw) fun v s1 h1 => thn h1 fun u s2 h2 => thn h2 fun c s3 ⟨x, H1, I1, r1, q1⟩ => ?_) h1
  obtain ⟨d, rfl, q⟩ := q1
  cases r1
  exact wpAny_truthy_bool ⟨H1, I1, q⟩
/-- an expression whose value is a bool, as a test -/
theorem pt_val {e : Expr} {t : TE} (h : PE X e t) (he : ∀ whole, isTrue e X.env whole = (do let v ← whole; standAt e.pos; holding [v] (truthy v)) := by intro _; rfl) : PT X e (tB t) := by
  intro pins s σ H Q I hw
  refine isTrue_plain (thn (h pins s σ H _ I hw) fun v s1 ⟨x, H1, I1, r1, q1⟩ => ?_) (he _)
  obtain ⟨d, rfl, q⟩ := q1
  cases r1
  exact wpAny_truthy_bool ⟨H1, I1, q⟩

/-! ### and, or, not -/
variable {tA tB' : TT} {rest : List Expr}
def tAnd (t u : TT) : TT := fun σ H Q => t σ H fun c H1 => if c = true then u σ H1 Q else Q false H1
def tOr (t u : TT) : TT := fun σ H Q => t σ H fun c H1 => if c = true then Q true H1 else u σ H1 Q
def tNot (t : TT) : TT := fun σ H Q => t σ H fun c H1 => Q (!c) H1
theorem pw_and1 (ha : PT X a tA) : PW X (.BoolOp .And [a] pos) tA := by
  intro wh pins s σ H Q I h
  refine isTrue_and (thn (ha pins s σ H Q I h) fun c s1 e => ?_)
  cases c with
  | true => exact isTrue_and_nil e
  | false => exact e
theorem pw_or1 (ha : PT X a tA) : PW X (.BoolOp .Or [a] pos) tA := by
  intro wh pins s σ H Q I h
  refine isTrue_or (thn (ha pins s σ H Q I h) fun c s1 e => ?_)
  cases c with
  | false => exact isTrue_or_nil e
  | true => exact e
theorem pw_and (ha : PT X a tA) (hb : PW X (.BoolOp .And (b :: rest) pos) tB') : PW X (.BoolOp .And (a :: b :: rest) pos) (tAnd tA tB') := by
  intro wh pins s σ H Q I h
  refine isTrue_and (thn (ha pins s σ H _ I h) fun c s1 ⟨H1, I1, q1⟩ => ?_)
  cases c with
  | true => exact hb wh pins s1 σ H1 Q I1 q1
  | false => exact ⟨H1, I1, q1⟩
theorem pw_or (ha : PT X a tA) (hb : PW X (.BoolOp .Or (b :: rest) pos) tB') : PW X (.BoolOp .Or (a :: b :: rest) pos) (tOr tA tB') := by
  intro wh pins s σ H Q I h
  refine isTrue_or (thn (ha pins s σ H _ I h) fun c s1 ⟨H1, I1, q1⟩ => ?_)
  cases c with
  | true => exact ⟨H1, I1, q1⟩
  | false => exact hb wh pins s1 σ H1 Q I1 q1
theorem pt_not (ha : PT X a tA) : PT X (.UnaryOp .Not a pos) (tNot tA) := by
  intro pins s σ H Q I h
  exact isTrue_not (ha pins s σ H (fun c H1 => Q (!c) H1) I h)
/-- .. as values (bools) -/
def tAndV (ta tb : TE) : TE := fun σ H Q => ta σ H fun x H1 => ∃ c, x = .bl c ∧ if c = true then tb σ H1 Q else Q (.bl false) H1
def tOrV (ta tb : TE) : TE := fun σ H Q => ta σ H fun x H1 => ∃ c, x = .bl c ∧ if c = true then Q (.bl true) H1 else tb σ H1 Q
def tNotV (ta : TE) : TE := fun σ H Q => ta σ H fun x H1 => ∃ c, x = .bl c ∧ Q (.bl (!c)) H1
theorem pe_one {op} {t : TE} (h : PE X a t) : PE X (.BoolOp op [a] pos) t := fun pins s σ H Q I hw => BoolOp_one (h pins s σ H Q I hw)
theorem pe_and (ha : PE X a ta) (hb : PE X (.BoolOp .And (b :: rest) pos) tb) : PE X (.BoolOp .And (a :: b :: rest) pos) (tAndV ta tb) := by
  intro pins s σ H Q I h
  refine BoolOp_and (thn (ha pins s σ H _ I h) fun v s1 ⟨x, H1, I1, r1, q1⟩ => ?_)
  obtain ⟨c, rfl, q1⟩ := q1
  cases r1
  refine wpAny_truthy_bool ?_
  cases c with
  | true => exact hb pins s1 σ H1 Q I1 q1
  | false => exact ⟨.bl false, H1, I1, rfl, q1⟩
theorem pe_or (ha : PE X a ta) (hb : PE X (.BoolOp .Or (b :: rest) pos) tb) : PE X (.BoolOp .Or (a :: b :: rest) pos) (tOrV ta tb) := by
  intro pins s σ H Q I h
  refine BoolOp_or (thn (ha pins s σ H _ I h) fun v s1 ⟨x, H1, I1, r1, q1⟩ => ?_)
  obtain ⟨c, rfl, q1⟩ := q1
  cases r1
  refine wpAny_truthy_bool ?_
  cases c with
  | false => exact hb pins s1 σ H1 Q I1 q1
  | true => exact ⟨.bl true, H1, I1, rfl, q1⟩
theorem pe_not (ha : PE X a ta) : PE X (.UnaryOp .Not a pos) (tNotV ta) := by
  intro pins s σ H Q I h
  refine UnaryOp_ (thn (ha pins s σ H _ I h) fun v s1 ⟨x, H1, I1, r1, q1⟩ => ?_)
  obtain ⟨c, rfl, q1⟩ := q1
  cases r1
  exact not_of (wpAny_truthy_bool ⟨.bl (!c), H1, I1, rfl, q1⟩)
/-- a if t else b -/
def tIf (t : TT) (ta tb : TE) : TE := fun σ H Q => t σ H fun c H1 => if c = true then ta σ H1 Q else tb σ H1 Q
theorem pe_ifExp {c : Expr} (hc : PT X c tA) (ha : PE X a ta) (hb : PE X b tb) : PE X (.IfExp c a b pos) (tIf tA ta tb) := by
  intro pins s σ H Q I h
  refine wpAny_IfExp (thn (hc pins s σ H _ I h) fun d s1 ⟨H1, I1, q1⟩ => ?_)
  cases d with
  | true => exact ha pins s1 σ H1 Q I1 q1
  | false => exact hb pins s1 σ H1 Q I1 q1
end
end L2

namespace L2
open PySem PySem.Spec PyProof.Rows

/-! ### a list, a tuple that is read: tracked, frozen, or an object of the module -/
def SqL (K : PySem.W.Frag) (H : Hp) (a : Addr) (xs : List V) : Prop :=
  Rd H a (.lst xs) ∨
    ∃ (o : Obj) (its : Array Value) (n : Nat), K.lookup a = some o ∧ o.cls = .type "list" ∧ o.dict = none ∧ o.data = .seq its n ∧ its.size ≤ sizeLine ∧ Vals xs its.toList
def SqT (K : PySem.W.Frag) (H : Hp) (a : Addr) (xs : List V) : Prop :=
  Rd H a (.tup xs) ∨
    ∃ (o : Obj) (its : Array Value) (n : Nat), K.lookup a = some o ∧ o.cls = .type "tuple" ∧ o.data = .seq its n ∧ its.size ≤ sizeLine ∧ Vals xs its.toList
def absV : Value → Option V
  | .none => some .non
  | .bool b => some (.bl b)
  | .int i _ => some (.int i)
  | .str x _ => some (.str x)
  | .bytes b _ => some (.byt b)
  | .float b _ => some (.flt b)
  | .ref a => some (.ref a)
  | .type n => some (.ty n)
  | _ => none
theorem RelV.abs {x : V} {u : Value} (r : RelV x u) : absV u = some x := by
  cases x with
  | non => cases r; rfl
  | bl _ => cases r; rfl
  | int _ => obtain ⟨t, rfl⟩ := r; rfl
  | str _ => obtain ⟨t, rfl⟩ := r; rfl
  | byt _ => obtain ⟨t, rfl⟩ := r; rfl
  | flt _ => obtain ⟨t, rfl⟩ := r; rfl
  | ref _ => cases r; rfl
  | ty _ => cases r; rfl
theorem RelV.inj {x y : V} {u : Value} (r : RelV x u) (q : RelV y u) : x = y := Option.some.inj (r.abs.symm.trans q.abs)
theorem Vals.inj : ∀ {xs ys : List V} {us : List Value}, Vals xs us → Vals ys us → xs = ys
  | _, _, _, .nil, .nil => rfl
  | _, _, _, .cons r t, .cons r' t' => by rw [r.inj r', Vals.inj t t']
section
variable {X : Cx} {pins : List (Addr × Obj)} {σ : St} {H : Hp} {s : Shared} {a : Addr} {xs ys : List V}
theorem SqL.of {K : PySem.W.Frag} (h : H a = some (.lst xs)) : SqL K H a xs := .inl (.inl h)
theorem SqT.of {K : PySem.W.Frag} (h : H a = some (.tup xs)) : SqT K H a xs := .inl (.inl h)
theorem Inv.list (I : Inv X pins σ H s) (h : SqL X.K H a xs) : ∃ its : List Value, Vals xs its ∧ PlainL s.heap a its.toArray ∧ xs.length ≤ sizeLine := by
  rcases h with h | ⟨o, its, n, hk, hc, hd, hs, hz, r⟩
  · obtain ⟨z, its, n, r, e⟩ := h.ok I.hok
    exact ⟨its, r, ⟨_, n, e, rfl, rfl, rfl⟩, z⟩
  · refine ⟨its.toList, r, ⟨o, n, I.kIn a o hk, hc, hd, by simpa using hs⟩, ?_⟩
    have e := r.length
    simp only [Array.length_toList] at e
    omega
theorem Inv.tuple (I : Inv X pins σ H s) (h : SqT X.K H a xs) : ∃ its : List Value, Vals xs its ∧ IsTup s.heap a its.toArray ∧ xs.length ≤ sizeLine := by
  rcases h with h | ⟨o, its, n, hk, hc, hs, hz, r⟩
  · obtain ⟨z, its, r, p⟩ := h.ok I.hok
    exact ⟨its, r, p, z⟩
  · refine ⟨its.toList, r, ⟨o, I.kIn a o hk, hc, n, by simpa using hs⟩, ?_⟩
    have e := r.length
    simp only [Array.length_toList] at e
    omega
theorem Inv.list_inj (I : Inv X pins σ H s) (h : SqL X.K H a xs) (h' : SqL X.K H a ys) : xs = ys := by
  obtain ⟨its, r, ⟨o, n, e, _, _, d⟩, _⟩ := I.list h
  obtain ⟨its', r', ⟨o', n', e', _, _, d'⟩, _⟩ := I.list h'
  rw [e] at e'; cases e'
  rw [d] at d'
  injection d' with d1 _
  have : its = its' := by simpa using congrArg Array.toList d1
  subst this
  exact r.inj r'
theorem Inv.tuple_inj (I : Inv X pins σ H s) (h : SqT X.K H a xs) (h' : SqT X.K H a ys) : xs = ys := by
  obtain ⟨its, r, ⟨o, e, _, n, d⟩, _⟩ := I.tuple h
  obtain ⟨its', r', ⟨o', e', _, n', d'⟩, _⟩ := I.tuple h'
  rw [e] at e'; cases e'
  rw [d] at d'
  injection d' with d1 _
  have : its = its' := by simpa using congrArg Array.toList d1
  subst this
  exact r.inj r'
end

/-! ### another wish about exceptions -/
abbrev Cx.wish (X : Cx) (E : Value → Shared → Prop) : Cx := { X with xe := E }
/-- no exception leaves -/
abbrev Cx.nox (X : Cx) : Cx := X.wish fun _ _ => False
theorem Cx.Ok.wish {X : Cx} (ok : X.Ok) (E : Value → Shared → Prop) : (X.wish E).Ok :=
  ⟨ok.mod, ok.kind, ok.glob, ok.blt, ok.above, ok.inj, ok.has, ok.cab, ok.hd, ok.frames, ok.stk, ok.exf, ok.bs, ok.bsz, ok.noex, ok.exfs, ok.funs, ok.frf⟩
theorem Cx.Ok.unwish {X : Cx} {E : Value → Shared → Prop} (ok : (X.wish E).Ok) : X.Ok :=
  ⟨ok.mod, ok.kind, ok.glob, ok.blt, ok.above, ok.inj, ok.has, ok.cab, ok.hd, ok.frames, ok.stk, ok.exf, ok.bs, ok.bsz, ok.noex, ok.exfs, ok.funs, ok.frf⟩
section
variable {X : Cx} {pins : List (Addr × Obj)} {σ : St} {H : Hp} {s : Shared} {E : Value → Shared → Prop}
theorem Inv.wish (I : Inv X pins σ H s) (E : Value → Shared → Prop) : Inv (X.wish E) pins σ H s := ⟨I.ok.wish E, I.os, I.bare, I.base, I.loc, I.cell, I.free, I.freeC, I.pin, I.hok, I.len⟩
theorem Inv.unwish (I : Inv (X.wish E) pins σ H s) : Inv X pins σ H s := ⟨I.ok.unwish, I.os, I.bare, I.base, I.loc, I.cell, I.free, I.freeC, I.pin, I.hok, I.len⟩
theorem SP.unwish {D : Ends} {f : Flow} {s' : Shared} (h : SP (X.wish E) pins D f s') : SP X pins D f s' := by
  cases f with
  | next => obtain ⟨σ', H', I, q⟩ := h; exact ⟨σ', H', I.unwish, q⟩
  | brk => obtain ⟨σ', H', I, q⟩ := h; exact ⟨σ', H', I.unwish, q⟩
  | cont => obtain ⟨σ', H', I, q⟩ := h; exact ⟨σ', H', I.unwish, q⟩
  | ret u => obtain ⟨v, σ', H', I, r, q⟩ := h; exact ⟨v, σ', H', I.unwish, r, q⟩
theorem PE.nox {e : Expr} {t : TE} (h : PE X.nox e t) : PE X e t := fun pins s σ H Q I hw =>
  wpAny_mono (h pins s σ H Q (I.wish _) hw) (fun _ _ ⟨v, H', I', r, q⟩ => ⟨v, H', I'.unwish, r, q⟩) fun _ _ z => False.elim z
theorem PT.nox {e : Expr} {t : TT} (h : PT X.nox e t) : PT X e t := fun pins s σ H Q I hw =>
  wpAny_mono (h pins s σ H Q (I.wish _) hw) (fun _ _ ⟨H', I', q⟩ => ⟨H', I'.unwish, q⟩) fun _ _ z => False.elim z
theorem PSs.nox {st : List Stmt} {t : TS} (h : PSs X.nox st t) : PSs X st t := fun pins s σ H D I hw =>
  wpAny_mono (h pins s σ H D (I.wish _) hw) (fun _ _ q => q.unwish) fun _ _ z => False.elim z
end

/-! ### blocks and small statements -/
section
variable {X : Cx} {st : Stmt} {rest : List Stmt} {t u : TS} {e : Expr} {te : TE} {pos : Pos}
def tNext : TS := fun D σ H => D.nx σ H
def tSeq (t u : TS) : TS := fun D σ H => t { D with nx := u D } σ H
theorem pss_nil : PSs X [] tNext := fun _ _ σ H _ I h => wpAny_execs_nil ⟨σ, H, I, h⟩
theorem pss_cons (h1 : PS X st t) (h2 : PSs X rest u) : PSs X (st :: rest) (tSeq t u) := by
  intro pins s σ H D I h
  refine wpAny_execs_cons (thn (h1 pins s σ H { D with nx := u D } I h) fun f s1 q => ?_)
  cases f with
  | next =>
    obtain ⟨σ', H', I', q⟩ := q
    exact h2 pins s1 σ' H' D I' q
  | ret v => exact q
  | brk => exact q
  | cont => exact q
theorem pss_one (h1 : PS X st t) : PSs X [st] t := by
  intro pins s σ H D I h
  refine wpAny_execs_cons (thn (h1 pins s σ H D I h) fun f s1 q => ?_)
  cases f with
  | next => exact wpAny_execs_nil q
  | ret v => exact q
  | brk => exact q
  | cont => exact q
def tBreak : TS := fun D σ H => D.bk σ H
def tCont : TS := fun D σ H => D.ct σ H
theorem ps_pass : PS X (.Pass pos) tNext := fun _ _ σ H _ I h => wpAny_Pass ⟨σ, H, I, h⟩
theorem ps_break : PS X (.Break pos) tBreak := fun _ _ σ H _ I h => wpAny_Break ⟨σ, H, I, h⟩
theorem ps_continue : PS X (.Continue pos) tCont := fun _ _ σ H _ I h => wpAny_Continue ⟨σ, H, I, h⟩
/-- in a def's body nothing is shown -/
theorem Inv.quiet {pins : List (Addr × Obj)} {σ : St} {H : Hp} {s : Shared} (I : Inv X pins σ H s) : interactive X.env = false := by simp [interactive, I.ok.kind]
/-- a docstring -/
theorem ps_doc {x j pos pos'} : PS X (.Expr (.Constant (.str x) j pos) pos') tNext := fun _ s σ H _ I h => wpAny_Expr (Calls.Constant_str (show SP X _ _ .next { s with toks := s.toks + 1 } from ⟨σ, H, I.tok _, h⟩)) I.quiet
/-- an expression whose value is dropped -/
def tDrop (te : TE) : TS := fun D σ H => te σ H fun _ H1 => D.nx σ H1
theorem ps_expr (he : PE X e te) (hs : swapsWith e none pos.line X.env = pure false := by rfl) : PS X (.Expr e pos) (tDrop te) := by
  intro pins s σ H D I h
  exact wpAny_Expr_any (thn (he pins s σ H _ I h) fun v s1 ⟨x, H1, I1, r1, q1⟩ => ⟨σ, H1, I1, q1⟩) I.quiet hs
def tRet (te : TE) : TS := fun D σ H => te σ H D.rt
theorem ps_ret (he : PE X e te) : PS X (.Return (some e) pos) (tRet te) := by
  intro pins s σ H D I h
  exact wpAny_Return_some (thn (he pins s σ H _ I h) fun v s1 ⟨x, H1, I1, r1, q1⟩ => ⟨x, σ, H1, I1, r1, q1⟩)
def tRetN : TS := fun D _ H => D.rt .non H
theorem ps_retN : PS X (.Return none pos) tRetN := fun _ _ σ H _ I h => wpAny_Return_none ⟨.non, σ, H, I, rfl, h⟩
def tIfS (c : TT) (t u : TS) : TS := fun D σ H => c σ H fun b H1 => if b = true then t D σ H1 else u D σ H1
theorem ps_if {c : Expr} {a b : List Stmt} {tc : TT} (hc : PT X c tc) (ha : PSs X a t) (hb : PSs X b u) : PS X (.If c a b pos) (tIfS tc t u) := by
  intro pins s σ H D I h
  refine wpAny_If (thn (hc pins s σ H _ I h) fun d s1 ⟨H1, I1, q1⟩ => ?_)
  cases d with
  | true => exact ha pins s1 σ H1 D I1 q1
  | false => exact hb pins s1 σ H1 D I1 q1
/-- code that the proof never comes to -/
def tNever : TS := fun _ _ _ => False
theorem ps_never : PS X st tNever := fun _ _ _ _ _ _ h => h.elim
theorem pss_never {sts : List Stmt} : PSs X sts tNever := fun _ _ _ _ _ _ h => h.elim
end

/-! ### targets -/
abbrev TG := V → St → Hp → (St → Hp → Prop) → Prop
abbrev TGs := List V → St → Hp → (St → Hp → Prop) → Prop
def PG (X : Cx) (target : Expr) (t : TG) : Prop :=
  ∀ (pins : List (Addr × Obj)) (s : Shared) (σ : St) (H : Hp) (v : V) (u : Value) (Q : St → Hp → Prop), Inv X pins σ H s → RelV v u → t v σ H Q →
    wpAny (model X.prog X.w) X.A (assign target X.env u) (fun _ s' => ∃ σ' H', Inv X pins σ' H' s' ∧ Q σ' H') X.xe s
/-- several targets, one after another -/
def PGs (X : Cx) (ts : List Expr) (t : TGs) : Prop :=
  ∀ (pins : List (Addr × Obj)) (s : Shared) (σ : St) (H : Hp) (vs : List V) (us : List Value) (Q : St → Hp → Prop), Inv X pins σ H s → Vals vs us → t vs σ H Q →
    wpAny (model X.prog X.w) X.A (assignInOrder ((assignEach ts X.env).map (·.2)) us) (fun _ s' => ∃ σ' H', Inv X pins σ' H' s' ∧ Q σ' H') X.xe s
/-- o[i] = v, by values -/
abbrev TSet := V → V → V → Hp → (Hp → Prop) → Prop
def PSet (X : Cx) (t : TSet) : Prop :=
  ∀ (pins : List (Addr × Obj)) (s : Shared) (σ : St) (H : Hp) (o i v : V) (ov iv u : Value) (Q : Hp → Prop), Inv X pins σ H s → RelV o ov → RelV i iv → RelV v u → t o i v H Q →
    wpAny (model X.prog X.w) X.A (setItem ov iv u) (fun _ s' => ∃ H', Inv X pins σ H' s' ∧ Q H') X.xe s
/-- a op= b, by values -/
abbrev TIp := V → V → Hp → VK → Prop
def PIp (X : Cx) (op : Operator) (t : TIp) : Prop :=
  ∀ (pins : List (Addr × Obj)) (s : Shared) (σ : St) (H : Hp) (x y : V) (v u : Value) (Q : VK), Inv X pins σ H s → RelV x v → RelV y u → t x y H Q →
    wpAny (model X.prog X.w) X.A (inplaceOp op v u) (EP X pins σ Q) X.xe s
section
variable {X : Cx} {pos : Pos}
def gName (i : Nat) : TG := fun v σ H Q => Q (σ.set i (some v)) H
theorem pg_name {i : Nat} {x : Str} (hN : X.N.Nodup) (hi : X.N[i]? = some x) (hx : Loc X.env.scope x) (hf : X.fn x = true ∨ X.env.scope.names.lookup x = some .local := by first | exact .inl rfl | exact .inr rfl | assumption) : PG X (.Name x pos) (gName i) := by
  intro pins s σ H v u Q I r h
  exact wpAny_assign_Name (store_ok I hN hi hx r (fun s' I' => ⟨_, H, I', h⟩) hf)
def gNil : TGs := fun vs σ H Q => vs = [] ∧ Q σ H
def gCons (t : TG) (u : TGs) : TGs := fun vs σ H Q => ∃ v r, vs = v :: r ∧ t v σ H fun σ' H' => u r σ' H' Q
theorem pgs_nil : PGs X [] gNil := by
  intro pins s σ H vs us Q I r h
  obtain ⟨e, h⟩ := h
  subst e
  cases r
  exact assignInOrder_nil ⟨σ, H, I, h⟩
theorem pgs_cons {e : Expr} {es : List Expr} {t : TG} {u : TGs} (h1 : PG X e t) (h2 : PGs X es u)
    (hs : (assignEach (e :: es) X.env).map (·.2) = assign e X.env :: (assignEach es X.env).map (·.2) := by rfl) : PGs X (e :: es) (gCons t u) := by
  intro pins s σ H vs us Q I r h
  obtain ⟨v, vr, e1, h⟩ := h
  subst e1
  cases r with
  | cons r rr =>
    rw [hs]
    refine assignInOrder_cons (thn (h1 pins s σ H _ _ _ I r h) fun _ s1 ⟨σ1, H1, I1, q1⟩ => ?_)
    exact h2 pins s1 σ1 H1 _ _ Q I1 rr q1
/-- (a, b, ..) = a tuple of that length -/
def gTup (K : PySem.W.Frag) (n : Nat) (t : TGs) : TG := fun v σ H Q => ∃ a xs, v = .ref a ∧ SqT K H a xs ∧ xs.length = n ∧ t xs σ H Q
theorem pg_tup {es : List Expr} {k : Nat} {t : TGs} {n : Nat} (hc : X.calm = true) (h : PGs X es t)
    (hn : (assignEach es X.env).length = n := by rfl) (hst : (assignEach es X.env).findIdx? (·.1) = none := by rfl) : PG X (.Tuple es k pos) (gTup X.K n t) := by
  intro pins s σ H v u Q I r hw
  obtain ⟨a, xs, e1, hq, hl, hw⟩ := hw
  subst e1
  cases r
  obtain ⟨its, rv, ht, hz⟩ := I.tuple hq
  refine assign_Tuple_tuple (I.ok.hd hc) ht (by simp [hn, ← hl, rv.length]) hst fun h' hx => ?_
  have I1 : Inv X pins σ H { s with heap := h' } := I.kept (t' := s.toks) fun b o e => hx b o (Nat.ne_of_lt (Heap.lt_size e)) e
  exact h pins _ σ H xs _ Q I1 (by simpa using rv) hw
/-- o[i] = .. -/
def gSub (to ti : TE) (t : TSet) : TG := fun v σ H Q => to σ H fun o H1 => ti σ H1 fun i H2 => t o i v H2 fun H3 => Q σ H3
theorem pg_sub {o i : Expr} {to ti : TE} {t : TSet} (ho : PE X o to) (hi : PE X i ti) (hs : PSet X t)
    (ha : ∀ v, assign (.Subscript o i pos) X.env v = (do
      let ov ← holding [v] (eval o X.env)
      let iv ← holding [v, ov] (eval i X.env)
      standAt pos
      holding [v, ov, iv] (setItem ov iv v)
      release [v, ov, iv] []) := by intro _; rfl) : PG X (.Subscript o i pos) (gSub to ti t) := by
  intro pins s σ H v u Q I r h
  rw [ha]
  refine wpAny_bind (wpAny_holding (thn (ho pins s σ H _ I h) fun ov s1 ⟨x, H1, I1, r1, q1⟩ => ?_))
  refine wpAny_bind (wpAny_holding (thn (hi pins s1 σ H1 _ I1 q1) fun iv s2 ⟨y, H2, I2, r2, q2⟩ => ?_))
  refine wpAny_bind (wpAny_standAt (wpAny_bind (wpAny_holding (thn (hs pins s2 σ H2 x y v ov iv u _ I2 r1 r2 r q2) fun _ s3 ⟨H3, I3, q3⟩ => ?_))))
  exact wpAny_release ⟨σ, H3, I3, q3⟩
/-- target = value -/
def tAsg (te : TE) (g : TG) : TS := fun D σ H => te σ H fun x H1 => g x σ H1 D.nx
theorem ps_asg {tg e : Expr} {te : TE} {g : TG} (he : PE X e te) (hg : PG X tg g) (hs : swapsWithSole [tg] e pos.line X.env = pure false := by rfl) (hw : swappedStores [tg] e X.env = pure none := by rfl)
    (h1 : (assignEach [tg] X.env).map (·.2) = [assign tg X.env] := by rfl) : PS X (.Assign [tg] e pos) (tAsg te g) := by
  intro pins s σ H D I h
  refine wpAny_Assign_stores (thn (he pins s σ H _ I h) fun v s1 ⟨x, H1, I1, r1, q1⟩ => ?_) hs hw
  rw [h1]
  exact thn (hg pins s1 σ H1 x v _ I1 r1 q1) fun _ s2 q => q
/-- name = value -/
theorem ps_set {i : Nat} {x : Str} {e : Expr} {te : TE} {pos' : Pos} (hN : X.N.Nodup) (hi : X.N[i]? = some x) (hx : Loc X.env.scope x) (he : PE X e te) (hs : swapsWith e (some (.Name x pos')) pos.line X.env = pure false := by rfl) (hf : X.fn x = true ∨ X.env.scope.names.lookup x = some .local := by first | exact .inl rfl | exact .inr rfl | assumption) :
    PS X (.Assign [.Name x pos'] e pos) (tAsg te (gName i)) := by
  intro pins s σ H D I h
  refine wpAny_Assign_Name (thn (he pins s σ H _ I h) fun v s1 ⟨y, H1, I1, r1, q1⟩ => ?_) hs
  exact store_ok I1 hN hi hx r1 (fun s2 I2 => ⟨_, H1, I2, q1⟩) hf
/-- a, b = x, y with plain local names: stored from the right; the pair itself is not tracked (the opening rows as in PyProof/Rows/TupAssign.lean:23) -/
def tPar (i j : Nat) (ta : TA) : TS := fun D σ H => ta σ H fun vs H1 => ∃ v w, vs = [v, w] ∧ D.nx ((σ.set i (some v)).set j (some w)) H1
theorem ps_par {i j : Nat} {x y : Str} {a b : Expr} {ta : TA} {px py pt : Pos} {kt k2 pt2} (hc : X.calm = true) (hN : X.N.Nodup) (hi : X.N[i]? = some x) (hj : X.N[j]? = some y) (hij : i ≠ j)
    (hx : X.env.scope.names.lookup x = some .local) (hy : X.env.scope.names.lookup y = some .local) (ha : PA X [a, b] ta)
    (hw : swappedStores [.Tuple [.Name x px, .Name y py] kt pt] (.Tuple [a, b] k2 pt2) X.env = pure (some [x, y]))
    (hs : swapsWithSole [.Tuple [.Name x px, .Name y py] kt pt] (.Tuple [a, b] k2 pt2) pos.line X.env = pure false := by rfl) :
    PS X (.Assign [.Tuple [.Name x px, .Name y py] kt pt] (.Tuple [a, b] k2 pt2) pos) (tPar i j ta) := by
  intro pins s σ H D I h
  rw [exec_Assign_arm]
  refine wpAny_bind (wpAny_standAt ?_)
  rw [hs]
  refine wpAny_bind (wpAny_pure ?_)
  rw [if_neg (by decide)]
  refine wpAny_bind (Tuple_ (thn (ha _ pins s σ H _ I h) fun us s1 ⟨vs, H1, I1, r1, q1⟩ => ?_))
  obtain ⟨v, w, e1, q1⟩ := q1
  subst e1
  obtain ⟨u1, u2, rfl, rv, rw'⟩ : ∃ u1 u2, us = [u1, u2] ∧ RelV v u1 ∧ RelV w u2 := by
    cases r1 with
    | cons p q =>
      cases q with
      | cons p' q' =>
        cases q'
        exact ⟨_, _, rfl, p, p'⟩
  refine wpAny_newObj_type ?_ (by show 2 ≤ sizeLine; decide)
  have I2 : Inv X pins σ H1 { s1 with heap := s1.heap.push { cls := .type "tuple", data := .seq [u1, u2].toArray } } := I1.kept (t' := s1.toks) fun b o e => Heap.get?_push_of_some _ e
  rw [hw]
  refine wpAny_bind (wpAny_pure ?_)
  show wpAny (model X.prog X.w) X.A (do rule "assign.swapped-stores"; let items ← unpackItems (.ref s1.heap.objs.size) 2 none; assignInOrder [fun v => bindName X.env y v, fun v => bindName X.env x v] items.reverse; pure Flow.next) _ _ _
  refine wpAny_bind (wpAny_rule (wpAny_bind (unpackItems_tuple (items := #[u1, u2]) (I.ok.hd hc) (IsTup.new s1.heap _) fun h' hx' => ?_)))
  have I3 := I2.kept (h' := h') (t' := s1.toks) fun b o e => hx' b o (Nat.ne_of_lt (Heap.lt_size e)) e
  show wpAny _ _ (assignInOrder [fun v => bindName X.env y v, fun v => bindName X.env x v] [u2, u1] >>= fun _ => pure Flow.next) _ _ _
  refine wpAny_bind (assignInOrder_cons (wpAny_bindName (store_ok I3 hN hj (.inl hy) rw' (fun s2 I4 => ?_) (.inr hy))))
  refine assignInOrder_cons (wpAny_bindName (store_ok I4 hN hi (.inl hx) rv (fun s3 I5 => assignInOrder_nil (wpAny_pure ?_)) (.inr hx)))
  rw [List.set_comm _ _ (Ne.symm hij)] at I5
  exact ⟨_, H1, I5, q1⟩
/-- name op= e -/
def tAug (i : Nat) (te : TE) (ti : TIp) : TS := fun D σ H => ∃ x, σ[i]? = some (some x) ∧ te σ H fun y H1 => ti x y H1 fun z H2 => D.nx (σ.set i (some z)) H2
theorem ps_aug {i : Nat} {x : Str} {e : Expr} {te : TE} {op : Operator} {ti : TIp} {pos' : Pos} (hN : X.N.Nodup) (hi : X.N[i]? = some x) (hx : Loc X.env.scope x) (he : PE X e te) (ho : PIp X op ti) (hf : X.fn x = true ∨ X.env.scope.names.lookup x = some .local := by first | exact .inl rfl | exact .inr rfl | assumption) :
    PS X (.AugAssign (.Name x pos') op e pos) (tAug i te ti) := by
  intro pins s σ H D I h
  obtain ⟨v, e1, h⟩ := h
  obtain ⟨m, hn, hl⟩ := I.loc
  have vis : Vis X.env.scope x := by rcases hx with k | k; exact .inl k; exact .inr (.inl k)
  obtain ⟨u, r, l⟩ := hl i x v hi e1 vis
  refine wpAny_AugAssign_Name ?_
  have go : wpAny (model X.prog X.w) X.A (eval e X.env) (fun w s₂ => wpAny (model X.prog X.w) X.A (inplaceOp op u w) (fun r s₃ => wpAny (model X.prog X.w) X.A (storeName X.env x r) (fun _ => SP X pins D .next) X.xe s₃) X.xe s₂) X.xe s := by
    refine thn (he pins s σ H _ I h) fun w s1 ⟨y, H1, I1, r1, q1⟩ => ?_
    refine thn (ho pins s1 σ H1 v y u w _ I1 r r1 q1) fun z s2 ⟨zv, H2, I2, r2, q2⟩ => ?_
    exact store_ok I2 hN hi hx r2 (fun s3 I3 => ⟨_, H2, I3, q2⟩) hf
  rcases l with ⟨hk, hm⟩ | ⟨hk, c, hc, hcell⟩
  · exact wpAny_loadName_local I.ok.kind hk hn hm go
  · rcases hk with hk | hk
    · exact wpAny_loadName_cell I.ok.kind hk hc hcell go
    · rcases hx with k | k
      · have : X.env.scope.names.lookup x = some .free := hk
        rw [k] at this; cases this
      · have : X.env.scope.names.lookup x = some .free := hk
        rw [k] at this; cases this
/-- o[i] op= e -/
def tAugS (to ti te : TE) (tget : V → V → Hp → VK → Prop) (tip : TIp) (tset : TSet) : TS := fun D σ H => to σ H fun o H1 => ti σ H1 fun i H2 => tget o i H2 fun x H3 => te σ H3 fun y H4 => tip x y H4 fun z H5 => tset o i z H5 fun H6 => D.nx σ H6
/-- o[i], by values -/
def PGet (X : Cx) (t : V → V → Hp → VK → Prop) : Prop :=
  ∀ (pins : List (Addr × Obj)) (s : Shared) (σ : St) (H : Hp) (o i : V) (ov iv : Value) (Q : VK), Inv X pins σ H s → RelV o ov → RelV i iv → t o i H Q →
    wpAny (model X.prog X.w) X.A (getItem ov iv) (EP X pins σ Q) X.xe s
theorem ps_augS {o i e : Expr} {to ti te : TE} {tget : V → V → Hp → VK → Prop} {tip : TIp} {tset : TSet} {op : Operator} {tpos : Pos} (ho : PE X o to) (hi : PE X i ti) (hg : PGet X tget) (he : PE X e te) (hp : PIp X op tip) (hs : PSet X tset)
    (ha : ∀ ov iv new, augStore i ov iv new = (do holding [new, ov, iv] (setItem ov iv new); release [new, ov, iv] []; pure .next) := by intros; rfl) : PS X (.AugAssign (.Subscript o i tpos) op e pos) (tAugS to ti te tget tip tset) := by
  intro pins s σ H D I h
  refine wpAny_AugAssign_SubscriptAny (thn (ho pins s σ H _ I h) fun ov s1 ⟨x1, H1, I1, r1, q1⟩ => ?_) ha
  refine thn (hi pins s1 σ H1 _ I1 q1) fun iv s2 ⟨x2, H2, I2, r2, q2⟩ => ?_
  refine thn (hg pins s2 σ H2 x1 x2 ov iv _ I2 r1 r2 q2) fun old s3 ⟨x3, H3, I3, r3, q3⟩ => ?_
  refine thn (he pins s3 σ H3 _ I3 q3) fun v s4 ⟨x4, H4, I4, r4, q4⟩ => ?_
  refine thn (hp pins s4 σ H4 x3 x4 old v _ I4 r3 r4 q4) fun new s5 ⟨x5, H5, I5, r5, q5⟩ => ?_
  exact thn (hs pins s5 σ H5 x1 x2 x5 ov iv new _ I5 r1 r2 r5 q5) fun _ s6 ⟨H6, I6, q6⟩ => ⟨σ, H6, I6, q6⟩
/-- ints -/
def ipI (f : Int → Int → Int) : TIp := fun x y H Q => ∃ i j, x = .int i ∧ y = .int j ∧ Q (.int (f i j)) H
theorem ip_add : PIp X .Add (ipI fun i j => i + j) := by
  intro pins s σ H x y v u Q I r1 r2 h
  obtain ⟨i, j, e1, e2, q⟩ := h
  subst e1; subst e2
  obtain ⟨t, rfl⟩ := r1
  obtain ⟨t', rfl⟩ := r2
  exact iadd_int ⟨.int _, H, I.tok _, ⟨_, rfl⟩, q⟩
theorem ip_sub : PIp X .Sub (ipI fun i j => i - j) := by
  intro pins s σ H x y v u Q I r1 r2 h
  obtain ⟨i, j, e1, e2, q⟩ := h
  subst e1; subst e2
  obtain ⟨t, rfl⟩ := r1
  obtain ⟨t', rfl⟩ := r2
  exact isub_int ⟨.int _, H, I.tok _, ⟨_, rfl⟩, q⟩
end

/-! ### while -/
section
variable {X : Cx} {pos : Pos}
/-- the invariant W with its measure -/
def tWhile (c : TT) (tb : TS) : TS := fun D σ H => ∃ W : Nat → St → Hp → Prop, (∃ m, W m σ H) ∧ ∀ m σ H, W m σ H →
  c σ H fun b H1 => if b = true then ∃ N : St → Hp → Prop, (∀ σ' H', N σ' H' → ∃ m', m' < m ∧ W m' σ' H') ∧ tb { D with nx := N, ct := N, bk := D.nx } σ H1 else D.nx σ H1
theorem ps_while {c : Expr} {body : List Stmt} {tc : TT} {tb : TS} (hp : PassesOwn (model X.prog X.w) X.A X.env X.xe) (hc : PT X c tc) (hb : PSs X body tb) : PS X (.While c body [] pos) (tWhile tc tb) := by
  intro pins s σ H D I h
  obtain ⟨W, ⟨m0, w0⟩, turn⟩ := h
  refine wpAny_While (codeAny_whileLoop (fun n s' => ∃ σ' H', Inv X pins σ' H' s' ∧ W n σ' H') ?_ m0 ⟨σ, H, I, w0⟩)
  rintro n s1 ⟨σ1, H1, I1, w1⟩
  refine wpAny_passesOwn hp (thn (hc pins s1 σ1 H1 _ I1 (turn n σ1 H1 w1)) fun b s2 ⟨H2, I2, q2⟩ => ?_)
  cases b with
  | true =>
    obtain ⟨N, hN, q2⟩ := q2
    rw [if_pos rfl]
    refine wpAny_passesOwn hp (thn (hb pins s2 σ1 H2 _ I2 q2) fun f s3 q3 => ?_)
    cases f with
    | next =>
      obtain ⟨σ3, H3, I3, n3⟩ := q3
      obtain ⟨m', hm, w3⟩ := hN σ3 H3 n3
      exact ⟨m', hm, σ3, H3, I3, w3⟩
    | cont =>
      obtain ⟨σ3, H3, I3, n3⟩ := q3
      obtain ⟨m', hm, w3⟩ := hN σ3 H3 n3
      exact ⟨m', hm, σ3, H3, I3, w3⟩
    | brk => exact q3
    | ret v => exact q3
  | false =>
    rw [if_neg Bool.false_ne_true]
    exact wpAny_execs_nil ⟨σ1, H2, I2, q2⟩
end

/-! ### what a loop or a comprehension walks -/
/-- at turn i: it yields x (the heap may grow), or it stops -/
structure It where
  go : Nat → Hp → Prop
  yld : Nat → Hp → V → Hp → Prop
  stop : Nat → Hp → Prop
/-- the iterator's own objects may turn: they are not the frame's, not pinned, younger than the entry (or a comprehension's own) -/
def FpOk (X : Cx) (pins : List (Addr × Obj)) (H : Hp) (b : Addr) : Prop :=
  H b = none ∧ b ≠ X.env.locals ∧ b ∉ X.fs ∧ (b ∈ X.ex ∨ X.s₀.heap.objs.size ≤ b) ∧ (∀ x c, X.env.cells.lookup x = some c → c ≠ b) ∧ ∀ p ∈ X.pn ++ pins, p.1 ≠ b
theorem Inv.fpOk {X : Cx} {pins : List (Addr × Obj)} {σ : St} {H H' : Hp} {s : Shared} {b : Addr} (I : Inv X pins σ H s) (hb : s.heap.objs.size ≤ b) (hn : H' b = none) : FpOk X pins H' b := by
  refine ⟨hn, Nat.ne_of_gt (Nat.lt_of_lt_of_le I.lt hb), I.nofs hb, .inr (Nat.le_trans I.sz hb), fun x c e z => ?_, fun p hp z => ?_⟩
  · obtain ⟨v, q⟩ := I.cell x c e
    exact absurd (Nat.lt_of_lt_of_le q.lt (by rw [z]; exact hb)) (Nat.lt_irrefl _)
  · exact absurd (Nat.lt_of_lt_of_le (Heap.lt_size (I.pin p hp).1) (by rw [z]; exact hb)) (Nat.lt_irrefl _)
structure Turn (P : Program) (w : World) (K : PySem.W.Frag) (tg : Expr) (J : It) (fp : List Addr) (it : Addr) (tn : Nat → Heap → Prop) : Prop where
  mem : it ∈ fp
  obj : ∀ i h, tn i h → ∀ b ∈ fp, ∃ o, h.get? b = some o ∧ ∀ v, o.data ≠ .cell v
  keep : ∀ i h h', tn i h → (∀ b ∈ fp, ∀ o, h.get? b = some o → h'.get? b = some o) → tn i h'
  item : ∀ (X : Cx), X.prog = P → X.w = w → X.K = K → X.calm = true → ∀ (i : Nat) (pins : List (Addr × Obj)) (s : Shared) (σ : St) (H : Hp) (E : Value → Shared → Prop), Inv X pins σ H s → (∀ b ∈ fp, FpOk X pins H b) → tn i s.heap → J.go i H →
    wpAny (model P w) X.A (pyNext (.ref it)) (fun r s1 => ∃ u, r = some u ∧
      wpAny (model P w) X.A (letOwnedTupleGo tg (.ref it) u) (fun _ s2 => ∃ x H', Inv X pins σ H' s2 ∧ RelV x u ∧ J.yld i H x H' ∧ tn (i + 1) s2.heap ∧ ∀ b ∈ fp, H' b = none) E s1) E s
  done : ∀ (X : Cx), X.prog = P → X.w = w → X.K = K → X.calm = true → ∀ (i : Nat) (pins : List (Addr × Obj)) (s : Shared) (σ : St) (H : Hp) (E : Value → Shared → Prop), Inv X pins σ H s → (∀ b ∈ fp, FpOk X pins H b) → tn i s.heap → J.stop i H →
    wpAny (model P w) X.A (pyNext (.ref it)) (fun r s1 => r = none ∧ Inv X pins σ H s1) E s
  self : ∀ (A : Around) (i : Nat) (s : Shared) (Q : Value → Shared → Prop) (E : Value → Shared → Prop), tn i s.heap → Q (.ref it) s → wpAny (model P w) A (pyIter (.ref it)) Q E s
abbrev TI := St → Hp → (It → Hp → Prop) → Prop
/-- an iterator has come -/
def PIE (X : Cx) (pins : List (Addr × Obj)) (σ : St) (tg : Expr) (R : It → Hp → Prop) (itv : Value) (s2 : Shared) : Prop :=
  ∃ (it : Addr) (fp : List Addr) (tn : Nat → Heap → Prop) (J : It) (H' : Hp), itv = .ref it ∧ Inv X pins σ H' s2 ∧ Turn X.prog X.w X.K tg J fp it tn ∧ tn 0 s2.heap ∧ (∀ b ∈ fp, FpOk X pins H' b) ∧ R J H'
def PI (X : Cx) (tg iter : Expr) (wi : TI) : Prop :=
  ∀ (pins : List (Addr × Obj)) (s : Shared) (σ : St) (H : Hp) (R : It → Hp → Prop), Inv X pins σ H s → wi σ H R →
    wpAny (model X.prog X.w) X.A (eval iter X.env) (fun v s1 => wpAny (model X.prog X.w) X.A (pyIter v) (PIE X pins σ tg R) X.xe s1) X.xe s

/-- the step ahead of the store is nothing for an iterator that keeps no tuple -/
theorem go_of {M : Model} {A : Around} {E : Value → Shared → Prop} {s : Shared} {tg : Expr} {it : Addr} {u : Value} {o : Obj} {n : String} {vs : Array Value} {Q : Unit → Shared → Prop} (ho : s.heap.get? it = some o) (hc : o.cls = .type n) (hd : o.data = .fields vs)
    (hn : ["enumerate", "zip", "dict_itemiterator", "dict_reverseitemiterator", "odict_iterator", "itertools.zip_longest", "itertools.pairwise"].contains n = false) (hQ : Q () s) : wpAny M A (letOwnedTupleGo tg (.ref it) u) Q E s := by
  unfold letOwnedTupleGo
  cases tg <;> first
    | exact wpAny_pure hQ
    | (cases u <;> first
        | exact wpAny_pure hQ
        | (refine wpAny_bind (wpAny_load ho ?_)
           rw [hc, hd]
           show wpAny M A (if (["enumerate", "zip", "dict_itemiterator", "dict_reverseitemiterator", "odict_iterator", "itertools.zip_longest", "itertools.pairwise"].contains n && vs[0]? == some (rawInt _)) = true then _ else _) Q E s
           rw [if_neg (by intro h; rw [hn, Bool.false_and] at h; cases h)]
           exact wpAny_pure hQ))

/-- the list at a, as it stands at each turn (a loop may append to it) -/
def Itl (K : PySem.W.Frag) (a : Addr) : It :=
  ⟨fun i H => ∃ xs x, SqL K H a xs ∧ xs[i]? = some x, fun i H x H' => H' = H ∧ ∀ xs, SqL K H a xs → xs[i]? = some x, fun i H => ∃ xs, SqL K H a xs ∧ xs.length ≤ i⟩
def Itt (K : PySem.W.Frag) (a : Addr) : It :=
  ⟨fun i H => ∃ xs x, SqT K H a xs ∧ xs[i]? = some x, fun i H x H' => H' = H ∧ ∀ xs, SqT K H a xs → xs[i]? = some x, fun i H => ∃ xs, SqT K H a xs ∧ xs.length ≤ i⟩
/-- lo, lo + 1, .. (n of them) -/
def Itr (lo : Int) (n : Nat) : It := ⟨fun i _ => i < n, fun i H x H' => H' = H ∧ x = .int (lo + i), fun i _ => n ≤ i⟩
theorem turn_list {P : Program} {w : World} {K : PySem.W.Frag} {tg : Expr} (a it : Addr) : Turn P w K tg (Itl K a) [it] it (fun i h => h.IsListIter it a i) where
  mem := by simp
  obj := fun i h st b hb => by
    have e : b = it := by simpa using hb
    subst e
    obtain ⟨o, e, c, d⟩ := st
    exact ⟨o, e, fun v z => by rw [d] at z; cases z⟩
  keep := fun i h h' st k => st.at fun o e => k it (by simp) o e
  item := by
    intro X hP hw hK hc i pins s σ H E I hf st hg
    subst hP hw hK
    obtain ⟨xs, x, hq, hx⟩ := hg
    obtain ⟨its, rv, p, hz⟩ := I.list hq
    obtain ⟨u, hu, ru⟩ := rv.get hx
    obtain ⟨f0, f1, f2, f3, f4, f5⟩ := hf it (by simp)
    refine wpAny_pyNext_list_item st p.isList (x := u) (by simpa using hu) fun h' st' sb => ?_
    have I1 : Inv X pins σ H { s with heap := h' } := I.turned (t' := s.toks) (fun b o hb e => (sb.2 b hb).trans e) f0 f1 f3 f4 f5
    obtain ⟨o, e, c, d⟩ := id st'
    exact ⟨u, rfl, go_of (s := { s with heap := h' }) e c d (by decide) ⟨x, H, I1, ru, ⟨rfl, fun ys hy => by rw [I.list_inj hy hq]; exact hx⟩, st', fun b hb => (hf b hb).1⟩⟩
  done := by
    intro X hP hw hK hc i pins s σ H E I hf st hg
    subst hP hw hK
    obtain ⟨xs, hq, hx⟩ := hg
    obtain ⟨its, rv, p, hz⟩ := I.list hq
    obtain ⟨f0, f1, f2, f3, f4, f5⟩ := hf it (by simp)
    have hl := rv.length
    exact wpAny_pyNext_list_end (I.ok.hd hc) st p.isList (by simp; omega) fun h' eb => ⟨rfl, I.turned (t' := s.toks) (fun b o hb e => eb b o hb e) f0 f1 f3 f4 f5⟩
  self := fun _ _ _ _ _ st h => wpAny_pyIter_listiter st h
theorem turn_tuple {P : Program} {w : World} {K : PySem.W.Frag} {tg : Expr} (a it : Addr) : Turn P w K tg (Itt K a) [it] it (fun i h => h.IsTupleIter it a i) where
  mem := by simp
  obj := fun i h st b hb => by
    have e : b = it := by simpa using hb
    subst e
    obtain ⟨o, e, c, d⟩ := st
    exact ⟨o, e, fun v z => by rw [d] at z; cases z⟩
  keep := fun i h h' st k => st.at fun o e => k it (by simp) o e
  item := by
    intro X hP hw hK hc i pins s σ H E I hf st hg
    subst hP hw hK
    obtain ⟨xs, x, hq, hx⟩ := hg
    obtain ⟨its, rv, p, hz⟩ := I.tuple hq
    obtain ⟨u, hu, ru⟩ := rv.get hx
    obtain ⟨f0, f1, f2, f3, f4, f5⟩ := hf it (by simp)
    refine wpAny_pyNext_tuple_item st (show s.heap.IsTuple a its.toArray from p) (x := u) (by simpa using hu) fun h' st' sb => ?_
    have I1 : Inv X pins σ H { s with heap := h' } := I.turned (t' := s.toks) (fun b o hb e => (sb.2 b hb).trans e) f0 f1 f3 f4 f5
    obtain ⟨o, e, c, d⟩ := id st'
    exact ⟨u, rfl, go_of (s := { s with heap := h' }) e c d (by decide) ⟨x, H, I1, ru, ⟨rfl, fun ys hy => by rw [I.tuple_inj hy hq]; exact hx⟩, st', fun b hb => (hf b hb).1⟩⟩
  done := by
    intro X hP hw hK hc i pins s σ H E I hf st hg
    subst hP hw hK
    obtain ⟨xs, hq, hx⟩ := hg
    obtain ⟨its, rv, p, hz⟩ := I.tuple hq
    obtain ⟨f0, f1, f2, f3, f4, f5⟩ := hf it (by simp)
    have hl := rv.length
    exact wpAny_pyNext_tuple_end (I.ok.hd hc) st (show s.heap.IsTuple a its.toArray from p) (by simp; omega) fun h' eb => ⟨rfl, I.turned (t' := s.toks) (fun b o hb e => eb b o hb e) f0 f1 f3 f4 f5⟩
  self := fun _ _ _ _ _ st h => wpAny_pyIter_tupleiter st h
theorem turn_range {P : Program} {w : World} {K : PySem.W.Frag} {tg : Expr} (it : Addr) (lo : Int) (n : Nat) : Turn P w K tg (Itr lo n) [it] it (fun i h => IsRangeIter h it (lo + (i : Nat) * 1) ((n : Int) - (i : Nat)) 1) where
  mem := by simp
  obj := fun i h st b hb => by
    have e : b = it := by simpa using hb
    subst e
    exact ⟨_, st, fun v z => by
      have z' : Data.fields _ = Data.cell v := z
      cases z'⟩
  keep := fun i h h' st k => k it (by simp) _ st
  item := by
    intro X hP hw hK hc i pins s σ H E I hf st hg
    subst hP hw hK
    obtain ⟨f0, f1, f2, f3, f4, f5⟩ := hf it (by simp)
    have W := Walks.range (prog := X.prog) (w := X.w) (I.ok.hd hc) it lo 1 n
    refine W.item i s _ _ hg st fun v h' tk hv st' kk => ?_
    obtain ⟨t, rfl⟩ := hv
    have I1 : Inv X pins σ H { s with heap := h', toks := tk } := I.turned (fun b o hb e => kk b o (by simpa using hb) e) f0 f1 f3 f4 f5
    refine ⟨_, rfl, go_of (s := { s with heap := h', toks := tk }) (n := "range_iterator") st' rfl rfl (by decide) ⟨.int (lo + i), H, I1, ⟨t, ?_⟩, ⟨rfl, rfl⟩, st', fun b hb => (hf b hb).1⟩⟩
    rw [Int.mul_one]
  done := by
    intro X hP hw hK hc i pins s σ H E I hf st hg
    subst hP hw hK
    obtain ⟨f0, f1, f2, f3, f4, f5⟩ := hf it (by simp)
    exact wpAny_pyNext_range_end (I.ok.hd hc) st (by have : n ≤ i := hg; omega) fun h' eb => ⟨rfl, I.turned (t' := s.toks) (fun b o hb e => eb b o hb e) f0 f1 f3 f4 f5⟩
  self := fun _ _ _ _ _ st h => wpAny_pyIter_rangeiter st h
end L2

namespace L2
open PySem PySem.Spec PyProof.Rows
section
variable {X : Cx} {tg : Expr}
def iList (K : PySem.W.Frag) (tl : TE) : TI := fun σ H R => tl σ H fun x H1 => ∃ a, x = .ref a ∧ (∃ xs, SqL K H1 a xs) ∧ R (Itl K a) H1
def iTup (K : PySem.W.Frag) (tl : TE) : TI := fun σ H R => tl σ H fun x H1 => ∃ a, x = .ref a ∧ (∃ xs, SqT K H1 a xs) ∧ R (Itt K a) H1
theorem pi_list {l : Expr} {tl : TE} (hl : PE X l tl) : PI X tg l (iList X.K tl) := by
  intro pins s σ H R I h
  refine thn (hl pins s σ H _ I h) fun v s1 ⟨x, H1, I1, r1, q1⟩ => ?_
  obtain ⟨a, e, ⟨xs, hq⟩, q⟩ := q1
  subst e
  cases r1
  obtain ⟨its, rv, p, hz⟩ := I1.list hq
  refine wpAny_pyIter_list p.isList ?_
  refine ⟨s1.heap.objs.size, [s1.heap.objs.size], _, _, H1, rfl, I1.kept (t' := s1.toks) fun b o e => Heap.get?_push_of_some _ e, turn_list a _, ⟨_, Heap.get?_push_size _ rfl, rfl, rfl⟩, fun b hb => ?_, q⟩
  have e : b = s1.heap.objs.size := by simpa using hb
  subst e
  exact I1.fpOk (Nat.le_refl _) (I1.hok.fresh (Nat.le_refl _))
theorem pi_tup {l : Expr} {tl : TE} (hl : PE X l tl) : PI X tg l (iTup X.K tl) := by
  intro pins s σ H R I h
  refine thn (hl pins s σ H _ I h) fun v s1 ⟨x, H1, I1, r1, q1⟩ => ?_
  obtain ⟨a, e, ⟨xs, hq⟩, q⟩ := q1
  subst e
  cases r1
  obtain ⟨its, rv, p, hz⟩ := I1.tuple hq
  refine wpAny_pyIter_tuple (show s1.heap.IsTuple a its.toArray from p) ?_
  refine ⟨s1.heap.objs.size, [s1.heap.objs.size], _, _, H1, rfl, I1.kept (t' := s1.toks) fun b o e => Heap.get?_push_of_some _ e, turn_tuple a _, ⟨_, Heap.get?_push_size _ rfl, rfl, rfl⟩, fun b hb => ?_, q⟩
  have e : b = s1.heap.objs.size := by simpa using hb
  subst e
  exact I1.fpOk (Nat.le_refl _) (I1.hok.fresh (Nat.le_refl _))
/-- a range object just made, walked -/
theorem range_it {pins : List (Addr × Obj)} {σ : St} {H : Hp} {s : Shared} {R : It → Hp → Prop} {E : Value → Shared → Prop} {lo hi : Int} {t u v : Tok} {tk : Nat} (I : Inv X pins σ H s) (h1 : -(2 ^ 62) ≤ lo) (h2 : lo < 2 ^ 62) (h3 : -(2 ^ 62) ≤ hi) (h4 : hi < 2 ^ 62)
    (q : R (Itr lo (hi - lo).toNat) H) : wpAny (model X.prog X.w) X.A (pyIter (.ref s.heap.objs.size)) (PIE X pins σ tg R) E { s with heap := s.heap.push { cls := .type "range", data := .fields #[.int lo t, .int hi u, .int 1 v] }, toks := tk } := by
  refine wpAny_pyIter_range (IsRange.new ..) (small_one h1 h2 h3 h4) ?_
  have I1 : Inv X pins σ H { s with heap := s.heap.push { cls := .type "range", data := .fields #[.int lo t, .int hi u, .int 1 v] }, toks := tk } := I.kept fun b o e => Heap.get?_push_of_some _ e
  refine ⟨(s.heap.push { cls := .type "range", data := .fields #[.int lo t, .int hi u, .int 1 v] }).objs.size, [(s.heap.push { cls := .type "range", data := .fields #[.int lo t, .int hi u, .int 1 v] }).objs.size], _, _, H, rfl,
    I1.kept (t' := tk) fun b o e => Heap.get?_push_of_some _ e, turn_range _ lo (hi - lo).toNat, ?_, fun b hb => ?_, q⟩
  · have e1 : lo + ((0 : Nat) : Int) * 1 = lo := by simp
    have e2 : (((hi - lo).toNat : Nat) : Int) - ((0 : Nat) : Int) = Builtin.Range.rangeSize lo hi 1 := by rw [rangeSize_one]; split <;> omega
    show IsRangeIter _ _ (lo + ((0 : Nat) : Int) * 1) ((((hi - lo).toNat : Nat) : Int) - ((0 : Nat) : Int)) 1
    rw [e1, e2]
    exact Heap.get?_push_size _ rfl
  · have e : b = (s.heap.push { cls := .type "range", data := .fields #[.int lo t, .int hi u, .int 1 v] }).objs.size := by simpa using hb
    subst e
    exact I1.fpOk (Nat.le_refl _) (I1.hok.fresh (Nat.le_refl _))
def iRng1 (ta : TA) : TI := fun σ H R => ta σ H fun vs H1 => ∃ j : Int, vs = [.int j] ∧ -(2 ^ 62) ≤ j ∧ j < 2 ^ 62 ∧ R (Itr 0 j.toNat) H1
def iRng2 (ta : TA) : TI := fun σ H R => ta σ H fun vs H1 => ∃ i j : Int, vs = [.int i, .int j] ∧ (-(2 ^ 62) ≤ i ∧ i < 2 ^ 62 ∧ -(2 ^ 62) ≤ j ∧ j < 2 ^ 62) ∧ R (Itr i (j - i).toNat) H1
theorem pi_range1 {a : Expr} {ta : TA} {p pos : Pos} (hg : Gl X "range") (hm : X.mg "range" = none) (ha : PA X [a] ta) (hs : starEach [a] X.env = [(false, eval a X.env)] := by rfl) : PI X tg (.Call (.Name "range" p) [a] [] pos) (iRng1 ta) := by
  intro pins s σ H R I h
  refine Call_ (ld_blt I hg hm boot_range (PyProof.Rows.callWith_type1 (thn (ha pos pins s σ H _ I h) fun us s1 ⟨vs, H1, I1, r1, q1⟩ => ?_) hs rfl))
  obtain ⟨j, e, q1, q2, q⟩ := q1
  subst e
  cases r1 with
  | cons r rr =>
    cases rr
    obtain ⟨t, rfl⟩ := r
    exact call_range_1 (range_it I1 (by omega) (by omega) q1 q2 (by simpa using q))
theorem pi_range2 {a b : Expr} {ta : TA} {p pos : Pos} (hg : Gl X "range") (hm : X.mg "range" = none) (ha : PA X [a, b] ta) (hs : starEach [a, b] X.env = [(false, eval a X.env), (false, eval b X.env)] := by rfl) (hs2 : starEach [b] X.env = [(false, eval b X.env)] := by rfl) :
    PI X tg (.Call (.Name "range" p) [a, b] [] pos) (iRng2 ta) := by
  intro pins s σ H R I h
  refine Call_ (ld_blt I hg hm boot_range (PyProof.Rows.callWith_type1 (thn (ha pos pins s σ H _ I h) fun us s1 ⟨vs, H1, I1, r1, q1⟩ => ?_) (by rw [hs, hs2]) (by rw [hs2]; rfl)))
  obtain ⟨i, j, e, ⟨q1, q2, q3, q4⟩, q⟩ := q1
  subst e
  cases r1 with
  | cons r rr =>
    cases rr with
    | cons r' rr =>
      cases rr
      obtain ⟨t, rfl⟩ := r
      obtain ⟨t', rfl⟩ := r'
      exact call_range_2 (range_it I1 q1 q2 q3 q4 q)

/-! ### for -/
/-- W: the invariant by the turn and a measure; N: what the body is to reach -/
def tFor (wi : TI) (g : TG) (tb : TS) : TS := fun D σ H => wi σ H fun J H1 => ∃ W : Nat → Nat → St → Hp → Prop, (∃ m, W 0 m σ H1) ∧ ∀ i m σ H, W i m σ H →
  (J.stop i H ∧ D.nx σ H) ∨ (J.go i H ∧ ∃ N : St → Hp → Prop, (∀ σ' H', N σ' H' → ∃ m', m' < m ∧ W (i + 1) m' σ' H') ∧ ∀ x H', J.yld i H x H' → g x σ H' fun σ2 H2 => tb { D with nx := N, ct := N, bk := D.nx } σ2 H2)
/-- the records at fp as they stand -/
def pinsAt (fp : List Addr) (h : Heap) : List (Addr × Obj) := fp.filterMap fun b => (h.get? b).map fun o => (b, o)
theorem mem_pinsAt {fp : List Addr} {h : Heap} {b : Addr} {o : Obj} (hb : b ∈ fp) (e : h.get? b = some o) : (b, o) ∈ pinsAt fp h := List.mem_filterMap.mpr ⟨b, hb, by rw [e]; rfl⟩
theorem of_pinsAt {fp : List Addr} {h : Heap} {p : Addr × Obj} (hp : p ∈ pinsAt fp h) : p.1 ∈ fp ∧ h.get? p.1 = some p.2 := by
  obtain ⟨b, hb, e⟩ := List.mem_filterMap.mp hp
  cases q : h.get? b with
  | none => rw [q] at e; cases e
  | some o =>
    rw [q] at e
    have e' : (b, o) = p := Option.some.inj e
    subst e'
    exact ⟨hb, q⟩
theorem Inv.pinned {pins : List (Addr × Obj)} {σ : St} {H : Hp} {s : Shared} {fp : List Addr} (I : Inv X pins σ H s) (hf : ∀ b ∈ fp, FpOk X pins H b) (ho : ∀ b ∈ fp, ∃ o, s.heap.get? b = some o ∧ ∀ v, o.data ≠ .cell v) : Inv X (pins ++ pinsAt fp s.heap) σ H s :=
  I.pins_of fun p hp => (List.mem_append.mp hp).elim (fun z => I.pin p (List.mem_append_right _ z)) fun z => by
    obtain ⟨hb, e⟩ := of_pinsAt z
    obtain ⟨f0, f1, f2, _⟩ := hf p.1 hb
    obtain ⟨o, e', d⟩ := ho p.1 hb
    rw [e] at e'; cases e'
    exact ⟨e, f0, f1, f2, d⟩
theorem Inv.unpinned {pins pl : List (Addr × Obj)} {σ : St} {H : Hp} {s : Shared} (I : Inv X (pins ++ pl) σ H s) : Inv X pins σ H s := I.pins_of fun p hp => I.pin p (List.mem_append_right _ (List.mem_append_left _ hp))
theorem ps_for {iter : Expr} {body : List Stmt} {wi : TI} {g : TG} {tb : TS} {pos : Pos} (hp : PassesOwn (model X.prog X.w) X.A X.env X.xe) (hc : X.calm = true) (hi : PI X tg iter wi) (hg : PG X tg g) (hb : PSs X body tb)
    (hs : ∀ x, foldedSetIterable iter X.env x = pure x := by intro _; rfl) : PS X (.For tg iter body [] pos) (tFor wi g tb) := by
  intro pins s σ H D I h
  refine wpAny_For (thn (hi pins s σ H _ I h) fun v s1 h1 => thn h1 fun itv s2 h2 => ?_) hs
  obtain ⟨it, fp, tn, J, H2, e, I2, T, st2, f2, W, ⟨m0, w0⟩, turn⟩ := h2
  subst e
  -- what stays true of the iterator's objects through the loop
  have stat : ∀ {H' : Hp}, (∀ b ∈ fp, H' b = none) → ∀ b ∈ fp, FpOk X pins H' b := fun hn b hb => ⟨hn b hb, (f2 b hb).2⟩
  refine codeAny_forLoop_any (fun n s' => ∃ i σ' H', Inv X pins σ' H' s' ∧ tn i s'.heap ∧ (∀ b ∈ fp, H' b = none) ∧ W i n σ' H') ?_ m0 ⟨0, σ, H2, I2, st2, fun b hb => (f2 b hb).1, w0⟩
  rintro n s3 ⟨i, σ3, H3, I3, st3, fr3, w3⟩
  rcases turn i n σ3 H3 w3 with ⟨stop, qn⟩ | ⟨go, N, hN, step⟩
  · refine wpAny_passesOwn hp (thn (T.done X rfl rfl rfl hc i pins s3 σ3 H3 X.xe I3 (stat fr3) st3 stop) fun r s4 ⟨hr, I4⟩ => ?_)
    subst hr
    exact wpAny_execs_nil ⟨σ3, H3, I4, qn⟩
  · refine wpAny_passesOwn hp (thn (T.item X rfl rfl rfl hc i pins s3 σ3 H3 X.xe I3 (stat fr3) st3 go) fun r s4 ⟨u, hr, h4⟩ => ?_)
    subst hr
    refine wpAny_passesOwn hp (thn h4 fun _ s5 ⟨x, H5, I5, r5, y5, st5, fr5⟩ => ?_)
    have I5' := I5.pinned (stat fr5) (T.obj _ _ st5)
    refine wpAny_passesOwn hp (thn (hg _ s5 σ3 H5 x u _ I5' r5 (step x H5 y5)) fun _ s6 ⟨σ6, H6, I6, q6⟩ => ?_)
    refine wpAny_passesOwn hp (thn (hb _ s6 σ6 H6 _ I6 q6) fun f s7 q7 => ?_)
    have again : ∀ {σ7 : St} {H7 : Hp}, Inv X (pins ++ pinsAt fp s5.heap) σ7 H7 s7 → N σ7 H7 → ∃ m, m < n ∧ ∃ i σ' H', Inv X pins σ' H' s7 ∧ tn i s7.heap ∧ (∀ b ∈ fp, H' b = none) ∧ W i m σ' H' := fun {σ7 H7} I7 n7 => by
      obtain ⟨m', hm, w7⟩ := hN σ7 H7 n7
      refine ⟨m', hm, i + 1, σ7, H7, I7.unpinned, T.keep _ _ _ st5 fun b hb o e => (I7.pin (b, o) (List.mem_append_right _ (List.mem_append_right _ (mem_pinsAt hb e)))).1, fun b hb => ?_, w7⟩
      obtain ⟨o, e, d⟩ := T.obj _ _ st5 b hb
      exact (I7.pin (b, o) (List.mem_append_right _ (List.mem_append_right _ (mem_pinsAt hb e)))).2.1
    cases f with
    | next => obtain ⟨σ7, H7, I7, n7⟩ := q7; exact again I7 n7
    | cont => obtain ⟨σ7, H7, I7, n7⟩ := q7; exact again I7 n7
    | brk => obtain ⟨σ7, H7, I7, q7⟩ := q7; exact ⟨σ7, H7, I7.unpinned, q7⟩
    | ret v => obtain ⟨x7, σ7, H7, I7, r7, q7⟩ := q7; exact ⟨x7, σ7, H7, I7.unpinned, r7, q7⟩
end

/-! ### the forms one uses -/
/-- over a list that the body leaves as it is -/
theorem for_list {K : PySem.W.Frag} {a : Addr} {xs : List V} {g : TG} {tb : TS} {D : Ends} {σ : St} {H : Hp} (Pv : Nat → St → Hp → Prop) (h0 : Pv 0 σ H) (hl : ∀ i σ H, i ≤ xs.length → Pv i σ H → SqL K H a xs)
    (hs : ∀ i x σ H, xs[i]? = some x → Pv i σ H → g x σ H fun σ2 H2 => tb { D with nx := Pv (i + 1), ct := Pv (i + 1), bk := D.nx } σ2 H2) (hd : ∀ σ H, Pv xs.length σ H → D.nx σ H) :
    ∃ W : Nat → Nat → St → Hp → Prop, (∃ m, W 0 m σ H) ∧ ∀ i m σ H, W i m σ H →
      ((Itl K a).stop i H ∧ D.nx σ H) ∨ ((Itl K a).go i H ∧ ∃ N : St → Hp → Prop, (∀ σ' H', N σ' H' → ∃ m', m' < m ∧ W (i + 1) m' σ' H') ∧ ∀ x H', (Itl K a).yld i H x H' → g x σ H' fun σ2 H2 => tb { D with nx := N, ct := N, bk := D.nx } σ2 H2) := by
  refine ⟨fun i m σ H => m = xs.length - i ∧ i ≤ xs.length ∧ Pv i σ H, ⟨xs.length, by simp, Nat.zero_le _, h0⟩, ?_⟩
  rintro i m σ H ⟨rfl, hi, p⟩
  have q := hl i σ H hi p
  by_cases hlt : i < xs.length
  · refine .inr ⟨⟨xs, xs[i], q, by simp [hlt]⟩, Pv (i + 1), fun σ' H' p' => ⟨xs.length - (i + 1), by omega, rfl, hlt, p'⟩, fun x H' y => ?_⟩
    obtain ⟨e, y⟩ := y
    subst e
    exact hs i x σ _ (y xs q) p
  · have e : i = xs.length := by omega
    subst e
    exact .inl ⟨⟨xs, q, Nat.le_refl _⟩, hd σ H p⟩
theorem for_tup {K : PySem.W.Frag} {a : Addr} {xs : List V} {g : TG} {tb : TS} {D : Ends} {σ : St} {H : Hp} (Pv : Nat → St → Hp → Prop) (h0 : Pv 0 σ H) (hl : ∀ i σ H, i ≤ xs.length → Pv i σ H → SqT K H a xs)
    (hs : ∀ i x σ H, xs[i]? = some x → Pv i σ H → g x σ H fun σ2 H2 => tb { D with nx := Pv (i + 1), ct := Pv (i + 1), bk := D.nx } σ2 H2) (hd : ∀ σ H, Pv xs.length σ H → D.nx σ H) :
    ∃ W : Nat → Nat → St → Hp → Prop, (∃ m, W 0 m σ H) ∧ ∀ i m σ H, W i m σ H →
      ((Itt K a).stop i H ∧ D.nx σ H) ∨ ((Itt K a).go i H ∧ ∃ N : St → Hp → Prop, (∀ σ' H', N σ' H' → ∃ m', m' < m ∧ W (i + 1) m' σ' H') ∧ ∀ x H', (Itt K a).yld i H x H' → g x σ H' fun σ2 H2 => tb { D with nx := N, ct := N, bk := D.nx } σ2 H2) := by
  refine ⟨fun i m σ H => m = xs.length - i ∧ i ≤ xs.length ∧ Pv i σ H, ⟨xs.length, by simp, Nat.zero_le _, h0⟩, ?_⟩
  rintro i m σ H ⟨rfl, hi, p⟩
  have q := hl i σ H hi p
  by_cases hlt : i < xs.length
  · refine .inr ⟨⟨xs, xs[i], q, by simp [hlt]⟩, Pv (i + 1), fun σ' H' p' => ⟨xs.length - (i + 1), by omega, rfl, hlt, p'⟩, fun x H' y => ?_⟩
    obtain ⟨e, y⟩ := y
    subst e
    exact hs i x σ _ (y xs q) p
  · have e : i = xs.length := by omega
    subst e
    exact .inl ⟨⟨xs, q, Nat.le_refl _⟩, hd σ H p⟩
theorem for_range {lo : Int} {n : Nat} {g : TG} {tb : TS} {D : Ends} {σ : St} {H : Hp} (Pv : Nat → St → Hp → Prop) (h0 : Pv 0 σ H)
    (hs : ∀ i σ H, i < n → Pv i σ H → g (.int (lo + i)) σ H fun σ2 H2 => tb { D with nx := Pv (i + 1), ct := Pv (i + 1), bk := D.nx } σ2 H2) (hd : ∀ σ H, Pv n σ H → D.nx σ H) :
    ∃ W : Nat → Nat → St → Hp → Prop, (∃ m, W 0 m σ H) ∧ ∀ i m σ H, W i m σ H →
      ((Itr lo n).stop i H ∧ D.nx σ H) ∨ ((Itr lo n).go i H ∧ ∃ N : St → Hp → Prop, (∀ σ' H', N σ' H' → ∃ m', m' < m ∧ W (i + 1) m' σ' H') ∧ ∀ x H', (Itr lo n).yld i H x H' → g x σ H' fun σ2 H2 => tb { D with nx := N, ct := N, bk := D.nx } σ2 H2) := by
  refine ⟨fun i m σ H => m = n - i ∧ i ≤ n ∧ Pv i σ H, ⟨n, by simp, Nat.zero_le _, h0⟩, ?_⟩
  rintro i m σ H ⟨rfl, hi, p⟩
  by_cases hlt : i < n
  · refine .inr ⟨hlt, Pv (i + 1), fun σ' H' p' => ⟨n - (i + 1), by omega, rfl, hlt, p'⟩, fun x H' y => ?_⟩
    obtain ⟨e, y⟩ := y
    subst e y
    exact hs i σ _ hlt p
  · have e : i = n := by omega
    subst e
    exact .inl ⟨Nat.le_refl _, hd σ H p⟩
/-- while, by a word and a measure of the state -/
theorem while_by {c : TT} {tb : TS} {D : Ends} {σ : St} {H : Hp} (Pv : St → Hp → Prop) (μ : St → Hp → Nat) (h0 : Pv σ H)
    (hs : ∀ σ H, Pv σ H → c σ H fun b H1 => if b = true then tb { D with nx := fun σ' H' => Pv σ' H' ∧ μ σ' H' < μ σ H, ct := fun σ' H' => Pv σ' H' ∧ μ σ' H' < μ σ H, bk := D.nx } σ H1 else D.nx σ H1)
    (mono : ∀ σ H Q Q', (∀ b H1, Q b H1 → Q' b H1) → c σ H Q → c σ H Q') : tWhile c tb D σ H := by
  refine ⟨fun m σ H => m = μ σ H ∧ Pv σ H, ⟨_, rfl, h0⟩, ?_⟩
  rintro m σ H ⟨rfl, p⟩
  refine mono σ H _ _ (fun b H1 q => ?_) (hs σ H p)
  cases b with
  | true => exact ⟨_, fun σ' H' ⟨p', l⟩ => ⟨_, l, rfl, p'⟩, q⟩
  | false => exact q
end L2

namespace L2
open PySem PySem.Spec PyProof.Rows

abbrev R2 := V → V → Hp → VK → Prop
/-- a two-place operation on values: f is binaryOp op, inplaceOp op or compareOp op -/
def OpR (X : Cx) (f : Value → Value → Sem Value) (r : R2) : Prop :=
  ∀ (pins : List (Addr × Obj)) (s : Shared) (σ : St) (H : Hp) (x y : V) (v u : Value) (Q : VK), Inv X pins σ H s → RelV x v → RelV y u → r x y H Q →
    wpAny (model X.prog X.w) X.A (f v u) (EP X pins σ Q) X.xe s
/-- a one-place operation -/
def UnR (X : Cx) (f : Value → Sem Value) (r : V → Hp → VK → Prop) : Prop :=
  ∀ (pins : List (Addr × Obj)) (s : Shared) (σ : St) (H : Hp) (x : V) (v : Value) (Q : VK), Inv X pins σ H s → RelV x v → r x H Q →
    wpAny (model X.prog X.w) X.A (f v) (EP X pins σ Q) X.xe s
/-- a call of a value that is known (a builtin, a type) with values -/
def CallR (X : Cx) (f : Value) (r : List V → Hp → VK → Prop) : Prop :=
  ∀ (pins : List (Addr × Obj)) (s : Shared) (σ : St) (H : Hp) (xs : List V) (us : List Value) (Q : VK), Inv X pins σ H s → Vals xs us → r xs H Q →
    wpAny (model X.prog X.w) X.A (call f us) (EP X pins σ Q) X.xe s
/-- a value's truth -/
def TruR (X : Cx) (r : V → Hp → (Bool → Hp → Prop) → Prop) : Prop :=
  ∀ (pins : List (Addr × Obj)) (s : Shared) (σ : St) (H : Hp) (x : V) (v : Value) (Q : Bool → Hp → Prop), Inv X pins σ H s → RelV x v → r x H Q →
    wpAny (model X.prog X.w) X.A (truthy v) (TP X pins σ Q) X.xe s

def tOp (r : R2) (ta tb : TE) : TE := fun σ H Q => ta σ H fun x H1 => tb σ H1 fun y H2 => r x y H2 Q
def tUn (r : V → Hp → VK → Prop) (ta : TE) : TE := fun σ H Q => ta σ H fun x H1 => r x H1 Q
/-- ints in, under C, and a value out -/
def rI (C : Int → Int → Prop) (g : Int → Int → V) : R2 := fun x y H Q => ∃ i j, x = .int i ∧ y = .int j ∧ C i j ∧ Q (g i j) H
def rI0 (g : Int → Int → V) : R2 := fun x y H Q => ∃ i j, x = .int i ∧ y = .int j ∧ Q (g i j) H
def rU (g : Int → V) : V → Hp → VK → Prop := fun x H Q => ∃ i, x = .int i ∧ Q (g i) H

section
variable {X : Cx} {a b c : Expr} {ta tb tc : TE} {pos : Pos}

theorem binT (ha : PE X a ta) (hb : PE X b tb) {pins : List (Addr × Obj)} {s : Shared} {σ : St} {H : Hp} {R : V → V → Hp → Prop} (I : Inv X pins σ H s)
    (h : ta σ H fun x H1 => tb σ H1 fun y H2 => R x y H2) {Q : Value → Shared → Prop} {f : Value → Value → Sem Value}
    (hf : ∀ v u s2 x y H2, Inv X pins σ H2 s2 → RelV x v → RelV y u → R x y H2 → wpAny (model X.prog X.w) X.A (f v u) Q X.xe s2) :
    wpAny (model X.prog X.w) X.A (eval a X.env) (fun v s₁ => wpAny (model X.prog X.w) X.A (eval b X.env) (fun u s₂ => wpAny (model X.prog X.w) X.A (f v u) Q X.xe s₂) X.xe s₁) X.xe s := by
  refine thn (ha pins s σ H _ I h) fun v s1 ⟨x, H1, I1, r1, q1⟩ => ?_
  refine thn (hb pins s1 σ H1 _ I1 q1) fun u s2 ⟨y, H2, I2, r2, q2⟩ => ?_
  exact hf v u s2 x y H2 I2 r1 r2 q2

theorem pe_op {op : Operator} {r : R2} (ho : OpR X (binaryOp op) r) (ha : PE X a ta) (hb : PE X b tb) : PE X (.BinOp a op b pos) (tOp r ta tb) := by
  intro pins s σ H Q I h
  exact wpAny_BinOp (binT ha hb I h fun v u s2 x y H2 I2 rx ry q => ho pins s2 σ H2 x y v u Q I2 rx ry q)
theorem pe_un {op : UnaryOp} {r : V → Hp → VK → Prop} (ho : UnR X (unaryOp op) r) (ha : PE X a ta) : PE X (.UnaryOp op a pos) (tUn r ta) := by
  intro pins s σ H Q I h
  exact UnaryOp_ (thn (ha pins s σ H _ I h) fun v s1 ⟨x, H1, I1, r1, q1⟩ => ho pins s1 σ H1 x v Q I1 r1 q1)
/-- a op= e at a name: the name's slot i -/
theorem augR {op : Operator} {r : R2} (ho : OpR X (inplaceOp op) r) {pins : List (Addr × Obj)} {s : Shared} {σ : St} {H : Hp} {x y : V} {v u : Value} {Q : VK} (I : Inv X pins σ H s)
    (rx : RelV x v) (ry : RelV y u) (q : r x y H Q) : wpAny (model X.prog X.w) X.A (inplaceOp op v u) (EP X pins σ Q) X.xe s := ho pins s σ H x y v u Q I rx ry q

/-! ### ints -/
theorem opI {f : Value → Value → Sem Value} {C : Int → Int → Prop} {g : Int → Int → Int}
    (rule : ∀ (i j : Int) (t u : Tok) (s : Shared) (Q : Value → Shared → Prop) (E : Value → Shared → Prop), C i j → Q (.int (g i j) s.toks) { s with toks := s.toks + 1 } → wpAny (model X.prog X.w) X.A (f (.int i t) (.int j u)) Q E s) :
    OpR X f (rI C fun i j => .int (g i j)) := by
  intro pins s σ H x y v u Q I rx ry h
  obtain ⟨i, j, rfl, rfl, hc, q⟩ := h
  obtain ⟨t, rfl⟩ := rx
  obtain ⟨t', rfl⟩ := ry
  exact rule i j t t' s _ _ hc ⟨.int (g i j), H, I.tok _, ⟨_, rfl⟩, q⟩
theorem opI0 {f : Value → Value → Sem Value} {g : Int → Int → Int}
    (rule : ∀ (i j : Int) (t u : Tok) (s : Shared) (Q : Value → Shared → Prop) (E : Value → Shared → Prop), Q (.int (g i j) s.toks) { s with toks := s.toks + 1 } → wpAny (model X.prog X.w) X.A (f (.int i t) (.int j u)) Q E s) :
    OpR X f (rI0 fun i j => .int (g i j)) := by
  intro pins s σ H x y v u Q I rx ry h
  obtain ⟨i, j, rfl, rfl, q⟩ := h
  obtain ⟨t, rfl⟩ := rx
  obtain ⟨t', rfl⟩ := ry
  exact rule i j t t' s _ _ ⟨.int (g i j), H, I.tok _, ⟨_, rfl⟩, q⟩
theorem opB0 {f : Value → Value → Sem Value} {g : Int → Int → Bool}
    (rule : ∀ (i j : Int) (t u : Tok) (s : Shared) (Q : Value → Shared → Prop) (E : Value → Shared → Prop), Q (.bool (g i j)) s → wpAny (model X.prog X.w) X.A (f (.int i t) (.int j u)) Q E s) :
    OpR X f (rI0 fun i j => .bl (g i j)) := by
  intro pins s σ H x y v u Q I rx ry h
  obtain ⟨i, j, rfl, rfl, q⟩ := h
  obtain ⟨t, rfl⟩ := rx
  obtain ⟨t', rfl⟩ := ry
  exact rule i j t t' s _ _ ⟨.bl (g i j), H, I, rfl, q⟩

def CDiv (i j : Int) : Prop := 0 < j ∧ j < 1073741824
def CDivN (i j : Int) : Prop := j ≠ 0 ∧ j.natAbs < 1073741824
def CPow (i j : Int) : Prop := 0 ≤ j ∧ j ≤ 1000000 ∧ i.natAbs < 2 ^ 64
def CMul (i j : Int) : Prop := (-(2 ^ 64) < i ∧ i < 2 ^ 64) ∨ (-(2 ^ 64) < j ∧ j < 2 ^ 64)
theorem CMul.ok {i j : Int} (h : CMul i j) : IntMulOk i j := by
  rcases h with ⟨h1, h2⟩ | ⟨h1, h2⟩
  · exact .of_left (intBits_le_64 h1 h2)
  · exact .of_right (intBits_le_64 h1 h2)
theorem two_pow_nn (k : Nat) : (0 : Int) ≤ 2 ^ k := by
  rw [two_pow_cast]
  exact Int.natCast_nonneg _

theorem op_add : OpR X (binaryOp .Add) (rI0 fun i j => .int (i + j)) := opI0 fun _ _ _ _ _ _ _ q => add_int q
theorem op_sub : OpR X (binaryOp .Sub) (rI0 fun i j => .int (i - j)) := opI0 fun _ _ _ _ _ _ _ q => sub_int q
theorem op_mul : OpR X (binaryOp .Mult) (rI CMul fun i j => .int (i * j)) := opI fun _ _ _ _ _ _ _ hc q => mul_int q hc.ok
/-- // by a positive divisor -/
theorem op_fdiv : OpR X (binaryOp .FloorDiv) (rI CDiv fun i j => .int (i / j)) := opI fun i j _ _ _ _ _ hc q => by
  have h1 : (0 : Int) < j := hc.1
  have h2 : j < 1073741824 := hc.2
  exact floordiv_int (by omega) (by rw [Int.fdiv_eq_ediv_of_nonneg i (by omega)]; exact q) (.inl (PyProof.noPylong_small (by omega)))
theorem op_fdivN : OpR X (binaryOp .FloorDiv) (rI CDivN fun i j => .int (i.fdiv j)) := opI fun _ _ _ _ _ _ _ hc q => floordiv_int hc.1 q (.inl (PyProof.noPylong_small hc.2))
/-- % by a positive divisor of any size -/
theorem op_mod : OpR X (binaryOp .Mod) (rI (fun _ j => 0 < j) fun i j => .int (i % j)) := opI fun i j _ _ _ _ _ hc q => by
  have h1 : (0 : Int) < j := hc
  exact mod_int' (by omega) (by rw [Int.fmod_eq_emod_of_nonneg i (by omega)]; exact q)
theorem op_modN : OpR X (binaryOp .Mod) (rI (fun _ j => j ≠ 0) fun i j => .int (i.fmod j)) := opI fun _ _ _ _ _ _ _ hc q => mod_int' hc q
theorem op_pow : OpR X (binaryOp .Pow) (rI CPow fun i j => .int (i ^ j.toNat)) := opI fun _ _ _ _ _ _ _ hc q => pow_int_small hc.1 hc.2.1 hc.2.2 q
theorem op_shl : OpR X (binaryOp .LShift) (rI CPow fun i j => .int (i * 2 ^ j.toNat)) := opI fun _ _ _ _ _ _ _ hc q => lshift_int_small hc.1 hc.2.1 hc.2.2 q
theorem op_shr : OpR X (binaryOp .RShift) (rI (fun _ j => 0 ≤ j) fun i j => .int (i / 2 ^ j.toNat)) := opI fun i j _ _ _ _ _ hc q =>
  rshift_int hc (by rw [Int.fdiv_eq_ediv_of_nonneg i (two_pow_nn _)]; exact q)
theorem op_and : OpR X (binaryOp .BitAnd) (rI0 fun i j => .int (Builtin.bitAnd i j)) := opI0 fun _ _ _ _ _ _ _ q => and_int q
theorem op_or : OpR X (binaryOp .BitOr) (rI0 fun i j => .int (Builtin.bitOr i j)) := opI0 fun _ _ _ _ _ _ _ q => or_int q
theorem op_xor : OpR X (binaryOp .BitXor) (rI0 fun i j => .int (Builtin.bitXor i j)) := opI0 fun _ _ _ _ _ _ _ q => xor_int q

theorem iop_add : OpR X (inplaceOp .Add) (rI0 fun i j => .int (i + j)) := opI0 fun _ _ _ _ _ _ _ q => iadd_int q
theorem iop_sub : OpR X (inplaceOp .Sub) (rI0 fun i j => .int (i - j)) := opI0 fun _ _ _ _ _ _ _ q => isub_int q
theorem iop_mul : OpR X (inplaceOp .Mult) (rI CMul fun i j => .int (i * j)) := opI fun _ _ _ _ _ _ _ hc q => imul_int q hc.ok
theorem iop_fdiv : OpR X (inplaceOp .FloorDiv) (rI CDiv fun i j => .int (i / j)) := opI fun i j _ _ _ _ _ hc q => by
  have h1 : (0 : Int) < j := hc.1
  have h2 : j < 1073741824 := hc.2
  exact ifloordiv_int (by omega) (by rw [Int.fdiv_eq_ediv_of_nonneg i (by omega)]; exact q) (.inl (PyProof.noPylong_small (by omega)))
theorem iop_mod : OpR X (inplaceOp .Mod) (rI (fun _ j => 0 < j) fun i j => .int (i % j)) := opI fun i j _ _ _ _ _ hc q => by
  have h1 : (0 : Int) < j := hc
  exact imod_int (by omega) (by rw [Int.fmod_eq_emod_of_nonneg i (by omega)]; exact q)
theorem iop_shl : OpR X (inplaceOp .LShift) (rI CPow fun i j => .int (i * 2 ^ j.toNat)) := opI fun _ _ _ _ _ _ _ hc q => ilshift_int_small hc.1 hc.2.1 hc.2.2 q
theorem iop_shr : OpR X (inplaceOp .RShift) (rI (fun _ j => 0 ≤ j) fun i j => .int (i / 2 ^ j.toNat)) := opI fun i j _ _ _ _ _ hc q =>
  irshift_int hc (by rw [Int.fdiv_eq_ediv_of_nonneg i (two_pow_nn _)]; exact q)
theorem iop_and : OpR X (inplaceOp .BitAnd) (rI0 fun i j => .int (Builtin.bitAnd i j)) := opI0 fun _ _ _ _ _ _ _ q => iand_int q
theorem iop_or : OpR X (inplaceOp .BitOr) (rI0 fun i j => .int (Builtin.bitOr i j)) := opI0 fun _ _ _ _ _ _ _ q => ior_int q
theorem iop_xor : OpR X (inplaceOp .BitXor) (rI0 fun i j => .int (Builtin.bitXor i j)) := opI0 fun _ _ _ _ _ _ _ q => ixor_int q

theorem unI {f : Value → Sem Value} {g : Int → Int}
    (rule : ∀ (i : Int) (t : Tok) (s : Shared) (Q : Value → Shared → Prop) (E : Value → Shared → Prop), Q (.int (g i) s.toks) { s with toks := s.toks + 1 } → wpAny (model X.prog X.w) X.A (f (.int i t)) Q E s) :
    UnR X f (rU fun i => .int (g i)) := by
  intro pins s σ H x v Q I rx h
  obtain ⟨i, rfl, q⟩ := h
  obtain ⟨t, rfl⟩ := rx
  exact rule i t s _ _ ⟨.int (g i), H, I.tok _, ⟨_, rfl⟩, q⟩
theorem un_neg : UnR X (unaryOp .USub) (rU fun i => .int (-i)) := unI fun _ _ _ _ _ q => neg_int q
theorem un_inv : UnR X (unaryOp .Invert) (rU fun i => .int (Builtin.bitNot i)) := unI fun _ _ _ _ _ q => invert_int q

/-! ### bools among ints: n += (a < b) -/
theorem op_add_ib : OpR X (binaryOp .Add) (fun x y H Q => ∃ i k, x = .int i ∧ y = .bl k ∧ Q (.int (i + b2i k)) H) := by
  intro pins s σ H x y v u Q I rx ry h
  obtain ⟨i, k, rfl, rfl, q⟩ := h
  obtain ⟨t, rfl⟩ := rx
  cases ry
  exact add_int_bool ⟨.int (i + b2i k), H, I.tok _, ⟨_, rfl⟩, q⟩
end

/-! ### comparisons -/
/-- the scalars that == tells apart as data does -/
def scal : V → V → Bool
  | .non, .non => true | .non, .int _ => true | .int _, .non => true | .non, .bl _ => true | .bl _, .non => true | .non, .str _ => true | .str _, .non => true
  | .int _, .int _ => true | .bl _, .bl _ => true | .str _, .str _ => true | .byt _, .byt _ => true
  | .int _, .str _ => true | .str _, .int _ => true | .bl _, .str _ => true | .str _, .bl _ => true
  | _, _ => false
def rEq : R2 := fun x y H Q => scal x y = true ∧ Q (.bl (decide (x = y))) H
def rNe : R2 := fun x y H Q => scal x y = true ∧ Q (.bl (!decide (x = y))) H

theorem dec_int {i j : Int} : decide (V.int i = V.int j) = (i == j) := by
  rw [Bool.eq_iff_iff]
  simp
theorem dec_bl {i j : Bool} : decide (V.bl i = V.bl j) = (i == j) := by
  rw [Bool.eq_iff_iff]
  simp
theorem dec_str {i j : Str} : decide (V.str i = V.str j) = (i == j) := by
  rw [Bool.eq_iff_iff]
  simp
theorem dec_byt {i j : Array UInt8} : decide (V.byt i = V.byt j) = (i.toList == j.toList) := by
  rw [Bool.eq_iff_iff]
  cases i
  cases j
  simp

section
variable {X : Cx} {a b c : Expr} {ta tb tc : TE} {pos : Pos}
theorem fin_bl {pins : List (Addr × Obj)} {σ : St} {H : Hp} {s : Shared} {Q : VK} {k k' : Bool} (I : Inv X pins σ H s) (q : Q (.bl k) H) (e : k = k') : EP X pins σ Q (.bool k') s := by
  subst e
  exact ⟨.bl k, H, I, rfl, q⟩
theorem op_eq : OpR X (compareOp .Eq) rEq := by
  intro pins s σ H x y v u Q I rx ry h
  obtain ⟨hs, q⟩ := h
  cases x with
  | non =>
    cases rx
    cases y with
    | non => cases ry; exact PySem.EqNone.eq_none_none (fin_bl I q (by simp))
    | bl j => cases ry; exact PySem.EqNone.eq_none_bool (fin_bl I q (by simp))
    | int j => obtain ⟨t', rfl⟩ := ry; exact PySem.EqNone.eq_none_int (fin_bl I q (by simp))
    | str j => obtain ⟨t', rfl⟩ := ry; exact PySem.EqNone.eq_none_str (fin_bl I q (by simp))
    | _ => exact absurd (show false = true from hs) Bool.false_ne_true
  | bl i =>
    cases rx
    cases y with
    | non => cases ry; exact PySem.EqNone.eq_bool_none (fin_bl I q (by simp))
    | bl j => cases ry; exact eq_bool (fin_bl I q dec_bl)
    | str j => obtain ⟨t', rfl⟩ := ry; exact PySem.EqMixed.eq_bool_str (fin_bl I q (by simp))
    | _ => exact absurd (show false = true from hs) Bool.false_ne_true
  | int i =>
    obtain ⟨t, rfl⟩ := rx
    cases y with
    | non => cases ry; exact PySem.EqNone.eq_int_none (fin_bl I q (by simp))
    | int j => obtain ⟨t', rfl⟩ := ry; exact eq_int (fin_bl I q dec_int)
    | str j => obtain ⟨t', rfl⟩ := ry; exact PySem.EqMixed.eq_int_str (fin_bl I q (by simp))
    | _ => exact absurd (show false = true from hs) Bool.false_ne_true
  | str i =>
    obtain ⟨t, rfl⟩ := rx
    cases y with
    | non => cases ry; exact PySem.EqNone.eq_str_none (fin_bl I q (by simp))
    | bl j => cases ry; exact PySem.EqMixed.eq_str_bool (fin_bl I q (by simp))
    | int j => obtain ⟨t', rfl⟩ := ry; exact PySem.EqMixed.eq_str_int (fin_bl I q (by simp))
    | str j => obtain ⟨t', rfl⟩ := ry; exact eq_str (fin_bl I q dec_str)
    | _ => exact absurd (show false = true from hs) Bool.false_ne_true
  | byt i =>
    obtain ⟨t, rfl⟩ := rx
    cases y with
    | byt j => obtain ⟨t', rfl⟩ := ry; exact PySem.W.eq_bytes (fin_bl I q dec_byt)
    | _ => exact absurd (show false = true from hs) Bool.false_ne_true
  | _ => cases y <;> exact absurd (show false = true from hs) Bool.false_ne_true
theorem op_ne : OpR X (compareOp .NotEq) rNe := by
  intro pins s σ H x y v u Q I rx ry h
  obtain ⟨hs, q⟩ := h
  cases x with
  | non =>
    cases rx
    cases y with
    | non => cases ry; exact PySem.EqNone.ne_none_none (fin_bl I q (by simp))
    | bl j => cases ry; exact PySem.EqNone.ne_none_bool (fin_bl I q (by simp))
    | int j => obtain ⟨t', rfl⟩ := ry; exact PySem.EqNone.ne_none_int (fin_bl I q (by simp))
    | str j => obtain ⟨t', rfl⟩ := ry; exact PySem.EqNone.ne_none_str (fin_bl I q (by simp))
    | _ => exact absurd (show false = true from hs) Bool.false_ne_true
  | bl i =>
    cases rx
    cases y with
    | non => cases ry; exact PySem.EqNone.ne_bool_none (fin_bl I q (by simp))
    | bl j => cases ry; exact ne_bool (fin_bl I q (congrArg not dec_bl))
    | str j => obtain ⟨t', rfl⟩ := ry; exact PySem.EqMixed.ne_bool_str (fin_bl I q (by simp))
    | _ => exact absurd (show false = true from hs) Bool.false_ne_true
  | int i =>
    obtain ⟨t, rfl⟩ := rx
    cases y with
    | non => cases ry; exact PySem.EqNone.ne_int_none (fin_bl I q (by simp))
    | int j => obtain ⟨t', rfl⟩ := ry; exact ne_int (fin_bl I q (congrArg not dec_int))
    | str j => obtain ⟨t', rfl⟩ := ry; exact PySem.EqMixed.ne_int_str (fin_bl I q (by simp))
    | _ => exact absurd (show false = true from hs) Bool.false_ne_true
  | str i =>
    obtain ⟨t, rfl⟩ := rx
    cases y with
    | non => cases ry; exact PySem.EqNone.ne_str_none (fin_bl I q (by simp))
    | bl j => cases ry; exact PySem.EqMixed.ne_str_bool (fin_bl I q (by simp))
    | int j => obtain ⟨t', rfl⟩ := ry; exact PySem.EqMixed.ne_str_int (fin_bl I q (by simp))
    | str j => obtain ⟨t', rfl⟩ := ry; exact ne_str (fin_bl I q (congrArg not dec_str))
    | _ => exact absurd (show false = true from hs) Bool.false_ne_true
  | byt i =>
    obtain ⟨t, rfl⟩ := rx
    cases y with
    | byt j => obtain ⟨t', rfl⟩ := ry; exact PySem.W.ne_bytes (fin_bl I q (congrArg not dec_byt))
    | _ => exact absurd (show false = true from hs) Bool.false_ne_true
  | _ => cases y <;> exact absurd (show false = true from hs) Bool.false_ne_true

theorem op_lt : OpR X (compareOp .Lt) (rI0 fun i j => .bl (decide (i < j))) := opB0 fun _ _ _ _ _ _ _ q => lt_int q
theorem op_le : OpR X (compareOp .LtE) (rI0 fun i j => .bl (decide (i ≤ j))) := opB0 fun _ _ _ _ _ _ _ q => le_int q
theorem op_gt : OpR X (compareOp .Gt) (rI0 fun i j => .bl (decide (j < i))) := opB0 fun _ _ _ _ _ _ _ q => gt_int q
theorem op_ge : OpR X (compareOp .GtE) (rI0 fun i j => .bl (decide (j ≤ i))) := opB0 fun _ _ _ _ _ _ _ q => ge_int q
theorem op_lt_str : OpR X (compareOp .Lt) (fun x y H Q => ∃ i j, x = .str i ∧ y = .str j ∧ Q (.bl (decide (i.cps.toList < j.cps.toList))) H) := by
  intro pins s σ H x y v u Q I rx ry h
  obtain ⟨i, j, rfl, rfl, q⟩ := h
  obtain ⟨t, rfl⟩ := rx
  obtain ⟨t', rfl⟩ := ry
  exact lt_str (fin_bl I q rfl)
/-- the one string within the other -/
theorem op_in_str : OpR X (compareOp .In) (fun x y H Q => ∃ i j, x = .str i ∧ y = .str j ∧ Q (.bl (!(Builtin.Str.occurrences j i 0 j.length 1).isEmpty)) H) := by
  intro pins s σ H x y v u Q I rx ry h
  obtain ⟨i, j, rfl, rfl, q⟩ := h
  obtain ⟨t, rfl⟩ := rx
  obtain ⟨t', rfl⟩ := ry
  exact in_str (fin_bl I q rfl)

/-- is None, is not None: the right side a value none -/
theorem op_isN : OpR X (compareOp .Is) (fun x y H Q => y = .non ∧ Q (.bl (decide (x = .non))) H) := by
  intro pins s σ H x y v u Q I rx ry h
  obtain ⟨rfl, q⟩ := h
  cases ry
  refine is_none_gen (fin_bl I q ?_)
  cases x <;> first
    | (cases rx; rfl)
    | (obtain ⟨t, rfl⟩ := rx; rfl)
theorem op_notN : OpR X (compareOp .IsNot) (fun x y H Q => y = .non ∧ Q (.bl (!decide (x = .non))) H) := by
  intro pins s σ H x y v u Q I rx ry h
  obtain ⟨rfl, q⟩ := h
  cases ry
  refine isnot_none_gen (fin_bl I q ?_)
  cases x <;> first
    | (cases rx; rfl)
    | (obtain ⟨t, rfl⟩ := rx; rfl)

theorem op_notin_str : OpR X (compareOp .NotIn) (fun x y H Q => ∃ i j, x = .str i ∧ y = .str j ∧ Q (.bl (!(!(Builtin.Str.occurrences j i 0 j.length 1).isEmpty))) H) := by
  intro pins s σ H x y v u Q I rx ry h
  obtain ⟨i, j, rfl, rfl, q⟩ := h
  obtain ⟨t, rfl⟩ := rx
  obtain ⟨t', rfl⟩ := ry
  exact notIn_str (fin_bl I q rfl)
/-- is, is not of two objects that are tracked lists or instances -/
def isObj : HO → Bool
  | .lst _ => true
  | .ins _ _ _ => true
  | _ => false
theorem obj_there {pins : List (Addr × Obj)} {s : Shared} {σ : St} {H : Hp} {a : Addr} {o : HO} (I : Inv X pins σ H s) (h : H a = some o) (p : isObj o = true) : ∃ ob, s.heap.get? a = some ob ∧ ob.cls ≠ .type "tuple" := by
  cases o with
  | lst xs =>
    obtain ⟨_, its, n, _, e⟩ : xs.length ≤ sizeLine ∧ ∃ (its : List Value) (n : Nat), Vals xs its ∧ s.heap.get? a = some { cls := .type "list", data := .seq its.toArray n } := I.hok a _ h
    exact ⟨_, e, (by show Value.type "list" ≠ .type "tuple"; decide +kernel)⟩
  | ins C dx fs =>
    have x := I.hok a _ h
    obtain ⟨_, _, _, e, _⟩ := x
    exact ⟨_, e, (by show Value.ref C ≠ .type "tuple"; exact fun z => by cases z)⟩
  | _ => exact absurd (show false = true from p) Bool.false_ne_true
theorem op_is_ref : OpR X (compareOp .Is) (fun x y H Q => ∃ a b oa ob, x = .ref a ∧ y = .ref b ∧ H a = some oa ∧ isObj oa = true ∧ H b = some ob ∧ isObj ob = true ∧ Q (.bl (decide (a = b))) H) := by
  intro pins s σ H x y v u Q I rx ry h
  obtain ⟨a, b, oa, ob, rfl, rfl, ha, pa, hb, pb, q⟩ := h
  cases rx
  cases ry
  obtain ⟨o1, e1, n1⟩ := obj_there I ha pa
  obtain ⟨o2, e2, _⟩ := obj_there I hb pb
  by_cases z : a = b
  · subst z
    exact wpAny_is_ref_self (fin_bl I q (by simp))
  · exact wpAny_is_ref_other z e1 e2 n1 (fin_bl I q (by simp [z]))
theorem op_isnot_ref : OpR X (compareOp .IsNot) (fun x y H Q => ∃ a b oa ob, x = .ref a ∧ y = .ref b ∧ H a = some oa ∧ isObj oa = true ∧ H b = some ob ∧ isObj ob = true ∧ Q (.bl (!decide (a = b))) H) := by
  intro pins s σ H x y v u Q I rx ry h
  obtain ⟨a, b, oa, ob, rfl, rfl, ha, pa, hb, pb, q⟩ := h
  cases rx
  cases ry
  obtain ⟨o1, e1, n1⟩ := obj_there I ha pa
  obtain ⟨o2, e2, _⟩ := obj_there I hb pb
  by_cases z : a = b
  · subst z
    exact wpAny_isNot_ref_self (fin_bl I q (by simp))
  · exact wpAny_isNot_ref_other z e1 e2 n1 (fin_bl I q (by simp [z]))

/-- two rules for one operation: by cases -/
theorem OpR.or {f : Value → Value → Sem Value} {r r' : R2} (h : OpR X f r) (h' : OpR X f r') : OpR X f (fun x y H Q => r x y H Q ∨ r' x y H Q) := by
  intro pins s σ H x y v u Q I rx ry q
  rcases q with q | q
  · exact h pins s σ H x y v u Q I rx ry q
  · exact h' pins s σ H x y v u Q I rx ry q

theorem nomark (b : Expr) {op : CmpOp} (h : op ≠ .In := by decide) (h2 : op ≠ .NotIn := by decide) : behindInMarks op b = false := by
  have e1 : (op == CmpOp.In) = false := by cases op <;> first | rfl | exact absurd rfl h
  have e2 : (op == CmpOp.NotIn) = false := by cases op <;> first | rfl | exact absurd rfl h2
  cases b <;> simp [behindInMarks, e1, e2]
/-- a comparison as a value; hm: nomark b, or (for in, not in) by with_unfolding_all rfl -/
theorem pe_cmpR {op : CmpOp} {r : R2} (ho : OpR X (compareOp op) r) (ha : PE X a ta) (hb : PE X b tb) (hm : behindInMarks op b = false) : PE X (.Compare a [op] [b] pos) (tOp r ta tb) := by
  intro pins s σ H Q I h
  exact wpAny_Compare1 (binT ha hb I h fun v u s2 x y H2 I2 rx ry q => ho pins s2 σ H2 x y v u Q I2 rx ry q) hm
/-- a reading of a value as a test -/
def tTest (t : TE) : TT := fun σ H Q => t σ H fun x H' => ∃ k, x = .bl k ∧ Q k H'
theorem pt_cmpR {op : CmpOp} {r : R2} (ho : OpR X (compareOp op) r) (ha : PE X a ta) (hb : PE X b tb) (hm : behindInMarks op b = false) : PT X (.Compare a [op] [b] pos) (tTest (tOp r ta tb)) := by
  intro pins s σ H Q I h
  refine wpAny_isTrue_Compare1 (thn (ha pins s σ H _ I h) fun v s1 ⟨x, H1, I1, r1, q1⟩ => thn (hb pins s1 σ H1 _ I1 q1) fun u s2 ⟨y, H2, I2, r2, q2⟩ =>
    thn (ho pins s2 σ H2 x y v u _ I2 r1 r2 q2) fun c s3 ⟨z, H3, I3, r3, k, e, q3⟩ => ?_) hm
  subst e
  cases r3
  exact wpAny_truthy_bool ⟨H3, I3, q3⟩
/-- a op1 b op2 c -/
def tChain (r r' : R2) (ta tb tc : TE) : TE := fun σ H Q => ta σ H fun x H1 => tb σ H1 fun y H2 => r x y H2 fun z H3 => ∃ k, z = .bl k ∧
  (if k = true then tc σ H3 fun w' H4 => r' y w' H4 Q else Q (.bl false) H3)
theorem pe_chain {op op' : CmpOp} {r r' : R2} (ho : OpR X (compareOp op) r) (ho' : OpR X (compareOp op') r') (ha : PE X a ta) (hb : PE X b tb) (hc : PE X c tc)
    (hm : lastMarks [op, op'] [b, c] = false := by with_unfolding_all rfl) : PE X (.Compare a [op, op'] [b, c] pos) (tChain r r' ta tb tc) := by
  intro pins s σ H Q I h
  refine Compare_chain (thn (ha pins s σ H _ I h) fun v s1 ⟨x, H1, I1, r1, q1⟩ => chain_link (thn (hb pins s1 σ H1 _ I1 q1) fun u s2 ⟨y, H2, I2, r2, q2⟩ =>
    thn (ho pins s2 σ H2 x y v u _ I2 r1 r2 q2) fun d s3 ⟨z, H3, I3, r3, k, e, q3⟩ => ?_)) hm
  subst e
  cases r3
  refine wpAny_truthy_bool ?_
  cases k with
  | false => exact ite_ff ⟨.bl false, H3, I3, rfl, q3⟩
  | true => exact ite_tt (chain_last (thn (hc pins s3 σ H3 _ I3 q3) fun w' s4 ⟨z', H4, I4, r4, q4⟩ => ho' pins s4 σ H4 y z' u w' Q I4 r2 r4 q4))
theorem pt_chain {op op' : CmpOp} {r r' : R2} (ho : OpR X (compareOp op) r) (ho' : OpR X (compareOp op') r') (ha : PE X a ta) (hb : PE X b tb) (hc : PE X c tc)
    (hm : lastMarks [op, op'] [b, c] = false := by with_unfolding_all rfl) : PT X (.Compare a [op, op'] [b, c] pos) (tTest (tChain r r' ta tb tc)) := by
  intro pins s σ H Q I h
  refine isTrue_chain (thn (ha pins s σ H _ I h) fun v s1 ⟨x, H1, I1, r1, q1⟩ => test_link (thn (hb pins s1 σ H1 _ I1 q1) fun u s2 ⟨y, H2, I2, r2, q2⟩ =>
    thn (ho pins s2 σ H2 x y v u _ I2 r1 r2 q2) fun d s3 ⟨z, H3, I3, r3, k, e, q3⟩ => ?_)) hm
  subst e
  cases r3
  refine wpAny_truthy_bool ?_
  cases k with
  | false =>
    obtain ⟨k', e', q'⟩ := q3
    cases e'
    exact ite_ff ⟨H3, I3, q'⟩
  | true =>
    refine ite_tt (test_last (thn (hc pins s3 σ H3 _ I3 q3) fun w' s4 ⟨z', H4, I4, r4, q4⟩ => thn (ho' pins s4 σ H4 y z' u w' _ I4 r2 r4 q4) fun d' s5 ⟨z2, H5, I5, r5, k2, e2, q5⟩ => ?_))
    subst e2
    cases r5
    exact wpAny_truthy_bool ⟨H5, I5, q5⟩

/-! ### truth -/
/-- a value's truth by the abstract heap -/
def TruV (K : PySem.W.Frag) (x : V) (H : Hp) (k : Bool) : Prop :=
  match x with
  | .non => k = false
  | .bl b => k = b
  | .int i => k = (i != 0)
  | .str y => y.length ≤ sizeLine ∧ k = ((y.length : Int) != 0)
  | .byt y => y.size ≤ sizeLine ∧ k = ((y.size : Int) != 0)
  | .ref p => (∃ xs, SqL K H p xs ∧ k = !xs.isEmpty) ∨ (∃ xs, SqT K H p xs ∧ k = !xs.isEmpty) ∨ ∃ kvs, H p = some (.dK kvs) ∧ k = !kvs.isEmpty
  | _ => False
theorem isEmpty_kv {κ : Type} {kvs : List (κ × V)} {vs : List (κ × Value)} (r : KV kvs vs) : (!vs.isEmpty) = !kvs.isEmpty := by
  cases r <;> rfl
theorem isEmpty_of {xs : List V} {its : List Value} (r : Vals xs its) : (!its.toArray.isEmpty) = !xs.isEmpty := by
  cases r <;> simp
theorem line63 : (sizeLine : Nat) < 2 ^ 63 := by rw [sizeLine_eq]; decide
theorem tru_ok : TruR X (fun x H Q => ∃ k, TruV X.K x H k ∧ Q k H) := by
  intro pins s σ H x v Q I rx h
  obtain ⟨k, e, q⟩ := h
  have hl := line63
  have hs : sizeLine = 16777216 := sizeLine_eq
  cases x with
  | non =>
    cases rx
    have e' : k = false := e
    subst e'
    exact truthy_none ⟨H, I, q⟩
  | bl b =>
    cases rx
    have e' : k = b := e
    subst e'
    exact wpAny_truthy_bool ⟨H, I, q⟩
  | int i =>
    obtain ⟨t, rfl⟩ := rx
    have e' : k = (i != 0) := e
    subst e'
    exact PySem.P.truthy_int ⟨H, I, q⟩
  | str y =>
    obtain ⟨t, rfl⟩ := rx
    obtain ⟨hy, e'⟩ : y.length ≤ sizeLine ∧ k = ((y.length : Int) != 0) := e
    subst e'
    exact PySem.P.truthy_str (by omega) ⟨H, I.tok _, q⟩
  | byt y =>
    obtain ⟨t, rfl⟩ := rx
    obtain ⟨hy, e'⟩ : y.size ≤ sizeLine ∧ k = ((y.size : Int) != 0) := e
    subst e'
    exact PySem.W.truthy_bytes (by omega) ⟨H, I.tok _, q⟩
  | ref p =>
    cases rx
    have e' : (∃ xs, SqL X.K H p xs ∧ k = !xs.isEmpty) ∨ (∃ xs, SqT X.K H p xs ∧ k = !xs.isEmpty) ∨ ∃ kvs, H p = some (.dK kvs) ∧ k = !kvs.isEmpty := e
    rcases e' with ⟨xs, hx, e'⟩ | ⟨xs, hx, e'⟩ | ⟨kvs, hx, e'⟩
    · subst e'
      obtain ⟨its, r, pl, hz⟩ := I.list hx
      have hlen := r.length
      exact wpAny_truthy_list pl.isList (by simp only [List.size_toArray]; omega) ⟨H, I.tok _, by rw [isEmpty_of r]; exact q⟩
    · subst e'
      obtain ⟨its, r, pl, hz⟩ := I.tuple hx
      have hlen := r.length
      exact truthy_tuple pl (by simp only [List.size_toArray]; omega) ⟨H, I.tok _, by rw [isEmpty_of r]; exact q⟩
    · subst e'
      obtain ⟨hz, hS, vs, r, m⟩ : kvs.length ≤ sizeLine ∧ (p == sysModules) = false ∧ ∃ vs, KV kvs vs ∧ s.heap.DictOf (mixKind X.prog X.w) p vs := I.hok p _ hx
      have hlen : kvs.length = vs.length := Paired.length r
      exact wpAny_truthy_dict hS m (by omega) ⟨H, I.tok _, by rw [isEmpty_kv r]; exact q⟩
  | _ => exact (show False from e).elim
/-- any expression whose test is its value's truth (a name, a call, a subscript, a field ..: he by fun _ => rfl) -/
theorem pt_truth (ha : PE X a ta) (he : ∀ whole, isTrue a X.env whole = (do let v ← whole; standAt a.pos; holding [v] (truthy v))) :
    PT X a (fun σ H Q => ta σ H fun x H' => ∃ k, TruV X.K x H' k ∧ Q k H') := by
  intro pins s σ H Q I h
  exact isTrue_plain (thn (ha pins s σ H _ I h) fun v s1 ⟨x, H1, I1, r1, q1⟩ => tru_ok pins s1 σ H1 x v Q I1 r1 q1) (he _)

/-! ### strs and bytes -/
theorem pe_byt {x : List UInt8} {k : Nat} : PE X (.Constant (.bytes x) k pos) (fun _ H Q => Q (.byt x.toArray) H) := fun _ _ _ H _ I h => PySem.W.Constant_bytes ⟨.byt x.toArray, H, I.tok _, ⟨_, rfl⟩, h⟩
theorem op_add_str : OpR X (binaryOp .Add) (fun x y H Q => ∃ i j, x = .str i ∧ y = .str j ∧ i.length + j.length ≤ sizeLine ∧ Q (.str (i ++ j)) H) := by
  intro pins s σ H x y v u Q I rx ry h
  obtain ⟨i, j, rfl, rfl, hz, q⟩ := h
  obtain ⟨t, rfl⟩ := rx
  obtain ⟨t', rfl⟩ := ry
  exact add_str (fun t' tk => ⟨.str (i ++ j), H, I.tok _, ⟨_, rfl⟩, q⟩) hz
theorem iop_add_str : OpR X (inplaceOp .Add) (fun x y H Q => ∃ i j, x = .str i ∧ y = .str j ∧ i.length + j.length ≤ sizeLine ∧ Q (.str (i ++ j)) H) := by
  intro pins s σ H x y v u Q I rx ry h
  obtain ⟨i, j, rfl, rfl, hz, q⟩ := h
  obtain ⟨t, rfl⟩ := rx
  obtain ⟨t', rfl⟩ := ry
  exact iadd_str (fun t' tk => ⟨.str (i ++ j), H, I.tok _, ⟨_, rfl⟩, q⟩) hz
theorem op_add_byt : OpR X (binaryOp .Add) (fun x y H Q => ∃ i j, x = .byt i ∧ y = .byt j ∧ i.size + j.size ≤ 16777216 ∧ Q (.byt (i ++ j)) H) := by
  intro pins s σ H x y v u Q I rx ry h
  obtain ⟨i, j, rfl, rfl, hz, q⟩ := h
  obtain ⟨t, rfl⟩ := rx
  obtain ⟨t', rfl⟩ := ry
  exact PySem.W.KBy.add_bytes hz (fun t' tk => ⟨.byt (i ++ j), H, I.tok _, ⟨_, rfl⟩, q⟩)

def PlainIxT (b : Expr) : Prop := ∀ o i, subscripted b false o i = operate [o, i] (getItem o i)
/-- s[i], 0 ≤ i < len -/
theorem pe_item_str (ha : PE X a ta) (hb : PE X b tb) (hs : PlainIxT b) :
    PE X (.Subscript a b pos) (tOp (fun x y H Q => ∃ z i c, x = .str z ∧ y = .int i ∧ 0 ≤ i ∧ i < 2 ^ 63 ∧ i < z.length ∧ z.cps[i.toNat]? = some c ∧ Q (.str ⟨#[c]⟩) H) ta tb) := by
  intro pins s σ H Q I h
  refine Subscript_ (binT ha hb I h fun v u s2 x y H2 I2 rx ry q => ?_)
  obtain ⟨z, i, c, rfl, rfl, h0, h63, h1, hc, q⟩ := q
  obtain ⟨t, rfl⟩ := rx
  obtain ⟨t', rfl⟩ := ry
  have e : seqIndex? i z.length = some i.toNat := PySem.StrLaws.seqIndex_nonneg h0 h1
  exact tail_any (typeIs_str s2 z t) slot_str_getitem.lookup (getItem_str (c := c) (by
    have e1 : decide (i < -(2 ^ 63 : Int)) = false := decide_eq_false (by omega)
    have e2 : decide (i ≥ 2 ^ 63) = false := decide_eq_false (by omega)
    rw [e1, e2] <;> rfl) (by rw [e]; exact hc) ⟨.str ⟨#[c]⟩, H2, I2.tok _, ⟨_, rfl⟩, q⟩) (hs _ _)
/-- b[i], 0 ≤ i < len -/
theorem pe_item_byt (ha : PE X a ta) (hb : PE X b tb) (hs : PlainIxT b) :
    PE X (.Subscript a b pos) (tOp (fun x y H Q => ∃ (z : List UInt8) (i : Int), x = .byt z.toArray ∧ y = .int i ∧ z.length ≤ sizeLine ∧ 0 ≤ i ∧ i < z.length ∧ Q (.int ((z.getD i.toNat 0).toNat : Nat)) H) ta tb) := by
  intro pins s σ H Q I h
  refine Subscript_ (binT ha hb I h fun v u s2 x y H2 I2 rx ry q => ?_)
  obtain ⟨z, i, rfl, rfl, hz, h0, h1, q⟩ := q
  obtain ⟨t, rfl⟩ := rx
  obtain ⟨t', rfl⟩ := ry
  have hl : sizeLine = 16777216 := sizeLine_eq
  exact tail_any (PySem.W.typeIs_bytes s2 z.toArray t) PySem.W.FB.slot_bytes_getitem.lookup (PySem.W.getItem_bytes (by omega) h0 h1 ⟨.int ((z.getD i.toNat 0).toNat : Nat), H2, I2.tok _, ⟨_, rfl⟩, q⟩) (hs _ _)

/-! ### scalar builtins, by CallR -/
theorem vals1 {x : V} {us : List Value} (r : Vals [x] us) : ∃ u, us = [u] ∧ RelV x u := by
  cases r with
  | cons r1 r2 => cases r2; exact ⟨_, rfl, r1⟩
theorem vals2 {x y : V} {us : List Value} (r : Vals [x, y] us) : ∃ u w', us = [u, w'] ∧ RelV x u ∧ RelV y w' := by
  cases r with
  | cons r1 r2 =>
    cases r2 with
    | cons r3 r4 => cases r4; exact ⟨_, _, rfl, r1, r3⟩
theorem call_abs : CallR X (.builtin "abs") (fun xs H Q => ∃ i, xs = [.int i] ∧ Q (.int (if i < 0 then -i else i)) H) := by
  intro pins s σ H xs us Q I r h
  obtain ⟨i, rfl, q⟩ := h
  obtain ⟨u, rfl, t, rfl⟩ := vals1 r
  exact call_abs_int fun u tk => ⟨.int (if i < 0 then -i else i), H, I.tok _, ⟨_, rfl⟩, q⟩
theorem call_max2 (hc : X.calm = true) : CallR X (.builtin "max") (fun xs H Q => ∃ i j, xs = [.int i, .int j] ∧ Q (.int (if j > i then j else i)) H) := by
  intro pins s σ H xs us Q I r h
  obtain ⟨i, j, rfl, q⟩ := h
  obtain ⟨u, w', rfl, ⟨t, rfl⟩, ⟨t', rfl⟩⟩ := vals2 r
  refine max_two_ints (I.ok.hd hc) fun h' tk k => ⟨_, H, I.kept k, ?_, q⟩
  by_cases hj : j > i
  · rw [if_pos hj, if_pos hj]; exact ⟨_, rfl⟩
  · rw [if_neg hj, if_neg hj]; exact ⟨_, rfl⟩
theorem call_min2 (hc : X.calm = true) : CallR X (.builtin "min") (fun xs H Q => ∃ i j, xs = [.int i, .int j] ∧ Q (.int (if j < i then j else i)) H) := by
  intro pins s σ H xs us Q I r h
  obtain ⟨i, j, rfl, q⟩ := h
  obtain ⟨u, w', rfl, ⟨t, rfl⟩, ⟨t', rfl⟩⟩ := vals2 r
  refine min_two_ints (I.ok.hd hc) fun h' tk k => ⟨_, H, I.kept k, ?_, q⟩
  by_cases hj : j < i
  · rw [if_pos hj, if_pos hj]; exact ⟨_, rfl⟩
  · rw [if_neg hj, if_neg hj]; exact ⟨_, rfl⟩
theorem call_int1 : CallR X (.type "int") (fun xs H Q => (∃ i, xs = [.int i] ∧ Q (.int i) H) ∨ ∃ k, xs = [.bl k] ∧ Q (.int (if k then 1 else 0)) H) := by
  intro pins s σ H xs us Q I r h
  rcases h with ⟨i, rfl, q⟩ | ⟨k, rfl, q⟩
  · obtain ⟨u, rfl, t, rfl⟩ := vals1 r
    exact call_int_int ⟨.int i, H, I, ⟨_, rfl⟩, q⟩
  · obtain ⟨u, rfl, r1⟩ := vals1 r
    cases r1
    exact call_int_bool ⟨.int (if k then 1 else 0), H, I.tok _, ⟨_, rfl⟩, q⟩
theorem call_bool1 : CallR X (.type "bool") (fun xs H Q => (∃ i, xs = [.int i] ∧ Q (.bl (i != 0)) H) ∨ ∃ k, xs = [.bl k] ∧ Q (.bl k) H) := by
  intro pins s σ H xs us Q I r h
  rcases h with ⟨i, rfl, q⟩ | ⟨k, rfl, q⟩
  · obtain ⟨u, rfl, t, rfl⟩ := vals1 r
    exact call_bool_int ⟨.bl (i != 0), H, I, rfl, q⟩
  · obtain ⟨u, rfl, r1⟩ := vals1 r
    cases r1
    exact call_bool_bool ⟨.bl k, H, I, rfl, q⟩
theorem call_str_int : CallR X (.type "str") (fun xs H Q => ∃ i, xs = [.int i] ∧ i.natAbs.log2 < 1920 ∧ Q (.str (toString i)) H) := by
  intro pins s σ H xs us Q I r h
  obtain ⟨i, rfl, hz, q⟩ := h
  obtain ⟨u, rfl, t, rfl⟩ := vals1 r
  exact PySem.P.str_of_int hz ⟨.str _, H, I.tok _, ⟨_, rfl⟩, q⟩
theorem call_ord : CallR X (.builtin "ord") (fun xs H Q => ∃ x, xs = [.str x] ∧ x.length = 1 ∧ Q (.int (x.cps.getD 0 0 : Nat)) H) := by
  intro pins s σ H xs us Q I r h
  obtain ⟨x, rfl, hz, q⟩ := h
  obtain ⟨u, rfl, t, rfl⟩ := vals1 r
  exact ord_of_one hz ⟨.int _, H, I.tok _, ⟨_, rfl⟩, q⟩
theorem call_chr : CallR X (.builtin "chr") (fun xs H Q => ∃ i, xs = [.int i] ∧ 0 ≤ i ∧ i ≤ 1114111 ∧ Q (.str ⟨#[i.toNat]⟩) H) := by
  intro pins s σ H xs us Q I r h
  obtain ⟨i, rfl, h0, h1, q⟩ := h
  obtain ⟨u, rfl, t, rfl⟩ := vals1 r
  exact chr_of_range h0 h1 ⟨.str _, H, I.tok _, ⟨_, rfl⟩, q⟩
/-- len of a str, a bytes, a list, a tuple -/
def LenV (K : PySem.W.Frag) (x : V) (H : Hp) (n : Nat) : Prop :=
  match x with
  | .str y => y.length ≤ sizeLine ∧ n = y.length
  | .byt y => y.size ≤ sizeLine ∧ n = y.size
  | .ref p => (∃ xs, SqL K H p xs ∧ n = xs.length) ∨ ∃ xs, SqT K H p xs ∧ n = xs.length
  | _ => False
theorem call_len : CallR X (.builtin "len") (fun xs H Q => ∃ x n, xs = [x] ∧ LenV X.K x H n ∧ Q (.int n) H) := by
  intro pins s σ H xs us Q I r h
  obtain ⟨x, n, rfl, e, q⟩ := h
  obtain ⟨u, rfl, rx⟩ := vals1 r
  have hl := line63
  have hs : sizeLine = 16777216 := sizeLine_eq
  cases x with
  | str y =>
    obtain ⟨t, rfl⟩ := rx
    obtain ⟨hy, e'⟩ : y.length ≤ sizeLine ∧ n = y.length := e
    subst e'
    exact len_str (by omega) ⟨.int _, H, I.tok _, ⟨_, rfl⟩, q⟩
  | byt y =>
    obtain ⟨t, rfl⟩ := rx
    obtain ⟨hy, e'⟩ : y.size ≤ sizeLine ∧ n = y.size := e
    subst e'
    exact PySem.W.len_bytes (by omega) ⟨.int _, H, I.tok _, ⟨_, rfl⟩, q⟩
  | ref p =>
    cases rx
    have e' : (∃ xs, SqL X.K H p xs ∧ n = xs.length) ∨ ∃ xs, SqT X.K H p xs ∧ n = xs.length := e
    rcases e' with ⟨xs, hx, e'⟩ | ⟨xs, hx, e'⟩
    · subst e'
      obtain ⟨its, r', pl, hz⟩ := I.list hx
      have hlen := r'.length
      exact Calls.call_len_list pl.isList (by simp only [List.size_toArray]; omega) ⟨.int xs.length, H, I.tok _, ⟨_, by simp only [List.size_toArray]; rw [hlen]⟩, q⟩
    · subst e'
      obtain ⟨its, r', pl, hz⟩ := I.tuple hx
      have hlen := r'.length
      exact len_tuple pl (by simp only [List.size_toArray]; omega) ⟨.int xs.length, H, I.tok _, ⟨_, by simp only [List.size_toArray]; rw [hlen]⟩, q⟩
  | _ => exact (show False from e).elim
/-- divmod: a new tuple -/
theorem call_divmod : CallR X (.builtin "divmod") (fun xs H Q => ∃ i j, xs = [.int i, .int j] ∧ CDiv i j ∧ ∀ p, H p = none → Q (.ref p) (upd H p (.tup [.int (i / j), .int (i % j)]))) := by
  intro pins s σ H xs us Q I r h
  obtain ⟨i, j, rfl, ⟨h1, h2⟩, q⟩ := h
  obtain ⟨u, w', rfl, ⟨t, rfl⟩, ⟨t', rfl⟩⟩ := vals2 r
  refine divmod_int (by omega) ?_ (.inl (PyProof.noPylong_small (by omega)))
  rw [Int.fdiv_eq_ediv_of_nonneg i (by omega), Int.fmod_eq_emod_of_nonneg i (by omega)]
  have hn : H s.heap.objs.size = none := I.hok.fresh (Nat.le_refl _)
  refine ⟨.ref s.heap.objs.size, _, ?_, rfl, q _ hn⟩
  refine I.laid (fun b o e => Heap.get?_push_of_some _ e) (Nat.le_refl _) ⟨by simp only [List.length_cons, List.length_nil]; rw [sizeLine_eq]; decide, [.int (i / j) s.toks, .int (i % j) (s.toks + 1)], .cons ⟨_, rfl⟩ (.cons ⟨_, rfl⟩ .nil), ?_⟩
  exact ⟨_, Heap.get?_push_size s.heap rfl, rfl, 0, rfl⟩
end
end L2

namespace L2
open PySem PySem.Spec PyProof.Rows

/-! ### an instance, its attributes a map -/
structure ObjM (h : Heap) (x dx C : Addr) (mA : Str → Option Value) : Prop where
  obj : h.get? x = some (PySem.W.instObj C dx)
  ns : h.Ns1 dx mA
  ne : dx ≠ x

theorem lookIn_ns {h : Heap} {dx : Addr} {mA : Str → Option Value} (n : h.Ns1 dx mA) : ∃ od, h.get? dx = some od ∧ ∀ name, PySem.W.lookIn name od = some (mA name) := by
  obtain ⟨o, es, ep, ho, hd, hk, _, hm⟩ := n
  refine ⟨o, ho, fun name => ?_⟩
  have e := hm name
  unfold nsFind findBy at e
  rw [← Array.find?_toList] at e
  unfold PySem.W.lookIn
  rw [hd]
  dsimp only
  split
  · rename_i y q
    rw [q] at e
    exact congrArg some e
  · rename_i q
    rw [q] at e
    have a : es.toList.any (·.refKey) = false := by
      rw [List.any_eq_false]
      intro y hy
      obtain ⟨z, t, hkey⟩ := hk y (Array.mem_toList_iff.mp hy)
      simp [DictEntry.refKey, hkey]
    have a' : ¬ es.toList.any (·.refKey) = true := by rw [a]; exact Bool.false_ne_true
    rw [if_neg a']
    exact congrArg some e

theorem ObjM.look {h : Heap} {x dx C : Addr} {mA : Str → Option Value} (I : ObjM h x dx C mA) : ∃ od, PySem.W.InstAt h x (PySem.W.instObj C dx) C (some od) ∧ ∀ name, PySem.W.lookIn name od = some (mA name) :=
  let ⟨od, ho, hl⟩ := lookIn_ns I.ns
  ⟨od, ⟨I.obj, rfl, rfl, ho⟩, hl⟩

section
variable {prog : Program} {w : World} {A : Around} {E : Value → Shared → Prop} {s : Shared} {K : PySem.W.Frag} {x dx C f : Addr} {mA : Str → Option Value} {name : Str} {v : Value}

theorem get_map {expr : Bool} {Q : Value → Shared → Prop} (X : K.In s.heap) (I : ObjM s.heap x dx C mA) (hg : PySem.W.plainGet K C name = true) (hh : PySem.W.hasDictIn K C = true)
    (ha : PySem.W.findIn K (.ref C) name = some none) (hv : mA name = some v) (hv' : PySem.W.handedIn v = true) (h : Q v { s with toks := s.toks + 1 }) :
    wpAny (model prog w) A (getAttr (.ref x) name expr) Q E s := by
  obtain ⟨od, J, hl⟩ := I.look
  exact PySem.W.get_value X J (PySem.W.plainGet_of hg).1 (PySem.W.findObj_own hh ha rfl (by rw [hl, hv])) hv' h

theorem get_const {expr : Bool} {a : Value} {Q : Value → Shared → Prop} (X : K.In s.heap) (I : ObjM s.heap x dx C mA) (hg : PySem.W.plainGet K C name = true) (hh : PySem.W.hasDictIn K C = true)
    (ha : PySem.W.findIn K (.ref C) name = some (some a)) (hn : PySem.W.specialIn K a "__get__" = some none) (hc : PySem.W.copiedNames.contains name = false) (hv : mA name = none) (hv' : PySem.W.handedIn a = true)
    (h : Q a { s with toks := s.toks + 1 }) : wpAny (model prog w) A (getAttr (.ref x) name expr) Q E s := by
  obtain ⟨od, J, hl⟩ := I.look
  exact PySem.W.get_value X J (PySem.W.plainGet_of hg).1 (PySem.W.findObj_cls hh ha hn hv' hc (by rw [hl, hv])) hv' h

theorem get_meth {pl : Sem Bool} {Q : Value × List Value → Shared → Prop} (X : K.In s.heap) (I : ObjM s.heap x dx C mA) (hg : PySem.W.plainGet K C name = true)
    (hf : PySem.W.findIn K (.ref C) name = some (some (.ref f))) (ht : PySem.W.isFn K (.ref f) = true) (hv : mA name = none) (h : Q (.ref f, [.ref x]) s) :
    wpAny (model prog w) A (getMethod (.ref x) name pl) Q E s := by
  obtain ⟨od, J, hl⟩ := I.look
  exact PySem.W.method_fn X J (PySem.W.plainGet_of hg).1 (PySem.W.plainGet_of hg).2 hf (beq_iff_eq.mp ht) (by show (PySem.W.lookIn name od).map (·.isSome) = some false; rw [hl, hv]; rfl) h

theorem set_map {ns : List Str} {Q : Unit → Shared → Prop} (X : K.In s.heap) (I : ObjM s.heap x dx C mA)
    (hs : PySem.W.findIn K (.ref C) "__setattr__" = some (some (.builtin "object.__setattr__"))) (hp : PySem.W.plainOver K C = true) (ht : PySem.W.takerIn K C name = some none) (hh : PySem.W.hasDictIn K C = true)
    (hw : PySem.Within mA ns) (hsz : ns.length ≤ sizeLine)
    (h : ∀ h', ObjM h' x dx C (fun y => if y = name then some v else mA y) → Heap.SameBut dx s.heap h' → Q () { s with heap := h', toks := s.toks + 2 }) :
    wpAny (model prog w) A (setAttr (.ref x) name v) Q E s := by
  obtain ⟨od, J, hl⟩ := I.look
  refine PySem.W.set_plain X J hs (PySem.W.osa_open (s := { s with toks := s.toks + 1 }) (r := none) X J hp ht fun b => ?_)
  obtain ⟨cd, hc, hd'⟩ := PySem.W.any_some hh
  have hx : s.heap.get? x = some ⟨.ref C, some dx, .plain, #[]⟩ := I.obj
  refine wpAny_bind (wpAny_pure (wpAny_bind (wpAny_bind (wpAny_loadPart hx (wpAny_bind (PySem.W.Looks.here (s := { s with toks := s.toks + 1 }) (PySem.W.looks_clsIn X hc) ?_))))))
  rw [hd']
  refine wpAny_pure (a := some dx) (wpAny_bind (wpAny_pure (wpAny_bind ?_)))
  refine wpAny_nsSet1 (s := { s with toks := s.toks + 1 }) I.ns fun h' hn2 hs2 => ?_
  obtain ⟨oD, esD, epD, hoD, hdD, hcD⟩ := hn2.count (PySem.Within.cons name v hw)
  refine wpAny_bind (wpAny_lookBehind hoD (by rw [hdD]; exact pastItsLine_dict (Nat.le_trans hcD (by rw [List.length_cons]; omega))) ?_)
  exact wpAny_pure (h _ ⟨(hs2.2 _ (Ne.symm I.ne)).trans I.obj, hn2, I.ne⟩ hs2)

/-- C(..): the dict at the heap's end, the instance behind it; then its __init__ -/
theorem make_map {R : Result → Shared → Prop} {vs : List Value} {kw : List (Str × Value)} (X : K.In s.heap) (hm : PySem.W.makesIn K C = true)
    (hi : PySem.W.findIn K (.ref C) "__init__" = some (some (.ref f))) (hf : PySem.W.typeIn K (.ref f) = some (.type "function"))
    (h : codeAny (model prog w) (A.under (.builtin "type.__call__" ⟨.ref C :: vs, kw⟩)) (.call (.ref f) ⟨.ref (s.heap.objs.size + 1) :: vs, kw⟩) (PySem.W.InitBack (s.heap.objs.size + 1) R)
      { s with heap := (s.heap.push PySem.W.emptyDict).push (PySem.W.instObj C s.heap.objs.size) }) :
    codeAny (model prog w) A (.call (.ref C) ⟨vs, kw⟩) R s := by
  obtain ⟨hh, g, d, t, os⟩ := s
  exact PySem.W.make_core (PySem.W.makes_of X hm) (PySem.W.looks_findIn X hi) (fun self => PySem.W.bind_fn X self hf) (.inl rfl) h
/-- C() where there is no __init__ but object's -/
theorem make_map0 {R : Result → Shared → Prop} (X : K.In s.heap) (hm : PySem.W.makesIn K C = true)
    (hi : PySem.W.findIn K (.ref C) "__init__" = some (some (.builtin "object.__init__")))
    (hb : ∀ self, PySem.W.Looks (model prog w) s.heap (bindSpecial (.builtin "object.__init__") self) (.builtin "object.__init__", [self]))
    (h : codeAny (model prog w) (A.under (.builtin "type.__call__" ⟨[.ref C], []⟩)) (.call (.builtin "object.__init__") ⟨[.ref (s.heap.objs.size + 1)], []⟩) (PySem.W.InitBack (s.heap.objs.size + 1) R)
      { s with heap := (s.heap.push PySem.W.emptyDict).push (PySem.W.instObj C s.heap.objs.size) }) :
    codeAny (model prog w) A (.call (.ref C) ⟨[], []⟩) R s := by
  obtain ⟨hh, g, d, t, os⟩ := s
  exact PySem.W.make_core (PySem.W.makes_of X hm) (PySem.W.looks_findIn X hi) hb (.inr ⟨rfl, rfl⟩) h
end

/-! ### the attributes as a list of pairs -/
def putF (f : Str) (v : V) : List (Str × V) → List (Str × V)
  | [] => [(f, v)]
  | (g, x) :: r => if g = f then (g, v) :: r else (g, x) :: putF f v r
theorem lookup_putF (f g : Str) (v : V) : ∀ fs : List (Str × V), (putF f v fs).lookup g = if g = f then some v else fs.lookup g
  | [] => by
    show List.lookup g [(f, v)] = _
    by_cases h : g = f
    · have hb : (g == f) = true := beq_iff_eq.mpr h
      simp only [List.lookup, hb, if_pos h]
    · have hb : (g == f) = false := beq_eq_false_iff_ne.mpr h
      simp only [List.lookup, hb, if_neg h]
  | (k, x) :: r => by
    have ih := lookup_putF f g v r
    rw [show putF f v ((k, x) :: r) = (if k = f then (k, v) :: r else (k, x) :: putF f v r) from rfl]
    by_cases hk : k = f
    · rw [if_pos hk]
      by_cases h : g = k
      · have hb : (g == k) = true := beq_iff_eq.mpr h
        simp only [List.lookup, hb, if_pos (h.trans hk)]
      · have hb : (g == k) = false := beq_eq_false_iff_ne.mpr h
        simp only [List.lookup, hb, if_neg (fun e : g = f => h (e.trans hk.symm))]
    · rw [if_neg hk]
      by_cases h : g = k
      · have hb : (g == k) = true := beq_iff_eq.mpr h
        simp only [List.lookup, hb, if_neg (fun e : g = f => hk (h.symm.trans e))]
      · have hb : (g == k) = false := beq_eq_false_iff_ne.mpr h
        simp only [List.lookup, hb]
        exact ih
theorem keys_putF (f : Str) (v : V) : ∀ fs : List (Str × V), f ∈ (putF f v fs).map (·.1) ∧ ∀ g, g ∈ fs.map (·.1) → g ∈ (putF f v fs).map (·.1)
  | [] => ⟨by simp [putF], fun g h => by simp at h⟩
  | (k, x) :: r => by
    obtain ⟨i1, i2⟩ := keys_putF f v r
    rw [show putF f v ((k, x) :: r) = (if k = f then (k, v) :: r else (k, x) :: putF f v r) from rfl]
    by_cases hk : k = f
    · rw [if_pos hk]
      subst hk
      exact ⟨by simp, fun g h => by simpa using h⟩
    · rw [if_neg hk]
      refine ⟨?_, fun g h => ?_⟩
      · rw [List.map_cons]
        exact List.mem_cons_of_mem _ i1
      · rw [List.map_cons] at h ⊢
        rcases List.mem_cons.mp h with e | e
        · exact List.mem_cons.mpr (.inl e)
        · exact List.mem_cons_of_mem _ (i2 g e)
theorem length_putF (f : Str) (v : V) : ∀ fs : List (Str × V), (putF f v fs).length ≤ fs.length + 1
  | [] => by simp [putF]
  | (k, x) :: r => by
    have ih := length_putF f v r
    rw [show putF f v ((k, x) :: r) = (if k = f then (k, v) :: r else (k, x) :: putF f v r) from rfl]
    by_cases hk : k = f
    · rw [if_pos hk, List.length_cons, List.length_cons]; omega
    · rw [if_neg hk, List.length_cons, List.length_cons]; omega

theorem RelO.some_of {v : V} {o : Option Value} (r : RelO (some v) o) : ∃ u, o = some u ∧ RelV v u := by
  cases o with
  | none => exact (show False from r).elim
  | some u => exact ⟨u, rfl, r⟩
theorem RelO.none_of {o : Option Value} (r : RelO none o) : o = none := by
  cases o with
  | none => rfl
  | some u => exact (show False from r).elim
theorem handed_of {v : V} {u : Value} (r : RelV v u) : PySem.W.handedIn u = true := by
  cases v with
  | non => cases (show u = Value.none from r); rfl
  | bl b => cases (show u = Value.bool b from r); rfl
  | int i => obtain ⟨t, e⟩ := (show ∃ t, u = Value.int i t from r); cases e; rfl
  | str x => obtain ⟨t, e⟩ := (show ∃ t, u = Value.str x t from r); cases e; rfl
  | byt b => obtain ⟨t, e⟩ := (show ∃ t, u = Value.bytes b t from r); cases e; rfl
  | flt b => obtain ⟨t, e⟩ := (show ∃ t, u = Value.float b t from r); cases e; rfl
  | ref a => cases (show u = Value.ref a from r); rfl
  | ty n => cases (show u = Value.type n from r); rfl

section
variable {P : Program} {w : World} {H H' : Hp} {h h' : Heap} {a C dx : Addr} {fs fs' : List (Str × V)}
theorem ins_get (hok : HOk P w H h) (e : H a = some (.ins C dx fs)) : ∃ mA, ObjM h a dx C mA ∧ (∀ f, RelO (fs.lookup f) (mA f)) ∧ PySem.Within mA (fs.map (·.1)) ∧ fs.length ≤ 1000 ∧ H dx = some (.own a) := by
  obtain ⟨d, z, ne, ob, mA, n, r, q⟩ := (show ObjOk P w H h a (.ins C dx fs) from hok a _ e)
  exact ⟨mA, ⟨ob, n, ne⟩, r, q, z, d⟩
end

/-! ### what of the text a class must have -/
structure Cls (K : PySem.W.Frag) (C : Addr) : Prop where
  pg : PySem.W.plainGet K C Str.empty = true
  hd : PySem.W.hasDictIn K C = true
  po : PySem.W.plainOver K C = true
  sa : PySem.W.findIn K (.ref C) "__setattr__" = some (some (.builtin "object.__setattr__"))
theorem Cls.get {K : PySem.W.Frag} {C : Addr} (c : Cls K C) (f : Str) : PySem.W.plainGet K C f = true := c.pg
/-- no class of it has the name -/
def NoAttr (K : PySem.W.Frag) (C : Addr) (f : Str) : Prop := PySem.W.findIn K (.ref C) f = some none
theorem NoAttr.taker {K : PySem.W.Frag} {C : Addr} {f : Str} (n : NoAttr K C f) : PySem.W.takerIn K C f = some none := by
  unfold PySem.W.takerIn
  rw [show PySem.W.findIn K (.ref C) f = some none from n]
  rfl
/-- a constant of the class -/
structure Con (K : PySem.W.Frag) (C : Addr) (f : Str) (v : V) (u : Value) : Prop where
  at_ : PySem.W.findIn K (.ref C) f = some (some u)
  rel : RelV v u
  get : PySem.W.specialIn K u "__get__" = some none
  cp : PySem.W.copiedNames.contains f = false
/-- a method: a plain def of the class or of one above it -/
structure Meth (K : PySem.W.Frag) (C : Addr) (m : Str) (f : Addr) : Prop where
  at_ : PySem.W.findIn K (.ref C) m = some (some (.ref f))
  fn : PySem.W.isFn K (.ref f) = true
  kp : PySem.W.keepIn K (.ref f) = true

section
variable {X : Cx} {pins : List (Addr × Obj)} {σ : St} {H : Hp} {s : Shared} {a C dx : Addr} {fs : List (Str × V)} {f : Str} {v : V} {A : Around} {E : Value → Shared → Prop}

theorem getattr_ok {b : Bool} {Q : Value → Shared → Prop} (I : Inv X pins σ H s) (e : H a = some (.ins C dx fs)) (c : Cls X.K C) (n : NoAttr X.K C f) (l : fs.lookup f = some v)
    (h : ∀ u s', Inv X pins σ H s' → RelV v u → Q u s') : wpAny (model X.prog X.w) A (getAttr (.ref a) f b) Q E s := by
  obtain ⟨mA, O, r, _, _, _⟩ := ins_get I.hok e
  obtain ⟨u, hu, ru⟩ := RelO.some_of (v := v) (o := mA f) (by rw [← l]; exact r f)
  exact get_map I.kIn O (c.get f) c.hd n hu (handed_of ru) (h u _ (I.tok _) ru)

theorem getcon_ok {b : Bool} {u : Value} {Q : Value → Shared → Prop} (I : Inv X pins σ H s) (e : H a = some (.ins C dx fs)) (c : Cls X.K C) (k : Con X.K C f v u) (l : fs.lookup f = none)
    (h : ∀ s', Inv X pins σ H s' → Q u s') : wpAny (model X.prog X.w) A (getAttr (.ref a) f b) Q E s := by
  obtain ⟨mA, O, r, _, _, _⟩ := ins_get I.hok e
  have hn : mA f = none := RelO.none_of (by rw [← l]; exact r f)
  exact get_const I.kIn O (c.get f) c.hd k.at_ k.get k.cp hn (handed_of k.rel) (h _ (I.tok _))

theorem getmeth_ok {m : Str} {g : Addr} {pl : Sem Bool} {Q : Value × List Value → Shared → Prop} (I : Inv X pins σ H s) (e : H a = some (.ins C dx fs)) (c : Cls X.K C) (k : Meth X.K C m g) (l : fs.lookup m = none)
    (h : Q (.ref g, [.ref a]) s) : wpAny (model X.prog X.w) A (getMethod (.ref a) m pl) Q E s := by
  obtain ⟨mA, O, r, _, _, _⟩ := ins_get I.hok e
  have hn : mA m = none := RelO.none_of (by rw [← l]; exact r m)
  exact get_meth I.kIn O (c.get m) k.at_ k.fn hn h

theorem setattr_ok {y : V} {u : Value} {Q : Unit → Shared → Prop} (I : Inv X pins σ H s) (e : H a = some (.ins C dx fs)) (c : Cls X.K C) (n : NoAttr X.K C f) (hl : fs.length < 1000) (ry : RelV y u)
    (h : ∀ s', Inv X pins σ (upd H a (.ins C dx (putF f y fs))) s' → Q () s') : wpAny (model X.prog X.w) A (setAttr (.ref a) f u) Q E s := by
  obtain ⟨mA, O, r, wi, _, ho⟩ := ins_get I.hok e
  have hz : (fs.map (·.1)).length ≤ sizeLine := by rw [List.length_map, sizeLine_eq]; omega
  refine set_map I.kIn O c.sa c.po n.taker c.hd wi hz fun h' O' sb => h _ ?_
  have hd : ∃ o, h'.get? dx = some o := let ⟨o, _, _, e', _⟩ := O'.ns; ⟨o, e'⟩
  refine I.write (x := a) (e := dx) (by rw [e]; exact True.intro) (.inr ho) (fun b q hb z => (sb.2 b hb).trans z) hd ?_
  refine ⟨by rw [upd_ne O.ne]; exact ho, ?_, O.ne, O'.obj, _, O'.ns, fun g => ?_, fun g hg => ?_⟩
  · have := length_putF f y fs; omega
  · show RelO ((putF f y fs).lookup g) (if g = f then some u else mA g)
    rw [lookup_putF]
    by_cases q : g = f
    · rw [if_pos q, if_pos q]; exact ry
    · rw [if_neg q, if_neg q]; exact r g
  · by_cases q : g = f
    · rw [q]; exact (keys_putF f y fs).1
    · refine (keys_putF f y fs).2 g (wi g fun z => hg ?_)
      show (if g = f then some u else mA g) = none
      rw [if_neg q]; exact z

/-- a new instance, tracked, without attributes -/
theorem Inv.made (I : Inv X pins σ H s) : Inv X pins σ (upd (upd H s.heap.objs.size (.own (s.heap.objs.size + 1))) (s.heap.objs.size + 1) (.ins C s.heap.objs.size []))
    { s with heap := (s.heap.push PySem.W.emptyDict).push (PySem.W.instObj C s.heap.objs.size) } := by
  have e1 : (s.heap.push PySem.W.emptyDict).get? s.heap.objs.size = some PySem.W.emptyDict := Heap.get?_push_size s.heap rfl
  have e2 : ((s.heap.push PySem.W.emptyDict).push (PySem.W.instObj C s.heap.objs.size)).get? (s.heap.objs.size + 1) = some (PySem.W.instObj C s.heap.objs.size) := by
    have := Heap.get?_push_size (s.heap.push PySem.W.emptyDict) (o := PySem.W.instObj C s.heap.objs.size) rfl
    rwa [Heap.size_push] at this
  have e3 : (s.heap.push PySem.W.emptyDict).Ns s.heap.objs.size (fun _ => none) := ⟨PySem.W.emptyDict, #[], _, e1, rfl, (fun e he => absurd he (by simp)), fun _ => rfl⟩
  have I1 := I.laid (a := s.heap.objs.size) (o := .own (s.heap.objs.size + 1)) (h' := s.heap.push PySem.W.emptyDict) (t' := s.toks) (fun b u q => Heap.get?_push_of_some _ q) (Nat.le_refl _) ⟨_, e1⟩
  refine I1.laid (a := s.heap.objs.size + 1) (o := .ins C s.heap.objs.size []) (t' := s.toks) (fun b u q => Heap.get?_push_of_some _ q) (Nat.le_of_eq (Heap.size_push _ _)) ?_
  have ne : s.heap.objs.size ≠ s.heap.objs.size + 1 := Nat.ne_of_lt (Nat.lt_succ_self _)
  refine ⟨by rw [upd_ne ne, upd_same], Nat.zero_le _, ne, e2, fun _ => none, (Heap.Ns1.of_empty e3).at fun o q => Heap.get?_push_of_some _ q, fun _ => True.intro, fun y hy => absurd rfl hy⟩

/-- e.f where nothing but the object is asked: through attributeBase (super) and the last hold -/
theorem attr_of {prog : Program} {w : World} {env : Env} {e : Expr} {f : Str} {pos : Pos} {s : Shared} {Q : Value → Shared → Prop} (hb : attributeBase e f env (eval e env) = eval e env)
    (h : wpAny (model prog w) A (eval e env) (fun o s₁ => wpAny (model prog w) A (getAttr o f true) Q E s₁) E s) : wpAny (model prog w) A (eval (.Attribute e f pos) env) Q E s :=
  Attribute_any_ h (by rw [arm_eval_Attribute, hb])
end

/-! ### readings and rules -/
/-- e.f, an attribute of the instance -/
def tFld (K : PySem.W.Frag) (ta : TE) (f : Str) : TE := fun σ H Q => ta σ H fun x H1 => ∃ a C dx fs v, x = .ref a ∧ H1 a = some (.ins C dx fs) ∧ Cls K C ∧ NoAttr K C f ∧ fs.lookup f = some v ∧ Q v H1
/-- e.f, a constant of the class -/
def tCon (K : PySem.W.Frag) (ta : TE) (f : Str) : TE := fun σ H Q => ta σ H fun x H1 => ∃ a C dx fs v u, x = .ref a ∧ H1 a = some (.ins C dx fs) ∧ Cls K C ∧ Con K C f v u ∧ fs.lookup f = none ∧ Q v H1
/-- e.f = value -/
def sFld (K : PySem.W.Frag) (ta tv : TE) (f : Str) : TS := fun D σ H => tv σ H fun y H1 => ta σ H1 fun x H2 => ∃ a C dx fs, x = .ref a ∧ H2 a = some (.ins C dx fs) ∧ Cls K C ∧ NoAttr K C f ∧ fs.length < 1000 ∧
  D.nx σ (upd H2 a (.ins C dx (putF f y fs)))
/-- an augmented operator on two values -/
def InOp (X : Cx) (op : Operator) (rd : V → V → Hp → VK → Prop) : Prop :=
  ∀ (pins : List (Addr × Obj)) (s : Shared) (σ : St) (H : Hp) (x y : V) (u v : Value) (Q : VK), Inv X pins σ H s → RelV x u → RelV y v → rd x y H Q → wpAny (model X.prog X.w) X.A (inplaceOp op u v) (EP X pins σ Q) X.xe s
/-- e.f op= value -/
def sFldAug (K : PySem.W.Frag) (ta tv : TE) (rd : V → V → Hp → VK → Prop) (f : Str) : TS := fun D σ H => ta σ H fun x H1 => ∃ a C dx fs v, x = .ref a ∧ H1 a = some (.ins C dx fs) ∧ Cls K C ∧ NoAttr K C f ∧ fs.lookup f = some v ∧
  tv σ H1 fun y H2 => rd v y H2 fun z H3 => ∃ dx' fs', H3 a = some (.ins C dx' fs') ∧ fs'.length < 1000 ∧ D.nx σ (upd H3 a (.ins C dx' (putF f z fs')))

section
variable {X : Cx} {o e value : Expr} {f : Str} {pos pos' tpos : Pos} {ta tv : TE}
theorem pe_fld (he : PE X e ta) (hb : attributeBase e f X.env (eval e X.env) = eval e X.env) : PE X (.Attribute e f pos) (tFld X.K ta f) := by
  intro pins s σ H Q I h
  refine attr_of hb (thn (he pins s σ H _ I h) fun u s1 ⟨x, H1, I1, rx, a, C, dx, fs, v, ex, ea, c, n, l, q⟩ => ?_)
  subst ex
  obtain rfl : u = Value.ref a := rx
  exact getattr_ok I1 ea c n l fun u' s2 I2 ru => ⟨v, H1, I2, ru, q⟩
theorem pe_con (he : PE X e ta) (hb : attributeBase e f X.env (eval e X.env) = eval e X.env) : PE X (.Attribute e f pos) (tCon X.K ta f) := by
  intro pins s σ H Q I h
  refine attr_of hb (thn (he pins s σ H _ I h) fun u s1 ⟨x, H1, I1, rx, a, C, dx, fs, v, u0, ex, ea, c, k, l, q⟩ => ?_)
  subst ex
  obtain rfl : u = Value.ref a := rx
  exact getcon_ok I1 ea c k l fun s2 I2 => ⟨v, H1, I2, k.rel, q⟩
theorem ps_fld (ha : PE X o ta) (hv : PE X value tv) (hs : swapsWith value (some (.Attribute o f pos')) pos.line X.env = pure false) : PS X (.Assign [.Attribute o f pos'] value pos) (sFld X.K ta tv f) := by
  intro pins s σ H D I h
  refine plainObj_wpAny_Assign_Attribute (thn (hv pins s σ H _ I h) fun u s1 ⟨y, H1, I1, ry, q⟩ => thn (ha pins s1 σ H1 _ I1 q) fun ov s2 ⟨x, H2, I2, rx, a, C, dx, fs, ex, ea, c, n, l, q2⟩ => ?_) hs
  subst ex
  obtain rfl : ov = Value.ref a := rx
  exact setattr_ok I2 ea c n l ry fun s3 I3 => ⟨σ, _, I3, q2⟩
theorem ps_fldaug {op : Operator} {rd : V → V → Hp → VK → Prop} (ha : PE X o ta) (hv : PE X value tv) (hop : InOp X op rd) : PS X (.AugAssign (.Attribute o f tpos) op value pos) (sFldAug X.K ta tv rd f) := by
  intro pins s σ H D I h
  refine wpAny_AugAssign_AttributeAny (thn (ha pins s σ H _ I h) fun ov s1 ⟨x, H1, I1, rx, a, C, dx, fs, v, ex, ea, c, n, l, q⟩ => ?_)
  subst ex
  obtain rfl : ov = Value.ref a := rx
  refine getattr_ok I1 ea c n l fun u s2 I2 ru => thn (hv pins s2 σ H1 _ I2 q) fun w3 s3 ⟨y, H2, I3, ry, q3⟩ => thn (hop pins s3 σ H2 v y u w3 _ I3 ru ry q3) fun w4 s4 ⟨z, H3, I4, rz, dx', fs', ea', l', q4⟩ => ?_
  exact setattr_ok I4 ea' c n l' rz fun s5 I5 => ⟨σ, _, I5, q4⟩
def rAdd : V → V → Hp → VK → Prop := fun x y H Q => ∃ i j, x = .int i ∧ y = .int j ∧ Q (.int (i + j)) H
def rSub : V → V → Hp → VK → Prop := fun x y H Q => ∃ i j, x = .int i ∧ y = .int j ∧ Q (.int (i - j)) H
theorem in_add : InOp X .Add rAdd := by
  rintro pins s σ H x y u v Q I rx ry ⟨i, j, rfl, rfl, q⟩
  obtain ⟨t, rfl⟩ := (show ∃ t, u = Value.int i t from rx)
  obtain ⟨t', rfl⟩ := (show ∃ t', v = Value.int j t' from ry)
  exact PyProof.Rows.iadd_int ⟨.int (i + j), H, I.tok _, ⟨_, rfl⟩, q⟩
theorem in_sub : InOp X .Sub rSub := by
  rintro pins s σ H x y u v Q I rx ry ⟨i, j, rfl, rfl, q⟩
  obtain ⟨t, rfl⟩ := (show ∃ t, u = Value.int i t from rx)
  obtain ⟨t', rfl⟩ := (show ∃ t', v = Value.int j t' from ry)
  exact PyProof.Rows.isub_int ⟨.int (i - j), H, I.tok _, ⟨_, rfl⟩, q⟩

/-- what is between an instance and its method: the tree of a method call -/
theorem methcall_of {pl : Sem Bool} {m : Str} {apos : Pos} {args : List Expr} {pins : List (Addr × Obj)} {s : Shared} {σ : St} {H : Hp} {Q : Value → Shared → Prop} {te : TE} (he : PE X e te) (I : Inv X pins σ H s)
    (h : te σ H fun x H1 => ∃ a C dx fs g, x = .ref a ∧ H1 a = some (.ins C dx fs) ∧ Cls X.K C ∧ Meth X.K C m g ∧ fs.lookup m = none ∧
      ∀ s1, Inv X pins σ H1 s1 → wpAny (model X.prog X.w) X.A (callWith pos (.ref g) [.ref a] (backTo pos (starEach args X.env)) (backToKw pos (keywordEach [] X.env))) Q X.xe s1)
    (ht : eval (.Call (.Attribute e m apos) args [] pos) X.env = (do
      let ov ← eval e X.env
      standAt apos.atName
      let (f, first) ← holding [ov] (getMethod ov m pl)
      callWith pos f first (backTo pos (starEach args X.env)) (backToKw pos (keywordEach [] X.env)))) :
    wpAny (model X.prog X.w) X.A (eval (.Call (.Attribute e m apos) args [] pos) X.env) Q X.xe s := by
  refine PySem.W.methodCall_KW (pl := pl) (thn (he pins s σ H _ I h) fun u s1 ⟨x, H1, I1, rx, a, C, dx, fs, g, ex, ea, c, k, l, q⟩ => ?_) ht
  subst ex
  obtain rfl : u = Value.ref a := rx
  exact getmeth_ok I1 ea c k l (q s1 I1)
end

/-! ### isinstance -/
section
variable {X : Cx} {pins : List (Addr × Obj)} {σ : St} {H : Hp} {s : Shared} {A : Around} {E : Value → Shared → Prop} {Q : Value → Shared → Prop} {c : Value} {b : Bool}
/-- the type of a value, as the fragment's deciders take it; for an instance its class -/
inductive TyOf (K : PySem.W.Frag) (H : Hp) : V → Value → Prop where
  | non : TyOf K H .non (.type "NoneType")
  | bl (x : Bool) : TyOf K H (.bl x) (.type "bool")
  | int (i : Int) : TyOf K H (.int i) (.type "int")
  | str (x : Str) : TyOf K H (.str x) (.type "str")
  | flt (x : UInt64) : TyOf K H (.flt x) (.type "float")
  | lst {a : Addr} {xs : List V} (e : H a = some (.lst xs)) : TyOf K H (.ref a) (.type "list")
  | frz {a : Addr} {o : Obj} {xs : List V} (e : H a = some (.frz o (.lst xs))) : TyOf K H (.ref a) (.type "list")
  | tup {a : Addr} {xs : List V} (e : H a = some (.tup xs)) : TyOf K H (.ref a) (.type "tuple")
  | dK {a : Addr} {kvs : List (Key × V)} (e : H a = some (.dK kvs)) : TyOf K H (.ref a) (.type "dict")
  | dT {a : Addr} {kvs : List (List Key × V)} (e : H a = some (.dT kvs)) : TyOf K H (.ref a) (.type "dict")
  | ins {a C dx : Addr} {fs : List (Str × V)} (e : H a = some (.ins C dx fs)) (cl : Cls K C) (ha : PySem.W.findIn K (.ref C) "__class__" = some (some (.builtin "object.__class__")))
      (hn : PySem.W.specialIn K (.builtin "object.__class__") "__get__" = some (some (.builtin "getset_descriptor.__get__"))) (htk : PySem.W.takesIn K (.builtin "object.__class__") = some true)
      (hm : PySem.W.mroIn K C (.type "object") = some true) : TyOf K H (.ref a) (.ref C)
/-- isinstance(x, c) for one class c, a built-in or an own one: kitOne's answer -/
theorem isinst_ok {x : V} {u t : Value} (I : Inv X pins σ H s) (rx : RelV x u) (ty : TyOf X.K H x t) (e : PySem.W.kitOne X.K t c = some b) (h : ∀ tk, Q (.bool b) { s with toks := tk }) :
    wpAny (model X.prog X.w) A (call (.builtin "isinstance") [u, c]) Q E s := by
  cases ty with
  | non => cases (show u = Value.none from rx); exact PySem.W.kia_one PySem.W.kitx_none I.kIn True.intro e (fun z => nomatch z) h
  | bl y => cases (show u = Value.bool y from rx); exact PySem.W.kia_one PySem.W.kitx_bool I.kIn True.intro e (fun z => nomatch z) h
  | int i => obtain ⟨t, q⟩ := (show ∃ t, u = Value.int i t from rx); cases q; exact PySem.W.kia_one PySem.W.kitx_int I.kIn True.intro e (fun z => nomatch z) h
  | str y => obtain ⟨t, q⟩ := (show ∃ t, u = Value.str y t from rx); cases q; exact PySem.W.kia_one PySem.W.kitx_str I.kIn True.intro e (fun z => nomatch z) h
  | flt y => obtain ⟨t, q⟩ := (show ∃ t, u = Value.float y t from rx); cases q; exact PySem.W.kia_one PySem.W.kitx_float I.kIn True.intro e (fun z => nomatch z) h
  | @lst a xs ea =>
    cases (show u = Value.ref a from rx)
    obtain ⟨_, _, n, _, h1⟩ := (show ObjOk X.prog X.w H s.heap a (.lst xs) from I.hok a _ ea)
    exact PySem.W.kia_one PySem.W.kitx_list I.kIn ⟨_, h1, rfl⟩ e (fun z => nomatch z) h
  | @frz a ob xs ea =>
    cases (show u = Value.ref a from rx)
    obtain ⟨_, _, _, n, _, h1⟩ := (show ObjOk X.prog X.w H s.heap a (.frz ob (.lst xs)) from I.hok a _ ea)
    exact PySem.W.kia_one PySem.W.kitx_list I.kIn ⟨_, h1, rfl⟩ e (fun z => nomatch z) h
  | @tup a xs ea =>
    cases (show u = Value.ref a from rx)
    obtain ⟨_, _, _, p⟩ := (show ObjOk X.prog X.w H s.heap a (.tup xs) from I.hok a _ ea)
    obtain ⟨o, h1, h2, _⟩ := p
    exact PySem.W.kia_one PySem.W.kitx_tuple I.kIn ⟨o, h1, h2⟩ e (fun z => nomatch z) h
  | @dK a kvs ea =>
    cases (show u = Value.ref a from rx)
    obtain ⟨_, _, vs, _, p⟩ := (show ObjOk X.prog X.w H s.heap a (.dK kvs) from I.hok a _ ea)
    obtain ⟨o, es, ep, h1, h2, _⟩ := p
    exact PySem.W.kia_one PySem.W.kitx_dict I.kIn ⟨o, h1, h2.1⟩ e (fun z => nomatch z) h
  | @dT a kvs ea =>
    cases (show u = Value.ref a from rx)
    obtain ⟨_, _, xs, _, o, es, ep, h1, h2, _⟩ := (show ObjOk X.prog X.w H s.heap a (.dT kvs) from I.hok a _ ea)
    exact PySem.W.kia_one PySem.W.kitx_dict I.kIn ⟨o, h1, h2.1⟩ e (fun z => nomatch z) h
  | @ins a C dx fs ea cl ha hn htk hm =>
    cases (show u = Value.ref a from rx)
    obtain ⟨mA, O, _⟩ := ins_get I.hok ea
    obtain ⟨od, J, _⟩ := O.look
    exact PySem.W.kia_one (PySem.W.kitx_own (cl.get _) cl.hd ha hn htk hm) I.kIn J e (fun z => nomatch z) h
end
end L2

namespace L2
open PySem PySem.Spec PyProof.Rows

/-! ### room -/
structure Room (k : Nat) (A : Around) : Prop where
  hd : A.handled = none
  dp : A.depth + 3 * k + 5 < recursionLimit
  un : A.units + 16 * k + 200 < cLine
theorem Room.mono {j k : Nat} {A : Around} (r : Room k A) (h : j ≤ k) : Room j A := ⟨r.hd, by have := r.dp; omega, by have := r.un; omega⟩
theorem Room.deeper {k : Nat} {A : Around} (r : Room (k + 1) A) (env : Env) : Room k (A.deeper env) :=
  ⟨r.hd, by have := r.dp; show A.depth + 1 + 3 * k + 5 < _; omega, by have := r.un; show A.units + 3 + 16 * k + 200 < _; omega⟩
theorem Room.in1 {k : Nat} {A : Around} (r : Room (k + 1) A) : Room k A.in1 :=
  ⟨r.hd, by have := r.dp; show A.depth + 3 * k + 5 < _; omega, by have := r.un; show A.units + 1 + 16 * k + 200 < _; omega⟩
theorem make_depth {A : Around} {C : Addr} {us : List Value} {kw : List (Str × Value)} : (A.under (.builtin "type.__call__" ⟨.ref C :: us, kw⟩)).depth = A.depth + 1 := by
  first | rfl | simp [Around.under, Code.weight, Code.isCreation, Code.isGuard, Code.isCaller, Code.frames, Code.isFrame, guardIds]
theorem make_units {A : Around} {C : Addr} {us : List Value} {kw : List (Str × Value)} : (A.under (.builtin "type.__call__" ⟨.ref C :: us, kw⟩)).units = A.units + 1 := by
  first | rfl | simp [Around.under, Code.cUnits, Code.frames, Code.isFrame]
theorem Room.make {k : Nat} {A : Around} (r : Room (k + 1) A) (C : Addr) (us : List Value) (kw : List (Str × Value)) : Room k (A.under (.builtin "type.__call__" ⟨.ref C :: us, kw⟩)) :=
  ⟨r.hd, by have := r.dp; rw [make_depth]; omega, by have := r.un; rw [make_units]; omega⟩
theorem Room.depth {k : Nat} {A : Around} (r : Room k A) : A.depth < recursionLimit := by have := r.dp; omega
theorem Room.units {k : Nat} {A : Around} (r : Room k A) : A.units + 64 < cLine := by have := r.un; omega
theorem Room.units0 {k : Nat} {A : Around} (r : Room k A) : A.units < cLine := by have := r.un; omega

/-! ### argument lists and displays -/
def tNil : TA := fun _ H Q => Q [] H
def tCons (ta : TE) (tr : TA) : TA := fun σ H Q => ta σ H fun x H1 => tr σ H1 fun xs H2 => Q (x :: xs) H2
section
variable {X : Cx} {e : Expr} {es : List Expr} {te : TE} {t : TA} {pos : Pos}
theorem pa_nil : PA X [] tNil := fun _ _ _ _ H Q I h => Calls.spliced_nil ⟨[], H, I, .nil, h⟩
theorem pa_cons (ha : PE X e te) (hr : PA X es t) (hs : starEach (e :: es) X.env = (false, eval e X.env) :: starEach es X.env := by rfl) : PA X (e :: es) (tCons te t) := by
  intro pos pins s σ H Q I h
  rw [hs]
  show wpAny _ _ (spliced ((false, eval e X.env) :: backTo pos (starEach es X.env))) _ _ s
  refine Calls.spliced_cons (thn (ha pins s σ H _ I h) fun u s1 ⟨x, H1, I1, r1, q1⟩ => ?_)
  exact thn (hr pos pins s1 σ H1 _ I1 q1) fun us s2 ⟨xs, H2, I2, r2, q2⟩ => ⟨x :: xs, H2, I2, .cons r1 r2, q2⟩

/-- a tuple, a list of written items -/
def tTup (t : TA) : TE := fun σ H Q => t σ H fun xs H1 => xs.length ≤ sizeLine ∧ ∀ p, H1 p = none → Q (.ref p) (upd H1 p (.tup xs))
def tLst (t : TA) : TE := fun σ H Q => t σ H fun xs H1 => xs.length ≤ sizeLine ∧ ∀ p, H1 p = none → Q (.ref p) (upd H1 p (.lst xs))
theorem pe_tup {x1} (h : PA X es t) : PE X (.Tuple es x1 pos) (tTup t) := by
  intro pins s σ H Q I hq
  refine wpAny_Tuple_spliced (thn (h pos pins s σ H _ I hq) fun us s1 ⟨xs, H1, I1, r, z, q⟩ => ⟨by rw [← r.length]; exact z, ?_⟩)
  have hf : H1 s1.heap.objs.size = none := I1.hok.fresh (Nat.le_refl _)
  refine ⟨.ref s1.heap.objs.size, upd H1 s1.heap.objs.size (.tup xs), I1.laid (t' := s1.toks) (fun b u e => Heap.get?_push_of_some _ e) (Nat.le_refl _) ?_, rfl, q _ hf⟩
  exact ⟨z, us, r, ⟨_, Heap.get?_push_size _ rfl, rfl, _, rfl⟩⟩
theorem pe_lst (h : PA X es t) : PE X (.List es pos) (tLst t) := by
  intro pins s σ H Q I hq
  refine wpAny_List_spliced (thn (h pos pins s σ H _ I hq) fun us s1 ⟨xs, H1, I1, r, z, q⟩ => ⟨by rw [← r.length]; exact z, ?_⟩)
  have hf : H1 s1.heap.objs.size = none := I1.hok.fresh (Nat.le_refl _)
  refine ⟨.ref s1.heap.objs.size, upd H1 s1.heap.objs.size (.lst xs), I1.laid (t' := s1.toks) (fun b u e => Heap.get?_push_of_some _ e) (Nat.le_refl _) ?_, rfl, q _ hf⟩
  exact ⟨z, us, 0, r, Heap.get?_push_size _ rfl⟩
end

/-! ### what a def promises -/
/-- a def's promise: the bound arguments in the parameters' order, the heap, the wanted end, the wanted exception -/
abbrev Sp := List V → Hp → VK → XK → Prop
/-- how an exception lies behind a call (file 08 gives it): the callers' frames, abstract heap and state ahead of the call, the wish, the exception, the state -/
abbrev CXT := List Env → Hp → Shared → XK → Value → Shared → Prop

/-- the state at a call -/
structure Env0 (P : Program) (w : World) (K : PySem.W.Frag) (mg : Str → Option Value) (base : Heap) (A : Around) (outer : List Env) (s : Shared) (H : Hp) : Prop where
  frames : A.frames = some outer
  mod : Mod K mg base
  bs : ∀ b o, base.get? b = some o → s.heap.get? b = some o ∧ H b = none
  bsz : base.objs.size ≤ s.heap.objs.size
  funs : s.heap.FunFrames base outer
  frf : ∀ b ∈ frs outer, H b = none
  hok : HOk P w H s.heap
  bare : AllBare s.gens
/-- a call's end -/
def CE (outer : List Env) (P : Program) (w : World) (H : Hp) (s : Shared) (Q : VK) (u : Value) (s' : Shared) : Prop :=
  ∃ v H', s'.os = s.os ∧ AllBare s'.gens ∧ Un (frs outer) [] H H' s.heap s'.heap ∧ HOk P w H' s'.heap ∧ RelV v u ∧ Q v H'
def CR (CX : CXT) (outer : List Env) (P : Program) (w : World) (H : Hp) (s : Shared) (Q : VK) (E : XK) (r : Result) (s' : Shared) : Prop :=
  match r with
  | .ok (.ret u) => CE outer P w H s Q u s'
  | .ok _ => False
  | .error e => CX outer H s E e s'
structure FnOk (P : Program) (w : World) (K : PySem.W.Frag) (mg : Str → Option Value) (base : Heap) (CX : CXT) (k : Nat) (f : Addr) (fd : FuncData) (ps : List Str) (sp : Sp) : Prop where
  len : ∀ vs H Q E, sp vs H Q E → vs.length = ps.length
  run : ∀ (A : Around) (outer : List Env) (s : Shared) (H : Hp) (args : Args) (us : List Value) (vs : List V) (Q : VK) (E : XK), Room k A → Env0 P w K mg base A outer s H → BindsTo s fd args (ps.zip us) → Vals vs us → sp vs H Q E →
    codeAny (model P w) A (.call (.ref f) args) (CR CX outer P w H s Q E) s
theorem FnOk.mono {P : Program} {w : World} {K : PySem.W.Frag} {mg : Str → Option Value} {base : Heap} {CX : CXT} {j k : Nat} {f : Addr} {fd : FuncData} {ps : List Str} {sp : Sp} (F : FnOk P w K mg base CX j f fd ps sp) (h : j ≤ k) :
    FnOk P w K mg base CX k f fd ps sp := ⟨F.len, fun A outer s H args us vs Q E hr => F.run A outer s H args us vs Q E (hr.mono h)⟩
/-- a weaker promise -/
theorem FnOk.imp {P : Program} {w : World} {K : PySem.W.Frag} {mg : Str → Option Value} {base : Heap} {CX : CXT} {k : Nat} {f : Addr} {fd : FuncData} {ps : List Str} {sp sp' : Sp} (F : FnOk P w K mg base CX k f fd ps sp)
    (h : ∀ vs H Q E, sp' vs H Q E → sp vs H Q E) : FnOk P w K mg base CX k f fd ps sp' :=
  ⟨fun vs H Q E q => F.len vs H Q E (h _ _ _ _ q), fun A outer s H args us vs Q E hr he hb hv hs => F.run A outer s H args us vs Q E hr he hb hv (h _ _ _ _ hs)⟩

theorem Env0.make {P : Program} {w : World} {K : PySem.W.Frag} {mg : Str → Option Value} {base : Heap} {A : Around} {outer : List Env} {s : Shared} {H : Hp} (e : Env0 P w K mg base A outer s H) (C : Addr) (us : List Value) (kw : List (Str × Value)) :
    Env0 P w K mg base (A.under (.builtin "type.__call__" ⟨.ref C :: us, kw⟩)) outer s H := ⟨by first | exact e.frames | (simpa [Around.under, Code.envs, Code.isFrame, pushEnvs] using e.frames), e.mod, e.bs, e.bsz, e.funs, e.frf, e.hok, e.bare⟩
theorem Env0.in1 {P : Program} {w : World} {K : PySem.W.Frag} {mg : Str → Option Value} {base : Heap} {A : Around} {outer : List Env} {s : Shared} {H : Hp} (e : Env0 P w K mg base A outer s H) :
    Env0 P w K mg base A.in1 outer s H := ⟨e.frames, e.mod, e.bs, e.bsz, e.funs, e.frf, e.hok, e.bare⟩

section
variable {X : Cx} {pins : List (Addr × Obj)} {σ : St} {H : Hp} {s s' : Shared}
/-- from a body: what a callee wants -/
theorem Inv.env0 (I : Inv X pins σ H s) : Env0 X.prog X.w X.K X.mg X.base X.A X.stack s H :=
  ⟨I.ok.frames, I.ok.mod, I.bs, Nat.le_trans I.ok.bsz I.sz, I.stack, I.stkFree, I.hok, I.bare⟩
/-- behind a call -/
theorem Inv.after {Q : VK} {u : Value} (I : Inv X pins σ H s) (h : CE X.stack X.prog X.w H s Q u s') : EP X pins σ Q u s' := by
  obtain ⟨v, H', os, bare, un, hok, r, q⟩ := h
  obtain ⟨hh, g, d, t, os'⟩ := s'
  obtain rfl : os' = s.os := os
  exact ⟨v, H', I.call (h' := hh) (g' := g) (d' := d) (t' := t) (ch := []) un hok bare (fun b z => absurd z (by simp)), r, q⟩
end

/-! ### calls -/
/-- f(..): the written arguments, then the defaults dvs; E: what is wanted of an exception -/
def tCall (sp : Sp) (dvs : List V) (E : XK) (t : TA) : TE := fun σ H Q => t σ H fun vs H1 => sp (vs ++ dvs) H1 Q E
/-- o.m(..) of an instance of the class at C -/
def tMeth (C : Addr) (m : Str) (sp : Sp) (dvs : List V) (E : XK) (ta : TE) (t : TA) : TE := fun σ H Q => ta σ H fun x H1 => ∃ a dx fs, x = .ref a ∧ H1 a = some (.ins C dx fs) ∧ fs.lookup m = none ∧
  t σ H1 fun vs H2 => sp (x :: (vs ++ dvs)) H2 Q E
/-- C(..): a new instance and its dict, then __init__ -/
def tMake (C : Addr) (sp : Sp) (dvs : List V) (E : XK) (t : TA) : TE := fun σ H Q => t σ H fun vs H1 => ∀ x dx, H1 x = none → H1 dx = none → dx ≠ x →
  sp (.ref x :: (vs ++ dvs)) (upd (upd H1 dx (.own x)) x (.ins C dx [])) (fun v H2 => v = .non ∧ Q (.ref x) H2) E

/-- how the parameters are bound: us the positional arguments, kw the keywords' values by name, ds the defaults that fill up -/
def Binds (K : PySem.W.Frag) (fd : FuncData) (ps : List Str) (ds : List Value) : Prop :=
  ∀ (s : Shared) (us : List Value), K.In s.heap → (us ++ ds).length = ps.length → BindsTo s fd ⟨us, []⟩ (ps.zip (us ++ ds))
/-- every parameter is given -/
theorem Binds.all {K : PySem.W.Frag} {fd : FuncData} {ps : List Str} (h : ∀ us : List Value, us.length = ps.length → bindArgs fd ⟨us, []⟩ = pure (ps.zip us)) : Binds K fd ps [] := fun s us _ hl => by
  rw [List.append_nil] at hl ⊢
  exact .of_eq (h us hl)

/-- an exception of a callee reaches what this body wants of exceptions -/
def Passes (CX : CXT) (X : Cx) (E : XK) : Prop := ∀ (pins : List (Addr × Obj)) (σ : St) (H : Hp) (s : Shared) (e : Value) (s' : Shared), Inv X pins σ H s → CX X.stack H s E e s' → X.xe e s'

section
variable {X : Cx} {CX : CXT} {k : Nat} {f C : Addr} {fd : FuncData} {ps : List Str} {sp : Sp} {dvs : List V} {ds : List Value} {E : XK} {x m : Str} {p pos apos : Pos} {e o : Expr} {es : List Expr} {ta : TE} {t : TA}

/-- the callee runs -/
theorem run_fn {pins : List (Addr × Obj)} {σ : St} {H : Hp} {s : Shared} {Q : VK} {us : List Value} {vs : List V} (F : FnOk X.prog X.w X.K X.mg X.base CX k f fd ps sp) (hr : Room k X.A) (hb : Binds X.K fd ps ds) (hd : Vals dvs ds) (hx : Passes CX X E)
    (I : Inv X pins σ H s) (r : Vals vs us) (h : sp (vs ++ dvs) H Q E) : wpAny (model X.prog X.w) X.A (call (.ref f) us) (EP X pins σ Q) X.xe s := by
  have r2 : Vals (vs ++ dvs) (us ++ ds) := r.append hd
  have hl : (us ++ ds).length = ps.length := by rw [← r2.length]; exact F.len _ _ _ _ h
  refine wpAny_call (codeAny_mono (F.run X.A X.stack s H ⟨us, []⟩ (us ++ ds) (vs ++ dvs) Q E hr I.env0 (hb s us I.kIn hl) r2 h) fun r s' hq => ?_)
  cases r with
  | error e => exact hx pins σ H s e s' I hq
  | ok fl =>
    cases fl with
    | ret u => exact I.after hq
    | next => exact False.elim hq
    | brk => exact False.elim hq
    | cont => exact False.elim hq

theorem pe_call (F : FnOk X.prog X.w X.K X.mg X.base CX k f fd ps sp) (hr : Room k X.A) (hg : Gl X x) (hm : X.mg x = some (.ref f)) (hk : PySem.W.keepIn X.K (.ref f) = true) (hb : Binds X.K fd ps ds) (hd : Vals dvs ds) (hx : Passes CX X E)
    (ha : PA X (e :: es) t) (hdb : (x == ("__debug__" : Str)) = false := by decide) (he : starEach (e :: es) X.env = (false, eval e X.env) :: starEach es X.env := by rfl) (hpl : (backTo pos (starEach es X.env)).any (·.1) = false := by rfl) :
    PE X (.Call (.Name x p) (e :: es) [] pos) (tCall sp dvs E t) := by
  intro pins s σ H Q I h
  refine wpAny_Call_Name_kw (ld_glob I hg hm ?_ hdb)
  refine PySem.W.callWith_K (h₀ := X.base) I.ok.mod.kin hk (thn (ha pos pins s σ H _ I h) fun us s1 ⟨vs, H1, I1, r, q⟩ => ⟨I1.kIn, ?_⟩) he hpl
  exact run_fn F hr hb hd hx I1 r q
theorem pe_call0 (F : FnOk X.prog X.w X.K X.mg X.base CX k f fd ps sp) (hr : Room k X.A) (hg : Gl X x) (hm : X.mg x = some (.ref f)) (hk : PySem.W.keepIn X.K (.ref f) = true) (hb : Binds X.K fd ps ds) (hd : Vals dvs ds) (hx : Passes CX X E)
    (hdb : (x == ("__debug__" : Str)) = false := by decide) : PE X (.Call (.Name x p) [] [] pos) (tCall sp dvs E tNil) := by
  intro pins s σ H Q I h
  refine wpAny_Call_Name_kw (ld_glob I hg hm ?_ hdb)
  exact PySem.W.callWith_K0 I.kIn hk (run_fn (us := []) F hr hb hd hx I .nil h)

/-- o.m(e, ..) -/
theorem pe_meth {pl : Sem Bool} (he : PE X o ta) (c : Cls X.K C) (hm : Meth X.K C m f) (F : FnOk X.prog X.w X.K X.mg X.base CX k f fd ps sp) (hr : Room k X.A) (hb : Binds X.K fd ps ds) (hd : Vals dvs ds) (hx : Passes CX X E) (ha : PA X (e :: es) t)
    (hst : starEach (e :: es) X.env = (false, eval e X.env) :: starEach es X.env := by rfl) (hpl : (backTo pos (starEach es X.env)).any (·.1) = false := by rfl)
    (ht : eval (.Call (.Attribute o m apos) (e :: es) [] pos) X.env = (do
      let ov ← eval o X.env
      standAt apos.atName
      let (f, first) ← holding [ov] (getMethod ov m pl)
      callWith pos f first (backTo pos (starEach (e :: es) X.env)) (backToKw pos (keywordEach [] X.env))) := by rfl) :
    PE X (.Call (.Attribute o m apos) (e :: es) [] pos) (tMeth C m sp dvs E ta t) := by
  intro pins s σ H Q I h
  refine PySem.W.methodCall_KW (pl := pl) (thn (he pins s σ H _ I h) fun u s1 ⟨x, H1, I1, rx, a, dx, fs, ex, ea, l, q⟩ => ?_) ht
  subst ex
  obtain rfl : u = Value.ref a := rx
  refine getmeth_ok I1 ea c hm l ?_
  refine PySem.W.callWith_K (first := [.ref a]) (h₀ := X.base) I.ok.mod.kin hm.kp (thn (ha pos pins s1 σ H1 _ I1 q) fun us s2 ⟨vs, H2, I2, r, q2⟩ => ⟨I2.kIn, ?_⟩) hst hpl
  exact run_fn (us := .ref a :: us) (vs := .ref a :: vs) F hr hb hd hx I2 (.cons rfl r) q2
/-- o.m() -/
theorem pe_meth0 {pl : Sem Bool} (he : PE X o ta) (c : Cls X.K C) (hm : Meth X.K C m f) (F : FnOk X.prog X.w X.K X.mg X.base CX k f fd ps sp) (hr : Room k X.A) (hb : Binds X.K fd ps ds) (hd : Vals dvs ds) (hx : Passes CX X E)
    (ht : eval (.Call (.Attribute o m apos) [] [] pos) X.env = (do
      let ov ← eval o X.env
      standAt apos.atName
      let (f, first) ← holding [ov] (getMethod ov m pl)
      callWith pos f first (backTo pos (starEach [] X.env)) (backToKw pos (keywordEach [] X.env))) := by rfl) :
    PE X (.Call (.Attribute o m apos) [] [] pos) (tMeth C m sp dvs E ta tNil) := by
  intro pins s σ H Q I h
  refine PySem.W.methodCall_KW (pl := pl) (thn (he pins s σ H _ I h) fun u s1 ⟨x, H1, I1, rx, a, dx, fs, ex, ea, l, q⟩ => ?_) ht
  subst ex
  obtain rfl : u = Value.ref a := rx
  refine getmeth_ok I1 ea c hm l ?_
  exact PySem.W.callWith_K0 (first := [.ref a]) I1.kIn hm.kp (run_fn (us := [.ref a]) (vs := [.ref a]) F hr hb hd hx I1 (.cons rfl .nil) q)

/-- what a class must have to be made -/
structure Mk (K : PySem.W.Frag) (C f : Addr) : Prop where
  makes : PySem.W.makesIn K C = true
  init : PySem.W.findIn K (.ref C) "__init__" = some (some (.ref f))
  fn : PySem.W.isFn K (.ref f) = true
  kp : PySem.W.keepIn K (.ref C) = true

theorem run_make {pins : List (Addr × Obj)} {σ : St} {H : Hp} {s : Shared} {Q : VK} {us : List Value} {vs : List V} (M : Mk X.K C f) (F : FnOk X.prog X.w X.K X.mg X.base CX k f fd ps sp) (hr : Room (k + 1) X.A) (hb : Binds X.K fd ps ds) (hd : Vals dvs ds)
    (hx : Passes CX X E) (I : Inv X pins σ H s) (r : Vals vs us)
    (h : ∀ x dx, H x = none → H dx = none → dx ≠ x → sp (.ref x :: (vs ++ dvs)) (upd (upd H dx (.own x)) x (.ins C dx [])) (fun v H2 => v = .non ∧ Q (.ref x) H2) E) :
    wpAny (model X.prog X.w) X.A (call (.ref C) us) (EP X pins σ Q) X.xe s := by
  have hq := h (s.heap.objs.size + 1) s.heap.objs.size (I.hok.fresh (Nat.le_succ _)) (I.hok.fresh (Nat.le_refl _)) (Nat.ne_of_lt (Nat.lt_succ_self _))
  have I2 := Inv.made (C := C) I
  have r2 : Vals (V.ref (s.heap.objs.size + 1) :: (vs ++ dvs)) (Value.ref (s.heap.objs.size + 1) :: (us ++ ds)) := .cons rfl (r.append hd)
  have hl : (Value.ref (s.heap.objs.size + 1) :: us ++ ds).length = ps.length := by
    have e := r2.length
    rw [F.len _ _ _ _ hq] at e
    exact e.symm
  refine wpAny_call (make_map (f := f) I.kIn M.makes M.init (beq_iff_eq.mp M.fn) (codeAny_mono (F.run _ X.stack _ _ ⟨Value.ref (s.heap.objs.size + 1) :: us, []⟩ (Value.ref (s.heap.objs.size + 1) :: (us ++ ds)) _ _ E (hr.make C us [])
    (I2.env0.make C us []) (hb _ (Value.ref (s.heap.objs.size + 1) :: us) I2.kIn hl) r2 hq) fun r s' hq' => ?_))
  cases r with
  | error e => exact hx pins σ _ _ e s' I2 hq'
  | ok fl =>
    cases fl with
    | ret u =>
      obtain ⟨v, H', I3, rv, ev, q3⟩ := I2.after hq'
      subst ev
      exact ⟨rv, ⟨V.ref (s.heap.objs.size + 1), H', I3, rfl, q3⟩⟩
    | next => exact False.elim hq'
    | brk => exact False.elim hq'
    | cont => exact False.elim hq'
theorem pe_make (M : Mk X.K C f) (F : FnOk X.prog X.w X.K X.mg X.base CX k f fd ps sp) (hr : Room (k + 1) X.A) (hg : Gl X x) (hm : X.mg x = some (.ref C)) (hb : Binds X.K fd ps ds) (hd : Vals dvs ds) (hx : Passes CX X E)
    (ha : PA X (e :: es) t) (hdb : (x == ("__debug__" : Str)) = false := by decide) (he : starEach (e :: es) X.env = (false, eval e X.env) :: starEach es X.env := by rfl) (hpl : (backTo pos (starEach es X.env)).any (·.1) = false := by rfl) :
    PE X (.Call (.Name x p) (e :: es) [] pos) (tMake C sp dvs E t) := by
  intro pins s σ H Q I h
  refine wpAny_Call_Name_kw (ld_glob I hg hm ?_ hdb)
  refine PySem.W.callWith_K (h₀ := X.base) I.ok.mod.kin M.kp (thn (ha pos pins s σ H _ I h) fun us s1 ⟨vs, H1, I1, r, q⟩ => ⟨I1.kIn, ?_⟩) he hpl
  exact run_make M F hr hb hd hx I1 r q
theorem pe_make0 (M : Mk X.K C f) (F : FnOk X.prog X.w X.K X.mg X.base CX k f fd ps sp) (hr : Room (k + 1) X.A) (hg : Gl X x) (hm : X.mg x = some (.ref C)) (hb : Binds X.K fd ps ds) (hd : Vals dvs ds) (hx : Passes CX X E)
    (hdb : (x == ("__debug__" : Str)) = false := by decide) : PE X (.Call (.Name x p) [] [] pos) (tMake C sp dvs E tNil) := by
  intro pins s σ H Q I h
  refine wpAny_Call_Name_kw (ld_glob I hg hm ?_ hdb)
  exact PySem.W.callWith_K0 I.kIn M.kp (run_make (us := []) M F hr hb hd hx I .nil h)
end

/-! ### keywords -/
/-- the values of the keywords, from the left -/
def PK (X : Cx) (kws : List Keyword) (t : TA) : Prop :=
  ∀ (pos : Pos) (pins : List (Addr × Obj)) (s : Shared) (σ : St) (H : Hp) (Q : List V → Hp → Prop), Inv X pins σ H s → t σ H Q → wpAny (model X.prog X.w) X.A (evalAll ((backToKw pos (keywordEach kws X.env)).map (·.2))) (AP X pins σ Q) X.xe s
section
variable {X : Cx} {CX : CXT} {k : Nat} {f C : Addr} {fd : FuncData} {ps ks : List Str} {sp : Sp} {E : XK} {x m : Str} {p pos apos kpos : Pos} {e o : Expr} {es : List Expr} {kws : List Keyword} {te ta : TE} {t tk : TA} {nm : Option Str}
theorem pk_nil : PK X [] tNil := fun _ _ _ _ H Q I h => wpAny_evalAll_nil ⟨[], H, I, .nil, h⟩
theorem pk_cons (ha : PE X e te) (hr : PK X kws t) : PK X (⟨nm, e, kpos⟩ :: kws) (tCons te t) := by
  intro pos pins s σ H Q I h
  show wpAny _ _ (evalAll ((do let v ← eval e X.env; standAt pos; pure v) :: (backToKw pos (keywordEach kws X.env)).map (·.2))) _ _ s
  refine wpAny_evalAll_cons (wpAny_bind (thn (ha pins s σ H _ I h) fun u s1 ⟨x, H1, I1, r1, q1⟩ => wpAny_bind (wpAny_standAt (wpAny_pure ?_))))
  exact thn (hr pos pins s1 σ H1 _ I1 q1) fun us s2 ⟨xs, H2, I2, r2, q2⟩ => ⟨x :: xs, H2, I2, .cons r1 r2, q2⟩

/-- how a call with keywords binds: g puts the positional values us and the keywords' values ws (names ks) in the parameters' order, defaults among them -/
structure KBinds (K : PySem.W.Frag) (fd : FuncData) (ps ks : List Str) (g : List Value → List Value → List Value) (gV : List V → List V → List V) : Prop where
  to : ∀ (s : Shared) (us ws : List Value), K.In s.heap → (g us ws).length = ps.length → BindsTo s fd ⟨us, ks.zip ws⟩ (ps.zip (g us ws))
  rel : ∀ {vs : List V} {us : List Value} {zs : List V} {ws : List Value}, Vals vs us → Vals zs ws → Vals (gV vs zs) (g us ws)
def tCallK (sp : Sp) (gV : List V → List V → List V) (E : XK) (t tk : TA) : TE := fun σ H Q => t σ H fun vs H1 => tk σ H1 fun zs H2 => sp (gV vs zs) H2 Q E
variable {g : List Value → List Value → List Value} {gV : List V → List V → List V}
theorem run_fnk {pins : List (Addr × Obj)} {σ : St} {H : Hp} {s : Shared} {Q : VK} {us ws : List Value} {vs zs : List V} (F : FnOk X.prog X.w X.K X.mg X.base CX k f fd ps sp) (hr : Room k X.A) (hb : KBinds X.K fd ps ks g gV) (hx : Passes CX X E)
    (I : Inv X pins σ H s) (r : Vals vs us) (rz : Vals zs ws) (h : sp (gV vs zs) H Q E) : wpAny (model X.prog X.w) X.A (call (.ref f) us (ks.zip ws)) (EP X pins σ Q) X.xe s := by
  have r2 := hb.rel r rz
  have hl : (g us ws).length = ps.length := by rw [← r2.length]; exact F.len _ _ _ _ h
  refine wpAny_call (codeAny_mono (F.run X.A X.stack s H ⟨us, ks.zip ws⟩ (g us ws) (gV vs zs) Q E hr I.env0 (hb.to s us ws I.kIn hl) r2 h) fun r s' hq => ?_)
  cases r with
  | error e => exact hx pins σ H s e s' I hq
  | ok fl =>
    cases fl with
    | ret u => exact I.after hq
    | next => exact False.elim hq
    | brk => exact False.elim hq
    | cont => exact False.elim hq
/-- f(e, .., k = v, ..) -/
theorem pe_callK (F : FnOk X.prog X.w X.K X.mg X.base CX k f fd ps sp) (hr : Room k X.A) (hg : Gl X x) (hm : X.mg x = some (.ref f)) (hk : PySem.W.keepIn X.K (.ref f) = true) (hb : KBinds X.K fd ps ks g gV) (hx : Passes CX X E)
    (ha : PA X (e :: es) t) (hkw : PK X kws tk) (hall : (backToKw pos (keywordEach kws X.env)).all (·.1.isSome) = true := by rfl) (hks : (backToKw pos (keywordEach kws X.env)).filterMap (·.1) = ks := by rfl)
    (hdb : (x == ("__debug__" : Str)) = false := by decide) (he : starEach (e :: es) X.env = (false, eval e X.env) :: starEach es X.env := by rfl)
    (hpl : ((backTo pos (starEach (e :: es) X.env)).any (·.1) || (backToKw pos (keywordEach kws X.env)).any (·.1.isNone)) = false := by rfl) :
    PE X (.Call (.Name x p) (e :: es) kws pos) (tCallK sp gV E t tk) := by
  intro pins s σ H Q I h
  refine wpAny_Call_Name_kw (ld_glob I hg hm ?_ hdb)
  refine PySem.W.callWith_KW (h₀ := X.base) I.ok.mod.kin hk hall (thn (ha pos pins s σ H _ I h) fun us s1 ⟨vs, H1, I1, r, q⟩ => ?_) hpl he
  refine thn (hkw pos pins s1 σ H1 _ I1 q) fun ws s2 ⟨zs, H2, I2, rz, q2⟩ => ⟨I2.kIn, ?_⟩
  rw [hks]
  exact run_fnk F hr hb hx I2 r rz q2
end

/-! ### a def's body keeps its promise -/
/-- names: the parameters first -/
structure FnScope (N P : List Str) (sc : Scope) : Prop where
  kind : sc.kind = .function
  co : sc.isCoroutine = false
  gen : sc.isGenerator = false
  nd : N.Nodup
  pre : N.take P.length = P
  par : ∀ x ∈ P, sc.names.lookup x = some .local ∨ sc.names.lookup x = some .cell
  nofree : ∀ y ∈ sc.names, y.2 ≠ .free

theorem bindL_out {kindOf : Str → Option NameKind} {x : Str} : ∀ {binds : List (Str × Value)} {m : Str → Option Value}, (∀ v, (x, v) ∉ binds) → bindL kindOf binds m x = m x
  | [], _, _ => rfl
  | (n, v) :: r, m, h => by
    unfold bindL
    rw [bindL_out fun w hw => h w (List.mem_cons_of_mem _ hw)]
    split
    · have : x ≠ n := by rintro rfl; exact h v List.mem_cons_self
      simp [this]
    · rfl
theorem bindC_out {kindOf : Str → Option NameKind} {x : Str} : ∀ {binds : List (Str × Value)} {m : Str → Option Value}, (∀ v, (x, v) ∉ binds) → bindC kindOf binds m x = m x
  | [], _, _ => rfl
  | (n, v) :: r, m, h => by
    unfold bindC
    rw [bindC_out fun w hw => h w (List.mem_cons_of_mem _ hw)]
    split
    · rfl
    · have : x ≠ n := by rintro rfl; exact h v List.mem_cons_self
      simp [this]
theorem bindL_get {kindOf : Str → Option NameKind} {x : Str} {v : Value} : ∀ {P : List Str} {vs : List Value} {i : Nat} {m : Str → Option Value}, P.Nodup → P[i]? = some x → vs[i]? = some v → kindOf x = some .local →
    bindL kindOf (P.zip vs) m x = some v
  | [], _, _, _, _, h, _, _ => by simp at h
  | _ :: _, [], _, _, _, _, h, _ => by simp at h
  | p :: P, w :: vs, 0, m, nd, h1, h2, hk => by
    simp at h1 h2; subst h1; subst h2
    show bindL kindOf ((p, w) :: P.zip vs) m p = _
    unfold bindL
    rw [bindL_out fun v hv => (List.nodup_cons.mp nd).1 (List.of_mem_zip hv).1, if_pos hk]
    simp
  | p :: P, w :: vs, i + 1, m, nd, h1, h2, hk => by
    show bindL kindOf ((p, w) :: P.zip vs) m x = _
    unfold bindL
    exact bindL_get (i := i) (List.nodup_cons.mp nd).2 (by simpa using h1) (by simpa using h2) hk
theorem bindC_get {kindOf : Str → Option NameKind} {x : Str} {v : Value} : ∀ {P : List Str} {vs : List Value} {i : Nat} {m : Str → Option Value}, P.Nodup → P[i]? = some x → vs[i]? = some v → kindOf x ≠ some .local →
    bindC kindOf (P.zip vs) m x = some v
  | [], _, _, _, _, h, _, _ => by simp at h
  | _ :: _, [], _, _, _, _, h, _ => by simp at h
  | p :: P, w :: vs, 0, m, nd, h1, h2, hk => by
    simp at h1 h2; subst h1; subst h2
    show bindC kindOf ((p, w) :: P.zip vs) m p = _
    unfold bindC
    rw [bindC_out fun v hv => (List.nodup_cons.mp nd).1 (List.of_mem_zip hv).1, if_neg hk]
    simp
  | p :: P, w :: vs, i + 1, m, nd, h1, h2, hk => by
    show bindC kindOf ((p, w) :: P.zip vs) m x = _
    unfold bindC
    exact bindC_get (i := i) (List.nodup_cons.mp nd).2 (by simpa using h1) (by simpa using h2) hk

/-- the names' values at the entry -/
def start (N : List Str) (vs : List V) : St := vs.map some ++ List.replicate (N.length - vs.length) none

/-- the context of a def's body, at its entry; an exception leaves the frame, then lies as CX says -/
def cxOf (CX : CXT) (P : Program) (w : World) (K : PySem.W.Frag) (mg : Str → Option Value) (base : Heap) (N : List Str) (qual : Str) (scope : Scope) (f : Addr) (cd : Value) (A : Around) (outer : List Env) (s : Shared) (H : Hp) (E : XK) : Cx where
  prog := P
  w := w
  K := K
  mg := mg
  base := base
  A := A.deeper (envOfC qual scope s.heap.objs.size f cd)
  N := N
  s₀ := s
  H₀ := H
  env := envOfC qual scope s.heap.objs.size f cd
  outer := outer
  stack := envOfC qual scope s.heap.objs.size f cd :: outer
  ex := []
  calm := true
  fn := fun _ => true
  pn := []
  xe := fun e s' => wpAny (model P w) (A.deeper (envOfC qual scope s.heap.objs.size f cd)) (leaving (envOfC qual scope s.heap.objs.size f cd) e) (fun _ s'' => CX outer H s E e s'') (fun e' s'' => CX outer H s E e' s'') s'

theorem cell_has {sc : Scope} {n : Nat} {x : Str} (h : sc.names.lookup x = some .cell) : ∃ c, (cellsFrom n sc.names []).lookup x = some c := by
  have q := PySem.W.cellsFrom_some sc.names n [] (.inl h)
  exact Option.isSome_iff_exists.mp q

theorem inv_start {CX : CXT} {P : Program} {w : World} {K : PySem.W.Frag} {mg : Str → Option Value} {base : Heap} {N ps : List Str} {qual : Str} {scope : Scope} {f : Addr} {cd : Value} {A : Around} {outer : List Env} {s s1 : Shared} {H : Hp} {E : XK} {us : List Value} {vs : List V}
    (S : FnScope N ps scope) (hd : A.handled = none) (e0 : Env0 P w K mg base A outer s H) (hl : vs.length = ps.length) (r : Vals vs us)
    (x : InCallC s s.heap.objs.size (bindL (envOfC qual scope s.heap.objs.size f cd).kindOf (ps.zip us) fun _ => none) (cellsFrom (s.heap.objs.size + 1) scope.names []) (bindC (envOfC qual scope s.heap.objs.size f cd).kindOf (ps.zip us) fun _ => none) s1) :
    Inv (cxOf CX P w K mg base N qual scope f cd A outer s H E) [] (start N vs) H s1 := by
  have hpl : ps.length ≤ N.length := by have := congrArg List.length S.pre; rw [List.length_take] at this; omega
  obtain ⟨h1, tk, rfl, hk⟩ := x.done
  have noA : ∀ b : Addr, b ∉ (cxOf CX P w K mg base N qual scope f cd A outer s H E).ex := fun b z => absurd (show b ∈ ([] : List Addr) from z) (by simp)
  refine ⟨⟨e0.mod, S.kind, rfl, rfl, Nat.le_refl _, fun y z c h1 h2 => ?_, fun y hy => ?_, fun y c _ h => ?_, fun _ => hd, Around.frames_deeper e0.frames, .inr ⟨rfl, rfl⟩, fun b z => absurd z (noA b), e0.bs, e0.bsz, fun b _ _ => noA b, fun b z => absurd z (noA b), e0.funs, e0.frf⟩,
    rfl, e0.bare, Un.kept hk, ⟨_, x.toInCall.ns, fun i y v h1 h2 h3 => ?_⟩, fun y c h => ⟨_, x.cell y c h⟩, e0.hok.fresh (Nat.le_refl _), fun y c h => ?_, fun p hp => absurd (show p ∈ ([] : List (Addr × Obj)) from hp) (by simp), e0.hok.kept hk, ?_⟩
  · exact name_of_addr x.apart (PySem.mem_of_lookup h1) (PySem.mem_of_lookup h2)
  · have hy : scope.names.lookup y = some .cell ∨ scope.names.lookup y = some .free := hy
    rcases hy with hy | hy
    · exact cell_has hy
    · exact absurd rfl (S.nofree _ (PySem.mem_of_lookup hy))
  · exact Nat.le_of_lt (x.above y c (PySem.mem_of_lookup h))
  · have hi : i < vs.length := by
      unfold start at h2
      by_cases hi : i < vs.length
      · exact hi
      · rw [List.getElem?_append_right (by simpa using hi)] at h2
        rw [List.getElem?_replicate] at h2
        split at h2 <;> cases h2
    have ha : vs[i]? = some v := by
      unfold start at h2
      rw [List.getElem?_append_left (by simpa using hi), List.getElem?_map] at h2
      cases e : vs[i]? with
      | none => rw [e] at h2; cases h2
      | some a => rw [e] at h2; cases h2; rfl
    obtain ⟨u, hu, rv⟩ := r.get ha
    have hp : ps[i]? = some y := by
      rw [← S.pre, List.getElem?_take_of_lt (by omega)]; exact h1
    have ndP : ps.Nodup := by rw [← S.pre]; exact S.nd.sublist (List.take_sublist _ _)
    refine ⟨u, rv, ?_⟩
    rcases S.par y (List.mem_of_getElem? hp) with k | k
    · exact .inl ⟨k, bindL_get ndP hp hu k⟩
    · obtain ⟨c, e⟩ := cell_has (n := s.heap.objs.size + 1) k
      refine .inr ⟨.inl k, c, e, ?_⟩
      have q := x.cell y c e
      rw [bindC_get ndP hp hu (by show scope.names.lookup y ≠ _; rw [k]; decide)] at q
      exact q
  · exact e0.hok.fresh (Nat.le_of_lt (x.above y c (PySem.mem_of_lookup h)))
  · unfold start
    show _ = N.length
    rw [List.length_append, List.length_map, List.length_replicate]
    omega

/-- THE RULE: a def (or a method) of the text, by its body. The body's reading t is chosen for each entry; it is run at the parameters' values -/
theorem fn_of {CX : CXT} {P : Program} {w : World} {K : PySem.W.Frag} {mg : Str → Option Value} {base : Heap} {k : Nat} {f : Addr} {name qual : Str} {params : Arguments} {body : List Stmt} {scope : Scope} {dV kV doc pm cdv ct oc : Value} {an od : Option Addr}
    {osl : Array (Option Value)} {N ps : List Str} {sp : Sp} (lk : K.lookup f = some ⟨oc, od, .func (PySem.W.fnOf name qual params body scope dV kV doc pm an cdv ct), osl⟩) (hcd : PySem.W.codeIn K cdv qual = true) (S : FnScope N ps scope)
    (len : ∀ vs H Q E, sp vs H Q E → vs.length = ps.length)
    (hbody : ∀ (A : Around) (outer : List Env) (s : Shared) (H : Hp) (vs : List V) (Q : VK) (E : XK), Room k (A.deeper (envOfC qual scope s.heap.objs.size f cdv)) → sp vs H Q E →
      ∃ t, PSs (cxOf CX P w K mg base N qual scope f cdv A outer s H E) body t ∧ t { nx := fun _ H' => Q .non H', rt := Q } (start N vs) H) :
    FnOk P w K mg base CX (k + 1) f (PySem.W.fnOf name qual params body scope dV kV doc pm an cdv ct) ps sp := by
  refine ⟨len, fun A outer s H args us vs Q E hr e0 hb r hsp => ?_⟩
  have hl := len _ _ _ _ hsp
  have KX : K.In s.heap := e0.mod.kin.keeps fun b o e => (e0.bs b o e).1
  have lim : s.heap.NoLimit := e0.mod.nolimit.keeps fun b o e => (e0.bs b o e).1
  have hkind : ∀ y ∈ ps.zip us, scope.names.lookup y.1 = some .local ∨ (scope.names.lookup y.1 = some .cell ∧ ((cellsFrom (s.heap.objs.size + 1) scope.names []).lookup y.1).isSome = true) := fun ⟨n, v⟩ hy => by
    rcases S.par n (List.of_mem_zip hy).1 with q | q
    · exact .inl q
    · exact .inr ⟨q, PySem.W.cellsFrom_some _ _ _ (.inl q)⟩
  refine codeAny_call_function hr.depth (KX _ _ lk) rfl S.co S.gen rfl (PySem.W.codeRec_of KX hcd) (hb _ _ _ _ ?_)
  refine wpAny_newFunctionEnv_cells S.kind hkind fun env he s1 x => ?_
  subst he
  refine ⟨lim.keeps x.toInCall.keep, codeAny_func ?_⟩
  obtain ⟨t, ht, hq⟩ := hbody A outer s H vs Q E (hr.deeper _) hsp
  have I : Inv (cxOf CX P w K mg base N qual scope f cdv A outer s H E) [] (start N vs) H s1 := inv_start S hr.hd e0 hl r x
  refine wpAny_mono (ht [] s1 (start N vs) H _ I hq) (fun fl s' hs => ?_) fun e s' hs => hs
  have fin : ∀ {σ' : St} {H' : Hp} {v : V} {u : Value}, Inv (cxOf CX P w K mg base N qual scope f cdv A outer s H E) [] σ' H' s' → RelV v u → Q v H' → CE outer P w H s Q u s' :=
    fun {σ' H' v u} J rv q => ⟨v, H', J.os, J.bare, J.base, J.hok, rv, q⟩
  cases fl with
  | ret u =>
    obtain ⟨v, σ', H', J, rv, q⟩ := hs
    exact fin J rv q
  | next =>
    obtain ⟨σ', H', J, q⟩ := hs
    exact fin (v := V.non) (u := Value.none) J rfl q
  | brk =>
    obtain ⟨_, _, _, q⟩ := hs
    exact False.elim q
  | cont =>
    obtain ⟨_, _, _, q⟩ := hs
    exact False.elim q
end L2

namespace L2
open PySem PySem.Spec PyProof.Rows
section
variable {X : Cx} {x : Str} {p pos : Pos} {e : Expr} {es : List Expr} {t : TA} {id T : String} {r : List V → Hp → VK → Prop}

def tCB (r : List V → Hp → VK → Prop) (t : TA) : TE := fun σ H Q => t σ H fun vs H1 => r vs H1 Q
/-- f(e, ..), f a built-in function -/
theorem pe_callB (hc : CallR X (.builtin id) r) (hg : Gl X x) (hm : X.mg x = none) (hv : bootBuiltins x = some (.builtin id)) (ha : PA X (e :: es) t) (hn : x ≠ "__name__" := by decide) (hdb : (x == ("__debug__" : Str)) = false := by decide)
    (he : starEach (e :: es) X.env = (false, eval e X.env) :: starEach es X.env := by rfl) (hpl : (backTo pos (starEach es X.env)).any (·.1) = false := by rfl) : PE X (.Call (.Name x p) (e :: es) [] pos) (tCB r t) := by
  intro pins s σ H Q I h
  refine wpAny_Call_Name_kw (ld_blt I hg hm hv ?_ hn hdb)
  exact PyProof.Rows.callWith_builtin1 (thn (ha pos pins s σ H _ I h) fun us s1 ⟨vs, H1, I1, r1, q1⟩ => hc pins s1 σ H1 vs us Q I1 r1 q1) he hpl
/-- T(e, ..), T a built-in type -/
theorem pe_callTy (hc : CallR X (.type T) r) (hg : Gl X x) (hm : X.mg x = none) (hv : bootBuiltins x = some (.type T)) (ha : PA X (e :: es) t) (hn : x ≠ "__name__" := by decide) (hdb : (x == ("__debug__" : Str)) = false := by decide)
    (he : starEach (e :: es) X.env = (false, eval e X.env) :: starEach es X.env := by rfl) (hpl : (backTo pos (starEach es X.env)).any (·.1) = false := by rfl) : PE X (.Call (.Name x p) (e :: es) [] pos) (tCB r t) := by
  intro pins s σ H Q I h
  refine wpAny_Call_Name_kw (ld_blt I hg hm hv ?_ hn hdb)
  exact PyProof.Rows.callWith_type1 (thn (ha pos pins s σ H _ I h) fun us s1 ⟨vs, H1, I1, r1, q1⟩ => hc pins s1 σ H1 vs us Q I1 r1 q1) he hpl
/-- T() -/
theorem pe_callTy0 (hc : CallR X (.type T) r) (hg : Gl X x) (hm : X.mg x = none) (hv : bootBuiltins x = some (.type T)) (hn : x ≠ "__name__" := by decide) (hdb : (x == ("__debug__" : Str)) = false := by decide) :
    PE X (.Call (.Name x p) [] [] pos) (tCB r tNil) := by
  intro pins s σ H Q I h
  refine wpAny_Call_Name_kw (ld_blt I hg hm hv ?_ hn hdb)
  exact PyProof.Rows.callWith_type0 (hc pins s σ H [] [] Q I .nil h)
end
end L2

namespace HT
open PySem PyProof.Rows

/-- t < u of tuples of ints -/
def lexLt : List Int → List Int → Bool
  | [], [] => false
  | [], _ :: _ => true
  | _ :: _, [] => false
  | x :: xs, y :: ys => if x = y then lexLt xs ys else decide (x < y)
theorem lexLt_cons (x y : Int) (xs ys : List Int) : lexLt (x :: xs) (y :: ys) = if x = y then lexLt xs ys else decide (x < y) := rfl
theorem lexLt_nil_nil : lexLt [] [] = false := rfl
theorem lexLt_nil_cons (y : Int) (ys : List Int) : lexLt [] (y :: ys) = true := rfl
theorem lexLt_cons_nil (x : Int) (xs : List Int) : lexLt (x :: xs) [] = false := rfl

theorem eqAt_int (A : Around) (s : Shared) (a : Int) (t : Tok) (c : Int) (u : Tok) : ∃ e, SeqAt.EqAt A s (.int a t) (.int c u) e ∧ (e = true ↔ a = c) :=
  ⟨(a == c), SeqAt.EqAt.int_int a t c u, by simp⟩
theorem rcLt_int (A : Around) (s : Shared) (a : Int) (t : Tok) (c : Int) (u : Tok) (prog : Program) (w : World) (E : Value → Shared → Prop) (Q : Value → Shared → Prop) (h : Q (.bool (decide (a < c))) s) :
    wpAny (model prog w) A (richCompare .Lt (.int a t) (.int c u)) Q E s :=
  (PyProof.Rows.lt_int h : wpAny (model prog w) A (compareOp .Lt (.int a t) (.int c u)) Q E s)

section
open PySem.SeqAt
open PySem.AutoSeq1 (wpAny_loadPart')
open PySem.MeetsSeq PySem.MeetsSeq2 PySem.MeetsSeq3

theorem tuple_lt_ints (l b : Addr) (items items2 : Array Value) (n n2 : Nat) (dd dd2 : Option Addr) (sl sl2 : Array (Option Value)) (ns ms : List Int) (hi : IntsAre items.toList ns) (hj : IntsAre items2.toList ms) :
    Meets (Builtin.«tuple.__lt__» ⟨[.ref l, .ref b], []⟩)
      (fun _ R s => s.heap.get? l = some { cls := .type "tuple", dict := dd, data := .seq items n, slots := sl } ∧ s.heap.get? b = some { cls := .type "tuple", dict := dd2, data := .seq items2 n2, slots := sl2 } ∧
        R (.ok (.ret (.bool (lexLt ns ms)))) s) :=
  .of_wp fun prog w A R s h => by
    obtain ⟨hp, g, d, tk, os⟩ := s; obtain ⟨hl, hb, h⟩ := h
    have f2 := AutoSeq1.sub_tuple_tuple
    have z1 : items.size = ns.length := by rw [← hi.length]; simp
    have z2 : items2.size = ms.length := by rw [← hj.length]; simp
    wp_walk using wpAny_loadPart' hl, wpAny_loadPart' hb, wpAny_forIn_list _ (fun rest b s' => b.1 = none ∧ s' = ⟨hp, g, d, tk, os⟩ ∧ ∃ (vs ws : List Value) (ns' ms' : List Int), rest = vs.zip ws ∧
      IntsAre vs ns' ∧ IntsAre ws ms' ∧ ns'.length + items2.size = ms'.length + items.size ∧ R (.ok (.ret (.bool (lexLt ns' ms')))) ⟨hp, g, d, tk, os⟩) _
    case turn =>
      rintro ⟨y, x⟩ rest b s' ⟨hb', rfl, vs, ws, ns', ms', hz, hvi, hwi, hlen, hR⟩
      cases hvi with
      | nil => rw [List.zip_nil_left] at hz; cases hz
      | cons a t hvi' =>
        cases hwi with
        | nil => rw [List.zip_nil_right] at hz; cases hz
        | cons c u hwi' =>
          rw [List.zip_cons_cons] at hz
          injection hz with hyx hrest
          injection hyx with hy hx
          subst hy hx
          rw [lexLt_cons] at hR
          simp only [List.length_cons] at hlen
          obtain ⟨e, he, hiff⟩ := eqAt_int A.in1 ⟨hp, g, d, tk, os⟩ a t c u
          refine wpAny_bind (he prog w _ _ ?_)
          cases e with
          | true =>
            rw [if_pos (hiff.mp rfl)] at hR
            wp_walk
            exact ⟨rfl, rfl, _, _, _, _, hrest, hvi', hwi', by omega, hR⟩
          | false =>
            rw [if_neg (fun q => absurd (hiff.mpr q) Bool.false_ne_true)] at hR
            have hri := rcLt_int A.in1 ⟨hp, g, d, tk, os⟩ a t c u prog w
            wp_walk using hri
            exact ⟨_, rfl, by simpa using hR⟩
    case fin =>
      rintro ⟨b1, b2⟩ s' ⟨hb', rfl, vs, ws, ns', ms', hz, hvi, hwi, hlen, hR⟩
      simp only at hb'
      subst hb'
      have hv : lexLt ns' ms' = decide (items.size < items2.size) := by
        cases hvi with
        | nil =>
          cases hwi with
          | nil =>
            simp only [List.length_nil] at hlen
            rw [lexLt_nil_nil]
            exact (decide_eq_false (by omega)).symm
          | cons c u hw =>
            simp only [List.length_nil, List.length_cons] at hlen
            rw [lexLt_nil_cons]
            exact (decide_eq_true (by omega)).symm
        | cons a t hv =>
          cases hwi with
          | nil =>
            simp only [List.length_nil, List.length_cons] at hlen
            rw [lexLt_cons_nil]
            exact (decide_eq_false (by omega)).symm
          | cons c u hw =>
            rw [List.zip_cons_cons] at hz
            cases hz
      rw [hv] at hR
      wp_walk
      exact ⟨_, rfl, by simpa [Builtin.Tuple.tupleCompareSizes] using hR⟩
    case h =>
      exact ⟨rfl, rfl, items.toList, items2.toList, ns, ms, rfl, hi, hj, by omega, h⟩
end

section
variable {prog : Program} {w : World} {A : Around} {E : Value → Shared → Prop} {s : Shared}

theorem lt_tupInts {l b : Addr} {items items2 : Array Value} {ns ms : List Int} {Q : Value → Shared → Prop} (hl : IsTup s.heap l items) (hb : IsTup s.heap b items2) (hi : IntsAre items.toList ns) (hj : IntsAre items2.toList ms)
    (hu : A.units < cLine) (h : Q (.bool (lexLt ns ms)) s) : wpAny (model prog w) A (compareOp .Lt (.ref l) (.ref b)) Q E s := by
  obtain ⟨⟨cls, dd, data, sl⟩, ho, hc, n, hd⟩ := id hl
  obtain ⟨⟨cls2, dd2, data2, sl2⟩, ho2, hc2, n2, hd2⟩ := id hb
  simp only at hc hd hc2 hd2
  subst hc hd hc2 hd2
  exact richCompare_meets_room (op := .Lt) ⟨_, ho, rfl⟩ ⟨_, ho2, rfl⟩ PySem.F.slot_tuple_lt PySem.F.entry_tuple_lt (PySem.F.args_tuple_lt_2 _ _) (tuple_lt_ints l b items items2 n n2 dd dd2 sl sl2 ns ms hi hj)
    ⟨ho, ho2, show Value.bool (lexLt ns ms) ≠ Value.notImplemented ∧ Q (.bool (lexLt ns ms)) s from ⟨(fun x => nomatch x), h⟩⟩ hu

/-- t + u, t not empty -/
theorem cat_tup {t b : Addr} {vs ws : List Value} {Q : Value → Shared → Prop} (ht : IsTup s.heap t vs.toArray) (hb : IsTup s.heap b ws.toArray) (hv : vs ≠ [])
    (h1 : ws = [] → Q (.ref t) s) (h2 : ws ≠ [] → Q (.ref s.heap.objs.size) { s with heap := s.heap.push { cls := .type "tuple", data := .seq (vs ++ ws).toArray } })
    (hsz : vs.length + ws.length ≤ sizeLine) : wpAny (model prog w) A (binaryOp .Add (.ref t) (.ref b)) Q E s := by
  obtain ⟨⟨cls, dd, data, sl⟩, ho, hc, n, hd⟩ := id ht
  obtain ⟨⟨cls2, dd2, data2, sl2⟩, ho2, hc2, n2, hd2⟩ := id hb
  simp only at hc hd hc2 hd2
  subst hc hd hc2 hd2
  have e : vs.toArray ++ ws.toArray = (vs ++ ws).toArray := by simp
  by_cases hw : ws = []
  · exact concat_meets ⟨_, ho, rfl⟩ ⟨_, ho2, rfl⟩ noFill_tuple_add seq_tuple_add PySem.F.slot_tuple_add PySem.F.entry_tuple_add (PySem.F.args_tuple_add_2 _ _)
      (tuple_addW1 t b vs.toArray ws.toArray n n2 dd dd2 sl sl2 (by simpa using hv) (by simp [hw])) ⟨ho, ho2, h1 hw⟩
  · refine concat_meets ⟨_, ho, rfl⟩ ⟨_, ho2, rfl⟩ noFill_tuple_add seq_tuple_add PySem.F.slot_tuple_add PySem.F.entry_tuple_add (PySem.F.args_tuple_add_2 _ _)
      (tuple_addW2 t b vs.toArray ws.toArray n n2 dd dd2 sl sl2 (by simpa using hv) (by simpa using hw) (by rw [List.size_toArray, List.size_toArray]; exact hsz)) ⟨ho, ho2, ?_⟩
    rw [e]
    exact h2 hw

/-! ### t[a:b], not the whole -/
/-- a slice's bound as a place among n (d where it is left out) -/
def sIx (n d : Nat) : Option Int → Nat
  | none => d
  | some v => if v < 0 then (v + (n : Int)).toNat else min v.toNat n
theorem sIx_none (n d : Nat) : sIx n d none = d := rfl
theorem sIx_nat (n d k : Nat) : sIx n d (some (k : Int)) = min k n := by
  show (if (k : Int) < 0 then ((k : Int) + (n : Int)).toNat else min (k : Int).toNat n) = min k n
  rw [if_neg (by omega), Int.toNat_natCast]
theorem sIx_le (n d : Nat) (hd : d ≤ n) (o : Option Int) : sIx n d o ≤ n := by
  cases o with
  | none => exact hd
  | some v =>
    show (if v < 0 then (v + (n : Int)).toNat else min v.toNat n) ≤ n
    by_cases hv : v < 0
    · rw [if_pos hv]; omega
    · rw [if_neg hv]; exact Nat.min_le_right _ _
theorem clip_eq (v : Int) (n d : Nat) : (if v < 0 then max (v + (n : Int)) 0 else min v (n : Int)) = ((sIx n d (some v) : Nat) : Int) := by
  show (if v < 0 then max (v + (n : Int)) 0 else min v (n : Int)) = (((if v < 0 then (v + (n : Int)).toNat else min v.toNat n) : Nat) : Int)
  by_cases hv : v < 0
  · simp only [if_pos hv]; omega
  · simp only [if_neg hv]; omega
theorem adjust_gen (lo hi : Option Int) (n : Nat) : Builtin.Slice.sliceAdjust lo hi 1 (n : Int) = (((sIx n 0 lo : Nat) : Int), ((sIx n n hi : Nat) : Int)) := by
  have h1 : ¬ ((1 : Int) < 0) := by omega
  unfold Builtin.Slice.sliceAdjust
  simp only [h1, if_false]
  refine Prod.ext ?_ ?_
  · cases lo with
    | none => rfl
    | some v => exact clip_eq v n 0
  · cases hi with
    | none => rfl
    | some v => exact clip_eq v n n
theorem places_gen (i j : Nat) : Builtin.Slice.slicePlaces (i : Int) (j : Int) 1 = j - i := by
  unfold Builtin.Slice.slicePlaces
  have h1 : (1 : Int) > 0 := by omega
  simp only [h1, if_true, Int.ediv_one]
  split <;> omega
theorem slicePart_ {v : Value} {o : Option Int} {Q : Option Int → Shared → Prop} (p : IsPart v o) (h : Q o s) : wpAny (model prog w) A (Builtin.Slice.slicePartIndex v) Q E s := by
  cases p with
  | none => exact slicePart_none h
  | int i t => exact slicePart_int h
theorem sliceApplied_gen {sl : Addr} {vl vu : Value} {lo hi : Option Int} {n : Nat} {Q : Int × Int × Nat → Shared → Prop} (hs : s.heap.IsSliceOf sl vl vu .none) (pl : IsPart vl lo) (pu : IsPart vu hi)
    (h : Q (((sIx n 0 lo : Nat) : Int), 1, sIx n n hi - sIx n 0 lo) s) : wpAny (model prog w) A (Builtin.Slice.sliceApplied (.ref sl) (pure (n : Int))) Q E s := by
  obtain ⟨os, hos, hcs, hds⟩ := id hs
  unfold Builtin.Slice.sliceApplied Builtin.Slice.sliceFields
  refine wpAny_bind (wpAny_bind (wpAny_field hos hds (x := vl) rfl (wpAny_bind (wpAny_field hos hds (x := vu) rfl (wpAny_bind (wpAny_field hos hds (x := .none) rfl (wpAny_pure ?_)))))))
  refine wpAny_bind (slicePart_none ?_)
  show wpAny _ _ (if ((1 : Int) == 0) = true then _ else _) _ _ s
  rw [if_neg (by decide)]
  refine wpAny_bind (slicePart_ pl (wpAny_bind (slicePart_ pu (wpAny_bind (wpAny_pure ?_)))))
  show wpAny _ _ (match Builtin.Slice.sliceAdjust lo hi 1 (n : Int) with | (lo, hi) => pure (lo, (1 : Int), Builtin.Slice.slicePlaces lo hi 1)) _ _ s
  rw [adjust_gen lo hi n]
  show wpAny _ _ (pure (((sIx n 0 lo : Nat) : Int), (1 : Int), Builtin.Slice.slicePlaces ((sIx n 0 lo : Nat) : Int) ((sIx n n hi : Nat) : Int) 1)) _ _ s
  rw [places_gen]
  exact wpAny_pure h
theorem pick_gen (xs : Array Value) (i k : Nat) : ((List.range k).filterMap fun (m : Nat) => xs[((i : Int) + (m : Int) * 1).toNat]?).toArray = ((xs.toList.drop i).take k).toArray := by
  have e : (fun (m : Nat) => xs[((i : Int) + (m : Int) * 1).toNat]?) = fun m => xs[i + m]? := by
    funext m
    have : ((i : Int) + (m : Int) * 1).toNat = i + m := by omega
    rw [this]
  rw [e]
  have := pick_run xs i k
  rw [List.filterMap_map] at this
  have e2 : ((fun x => xs[x]?) ∘ fun x => i + x) = fun m => xs[i + m]? := rfl
  rw [e2] at this
  rw [this]

theorem getItem_tuple_cut {t sl : Addr} {items : Array Value} {vl vu : Value} {lo hi : Option Int} {Q : Value → Shared → Prop} (ht : IsTup s.heap t items) (hs : s.heap.IsSliceOf sl vl vu .none) (pl : IsPart vl lo) (pu : IsPart vu hi)
    (hw : ¬ (sIx items.size 0 lo = 0 ∧ sIx items.size items.size hi = items.size))
    (h : Q (.ref s.heap.objs.size) { s with heap := s.heap.push { cls := .type "tuple", data := .seq ((items.toList.drop (sIx items.size 0 lo)).take (sIx items.size items.size hi - sIx items.size 0 lo)).toArray } })
    (hsz : items.size ≤ sizeLine) : wpAny (model prog w) A (getItem (.ref t) (.ref sl)) Q E s := by
  have htake : sizeOk (.seq ((items.toList.drop (sIx items.size 0 lo)).take (sIx items.size items.size hi - sIx items.size 0 lo)).toArray) := by
    show ((items.toList.drop (sIx items.size 0 lo)).take (sIx items.size items.size hi - sIx items.size 0 lo)).toArray.size ≤ sizeLine
    rw [List.size_toArray, List.length_take, List.length_drop, Array.length_toList]
    omega
  have hj : sIx items.size items.size hi ≤ items.size := sIx_le _ _ (Nat.le_refl _) hi
  obtain ⟨os, hos, hcs, hds⟩ := id hs
  have hTs : s.TypeIs (.ref sl) "slice" := ⟨os, hos, hcs⟩
  unfold getItem
  try with_reducible refine wpAny_holding ?_
  first | refine wpAny_bind (wpAny_pure ?_) | skip
  refine wpAny_bind (wpAny_sequenceKey ht.typeIs (by decide) ?_)
  refine wpAny_bind (wpAny_callSpecial?_slot (name := Str.ofString "__getitem__") ht.typeIs PyProof.Rows.slot_tuple_getitem
    (wpAny_call_entry PyProof.Rows.slot_tuple_getitem ht.typeIs entry_tuple_getitem ?_ (args_tuple_getitem _ _)))
  show wpAny _ _ (Builtin.Tuple.tupleItemsOf (.ref t) >>= _) _ _ s
  refine wpAny_bind (tupleItemsOf_ ht ?_)
  refine wpAny_bind (wpAny_typeOf hTs ?_)
  rw [if_pos (by decide)]
  refine wpAny_bind (sliceApplied_gen hs pl pu ?_)
  have hno : ¬ ((((sIx items.size 0 lo : Nat) : Int) == 0 && (1 : Int) == 1 && (sIx items.size items.size hi - sIx items.size 0 lo) == items.size) = true) := by
    intro q
    rw [Bool.and_eq_true, Bool.and_eq_true] at q
    have q1 : ((sIx items.size 0 lo : Nat) : Int) = 0 := eq_of_beq q.1.1
    have q2 : sIx items.size items.size hi - sIx items.size 0 lo = items.size := eq_of_beq q.2
    exact hw ⟨by omega, by omega⟩
  show wpAny _ _ (if (((sIx items.size 0 lo : Nat) : Int) == 0 && (1 : Int) == 1 && (sIx items.size items.size hi - sIx items.size 0 lo) == items.size) = true then _ else _) _ _ s
  rw [if_neg hno, pick_gen]
  first
    | exact wpAny_bind (m := Builtin.Tuple.tupleExact _) (wpAny_newObj_type (wpAny_pure ⟨_, rfl, wpAny_pure h⟩) htake)
    | exact wpAny_bind (m := Builtin.Tuple.tupleExact _) (wpAny_newObj_type (wpAny_bind (wpAny_pure (wpAny_pure ⟨_, rfl, wpAny_pure h⟩))) htake)
    | exact wpAny_bind (wpAny_bind (m := Builtin.Tuple.tupleExact _) (wpAny_newObj_type (wpAny_pure (wpAny_pure ⟨_, rfl, wpAny_pure h⟩)) htake))
    | exact wpAny_bind (wpAny_bind (m := Builtin.Tuple.tupleExact _) (wpAny_newObj_type (wpAny_pure ⟨_, rfl, wpAny_pure h⟩) htake))
end
end HT

namespace L2
open PySem PySem.Spec PyProof.Rows

/-! ### the parts of a slice -/
abbrev TO := St → Hp → (Option Int → Hp → Prop) → Prop
/-- a slice's part (left out, or an int) -/
def PO (X : Cx) (e : Option Expr) (t : TO) : Prop :=
  ∀ (pins : List (Addr × Obj)) (s : Shared) (σ : St) (H : Hp) (Q : Option Int → Hp → Prop), Inv X pins σ H s → t σ H Q →
    wpAny (model X.prog X.w) X.A (evalPart e X.env) (fun u s' => ∃ o H', Inv X pins σ H' s' ∧ IsPart u o ∧ Q o H') X.xe s
def tNoPart : TO := fun _ H Q => Q none H
def tPart (t : TE) : TO := fun σ H Q => t σ H fun x H1 => ∃ i, x = .int i ∧ Q (some i) H1

theorem intsAre_of {ns : List Int} : ∀ {us : List Value}, Vals (ns.map V.int) us → IntsAre us ns := by
  induction ns with
  | nil => intro us r; rw [List.map_nil] at r; cases r; exact .nil
  | cons n ns ih =>
    intro us r
    rw [List.map_cons] at r
    cases r with
    | cons r1 r2 =>
      obtain ⟨t, e⟩ := r1
      subst e
      exact .cons n t (ih r2)

section
variable {X : Cx} {e : Expr} {te : TE} {lo hi : Option Expr} {tl th : TO} {pos p2 : Pos}

theorem po_none : PO X none tNoPart := by
  intro pins s σ H Q I h
  rw [evalPart_none]
  exact wpAny_pure ⟨none, H, I, .none, h⟩
theorem po_some (h : PE X e te) : PO X (some e) (tPart te) := by
  intro pins s σ H Q I hw
  rw [evalPart_some]
  refine thn (h pins s σ H _ I hw) fun u s1 ⟨x, H1, I1, r1, q1⟩ => ?_
  obtain ⟨i, rfl, q⟩ := q1
  obtain ⟨t, rfl⟩ := r1
  exact ⟨some i, H1, I1, .int i t, q⟩

/-- what a slice of a value is, by values: the slice object stands at sl -/
def SlR (X : Cx) (r : V → Option Int → Option Int → Hp → VK → Prop) : Prop :=
  ∀ (pins : List (Addr × Obj)) (s : Shared) (σ : St) (H : Hp) (x : V) (v vl vu : Value) (lo hi : Option Int) (sl : Addr) (Q : VK), Inv X pins σ H s → RelV x v → s.heap.IsSliceOf sl vl vu .none → IsPart vl lo → IsPart vu hi → r x lo hi H Q →
    ∃ T id, typeLookup (.type T) "__getitem__" = pure (some (.builtin id)) ∧ s.TypeIs v T ∧ wpAny (model X.prog X.w) X.A (getItem v (.ref sl)) (EP X pins σ Q) X.xe s
theorem SlR.or {r r' : V → Option Int → Option Int → Hp → VK → Prop} (h : SlR X r) (h' : SlR X r') : SlR X (fun x lo hi H Q => r x lo hi H Q ∨ r' x lo hi H Q) := by
  intro pins s σ H x v vl vu lo hi sl Q I rx hs pl pu q
  rcases q with q | q
  · exact h pins s σ H x v vl vu lo hi sl Q I rx hs pl pu q
  · exact h' pins s σ H x v vl vu lo hi sl Q I rx hs pl pu q
def tSl (r : V → Option Int → Option Int → Hp → VK → Prop) (te : TE) (tl th : TO) : TE := fun σ H Q => te σ H fun x H1 => tl σ H1 fun l H2 => th σ H2 fun u H3 => r x l u H3 Q
/-- a[lo:hi], any a -/
theorem pe_slice {r : V → Option Int → Option Int → Hp → VK → Prop} (hr : SlR X r) (he : PE X e te) (hl : PO X lo tl) (hu : PO X hi th) : PE X (.Subscript e (.Slice lo hi none p2) pos) (tSl r te tl th) := by
  intro pins s σ H Q I h
  refine Subscript_ (thn (he pins s σ H _ I h) fun v s1 ⟨x, H1, I1, r1, q1⟩ => ?_)
  refine wpAny_Slice (thn (hl pins s1 σ H1 _ I1 q1) fun vl s2 ⟨l, H2, I2, pl, q2⟩ => thn (hu pins s2 σ H2 _ I2 q2) fun vu s3 ⟨u, H3, I3, pu, q3⟩ => ?_)
  rw [evalPart_none]
  refine wpAny_pure ?_
  have I4 : Inv X pins σ H3 { s3 with heap := s3.heap.push { cls := .type "slice", data := .fields #[vl, vu, .none] } } := I3.kept (t' := s3.toks) fun b ob q => Heap.get?_push_of_some _ q
  obtain ⟨T, id, hT, ht, hg⟩ := hr pins { s3 with heap := s3.heap.push { cls := .type "slice", data := .fields #[vl, vu, .none] } } σ H3 x v vl vu l u s3.heap.objs.size Q I4 r1 (Heap.IsSliceOf.new ..) pl pu q3
  show wpAny (model X.prog X.w) X.A (subscriptTail e (.Slice lo hi none p2) v (.ref s3.heap.objs.size)) (EP X pins σ Q) X.xe { s3 with heap := s3.heap.push { cls := .type "slice", data := .fields #[vl, vu, .none] } }
  exact tail_any (ops := [.ref s3.heap.objs.size, v]) ht hT hg (by with_unfolding_all rfl)

/-- the items of xs[lo:hi] -/
def cutV (xs : List V) (lo hi : Option Int) : List V := (xs.drop (HT.sIx xs.length 0 lo)).take (HT.sIx xs.length xs.length hi - HT.sIx xs.length 0 lo)
theorem cutV_length (xs : List V) (lo hi : Option Int) : (cutV xs lo hi).length ≤ xs.length := by
  unfold cutV
  rw [List.length_take, List.length_drop]
  omega
/-- t[lo:hi], not the whole of it (the whole would be t itself) -/
def rSlT (K : PySem.W.Frag) : V → Option Int → Option Int → Hp → VK → Prop := fun x lo hi H Q => ∃ a xs, x = .ref a ∧ SqT K H a xs ∧
  ¬ (HT.sIx xs.length 0 lo = 0 ∧ HT.sIx xs.length xs.length hi = xs.length) ∧ ∀ p, H p = none → Q (.ref p) (upd H p (.tup (cutV xs lo hi)))
theorem sl_tup : SlR X (rSlT X.K) := by
  intro pins s σ H x v vl vu lo hi sl Q I rx hs pl pu h
  obtain ⟨a, xs, rfl, hx, hw, q⟩ := h
  cases rx
  obtain ⟨its, r, ht, hz⟩ := I.tuple hx
  have hlen : its.toArray.size = xs.length := by rw [List.size_toArray]; exact r.length.symm
  refine ⟨"tuple", _, PyProof.Rows.slot_tuple_getitem.lookup, ht.typeIs, ?_⟩
  refine HT.getItem_tuple_cut ht hs pl pu (by rw [hlen]; exact hw) ?_ (by rw [hlen]; exact hz)
  rw [hlen]
  refine ⟨.ref s.heap.objs.size, _, I.laid (t' := s.toks) (o := .tup (cutV xs lo hi)) (fun b ob q => Heap.get?_push_of_some _ q) (Nat.le_refl _) ?_, rfl, q _ (I.hok.fresh (Nat.le_refl _))⟩
  exact ⟨Nat.le_trans (cutV_length xs lo hi) hz, _, (r.drop (HT.sIx xs.length 0 lo)).take (HT.sIx xs.length xs.length hi - HT.sIx xs.length 0 lo), IsTup.new _ _⟩

/-! ### t < u, t + u -/
def rLtT (K : PySem.W.Frag) : R2 := fun x y H Q => ∃ a b ns ms, x = .ref a ∧ y = .ref b ∧ SqT K H a (ns.map V.int) ∧ SqT K H b (ms.map V.int) ∧ Q (.bl (HT.lexLt ns ms)) H
theorem op_ltT (hu : X.A.units < cLine) : OpR X (compareOp .Lt) (rLtT X.K) := by
  intro pins s σ H x y v u Q I rx ry h
  obtain ⟨a, b, ns, ms, rfl, rfl, ha, hb, q⟩ := h
  cases rx
  cases ry
  obtain ⟨its, r1, p1, _⟩ := I.tuple ha
  obtain ⟨its2, r2, p2, _⟩ := I.tuple hb
  have i1 : IntsAre its.toArray.toList ns := intsAre_of r1
  have i2 : IntsAre its2.toArray.toList ms := intsAre_of r2
  exact HT.lt_tupInts p1 p2 i1 i2 hu ⟨.bl (HT.lexLt ns ms), H, I, rfl, q⟩
/-- t + u, t not empty: u empty gives t itself -/
def rCatT (K : PySem.W.Frag) : R2 := fun x y H Q => ∃ a b xs ys, x = .ref a ∧ y = .ref b ∧ SqT K H a xs ∧ SqT K H b ys ∧ xs ≠ [] ∧ xs.length + ys.length ≤ sizeLine ∧
  (ys = [] → Q (.ref a) H) ∧ (ys ≠ [] → ∀ p, H p = none → Q (.ref p) (upd H p (.tup (xs ++ ys))))
theorem Vals.nil_iff {xs : List V} {us : List Value} (r : Vals xs us) : us = [] ↔ xs = [] := by
  cases r with
  | nil => simp
  | cons _ _ => simp
theorem op_catT : OpR X (binaryOp .Add) (rCatT X.K) := by
  intro pins s σ H x y v u Q I rx ry h
  obtain ⟨a, b, xs, ys, rfl, rfl, ha, hb, hx, hz, q1, q2⟩ := h
  cases rx
  cases ry
  obtain ⟨its, r1, p1, _⟩ := I.tuple ha
  obtain ⟨its2, r2, p2, _⟩ := I.tuple hb
  refine HT.cat_tup p1 p2 (fun z => hx (r1.nil_iff.mp z)) (fun z => ⟨.ref a, H, I, rfl, q1 (r2.nil_iff.mp z)⟩) (fun z => ?_) (by rw [← r1.length, ← r2.length]; exact hz)
  refine ⟨.ref s.heap.objs.size, _, I.laid (t' := s.toks) (o := .tup (xs ++ ys)) (fun b ob q => Heap.get?_push_of_some _ q) (Nat.le_refl _) ?_, rfl, q2 (fun w => z (r2.nil_iff.mpr w)) _ (I.hok.fresh (Nat.le_refl _))⟩
  exact ⟨by rw [List.length_append]; exact hz, _, r1.append r2, IsTup.new _ _⟩
/-- tuple(t) -/
theorem call_tupleT : CallR X (.type "tuple") (fun xs H Q => ∃ a ys, xs = [.ref a] ∧ SqT X.K H a ys ∧ Q (.ref a) H) := by
  intro pins s σ H xs us Q I r h
  obtain ⟨a, ys, rfl, ha, q⟩ := h
  obtain ⟨u, rfl, ru⟩ := vals1 r
  cases ru
  obtain ⟨its, _, p1, _⟩ := I.tuple ha
  exact call_tuple_same (items := its.toArray) p1 ⟨.ref a, H, I, rfl, q⟩
end
end L2

namespace L2
open PySem PySem.Spec PyProof.Rows

/-! ### places -/
/-- the place that an index of any sign means -/
def ixN (n : Nat) (i : Int) : Option Nat := if 0 ≤ i then (if i < n then some i.toNat else none) else if -(n : Int) ≤ i then some (i + n).toNat else none
def atI {α : Type} (xs : List α) (i : Int) : Option α := (ixN xs.length i).bind fun j => xs[j]?
theorem ixN_seq {n : Nat} {i : Int} {j : Nat} (h : ixN n i = some j) : seqIndex? i n = some j ∧ j < n ∧ -(n : Int) ≤ i ∧ i < n := by
  unfold ixN at h
  by_cases h0 : 0 ≤ i
  · rw [if_pos h0] at h
    by_cases h1 : i < n
    · rw [if_pos h1] at h
      have e : i.toNat = j := Option.some.inj h
      exact ⟨by rw [seqIndex_of h0 h1, e], by omega, by omega, h1⟩
    · rw [if_neg h1] at h; cases h
  · rw [if_neg h0] at h
    by_cases h1 : -(n : Int) ≤ i
    · rw [if_pos h1] at h
      have e : (i + n).toNat = j := Option.some.inj h
      exact ⟨by rw [seqIndex_neg (by omega) h1, e], by omega, h1, by omega⟩
    · rw [if_neg h1] at h; cases h
theorem atI_get {α : Type} {xs : List α} {i : Int} {v : α} (h : atI xs i = some v) : ∃ j, seqIndex? i xs.length = some j ∧ xs[j]? = some v ∧ j < xs.length ∧ -(xs.length : Int) ≤ i ∧ i < xs.length := by
  unfold atI at h
  cases e : ixN xs.length i with
  | none => rw [e] at h; cases h
  | some j =>
    rw [e] at h
    obtain ⟨h1, h2, h3, h4⟩ := ixN_seq e
    exact ⟨j, h1, h, h2, h3, h4⟩
theorem atI_nat {α : Type} {xs : List α} {j : Nat} {v : α} (h : xs[j]? = some v) : atI xs (j : Int) = some v := by
  have hj : j < xs.length := (List.getElem?_eq_some_iff.mp h).1
  have e : ixN xs.length (j : Int) = some j := by
    unfold ixN
    rw [if_pos (by omega), if_pos (by omega)]; simp
  unfold atI; rw [e]; exact h
theorem atI_last {α : Type} (xs : List α) (v : α) : atI (xs ++ [v]) (-1) = some v := by
  have hl : (xs ++ [v]).length = xs.length + 1 := by simp
  have e : ixN (xs ++ [v]).length (-1) = some xs.length := by
    unfold ixN
    rw [hl, if_neg (by decide), if_pos (by omega)]
    congr 1
    omega
  unfold atI
  rw [e]
  show (xs ++ [v])[xs.length]? = some v
  simp

/-! ### what may be subscripted -/
/-- what stands as an index of a plain subscript -/
def PlainIx (b : Expr) : Prop := ∀ o i, subscripted b false o i = operate [o, i] (getItem o i)
/-- a subscript by values -/
def IxR (X : Cx) (r : R2) : Prop :=
  ∀ (value slice : Expr) (pins : List (Addr × Obj)) (s : Shared) (σ : St) (H : Hp) (x y : V) (v u : Value) (Q : VK), Inv X pins σ H s → RelV x v → RelV y u → r x y H Q →
    subscripted slice false v u = operate [v, u] (getItem v u) → wpAny (model X.prog X.w) X.A (subscriptTail value slice v u) (EP X pins σ Q) X.xe s
/-- a call of a builtin's method by values: the receiver, the arguments -/
def MtR (X : Cx) (id : String) (r : V → List V → Hp → VK → Prop) : Prop :=
  ∀ (pins : List (Addr × Obj)) (s : Shared) (σ : St) (H : Hp) (x : V) (xs : List V) (v : Value) (us : List Value) (Q : VK), Inv X pins σ H s → RelV x v → Vals xs us → r x xs H Q →
    wpAny (model X.prog X.w) X.A (call (.builtin id) (v :: us)) (EP X pins σ Q) X.xe s
section
variable {X : Cx} {a b : Expr} {ta tb : TE} {pos : Pos}
theorem IxR.or {r r' : R2} (h : IxR X r) (h' : IxR X r') : IxR X (fun x y H Q => r x y H Q ∨ r' x y H Q) := by
  intro value slice pins s σ H x y v u Q I rx ry q hs
  rcases q with q | q
  · exact h value slice pins s σ H x y v u Q I rx ry q hs
  · exact h' value slice pins s σ H x y v u Q I rx ry q hs
theorem MtR.or {id : String} {r r' : V → List V → Hp → VK → Prop} (h : MtR X id r) (h' : MtR X id r') : MtR X id (fun x xs H Q => r x xs H Q ∨ r' x xs H Q) := by
  intro pins s σ H x xs v us Q I rx rs q
  rcases q with q | q
  · exact h pins s σ H x xs v us Q I rx rs q
  · exact h' pins s σ H x xs v us Q I rx rs q
/-- a[b] -/
theorem pe_ix {r : R2} (hr : IxR X r) (ha : PE X a ta) (hb : PE X b tb) (hs : PlainIx b) : PE X (.Subscript a b pos) (tOp r ta tb) := by
  intro pins s σ H Q I h
  exact Subscript_ (binT ha hb I h fun v u s2 x y H2 I2 rx ry q => hr a b pins s2 σ H2 x y v u Q I2 rx ry q (hs _ _))

def rIxL (K : PySem.W.Frag) : R2 := fun x y H Q => ∃ p xs i v, x = .ref p ∧ y = .int i ∧ SqL K H p xs ∧ atI xs i = some v ∧ Q v H
def rIxT (K : PySem.W.Frag) : R2 := fun x y H Q => ∃ p xs i v, x = .ref p ∧ y = .int i ∧ SqT K H p xs ∧ atI xs i = some v ∧ Q v H
def rIxS : R2 := fun x y H Q => ∃ z i c, x = .str z ∧ y = .int i ∧ z.length ≤ sizeLine ∧ atI z.cps.toList i = some c ∧ Q (.str ⟨#[c]⟩) H
theorem ix_list : IxR X (rIxL X.K) := by
  intro value slice pins s σ H x y v u Q I rx ry h hs
  obtain ⟨p, xs, i, z, rfl, rfl, hq, he, q⟩ := h
  cases rx
  obtain ⟨t, rfl⟩ := ry
  obtain ⟨its, r, pl, hz⟩ := I.list hq
  obtain ⟨j, h1, h2, h3, h4, h5⟩ := atI_get he
  obtain ⟨w, ew, rw'⟩ := r.get h2
  have hl := r.length
  have hn := line63
  have fin : EP X pins σ Q w s := ⟨z, H, I, rw', q⟩
  by_cases h0 : 0 ≤ i
  · have hj : i.toNat = j := by
      rw [seqIndex_of h0 h5] at h1
      exact Option.some.inj h1
    exact item_listR pl.isList h0 (by omega) (by rw [hj]; simpa using ew) fin hs
  · have hj : (i + (its.toArray.size : Int)).toNat = j := by
      rw [seqIndex_neg (by omega) h4] at h1
      rw [List.size_toArray, ← hl]
      exact Option.some.inj h1
    exact subscriptTail_builtinR (x := w) pl.isList.typeIs slot_list_getitem.lookup
      (wpAny_getItem_list_neg (Q := fun r s' => r = w ∧ EP X pins σ Q r s') pl.isList (by omega) (by rw [List.size_toArray] <;> omega) (by omega) (by rw [hj]; simpa using ew) ⟨rfl, fin⟩) hs
theorem ix_tup : IxR X (rIxT X.K) := by
  intro value slice pins s σ H x y v u Q I rx ry h hs
  obtain ⟨p, xs, i, z, rfl, rfl, hq, he, q⟩ := h
  cases rx
  obtain ⟨t, rfl⟩ := ry
  obtain ⟨its, r, pl, hz⟩ := I.tuple hq
  obtain ⟨j, h1, h2, h3, h4, h5⟩ := atI_get he
  obtain ⟨w, ew, rw'⟩ := r.get h2
  have hl := r.length
  have hn := line63
  have fin : EP X pins σ Q w s := ⟨z, H, I, rw', q⟩
  exact subscriptTail_builtinR (x := w) pl.typeIs slot_tuple_getitem.lookup
    (getItem_tuple (j := j) (Q := fun r s' => r = w ∧ EP X pins σ Q r s') pl (by omega) (by omega) (by rw [List.size_toArray, ← hl]; exact h1) (by simpa using ew) ⟨rfl, fin⟩) hs
theorem ix_str : IxR X rIxS := by
  intro value slice pins s σ H x y v u Q I rx ry h hs
  obtain ⟨z, i, c, rfl, rfl, hz, he, q⟩ := h
  obtain ⟨t, rfl⟩ := rx
  obtain ⟨t', rfl⟩ := ry
  obtain ⟨j, h1, h2, h3, h4, h5⟩ := atI_get he
  have hl : z.cps.toList.length = z.length := by simp [Str.length]
  rw [hl] at h1 h4 h5
  have hn := line63
  exact tail_any (typeIs_str s z t) slot_str_getitem.lookup (getItem_str (c := c) (by
    have e1 : decide (i < -(2 ^ 63 : Int)) = false := decide_eq_false (by omega)
    have e2 : decide (i ≥ 2 ^ 63) = false := decide_eq_false (by omega)
    rw [e1, e2, Bool.or_false]) (by rw [h1]; simpa using h2) ⟨.str ⟨#[c]⟩, H, I.tok _, ⟨_, rfl⟩, q⟩) hs
/-- list, tuple or str -/
def rIx (K : PySem.W.Frag) : R2 := fun x y H Q => rIxL K x y H Q ∨ rIxT K x y H Q ∨ rIxS x y H Q
theorem ix_seq : IxR X (rIx X.K) := ix_list.or (ix_tup.or ix_str)

/-! ### xs[i] = v, any sign -/
/-- the list's object behind a store -/
theorem mapSeq_set (its : List Value) (n j : Nat) (u : Value) : Obj.mapSeq (·.setIfInBounds j u) { cls := .type "list", data := .seq its.toArray n } = { cls := .type "list", data := .seq (its.set j u).toArray n } := by
  simp [Obj.mapSeq]
theorem Inv.lst {pins : List (Addr × Obj)} {σ : St} {H : Hp} {s : Shared} {p : Addr} {xs : List V} (I : Inv X pins σ H s) (h : H p = some (.lst xs)) :
    ∃ (its : List Value) (n : Nat), Vals xs its ∧ s.heap.get? p = some { cls := .type "list", data := .seq its.toArray n } ∧ xs.length ≤ sizeLine := by
  obtain ⟨z, its, n, r, e⟩ := I.hok p _ h
  exact ⟨its, n, r, e, z⟩
/-- the list at p is written by an update of its object -/
theorem Inv.lstUpd {pins : List (Addr × Obj)} {σ : St} {H : Hp} {s : Shared} {p : Addr} {xs ys : List V} {its its' : List Value} {n n' : Nat} {f : Obj → Obj} (I : Inv X pins σ H s) (h : H p = some (.lst xs))
    (ho : s.heap.get? p = some { cls := .type "list", data := .seq its.toArray n }) (hf : f { cls := .type "list", data := .seq its.toArray n } = { cls := .type "list", data := .seq its'.toArray n' }) (r : Vals ys its') (hz : ys.length ≤ sizeLine) (t : Nat) :
    Inv X pins σ (upd H p (.lst ys)) { s with heap := s.heap.update p f, toks := t } := by
  have e : (s.heap.update p f).get? p = some { cls := .type "list", data := .seq its'.toArray n' } := by
    rw [Heap.get?_update_self f ho (by rw [hf] <;> rfl), hf]
  refine I.write (x := p) (e := p) (by rw [h]; trivial) (.inl rfl) (fun b u hb q => (Heap.get?_update_other _ _ (Ne.symm hb)).trans q) ⟨_, e⟩ ?_
  exact ⟨hz, its', n', r, e⟩
def rSetL : V → V → V → Hp → (Hp → Prop) → Prop := fun o i v H Q => ∃ p xs k j, o = .ref p ∧ i = .int k ∧ H p = some (.lst xs) ∧ ixN xs.length k = some j ∧ Q (upd H p (.lst (xs.set j v)))
theorem set_list : PSet X rSetL := by
  intro pins s σ H o i v ov iv u Q I ro ri rv h
  obtain ⟨p, xs, k, j, rfl, rfl, hp, hj, q⟩ := h
  cases ro
  obtain ⟨t, rfl⟩ := ri
  obtain ⟨its, n, r, ho, hz⟩ := I.lst hp
  obtain ⟨h1, h2, h3, h4⟩ := ixN_seq hj
  have hl := r.length
  have hn := line63
  have I' : Inv X pins σ (upd H p (.lst (xs.set j v))) { s with heap := s.heap.update p (Obj.mapSeq (·.setIfInBounds j u)) } :=
    I.lstUpd hp ho (mapSeq_set its n j u) (r.set rv j) (by rw [List.length_set]; exact hz) s.toks
  by_cases h0 : 0 ≤ k
  · have hk : k.toNat = j := by
      rw [seqIndex_of h0 h4] at h1
      exact Option.some.inj h1
    exact PySem.W.ki_setAt ho h0 (by omega) (by rw [List.size_toArray, ← hl]; exact h4) (by rw [hk]; exact ⟨_, I', q⟩)
  · have hk : (k + (its.toArray.size : Int)).toNat = j := by
      rw [seqIndex_neg (by omega) h3] at h1
      rw [List.size_toArray, ← hl]
      exact Option.some.inj h1
    exact PySem.W.ki_setBack ho (by omega) (by rw [List.size_toArray, ← hl]; exact h3) (by omega) (by rw [hk]; exact ⟨_, I', q⟩)

/-! ### slices -/
theorem slice_bounds (lo hi : Option Int) (n : Nat) : (sliceBounds lo hi none n).1 = ((HT.sIx n 0 lo : Nat) : Int) ∧ (sliceBounds lo hi none n).2.1 = ((HT.sIx n n hi : Nat) : Int) ∧ (sliceBounds lo hi none n).2.2 = 1 := by
  refine ⟨?_, ?_, rfl⟩
  · cases lo with
    | none => simp [sliceBounds, HT.sIx]
    | some i =>
      simp only [sliceBounds, HT.sIx, Option.getD_none, show (1 : Int) > 0 by decide, if_true]
      by_cases h : i < 0
      · simp only [h, if_true] <;> omega
      · simp only [h, if_false] <;> omega
  · cases hi with
    | none => simp [sliceBounds, HT.sIx]
    | some i =>
      simp only [sliceBounds, HT.sIx, Option.getD_none, show (1 : Int) > 0 by decide, if_true]
      by_cases h : i < 0
      · simp only [h, if_true] <;> omega
      · simp only [h, if_false] <;> omega
theorem slicePick_cut (its : List Value) (lo hi : Option Int) : slicePick its.toArray lo hi none = ((its.drop (HT.sIx its.length 0 lo)).take (HT.sIx its.length its.length hi - HT.sIx its.length 0 lo)).toArray := by
  obtain ⟨h1, h2, h3⟩ := slice_bounds lo hi its.toArray.size
  unfold slicePick
  rw [h1, h2, h3]
  simp only [sliceRange_one, pick_run, List.size_toArray] <;> rfl
/-- xs[lo:hi] of a list: a new list -/
def rSlL (K : PySem.W.Frag) : V → Option Int → Option Int → Hp → VK → Prop := fun x lo hi H Q => ∃ a xs, x = .ref a ∧ SqL K H a xs ∧ ∀ p, H p = none → Q (.ref p) (upd H p (.lst (cutV xs lo hi)))
theorem sl_list : SlR X (rSlL X.K) := by
  intro pins s σ H x v vl vu lo hi sl Q I rx hs pl pu h
  obtain ⟨a, xs, rfl, hx, q⟩ := h
  cases rx
  obtain ⟨its, r, ht, hz⟩ := I.list hx
  have hlen := r.length
  refine ⟨"list", _, slot_list_getitem.lookup, ht.isList.typeIs, ?_⟩
  refine wpAny_getItem_list_slice ht.isList hs pl pu .none (by simp) ?_ (by rw [List.size_toArray] <;> omega)
  rw [slicePick_cut, ← hlen]
  refine ⟨.ref s.heap.objs.size, _, I.laid (t' := s.toks) (o := .lst (cutV xs lo hi)) (fun b ob q => Heap.get?_push_of_some _ q) (Nat.le_refl _) ?_, rfl, q _ (I.hok.fresh (Nat.le_refl _))⟩
  exact ⟨Nat.le_trans (cutV_length xs lo hi) hz, _, 0, (r.drop (HT.sIx xs.length 0 lo)).take (HT.sIx xs.length xs.length hi - HT.sIx xs.length 0 lo), Heap.get?_push_size _ rfl⟩

/-! ### in, not in: flat items -/
def flatV : V → Bool
  | .non => true
  | .bl _ => true
  | .int _ => true
  | .str _ => true
  | _ => false
/-- == of flat values -/
def eqV : V → V → Bool
  | .non, .non => true
  | .bl a, .bl b => a == b
  | .bl a, .int b => (if a then 1 else 0) == b
  | .int a, .bl b => a == (if b then 1 else 0)
  | .int a, .int b => a == b
  | .str a, .str b => a == b
  | _, _ => false
theorem eqAt_V {A : Around} {s : Shared} {y x : V} {u v : Value} (ry : RelV y u) (rx : RelV x v) (fy : flatV y = true) (fx : flatV x = true) : SeqAt.EqAt A s u v (eqV y x) := by
  cases y with
  | non =>
    cases ry
    cases x with
    | non => cases rx; exact SeqAt.EqAt.same _
    | bl b => cases rx; exact SeqAt.EqAt.none_bool b
    | int b => obtain ⟨t, rfl⟩ := rx; exact SeqAt.EqAt.none_int b t
    | str b => obtain ⟨t, rfl⟩ := rx; exact SeqAt.EqAt.none_str b t
    | _ => exact absurd (show false = true from fx) Bool.false_ne_true
  | bl a =>
    cases ry
    cases x with
    | non => cases rx; exact SeqAt.EqAt.bool_none a
    | bl b => cases rx; exact SeqAt.EqAt.bool_bool a b
    | int b => obtain ⟨t, rfl⟩ := rx; exact SeqAt.EqAt.bool_int a b t
    | str b => obtain ⟨t, rfl⟩ := rx; exact SeqAt.EqAt.bool_str a b t
    | _ => exact absurd (show false = true from fx) Bool.false_ne_true
  | int a =>
    obtain ⟨t', rfl⟩ := ry
    cases x with
    | non => cases rx; exact SeqAt.EqAt.int_none a t'
    | bl b => cases rx; exact SeqAt.EqAt.int_bool a t' b
    | int b => obtain ⟨t, rfl⟩ := rx; exact SeqAt.EqAt.int_int a t' b t
    | str b => obtain ⟨t, rfl⟩ := rx; exact SeqAt.EqAt.int_str a t' b t
    | _ => exact absurd (show false = true from fx) Bool.false_ne_true
  | str a =>
    obtain ⟨t', rfl⟩ := ry
    cases x with
    | non => cases rx; exact SeqAt.EqAt.str_none a t'
    | bl b => cases rx; exact SeqAt.EqAt.str_bool a t' b
    | int b => obtain ⟨t, rfl⟩ := rx; exact SeqAt.EqAt.str_int a t' b t
    | str b => obtain ⟨t, rfl⟩ := rx; exact SeqAt.EqAt.str_str a t' b t
    | _ => exact absurd (show false = true from fx) Bool.false_ne_true
  | _ => exact absurd (show false = true from fy) Bool.false_ne_true
/-- the items' answers, read off the values (a value's own answer does not lean on its token) -/
def eqU (x : V) (u : Value) : Bool := match u with
  | .none => eqV .non x
  | .bool b => eqV (.bl b) x
  | .int i _ => eqV (.int i) x
  | .str z _ => eqV (.str z) x
  | _ => false
theorem eqU_of {x y : V} {u : Value} (r : RelV y u) (f : flatV y = true) : eqU x u = eqV y x := by
  cases y with
  | non => cases r; rfl
  | bl b => cases r; rfl
  | int i => obtain ⟨t, rfl⟩ := r; rfl
  | str z => obtain ⟨t, rfl⟩ := r; rfl
  | _ => exact absurd (show false = true from f) Bool.false_ne_true
theorem any_eqU {x : V} : ∀ {xs : List V} {us : List Value}, Vals xs us → xs.all flatV = true → us.any (eqU x) = xs.any fun y => eqV y x
  | _, _, .nil, _ => rfl
  | y :: xs, u :: us, .cons r t, f => by
    rw [List.all_cons, Bool.and_eq_true] at f
    rw [List.any_cons, List.any_cons, eqU_of r f.1, any_eqU t f.2]
theorem mem_eqAt {A : Around} {s : Shared} {x : V} {v : Value} (rx : RelV x v) (fx : flatV x = true) : ∀ {xs : List V} {us : List Value}, Vals xs us → xs.all flatV = true → ∀ u ∈ us, SeqAt.EqAt A s u v (eqU x u)
  | _, _, .nil, _ => fun u hu => by cases hu
  | y :: xs, u :: us, .cons r t, f => fun u' hu => by
    rw [List.all_cons, Bool.and_eq_true] at f
    rcases List.mem_cons.mp hu with rfl | hu
    · rw [eqU_of r f.1]; exact eqAt_V r rx f.1 fx
    · exact mem_eqAt rx fx t f.2 u' hu
def inV (x : V) (xs : List V) : Bool := xs.any fun y => eqV y x
/-- x in a list or tuple of flat items -/
def rIn (K : PySem.W.Frag) (neg : Bool) : R2 := fun x y H Q => ∃ p xs, y = .ref p ∧ (SqL K H p xs ∨ SqT K H p xs) ∧ flatV x = true ∧ xs.all flatV = true ∧ Q (.bl (if neg then !inV x xs else inV x xs)) H
theorem op_in_seq : OpR X (compareOp .In) (rIn X.K false) := by
  intro pins s σ H x y v u Q I rx ry h
  obtain ⟨p, xs, rfl, hq, fx, fs, q⟩ := h
  cases ry
  rcases hq with hq | hq
  · obtain ⟨its, r, pl, hz⟩ := I.list hq
    refine SeqAt.in_listAt (eqU x) pl.isList (fun w hw => mem_eqAt rx fx r fs w (by simpa using hw)) ⟨.bl _, H, I, rfl, ?_⟩
    rw [show its.toArray.any (eqU x) = its.any (eqU x) by simp, any_eqU r fs]
    exact q
  · obtain ⟨its, r, pl, hz⟩ := I.tuple hq
    refine SeqAt.in_tupleAt (eqU x) pl (fun w hw => mem_eqAt rx fx r fs w (by simpa using hw)) ⟨.bl _, H, I, rfl, ?_⟩
    rw [show its.toArray.any (eqU x) = its.any (eqU x) by simp, any_eqU r fs]
    exact q
theorem op_notIn_seq : OpR X (compareOp .NotIn) (rIn X.K true) := by
  intro pins s σ H x y v u Q I rx ry h
  obtain ⟨p, xs, rfl, hq, fx, fs, q⟩ := h
  cases ry
  rcases hq with hq | hq
  · obtain ⟨its, r, pl, hz⟩ := I.list hq
    refine SeqAt.notIn_listAt (eqU x) pl.isList (fun w hw => mem_eqAt rx fx r fs w (by simpa using hw)) ⟨.bl _, H, I, rfl, ?_⟩
    rw [show its.toArray.any (eqU x) = its.any (eqU x) by simp, any_eqU r fs]
    exact q
  · obtain ⟨its, r, pl, hz⟩ := I.tuple hq
    refine SeqAt.notIn_tupleAt (eqU x) pl (fun w hw => mem_eqAt rx fx r fs w (by simpa using hw)) ⟨.bl _, H, I, rfl, ?_⟩
    rw [show its.toArray.any (eqU x) = its.any (eqU x) by simp, any_eqU r fs]
    exact q
theorem op_notIn_str : OpR X (compareOp .NotIn) (fun x y H Q => ∃ i j, x = .str i ∧ y = .str j ∧ Q (.bl (!(!(Builtin.Str.occurrences j i 0 j.length 1).isEmpty))) H) := by
  intro pins s σ H x y v u Q I rx ry h
  obtain ⟨i, j, rfl, rfl, q⟩ := h
  obtain ⟨t, rfl⟩ := rx
  obtain ⟨t', rfl⟩ := ry
  exact notIn_str ⟨.bl _, H, I, rfl, q⟩

/-! ### len, list(x), tuple(x) of any list or tuple that is read -/
theorem call_len_seq : CallR X (.builtin "len") (fun xs H Q => ∃ p ys, xs = [.ref p] ∧ (SqL X.K H p ys ∨ SqT X.K H p ys) ∧ Q (.int ys.length) H) := by
  intro pins s σ H xs us Q I r h
  obtain ⟨p, ys, rfl, hq, q⟩ := h
  obtain ⟨u, rfl, rx⟩ := vals1 r
  cases rx
  have hn := line63
  rcases hq with hq | hq
  · obtain ⟨its, r', pl, hz⟩ := I.list hq
    have hlen := r'.length
    exact Calls.call_len_list pl.isList (by simp only [List.size_toArray] <;> omega) ⟨.int ys.length, H, I.tok _, ⟨s.toks + 1, by rw [List.size_toArray, hlen]⟩, q⟩
  · obtain ⟨its, r', pl, hz⟩ := I.tuple hq
    have hlen := r'.length
    exact len_tuple pl (by simp only [List.size_toArray] <;> omega) ⟨.int ys.length, H, I.tok _, ⟨s.toks + 1, by rw [List.size_toArray, hlen]⟩, q⟩
theorem call_len_str : CallR X (.builtin "len") (fun xs H Q => ∃ z, xs = [.str z] ∧ z.length ≤ sizeLine ∧ Q (.int z.length) H) := by
  intro pins s σ H xs us Q I r h
  obtain ⟨z, rfl, hz, q⟩ := h
  obtain ⟨u, rfl, t, rfl⟩ := vals1 r
  have hn := line63
  exact len_str (by omega) ⟨.int z.length, H, I.tok _, ⟨_, rfl⟩, q⟩
theorem CallR.or {f : Value} {r r' : List V → Hp → VK → Prop} (h : CallR X f r) (h' : CallR X f r') : CallR X f (fun xs H Q => r xs H Q ∨ r' xs H Q) := by
  intro pins s σ H xs us Q I rs q
  rcases q with q | q
  · exact h pins s σ H xs us Q I rs q
  · exact h' pins s σ H xs us Q I rs q
theorem call_list_of : CallR X (.type "list") (fun xs H Q => ∃ p ys, xs = [.ref p] ∧ (SqL X.K H p ys ∨ SqT X.K H p ys) ∧ ∀ l, H l = none → Q (.ref l) (upd H l (.lst ys))) := by
  intro pins s σ H xs us Q I r h
  obtain ⟨p, ys, rfl, hq, q⟩ := h
  obtain ⟨u, rfl, rx⟩ := vals1 r
  cases rx
  have fin : ∀ (its : List Value), Vals ys its → ys.length ≤ sizeLine → ∀ (h' : Heap) (c' : Nat), (∀ b o', s.heap.get? b = some o' → h'.get? b = some o') →
      h'.get? s.heap.objs.size = some { cls := .type "list", dict := none, data := .seq its.toArray c', slots := #[] } → EP X pins σ Q (.ref s.heap.objs.size) { s with heap := h' } := fun its r' hz h' c' kp e =>
    ⟨.ref s.heap.objs.size, _, I.laid (t' := s.toks) kp (Nat.le_refl _) (show ObjOk X.prog X.w _ h' _ (.lst ys) from ⟨hz, its, c', r', e⟩), rfl, q _ (I.hok.fresh (Nat.le_refl _))⟩
  rcases hq with hq | hq
  · obtain ⟨its, r', pl, hz⟩ := I.list hq
    have hlen := r'.length
    obtain ⟨o, ho, hc, n, hd⟩ := pl.isList
    exact call_list_seq p (.inl rfl) ho hc hd (fun h' c' kp e => fin its r' hz h' c' kp e) (by simp only [List.size_toArray] <;> omega)
  · obtain ⟨its, r', pl, hz⟩ := I.tuple hq
    have hlen := r'.length
    obtain ⟨o, ho, hc, n, hd⟩ := pl
    exact call_list_seq p (.inr rfl) ho hc hd (fun h' c' kp e => fin its r' hz h' c' kp e) (by simp only [List.size_toArray] <;> omega)
theorem call_tuple_of : CallR X (.type "tuple") (fun xs H Q => ∃ p ys, xs = [.ref p] ∧ ((SqL X.K H p ys ∧ ∀ l, H l = none → Q (.ref l) (upd H l (.tup ys))) ∨ (SqT X.K H p ys ∧ Q (.ref p) H))) := by
  intro pins s σ H xs us Q I r h
  obtain ⟨p, ys, rfl, h⟩ := h
  obtain ⟨u, rfl, rx⟩ := vals1 r
  cases rx
  rcases h with ⟨hq, q⟩ | ⟨hq, q⟩
  · obtain ⟨its, r', pl, hz⟩ := I.list hq
    have hlen := r'.length
    refine call_tuple_list pl.isList (fun h' kp => ?_) (by simp only [List.size_toArray] <;> omega)
    have I1 : Inv X pins σ H { s with heap := h' } := I.kept (t' := s.toks) kp
    have I2 : Inv X pins σ (upd H h'.objs.size (.tup ys)) { s with heap := h'.push { cls := .type "tuple", data := .seq its.toArray } } :=
      I1.laid (t' := s.toks) (fun b o e => Heap.get?_push_of_some _ e) (Nat.le_refl _) (show ObjOk X.prog X.w _ _ _ (.tup ys) from ⟨hz, its, r', IsTup.new _ _⟩)
    exact ⟨.ref h'.objs.size, _, I2, rfl, q _ (I1.hok.fresh (Nat.le_refl _))⟩
  · obtain ⟨its, r', pl, hz⟩ := I.tuple hq
    exact call_tuple_same pl ⟨.ref p, H, I, rfl, q⟩

/-! ### the call of a builtin's method: o.m(..) -/
/-- the value is of that builtin type -/
def tyV (K : PySem.W.Frag) (T : String) (x : V) (H : Hp) : Prop := match x with
  | .str _ => T = "str"
  | .int _ => T = "int"
  | .ref p => (T = "list" ∧ ∃ xs, SqL K H p xs) ∨ (T = "tuple" ∧ ∃ o, K.lookup p = some o ∧ o.cls = .type "tuple" ∧ o.dict = none) ∨
      (T = "dict" ∧ ((∃ kvs, H p = some (.dK kvs)) ∨ ∃ kvs, H p = some (.dT kvs))) ∨ (T = "set" ∧ ∃ S n, H p = some (.set S n))
  | _ => False
theorem tyV_is {pins : List (Addr × Obj)} {σ : St} {H : Hp} {s : Shared} {T : String} {x : V} {v : Value} (I : Inv X pins σ H s) (r : RelV x v) (ty : tyV X.K T x H) :
    s.TypeIs v T ∧ ∀ a, v = .ref a → ∃ ob, s.heap.get? a = some ob ∧ ob.dict = none := by
  cases x with
  | str z =>
    obtain ⟨t, rfl⟩ := r
    cases (show T = "str" from ty)
    exact ⟨typeIs_str s z t, fun _ e => nomatch e⟩
  | int i =>
    obtain ⟨t, rfl⟩ := r
    cases (show T = "int" from ty)
    exact ⟨typeIs_int s i t, fun _ e => nomatch e⟩
  | ref p =>
    cases r
    rcases ty with ⟨rfl, xs, hq⟩ | ⟨rfl, o, hk, hc, hd⟩ | ⟨rfl, hk⟩ | ⟨rfl, S, n, hk⟩
    · obtain ⟨its, _, pl, _⟩ := I.list hq
      refine ⟨pl.isList.typeIs, fun a e => ?_⟩
      cases e
      obtain ⟨o, n, e, c, hd, _⟩ := pl
      exact ⟨o, e, hd⟩
    · refine ⟨⟨o, I.kIn p o hk, hc⟩, fun a e => ?_⟩
      cases e
      exact ⟨o, I.kIn _ o hk, hd⟩
    · have z : ∃ o, s.heap.get? p = some o ∧ o.ExactDict := by
        rcases hk with ⟨kvs, hk⟩ | ⟨kvs, hk⟩
        · obtain ⟨_, _, _, _, o, _, _, e, ex, _⟩ := I.hok p _ hk
          exact ⟨o, e, ex⟩
        · obtain ⟨_, _, _, _, o, _, _, e, ex, _⟩ := I.hok p _ hk
          exact ⟨o, e, ex⟩
      obtain ⟨o, e, ex⟩ := z
      refine ⟨⟨o, e, ex.1⟩, fun a e2 => ?_⟩
      cases e2
      exact ⟨o, e, ex.2.1⟩
    · obtain ⟨o, _, _, _, e, ex, _⟩ := I.hok p _ hk
      refine ⟨⟨o, e, ex.1⟩, fun a e2 => ?_⟩
      cases e2
      exact ⟨o, e, ex.2.1⟩
  | _ => exact False.elim ty
def tBM0 (K : PySem.W.Frag) (T : String) (r : V → List V → Hp → VK → Prop) (to : TE) : TE := fun σ H Q => to σ H fun x H1 => tyV K T x H1 ∧ r x [] H1 Q
def tBM (K : PySem.W.Frag) (T : String) (r : V → List V → Hp → VK → Prop) (to : TE) (t : TA) : TE := fun σ H Q => to σ H fun x H1 => tyV K T x H1 ∧ t σ H1 fun xs H2 => r x xs H2 Q
variable {o e : Expr} {es : List Expr} {to : TE} {t : TA} {name : Str} {apos cpos : Pos} {T id : String} {r : V → List V → Hp → VK → Prop}
theorem pe_bm0 (pa : PlainAttrs T) (slot : Slot T name id) (hty : typeOf (.builtin id) = pure (.type "method_descriptor")) (hm : MtR X id r) (ho : PE X o to)
    (hbase : attributeBase o name X.env (eval o X.env) = eval o X.env := by rfl) (hline : (apos.endLine == cpos.line) = true := by rfl) : PE X (.Call (.Attribute o name apos) [] [] cpos) (tBM0 X.K T r to) := by
  intro pins s σ H Q I h
  refine wpAny_Call_method0_late hbase hline (thn (ho pins s σ H _ I h) fun v s1 ⟨x, H1, I1, r1, ty, q1⟩ => ?_)
  obtain ⟨h1, h2⟩ := tyV_is I1 r1 ty
  exact ⟨T, id, pa, slot, hty, h1, h2, Calls.callWith_builtin rfl (PySem.evalArgs_none (hm pins s1 σ H1 x [] v [] Q I1 r1 .nil q1))⟩
theorem pe_bm (pa : PlainAttrs T) (slot : Slot T name id) (hty : typeOf (.builtin id) = pure (.type "method_descriptor")) (hm : MtR X id r) (ho : PE X o to) (ha : PA X (e :: es) t)
    (hbase : attributeBase o name X.env (eval o X.env) = eval o X.env := by rfl)
    (hfew : ((backTo cpos (starEach (e :: es) X.env)).all (fun x => !x.1) && (backToKw cpos (keywordEach [] X.env)).all (fun x => x.1.isSome)
      && decide ((e :: es).length + ([] : List Keyword).length + (if ([] : List Keyword).isEmpty then 0 else 1) < 30)) = true := by rfl)
    (hline : (apos.endLine == cpos.line) = true := by rfl) (hs : starEach (e :: es) X.env = (false, eval e X.env) :: starEach es X.env := by rfl) (hplain : (backTo cpos (starEach es X.env)).any (·.1) = false := by rfl) :
    PE X (.Call (.Attribute o name apos) (e :: es) [] cpos) (tBM X.K T r to t) := by
  intro pins s σ H Q I h
  refine wpAny_Call_method_late hbase hfew hline rfl (thn (ho pins s σ H _ I h) fun v s1 ⟨x, H1, I1, r1, ty, q1⟩ => ?_)
  obtain ⟨h1, h2⟩ := tyV_is I1 r1 ty
  refine ⟨T, id, pa, slot, hty, h1, h2, ?_⟩
  have hA := ha cpos pins s1 σ H1 _ I1 q1
  rw [hs] at hA ⊢
  refine Calls.callWith_builtin (by show (false || (backTo cpos (starEach es X.env)).any (·.1)) = false; rw [hplain] <;> rfl) (Calls.evalArgs_plain ?_)
  exact thn hA fun us s2 ⟨vs, H2, I2, r2, q2⟩ => hm pins s2 σ H2 x vs v us Q I2 r1 r2 q2
/- xs.append(e), list.index on a module's tuple .. are MtR facts of 06m -/
end
end L2

namespace L2
open PySem PySem.Spec PyProof.Rows

def MtM (X : Cx) (id : String) (r : V → List V → Hp → VK → Prop) : Prop :=
  ∀ (pins : List (Addr × Obj)) (s : Shared) (σ : St) (H : Hp) (x : V) (xs : List V) (v : Value) (us : List Value) (Q : VK), Inv X pins σ H s → RelV x v → Vals xs us → r x xs H Q →
    wpAny (model X.prog X.w) X.A (call (.builtin id) (v :: us)) (EP X pins σ Q) X.xe s

/-! ### lists of values -/
theorem Vals.one : ∀ {x : V} {us : List Value}, Vals [x] us → ∃ u, us = [u] ∧ RelV x u
  | _, _, .cons r .nil => ⟨_, rfl, r⟩
theorem Vals.two : ∀ {x y : V} {us : List Value}, Vals [x, y] us → ∃ u v, us = [u, v] ∧ RelV x u ∧ RelV y v
  | _, _, _, .cons r (.cons q .nil) => ⟨_, _, rfl, r, q⟩
theorem Vals.zero : ∀ {us : List Value}, Vals [] us → us = []
  | _, .nil => rfl
theorem Vals.dropLast {xs : List V} {us : List Value} (h : Vals xs us) : Vals xs.dropLast us.dropLast := by
  induction h with
  | nil => exact .nil
  | cons r t ih =>
    cases t with
    | nil => exact .nil
    | cons q t' => exact .cons r ih
theorem Vals.eraseIdx : ∀ {xs : List V} {us : List Value} (i : Nat), Vals xs us → Vals (xs.eraseIdx i) (us.eraseIdx i)
  | _, _, _, .nil => .nil
  | _, _, 0, .cons _ t => t
  | _, _, i + 1, .cons r t => .cons r (Vals.eraseIdx i t)
theorem Vals.reverse {xs : List V} {us : List Value} (h : Vals xs us) : Vals xs.reverse us.reverse := by
  induction h with
  | nil => exact .nil
  | cons r t ih => rw [List.reverse_cons, List.reverse_cons]; exact Vals.append ih (.cons r .nil)
theorem Vals.rep {xs : List V} {us : List Value} (h : Vals xs us) : ∀ k : Nat, Vals (List.replicate k xs).flatten (List.replicate k us).flatten
  | 0 => .nil
  | k + 1 => by
    rw [List.replicate_succ, List.replicate_succ, List.flatten_cons, List.flatten_cons]
    exact Vals.append h (Vals.rep h k)
theorem erase_last {α : Type} (l : List α) : l.eraseIdx (l.length - 1) = l.dropLast := by
  induction l with
  | nil => rfl
  | cons a r ih =>
    cases r with
    | nil => rfl
    | cons b r =>
      have e : (a :: b :: r).length - 1 = ((b :: r).length - 1) + 1 := by
        have h1 : (a :: b :: r).length = r.length + 2 := rfl
        have h2 : (b :: r).length = r.length + 1 := rfl
        omega
      rw [e, List.eraseIdx_cons_succ, ih]
      all_goals rfl
theorem len_erase {α : Type} : ∀ (l : List α) (i : Nat), (l.eraseIdx i).length ≤ l.length
  | [], _ => Nat.le_refl _
  | _ :: _, 0 => Nat.le_succ _
  | _ :: r, i + 1 => Nat.succ_le_succ (len_erase r i)
theorem foldl_rep (its : List Value) : ∀ (k : Nat) (acc : List Value),
    List.foldl (fun x1 x2 => x1 ++ x2) acc.toArray (List.replicate k its.toArray) = (acc ++ (List.replicate k its).flatten).toArray
  | 0, acc => by simp
  | k + 1, acc => by
    have e : acc.toArray ++ its.toArray = (acc ++ its).toArray := by simp
    have e2 : (acc ++ its) ++ (List.replicate k its).flatten = acc ++ (List.replicate (k + 1) its).flatten := by
      rw [List.replicate_succ, List.flatten_cons, List.append_assoc]
    rw [← e2, ← foldl_rep its k (acc ++ its), ← e, List.replicate_succ, List.foldl_cons]

section
variable {X : Cx} {pins : List (Addr × Obj)} {σ : St} {H : Hp} {s : Shared} {l b : Addr} {xs ys zs : List V}

/-! ### the two steps: a tracked list is rewritten, a new list is laid -/
theorem Inv.lset {its its' : List Value} {n : Nat} {f : Array Value → Array Value} {t' : Nat} (I : Inv X pins σ H s) (hH : H l = some (.lst xs))
    (e : s.heap.get? l = some { cls := .type "list", data := .seq its.toArray n }) (hf : f its.toArray = its'.toArray) (hv : Vals ys its') (hz : ys.length ≤ sizeLine) :
    Inv X pins σ (upd H l (.lst ys)) { s with heap := s.heap.update l (Obj.mapSeq f), toks := t' } := by
  have q := PySem.IsL.update e f
  rw [hf] at q
  refine I.write (x := l) (e := l) (by rw [hH]; exact trivial) (.inl rfl) (fun b' u hb hu => (Heap.get?_update_other s.heap (Obj.mapSeq f) (Ne.symm hb)).trans hu) ⟨_, q⟩ ?_
  exact ⟨hz, its', _, hv, q⟩
theorem Inv.lnew {its : List Value} {t' : Nat} (I : Inv X pins σ H s) (hv : Vals ys its) (hz : ys.length ≤ sizeLine) :
    Inv X pins σ (upd H s.heap.objs.size (.lst ys)) { s with heap := s.heap.push { cls := .type "list", data := .seq its.toArray }, toks := t' } :=
  I.laid (fun _ _ q => Heap.get?_push_of_some _ q) (Nat.le_refl _) ⟨hz, its, 0, hv, Heap.get?_push_size _ rfl⟩
theorem Inv.fresh (I : Inv X pins σ H s) : H s.heap.objs.size = none := I.hok.fresh (Nat.le_refl _)
theorem Inv.lstM (I : Inv X pins σ H s) (hH : H l = some (.lst xs)) : xs.length ≤ sizeLine ∧ ∃ (its : List Value) (n : Nat), Vals xs its ∧ xs.length = its.length ∧ s.heap.get? l = some { cls := .type "list", data := .seq its.toArray n } := by
  obtain ⟨z, its, n, r, e⟩ := I.hok l _ hH
  exact ⟨z, its, n, r, r.length, e⟩

theorem notLongL {n : Nat} (h : n ≤ sizeLine) : Builtin.List.listTooLong n = false := by
  unfold Builtin.List.listTooLong
  exact decide_eq_false (by omega)
end

section
variable {X : Cx}

/-! ### methods -/
def rAppend : V → List V → Hp → VK → Prop := fun x vs H Q => ∃ l xs y, x = .ref l ∧ vs = [y] ∧ H l = some (.lst xs) ∧ xs.length < sizeLine ∧ Q .non (upd H l (.lst (xs ++ [y])))
theorem mt_append : MtM X "list.append" rAppend := by
  intro pins s σ H x vs v us Q I rx rv h
  obtain ⟨l, xs, y, rfl, rfl, hH, hz, q⟩ := h
  cases rx
  obtain ⟨u, rfl, ru⟩ := rv.one
  obtain ⟨z, its, n, r, hl, e⟩ := I.lstM hH
  refine call_meets F.slot_list_append ⟨_, e, rfl⟩ F.entry_list_append (F.args_list_append_2 _ _) (PySem.list_append l its.toArray n u (by rw [List.size_toArray]; omega)) ⟨e, ?_⟩
  refine ⟨.non, _, I.lset (its' := its ++ [u]) hH e (by simp) (r.append (.cons ru .nil)) ?_, rfl, q⟩
  rw [List.length_append, List.length_singleton]
  omega

def rExtend : V → List V → Hp → VK → Prop := fun x vs H Q => ∃ l b xs zs, x = .ref l ∧ vs = [.ref b] ∧ H l = some (.lst xs) ∧ H b = some (.lst zs) ∧ xs.length + zs.length ≤ sizeLine ∧ Q .non (upd H l (.lst (xs ++ zs)))
theorem mt_extend : MtM X "list.extend" rExtend := by
  intro pins s σ H x vs v us Q I rx rv h
  obtain ⟨l, b, xs, zs, rfl, rfl, hH, hB, hz, q⟩ := h
  cases rx
  obtain ⟨u, rfl, ru⟩ := rv.one
  cases ru
  obtain ⟨z, its, n, r, hl, e⟩ := I.lstM hH
  obtain ⟨z2, its2, n2, r2, hl2, e2⟩ := I.lstM hB
  have hsz : its.toArray.size + its2.toArray.size ≤ sizeLine := by rw [List.size_toArray, List.size_toArray]; omega
  have hlong : ¬ (!its.toArray.isEmpty && Builtin.List.listTooLong (its.toArray.size + its2.toArray.size)) = true := by
    rw [notLongL hsz, Bool.and_false]
    exact Bool.false_ne_true
  refine call_meets F.slot_list_extend ⟨_, e, rfl⟩ F.entry_list_extend (F.args_list_extend_2 _ _)
    (AutoSeq1.list_extend_list_list_0 l its.toArray n b its2.toArray n2 hlong (by rw [List.size_toArray]; omega) (by omega)) ⟨e, e2, ?_⟩
  refine ⟨.non, _, I.lset (its' := its ++ its2) hH e (by simp) (r.append r2) ?_, rfl, q⟩
  rw [List.length_append]
  omega

def rPop : V → List V → Hp → VK → Prop := fun x vs H Q => ∃ l xs y, x = .ref l ∧ vs = [] ∧ H l = some (.lst xs) ∧ xs[xs.length - 1]? = some y ∧ Q y (upd H l (.lst xs.dropLast))
theorem mt_pop : MtM X "list.pop" rPop := by
  intro pins s σ H x vs v us Q I rx rv h
  obtain ⟨l, xs, y, rfl, rfl, hH, hy, q⟩ := h
  cases rx
  have hus := rv.zero
  subst hus
  obtain ⟨z, its, n, r, hl, e⟩ := I.lstM hH
  obtain ⟨u, hu, ru⟩ := r.get hy
  have hy' : its.toArray[its.toArray.size - 1]? = some u := by
    show its.toArray[its.length - 1]? = some u
    rw [← Array.getElem?_toList, ← hl]
    exact hu
  refine call_meets F.slot_list_pop ⟨_, e, rfl⟩ F.entry_list_pop (F.args_list_pop_1 _) (MeetsSeq.list_pop_last l its.toArray n u hy' (by rw [List.size_toArray]; omega)) ⟨e, ?_⟩
  refine ⟨y, _, I.lset (its' := its.dropLast) hH e ?_ r.dropLast ?_, ru, q⟩
  · show its.toArray.eraseIdxIfInBounds (its.toArray.size - 1) = its.dropLast.toArray
    rw [List.size_toArray, List.eraseIdxIfInBounds_toArray, erase_last]
  · rw [List.length_dropLast]
    omega

def rPopAt : V → List V → Hp → VK → Prop := fun x vs H Q => ∃ l xs i k y, x = .ref l ∧ vs = [.int i] ∧ H l = some (.lst xs) ∧ -(2 ^ 63) ≤ i ∧ i < 2 ^ 63 ∧ seqIndex? i xs.length = some k ∧ xs[k]? = some y ∧ Q y (upd H l (.lst (xs.eraseIdx k)))
theorem mt_popAt : MtM X "list.pop" rPopAt := by
  intro pins s σ H x vs v us Q I rx rv h
  obtain ⟨l, xs, i, k, y, rfl, rfl, hH, h1, h2, hk, hy, q⟩ := h
  cases rx
  obtain ⟨u, rfl, ru⟩ := rv.one
  obtain ⟨t, rfl⟩ := ru
  obtain ⟨z, its, n, r, hl, e⟩ := I.lstM hH
  obtain ⟨w, hw, rw'⟩ := r.get hy
  refine call_meets F.slot_list_pop ⟨_, e, rfl⟩ F.entry_list_pop (F.args_list_pop_2 _ _)
    (MeetsSeq.list_pop_at l its.toArray n i t k w (fitsIndex_both h1 h2) (by rw [List.size_toArray, ← hl]; exact hk) (by rw [← Array.getElem?_toList]; exact hw) (by rw [List.size_toArray]; omega)) ⟨e, ?_⟩
  refine ⟨y, _, I.lset (its' := its.eraseIdx k) hH e ?_ (r.eraseIdx k) ?_, rw', q⟩
  · show its.toArray.eraseIdxIfInBounds k = (its.eraseIdx k).toArray
    rw [List.eraseIdxIfInBounds_toArray]
  · have := len_erase xs k
    omega

def rReverse : V → List V → Hp → VK → Prop := fun x vs H Q => ∃ l xs, x = .ref l ∧ vs = [] ∧ H l = some (.lst xs) ∧ Q .non (upd H l (.lst xs.reverse))
theorem mt_reverse : MtM X "list.reverse" rReverse := by
  intro pins s σ H x vs v us Q I rx rv h
  obtain ⟨l, xs, rfl, rfl, hH, q⟩ := h
  cases rx
  have hus := rv.zero
  subst hus
  obtain ⟨z, its, n, r, hl, e⟩ := I.lstM hH
  refine call_meets F.slot_list_reverse ⟨_, e, rfl⟩ F.entry_list_reverse (F.args_list_reverse_1 _) (AutoSeq1.list_reverse_list_0 l its.toArray n (by rw [List.size_toArray]; omega)) ⟨e, ?_⟩
  refine ⟨.non, _, I.lset (its' := its.reverse) hH e (by simp) r.reverse ?_, rfl, q⟩
  rw [List.length_reverse]
  omega

def rClear : V → List V → Hp → VK → Prop := fun x vs H Q => ∃ l xs, x = .ref l ∧ vs = [] ∧ H l = some (.lst xs) ∧ Q .non (upd H l (.lst []))
theorem mt_clear : MtM X "list.clear" rClear := by
  intro pins s σ H x vs v us Q I rx rv h
  obtain ⟨l, xs, rfl, rfl, hH, q⟩ := h
  cases rx
  have hus := rv.zero
  subst hus
  obtain ⟨z, its, n, r, hl, e⟩ := I.lstM hH
  refine call_meets F.slot_list_clear ⟨_, e, rfl⟩ F.entry_list_clear (F.args_list_clear_1 _) (AutoSeq1.list_clear_list_0 l its.toArray n (by rw [List.size_toArray]; omega)) ⟨e, ?_⟩
  exact ⟨.non, _, I.lset (its' := []) (ys := []) hH e rfl .nil (Nat.zero_le _), rfl, q⟩

/-! ### list + list, list += list, list * int -/
def rCat : R2 := fun x y H Q => ∃ l b xs zs, x = .ref l ∧ y = .ref b ∧ H l = some (.lst xs) ∧ H b = some (.lst zs) ∧ xs.length + zs.length ≤ sizeLine ∧ ∀ p, H p = none → Q (.ref p) (upd H p (.lst (xs ++ zs)))
theorem op_cat : OpR X (binaryOp .Add) rCat := by
  intro pins s σ H x y v u Q I rx ry h
  obtain ⟨l, b, xs, zs, rfl, rfl, hH, hB, hz, q⟩ := h
  cases rx
  cases ry
  obtain ⟨z, its, n, r, hl, e⟩ := I.lstM hH
  obtain ⟨z2, its2, n2, r2, hl2, e2⟩ := I.lstM hB
  refine PySem.P.add_list e e2 ?_ (by rw [List.size_toArray, List.size_toArray]; omega)
  have ea : its.toArray ++ its2.toArray = (its ++ its2).toArray := by simp
  rw [ea]
  exact ⟨.ref _, _, I.lnew (t' := s.toks) (r.append r2) (by rw [List.length_append]; omega), rfl, q _ I.fresh⟩
/-- a list times an int (a negative one is nothing) -/
def rRep : R2 := fun x y H Q => ∃ l k xs, x = .ref l ∧ y = .int k ∧ H l = some (.lst xs) ∧ -(2 ^ 63) ≤ k ∧ k < 2 ^ 63 ∧ xs.length * k.toNat ≤ sizeLine ∧
  ∀ p, H p = none → Q (.ref p) (upd H p (.lst (List.replicate k.toNat xs).flatten))
theorem len_rep {α : Type} (xs : List α) (k : Nat) : (List.replicate k xs).flatten.length = k * xs.length := by
  induction k with
  | zero => simp
  | succ k ih => rw [List.replicate_succ, List.flatten_cons, List.length_append, ih, Nat.succ_mul, Nat.add_comm]
theorem op_rep : OpR X (binaryOp .Mult) rRep := by
  intro pins s σ H x y v u Q I rx ry h
  obtain ⟨l, k, xs, rfl, rfl, hH, h1, h2, hz, q⟩ := h
  cases rx
  obtain ⟨t, rfl⟩ := ry
  obtain ⟨z, its, n, r, hl, e⟩ := I.lstM hH
  have hlen : its.toArray.size * k.toNat ≤ sizeLine := by rw [List.size_toArray, ← hl]; exact hz
  have hcap : ¬ its.toArray.size * k.toNat > (2 ^ 63 - 1) / 8 := by
    have : (sizeLine : Nat) ≤ (2 ^ 63 - 1) / 8 := by decide
    omega
  have hfit : ¬ (!Builtin.List.listFitsIndex k) = true := by
    rw [fitsIndex_both h1 h2]
    exact Bool.false_ne_true
  have hlong : ¬ Builtin.List.listTooLong (its.toArray.size * k.toNat) = true := by
    rw [notLongL hlen]
    exact Bool.false_ne_true
  have hnew : List.foldl (fun x1 x2 => x1 ++ x2) #[] (List.replicate (if its.toArray.isEmpty = true then 0 else k.toNat) its.toArray) = (List.replicate k.toNat its).flatten.toArray := by
    have f0 : ∀ m : Nat, List.foldl (fun x1 x2 => x1 ++ x2) #[] (List.replicate m its.toArray) = (List.replicate m its).flatten.toArray := fun m => by
      have := foldl_rep its m []
      rw [List.nil_append] at this
      exact this
    rw [f0]
    cases its with
    | nil => simp
    | cons a r' => rw [if_neg (by simp)]
  refine wpAny_binaryOp_repeat_ref (T := "list") (U := "int") (by decide) ⟨_, e, rfl⟩ (fun s' => typeIs_int s' k t) noFill_list_mul F.fills_int_mul F.slot_int_rmul repeat_list F.slot_int_index.lookup
    (call_meets F.slot_int_rmul (typeIs_int s k t) F.entry_int_rmul (F.args_int_rmul_2 _ _) (int___rmul___int_list k t l its.toArray n)
      ⟨e, rfl, ⟨_, e, rfl⟩, call_meets F.slot_list_mul ⟨_, e, rfl⟩ F.entry_list_mul (F.args_list_mul_2 _ _) (AutoListH.list___mul___list_int_3 l its.toArray n k t hfit hcap hlong) ⟨e, ?_⟩⟩)
  rw [hnew]
  exact ⟨.ref _, _, I.lnew (t' := s.toks) (r.rep k.toNat) (by rw [len_rep, Nat.mul_comm]; exact hz), rfl, q _ I.fresh⟩

/-! ### del xs[i] -/
theorem del_list {pins : List (Addr × Obj)} {s : Shared} {σ : St} {H : Hp} {l : Addr} {xs : List V} {i : Int} {t : Tok} {k : Nat} {Q : Unit → Shared → Prop} (I : Inv X pins σ H s) (hH : H l = some (.lst xs))
    (h1 : -(2 ^ 63) ≤ i) (h2 : i < 2 ^ 63) (hk : seqIndex? i xs.length = some k) (h : ∀ s', Inv X pins σ (upd H l (.lst (xs.eraseIdx k))) s' → Q () s') :
    wpAny (model X.prog X.w) X.A (delItem (.ref l) (.int i t)) Q X.xe s := by
  obtain ⟨z, its, n, r, hl, e⟩ := I.lstM hH
  refine PySem.P.delItem_list (k := k) e (fitsIndex_both h1 h2) (by rw [List.size_toArray, ← hl]; exact hk) (h _ ?_) (by rw [List.size_toArray]; omega)
  refine I.lset (its' := its.eraseIdx k) (t' := s.toks) hH e ?_ (r.eraseIdx k) ?_
  · show its.toArray.eraseIdxIfInBounds k = (its.eraseIdx k).toArray
    rw [List.eraseIdxIfInBounds_toArray]
  · have := len_erase xs k
    omega
end

/-! ### xs[a:b] = ys -/
section
variable {prog : Program} {w : World} {A : Around} {E : Value → Shared → Prop} {s : Shared}
theorem splice_eq (its its2 : List Value) (a c : Nat) : its.toArray.extract 0 a ++ its2.toArray ++ its.toArray.extract c its.toArray.size = (its.take a ++ its2 ++ its.drop c).toArray := by
  apply Array.toList_inj.mp
  first
    | (simp
       exact List.take_of_length_le (by simp))
    | simp [List.take_of_length_le]
    | simp
theorem bounds_run {a c n : Nat} (hac : a ≤ c) (hc : c ≤ n) : sliceBounds (some (a : Int)) (some (c : Int)) none n = ((a : Int), (c : Int), 1) := by
  simp only [sliceBounds, Option.getD_none]
  have h1 : ¬ ((a : Int) < 0) := by omega
  have h2 : ¬ ((c : Int) < 0) := by omega
  simp only [h1, h2, if_false, show (1 : Int) > 0 by decide, if_true]
  congr 1
  · omega
  · congr 1; omega
set_option maxRecDepth 100000 in
/-- list.__setitem__ with a slice of step one and another list -/
theorem setItem_slice {l b sl : Addr} {items new : Array Value} {n n2 : Nat} {vl vu : Value} {a c : Nat} {Q : Unit → Shared → Prop}
    (e : s.heap.get? l = some { cls := .type "list", data := .seq items n }) (e2 : s.heap.get? b = some { cls := .type "list", data := .seq new n2 }) (hne : l ≠ b)
    (hs : s.heap.IsSliceOf sl vl vu .none) (pl : IsPart vl (some (a : Int))) (pu : IsPart vu (some (c : Int))) (hac : a ≤ c) (hc : c ≤ items.size)
    (hsz : items.size + new.size ≤ sizeLine) (h : Q () { s with heap := s.heap.update l (Obj.mapSeq fun xs => xs.extract 0 a ++ new ++ xs.extract c xs.size) }) :
    wpAny (model prog w) A (setItem (.ref l) (.ref sl) (.ref b)) Q E s := by
  have hl : s.heap.IsList l items := PySem.IsL.isList e
  have hb : s.heap.IsList b new := PySem.IsL.isList e2
  obtain ⟨os, hos, hcs, hds⟩ := id hs
  have hTs : s.TypeIs (.ref sl) "slice" := ⟨os, hos, hcs⟩
  have hstep : ¬ ((rawPart none == rawInt 0) = true) := Bool.false_ne_true
  have hsame : Builtin.List.listSameRef (.ref l) (.ref b) = false := by
    unfold Builtin.List.listSameRef
    exact beq_eq_false_iff_ne.mpr hne
  have hmax : (max (a : Int) (c : Int)).toNat = c := by omega
  have hz' : ((fun xs : Array Value => xs.extract 0 a ++ new ++ xs.extract c xs.size) items).size ≤ sizeLine + 1 := by
    simp only [Array.size_append, Array.size_extract]
    omega
  unfold setItem
  try with_reducible refine wpAny_holding ?_
  first | refine wpAny_bind (wpAny_pure ?_) | skip
  refine wpAny_bind (wpAny_sequenceKey hl.typeIs (by decide) ?_)
  refine wpAny_bind (wpAny_callSpecial?_slot (name := Str.ofString "__setitem__") hl.typeIs slot_list_setitem
    (wpAny_call_entry slot_list_setitem hl.typeIs entry_list_setitem ?_ (args_list_setitem _ _ _)))
  show wpAny _ _ (Builtin.List.listSubscript? (.ref sl) >>= _) _ _ s
  refine wpAny_bind ?_
  unfold Builtin.List.listSubscript?
  refine wpAny_bind (wpAny_specialOf hTs slice_no_index ?_)
  simp only [Option.isNone_none, if_true]
  refine wpAny_pure ?_
  show wpAny _ _ (typeOf (.ref sl) >>= _) _ _ s
  refine wpAny_bind (wpAny_typeOf hTs ?_)
  first
    | rw [if_neg (by decide)]
    | refine PySem.W.KFB.if_not (by decide) ?_
  rw [listSliceParts_eq]
  refine wpAny_bind (wpAny_bind (wpAny_field hos hds (x := .none) rfl (wpAny_bind (wpAny_listPart .none ?_))))
  rw [if_neg hstep]
  refine wpAny_bind (wpAny_field hos hds (x := vl) rfl (wpAny_bind (wpAny_listPart pl ?_)))
  refine wpAny_bind (wpAny_field hos hds (x := vu) rfl (wpAny_bind (wpAny_listPart pu (wpAny_pure ?_))))
  first
    | simp only [hsame, Bool.false_eq_true, if_false]
    | refine PySem.W.KFB.if_not hsame ?_
    | (dsimp only
       rw [if_neg (by rw [hsame]; exact Bool.false_ne_true)])
  refine wpAny_bind (m := Builtin.List.listAllItems (.ref b) "must assign iterable to extended slice") ?_
  unfold Builtin.List.listAllItems
  refine wpAny_bind (wpAny_typeOf hb.typeIs ?_)
  first
    | refine PySem.W.KFB.if_so (by decide) ?_
    | rw [if_pos (by decide)]
    | simp only [beq_self_eq_true, Bool.true_or, if_true]
  unfold Builtin.List.listItems
  refine wpAny_bind (wpAny_seqItems e2 rfl (wpAny_pure ?_))
  refine wpAny_bind (wpAny_bind (wpAny_seqItems e rfl (wpAny_pure ?_)))
  refine wpAny_bind (wpAny_of_eq ((sliceIndices_raw (some (a : Int)) (some (c : Int)) none items.size (by simp)).trans (congrArg (pure : Int × Int × Int → Sem (Int × Int × Int)) (bounds_run hac hc))) ?_)
  show wpAny _ _ (if ((1 : Int) == 1) = true then _ else _) _ _ s
  rw [if_pos (by decide)]
  refine wpAny_bind (wpAny_rule ?_)
  first
    | simp only [notLongL hsz, Bool.false_eq_true, if_false]
    | refine PySem.W.KFB.if_not (notLongL hsz) ?_
  first | refine wpAny_bind (wpAny_pure ?_) | skip
  show wpAny _ _ (updateSeq l (fun xs => xs.extract 0 ((a : Int)).toNat ++ new ++ xs.extract (max (a : Int) (c : Int)).toNat xs.size) >>= _) _ _ s
  rw [hmax, Int.toNat_natCast]
  refine wpAny_bind (wpAny_updateSeq (hz := Nat.le_trans (Nat.le_add_right _ _) hsz) (_hz' := hz') e rfl ?_)
  refine wpAny_bind (wpAny_letGo ?_)
  first
    | exact wpAny_bind (wpAny_pure (wpAny_pure ⟨.none, rfl, wpAny_pure h⟩))
    | exact wpAny_pure ⟨.none, rfl, wpAny_pure h⟩
end

section
variable {X : Cx}
/-- xs[a:c] = ys of another list, at the value level: sl is the slice object that was just made -/
theorem set_slice {pins : List (Addr × Obj)} {s : Shared} {σ : St} {H : Hp} {l b sl : Addr} {xs ys : List V} {a c : Int} {vl vu : Value} {Q : Unit → Shared → Prop} (I : Inv X pins σ H s)
    (hH : H l = some (.lst xs)) (hB : H b = some (.lst ys)) (hne : l ≠ b) (hs : s.heap.IsSliceOf sl vl vu .none) (ra : RelV (.int a) vl) (rc : RelV (.int c) vu) (h0 : 0 ≤ a) (hac : a ≤ c) (hc : c ≤ xs.length)
    (hz : xs.length + ys.length ≤ sizeLine) (h : ∀ s', Inv X pins σ (upd H l (.lst (xs.take a.toNat ++ ys ++ xs.drop c.toNat))) s' → Q () s') :
    wpAny (model X.prog X.w) X.A (setItem (.ref l) (.ref sl) (.ref b)) Q X.xe s := by
  obtain ⟨ta, rfl⟩ := ra
  obtain ⟨tc, rfl⟩ := rc
  obtain ⟨z, its, n, r, hl, e⟩ := I.lstM hH
  obtain ⟨z2, its2, n2, r2, hl2, e2⟩ := I.lstM hB
  obtain ⟨a', rfl⟩ := Int.eq_ofNat_of_zero_le h0
  obtain ⟨c', rfl⟩ := Int.eq_ofNat_of_zero_le (Int.le_trans h0 hac)
  simp only [Int.toNat_natCast] at h
  refine setItem_slice (a := a') (c := c') e e2 hne hs (.int _ _) (.int _ _) (by omega) (by rw [List.size_toArray]; omega) (by rw [List.size_toArray, List.size_toArray]; omega) (h _ ?_)
  refine I.lset (its' := its.take a' ++ its2 ++ its.drop c') (t' := s.toks) hH e ?_ (Vals.append (Vals.append (r.take _) r2) (r.drop _)) ?_
  · exact splice_eq its its2 a' c'
  · rw [List.length_append, List.length_append, List.length_take, List.length_drop]
    omega
end
end L2

namespace Att
open PySem PySem.W PySem.Calls PyProof.Rows

/-! ### the script -/
theorem ints_of_wellAll {P : Params} {h : Heap} : ∀ (ns : List Int) (vs : List Value), WellAll P h vs (ns.map WData.int) → IntsAre vs ns := by
  intro ns
  induction ns with
  | nil =>
    intro vs w
    rw [List.map_nil] at w
    cases w
    exact .nil
  | cons n ns ih =>
    intro vs w
    rw [List.map_cons] at w
    cases w with
    | cons a b =>
      cases a
      exact .cons _ _ (ih _ b)

theorem script_of {l : OpenLaw} {n : Nat} (hn : l.most = some n) {P : Params} {h : Heap} {args : List WData} {vals : List Value}
    (hpre : l.row.toRowW.claim.pre args = true) (hwl : WellAll P h vals args) :
    ∃ a vs ns, vals = [Value.ref a] ∧ args = [WData.list (ns.map WData.int)] ∧ h.get? a = some { cls := .type "list", data := .seq vs.toArray } ∧ IntsAre vs ns ∧ ns.length ≤ n := by
  have hsh : WShape.hasAll [] args [.list .int] = true := (pre_splitW hpre).1
  have hc : l.pre.holds [] { args := args } = true := (pre_splitW hpre).2
  obtain ⟨d, r, rfl, h1, h2⟩ := hasAllW_cons hsh
  obtain rfl := hasAllW_nil h2
  obtain ⟨xs, rfl, h3⟩ := hasW_list h1
  obtain ⟨ns, rfl⟩ := items_int h3
  have hlen : ns.length ≤ n := by
    unfold OpenLaw.pre at hc
    have h4 : (WTm.not (.lt (.lit (.int (n : Int))) (.len (.arg 0)))).holds [] { args := [.list (ns.map .int)] } = true := by
      have h4 := (holds_andW hc).1
      rw [hn] at h4
      exact h4
    have h5 := condW_of h4 (w_not (w_lt w_lit (w_len_list (w_arg rfl))))
    rw [List.length_map] at h5
    refine Nat.le_of_not_lt fun q => ?_
    have q' : (n : Int) < ((ns.length : Nat) : Int) := by omega
    first
      | (rw [decide_eq_true q'] at h5; exact absurd h5 (by decide))
      | (simp at h5; omega)
  cases hwl with
  | cons w1 w2 =>
    cases w2
    cases w1 with
    | list ho hall => exact ⟨_, _, ns, rfl, rfl, ho, ints_of_wellAll ns _ hall, hlen⟩

theorem post_true (l : OpenLaw) (args : List WData) : l.row.toRowW.claim.post args (.bool true) args = true :=
  postW_of (r := l.row.toRowW) (X := (true == true))
    (show WShape.has [] (.bool true) .bool = true by first | rfl | decide | simp [WShape.has, WShape.arms, WShape.armsAll])
    (show (WTm.eq .res (.lit (.bool true))).value [] { args := args, res := some (.bool true), after := args } = some (.bool (true == true)) from w_eq_bool (w_res rfl) w_lit) rfl

/-! ### the attachment: holds_open's last premise (the goal 'hc' behind k_head) from a wpAny of the law's body -/
theorem attach {l : OpenLaw} {n : Nat} {q : Program} {loose : List Str} {XP : (Str → Option Value) → Heap → Prop} {YP : World → Heap → Prop} {d : DefRec} {x : Str}
    (hn : l.most = some n) (hdf : d.params.defaults = [])
    (hbind : ∀ pm cd doc v : Value, bindArgs (docDef d.name d.params d.body d.scope pm cd doc) ⟨[v], []⟩ = pure [(x, v)])
    (hx : d.scope.names.lookup x = some .local ∨ d.scope.names.lookup x = some .cell)
    (hk : d.scope.kind = .function) (hco : d.scope.isCoroutine = false) (hgen : d.scope.isGenerator = false)
    (body : ∀ (w : World) (s₀ s₁ s : Shared) (mg mb : Str → Option Value) (fa : Addr) (o : Obj) (pm cd doc : Value) (a : Addr) (vs : List Value) (ns : List Int),
      Ground q loose [] XP w s₀ mg mb s₁.heap → YP w s₁.heap →
      s₁.heap.get? fa = some o → o.data = .func (docDef d.name d.params d.body d.scope pm cd doc) → s₁.heap.CodeRec cd d.name → mg d.name = some (.ref fa) →
      s₁.heap.get? a = some { cls := .type "list", data := .seq vs.toArray } → IntsAre vs ns → ns.length ≤ n →
      s.gens = #[] → s.os = s₁.os →
      Fr s₁.heap s₁.heap.objs.size s.heap (bindL (envOfC d.name d.scope s₁.heap.objs.size fa cd).kindOf [(x, .ref a)] fun _ => none) →
      Cl s₁.heap.objs.size (cellsFrom (s₁.heap.objs.size + 1) d.scope.names []) s.heap (bindC (envOfC d.name d.scope s₁.heap.objs.size fa cd).kindOf [(x, .ref a)] fun _ => none) →
      wpAny (model l.prog w) (callerA.deeper (envOfC d.name d.scope s₁.heap.objs.size fa cd)) (execs d.body (envOfC d.name d.scope s₁.heap.objs.size fa cd))
        (fun f s' => f = .ret (.bool true) ∧ OldK s₁.heap s'.heap ∧ s'.os = s₁.os ∧ AllBare s'.gens) (fun _ _ => False) s) :
    WalkO q loose XP YP l.row.toRowW d [] (fun f vs => PySem.call f vs) := by
  intro w s₀ s₁ mg mb G Y fa o pm cd doc dV kV ho hd hcd hD hmg hg args vals as hpre hlay hrd hwl hlo
  obtain rfl : dV = .none := Dflts.none hD hdf
  obtain rfl : kV = .none := Dflts.noKw hD
  obtain ⟨a, vs, ns, rfl, rfl, hobj, hints, hlen⟩ := script_of hn hpre hwl
  refine enter_call ?_
  refine call_cells_ret (o := o) (by rw [depth_caller]; decide) ho (fd_plain hd) G.T.nolimit hcd (hbind pm cd doc (.ref a)) (fun y hy => ?_) (fun h₁ tk F X => ?_) hco hgen hk
  · obtain rfl : y = (x, Value.ref a) := List.mem_singleton.mp hy
    rcases hx with e | e
    · exact .inl e
    · exact .inr ⟨e, cellsFrom_some _ _ _ (.inl e)⟩
  · refine wpAny_mono (body w s₀ s₁ { s₁ with heap := h₁, toks := tk } mg mb fa o pm cd doc a vs ns G Y ho (fd_plain hd) hcd hmg hobj hints hlen hg rfl F X) (fun f s' hq => ?_) (fun _ _ hq => hq)
    obtain ⟨rfl, h2, h3, h4⟩ := hq
    exact ⟨.inl ⟨.bool true, .bool true, [], rfl, fun _ => rfl, .bool true, post_true l _, fun _ => ⟨List.Pairwise.nil, fun _ hm => (nomatch hm)⟩⟩, h2, h3, h4⟩

/-- the same from a codeAny of the CALL (for a layer whose function contracts speak of calls) -/
theorem attach_call {l : OpenLaw} {n : Nat} {q : Program} {loose : List Str} {XP : (Str → Option Value) → Heap → Prop} {YP : World → Heap → Prop} {d : DefRec}
    (hn : l.most = some n) (hdf : d.params.defaults = [])
    (call : ∀ (w : World) (s₀ s₁ : Shared) (mg mb : Str → Option Value) (fa : Addr) (o : Obj) (pm cd doc : Value) (a : Addr) (vs : List Value) (ns : List Int),
      Ground q loose [] XP w s₀ mg mb s₁.heap → YP w s₁.heap →
      s₁.heap.get? fa = some o → o.data = .func (docDef d.name d.params d.body d.scope pm cd doc) → s₁.heap.CodeRec cd d.name → mg d.name = some (.ref fa) →
      s₁.heap.get? a = some { cls := .type "list", data := .seq vs.toArray } → IntsAre vs ns → ns.length ≤ n → s₁.gens = #[] →
      codeAny (model l.prog w) callerA (.call (.ref fa) ⟨[.ref a], []⟩) (fun r s' => r = .ok (.ret (.bool true)) ∧ OldK s₁.heap s'.heap ∧ s'.os = s₁.os ∧ AllBare s'.gens) s₁) :
    WalkO q loose XP YP l.row.toRowW d [] (fun f vs => PySem.call f vs) := by
  intro w s₀ s₁ mg mb G Y fa o pm cd doc dV kV ho hd hcd hD hmg hg args vals as hpre hlay hrd hwl hlo
  obtain rfl : dV = .none := Dflts.none hD hdf
  obtain rfl : kV = .none := Dflts.noKw hD
  obtain ⟨a, vs, ns, rfl, rfl, hobj, hints, hlen⟩ := script_of hn hpre hwl
  refine enter_call (codeAny_mono (call w s₀ s₁ mg mb fa o pm cd doc a vs ns G Y ho (fd_plain hd) hcd hmg hobj hints hlen hg) fun r s' hq => ?_)
  obtain ⟨rfl, h2, h3, h4⟩ := hq
  exact ⟨.inl ⟨.bool true, .bool true, [], rfl, fun _ => rfl, .bool true, post_true l _, fun _ => ⟨List.Pairwise.nil, fun _ hm => (nomatch hm)⟩⟩, h2, h3, h4⟩

/-- the same where the top left finished generators (o_head chose holds_openN): nothing may have changed at all and no generator may be left -/
theorem attachN {l : OpenLaw} {n : Nat} {q : Program} {loose : List Str} {XP : (Str → Option Value) → Heap → Prop} {YP : World → Heap → Prop} {d : DefRec} {x : Str}
    (hn : l.most = some n) (hdf : d.params.defaults = [])
    (hbind : ∀ pm cd doc v : Value, bindArgs (docDef d.name d.params d.body d.scope pm cd doc) ⟨[v], []⟩ = pure [(x, v)])
    (hx : d.scope.names.lookup x = some .local ∨ d.scope.names.lookup x = some .cell)
    (hk : d.scope.kind = .function) (hco : d.scope.isCoroutine = false) (hgen : d.scope.isGenerator = false)
    (body : ∀ (w : World) (s₀ s₁ s : Shared) (mg mb : Str → Option Value) (fa : Addr) (o : Obj) (pm cd doc : Value) (a : Addr) (vs : List Value) (ns : List Int),
      Ground q loose [] XP w s₀ mg mb s₁.heap → YP w s₁.heap →
      s₁.heap.get? fa = some o → o.data = .func (docDef d.name d.params d.body d.scope pm cd doc) → s₁.heap.CodeRec cd d.name → mg d.name = some (.ref fa) →
      s₁.heap.get? a = some { cls := .type "list", data := .seq vs.toArray } → IntsAre vs ns → ns.length ≤ n →
      s.gens = #[] → s.os = s₁.os →
      Fr s₁.heap s₁.heap.objs.size s.heap (bindL (envOfC d.name d.scope s₁.heap.objs.size fa cd).kindOf [(x, .ref a)] fun _ => none) →
      Cl s₁.heap.objs.size (cellsFrom (s₁.heap.objs.size + 1) d.scope.names []) s.heap (bindC (envOfC d.name d.scope s₁.heap.objs.size fa cd).kindOf [(x, .ref a)] fun _ => none) →
      wpAny (model l.prog w) (callerA.deeper (envOfC d.name d.scope s₁.heap.objs.size fa cd)) (execs d.body (envOfC d.name d.scope s₁.heap.objs.size fa cd))
        (fun f s' => f = .ret (.bool true) ∧ (∀ b o, s₁.heap.get? b = some o → s'.heap.get? b = some o) ∧ s'.os = s₁.os ∧ s'.gens = #[]) (fun _ _ => False) s) :
    WalkN q loose XP YP l.row.toRowW d [] (fun f vs => PySem.call f vs) := by
  intro w s₀ s₁ mg mb G Y fa o pm cd doc dV kV ho hd hcd hD hmg hg args vals as hpre hlay hrd hwl hlo
  obtain rfl : dV = .none := Dflts.none hD hdf
  obtain rfl : kV = .none := Dflts.noKw hD
  obtain ⟨a, vs, ns, rfl, rfl, hobj, hints, hlen⟩ := script_of hn hpre hwl
  refine enter_callW ?_
  refine call_cells_ret (o := o) (by rw [depth_caller]; decide) ho (fd_plain hd) G.T.nolimit hcd (hbind pm cd doc (.ref a)) (fun y hy => ?_) (fun h₁ tk F X => ?_) hco hgen hk
  · obtain rfl : y = (x, Value.ref a) := List.mem_singleton.mp hy
    rcases hx with e | e
    · exact .inl e
    · exact .inr ⟨e, cellsFrom_some _ _ _ (.inl e)⟩
  · refine wpAny_mono (body w s₀ s₁ { s₁ with heap := h₁, toks := tk } mg mb fa o pm cd doc a vs ns G Y ho (fd_plain hd) hcd hmg hobj hints hlen hg rfl F X) (fun f s' hq => ?_) (fun _ _ hq => hq)
    obtain ⟨rfl, h2, h3, h4⟩ := hq
    exact ⟨.inl ⟨.bool true, .bool true, [], rfl, fun _ => rfl, .bool true, post_true l _, fun _ => ⟨List.Pairwise.nil, fun _ hm => (nomatch hm)⟩⟩, h2, h3, h4⟩

/-! ### rules over ANY heap (no ledger) from facts about the written part K: the library's own take a ledger (News) for what they write -/
section
variable {prog : Program} {w : World} {A : Around} {E : Value → Shared → Prop} {s : Shared} {K : Frag}

/-- a def of the module, or a method (qual 'C.m'), entered: the frame is the next address; cells behind it -/
theorem call_fn {R : Result → Shared → Prop} {name qual : Str} {params : Arguments} {body : List Stmt} {scope : Scope} {dV kV doc pm cdv ct oc : Value} {an od : Option Addr} {osl : Array (Option Value)} {f : Addr} {args : Args} {binds : List (Str × Value)}
    (X : K.In s.heap) (hlim : s.heap.NoLimit) (ho : K.lookup f = some ⟨oc, od, .func (fnOf name qual params body scope dV kV doc pm an cdv ct), osl⟩) (hcd : codeIn K cdv qual = true) (hroom : A.depth < recursionLimit)
    (hbind : BindsTo s (fnOf name qual params body scope dV kV doc pm an cdv ct) args binds)
    (hkind : (binds.all fun y => scope.names.lookup y.1 == some .local || scope.names.lookup y.1 == some .cell) = true)
    (h : ∀ s₁, InCallC s s.heap.objs.size (bindL (envOfC qual scope s.heap.objs.size f cdv).kindOf binds fun _ => none) (cellsFrom (s.heap.objs.size + 1) scope.names [])
        (bindC (envOfC qual scope s.heap.objs.size f cdv).kindOf binds fun _ => none) s₁ →
      wpAny (model prog w) (A.deeper (envOfC qual scope s.heap.objs.size f cdv)) (execs body (envOfC qual scope s.heap.objs.size f cdv))
        (fun fl s' => R (.ok (.ret (match fl with | .ret v => v | _ => .none))) s')
        (fun e s' => wpAny (model prog w) (A.deeper (envOfC qual scope s.heap.objs.size f cdv)) (leaving (envOfC qual scope s.heap.objs.size f cdv) e) (fun _ s'' => R (.error e) s'') (fun e' s'' => R (.error e') s'') s') s₁)
    (hco : scope.isCoroutine = false) (hgen : scope.isGenerator = false) (hk : scope.kind = .function) : codeAny (model prog w) A (.call (.ref f) args) R s := by
  refine codeAny_call_function hroom (X _ _ ho) rfl hco hgen rfl (codeRec_of X hcd) (hbind _ _ _ _ ?_)
  refine wpAny_newFunctionEnv_cells hk (kindsX hkind _) fun env he s₁ x => ?_
  subst he
  exact ⟨hlim.keeps x.toInCall.keep, codeAny_func (h s₁ x)⟩

/-- C(..): dict at size, instance at size + 1, then __init__ -/
theorem make_obj {R : Result → Shared → Prop} {C fI : Addr} {rest : List Value} {kw : List (Str × Value)}
    (X : K.In s.heap) (hm : makesIn K C = true) (hi : findIn K (.ref C) "__init__" = some (some (.ref fI))) (hf : isFn K (.ref fI) = true)
    (h : codeAny (model prog w) (A.under (.builtin "type.__call__" ⟨.ref C :: rest, kw⟩)) (.call (.ref fI) ⟨.ref (s.heap.objs.size + 1) :: rest, kw⟩) (InitBack (s.heap.objs.size + 1) R)
      { s with heap := (s.heap.push emptyDict).push (instObj C s.heap.objs.size) }) : codeAny (model prog w) A (.call (.ref C) ⟨rest, kw⟩) R s := by
  obtain ⟨hh, g, d, t, os⟩ := s
  exact make_core (makes_of X hm) (looks_findIn X hi) (fun self => bind_fn X self (beq_iff_eq.mp hf)) (.inl rfl) h

/-- x.name where the instance's dict holds the name and the class does not -/
theorem get_field {x C : Addr} {ox : Obj} {es : List DictEntry} {n : Nat} {name : Str} {expr : Bool} {v : Value} {Q : Value → Shared → Prop}
    (X : K.In s.heap) (I : PySem.W.InstAt s.heap x ox C (some (dictOf es n))) (hg : plainGet K C name = true) (hh : hasDictIn K C = true) (ha : findIn K (.ref C) name = some none)
    (hl : getL name es = some (some v)) (hv : handedIn v = true) (h : Q v { s with toks := s.toks + 1 }) : wpAny (model prog w) A (getAttr (.ref x) name expr) Q E s :=
  get_value X I (plainGet_of hg).1 (findObj_own hh ha rfl hl) hv h

/-- x.m(..): the method found in the class -/
theorem get_method {x C f : Addr} {ox : Obj} {es : List DictEntry} {n : Nat} {name : Str} {pl : Sem Bool} {Q : Value × List Value → Shared → Prop}
    (X : K.In s.heap) (I : PySem.W.InstAt s.heap x ox C (some (dictOf es n))) (hg : plainGet K C name = true) (hf : findIn K (.ref C) name = some (some (.ref f))) (ht : isFn K (.ref f) = true)
    (hl : getL name es = some none) (h : Q (.ref f, [.ref x]) s) : wpAny (model prog w) A (getMethod (.ref x) name pl) Q E s :=
  method_fn X I (plainGet_of hg).1 (plainGet_of hg).2 hf (beq_iff_eq.mp ht) (by show (lookIn name (dictOf es n)).map _ = _; rw [lookIn_dict, hl]; rfl) h

/-! the whole heap as the ledger: makes every rule that writes through a ledger a rule over any heap -/
def noObjs (h : Heap) : Heap := { h with objs := #[] }
theorem noObjs_get (h : Heap) (b : Addr) : (noObjs h).get? b = none := by
  cases e : (noObjs h).get? b with
  | none => rfl
  | some o => exact absurd (Heap.lt_size e) (Nat.not_lt_zero _)
def ledger (h : Heap) (L d : Addr) : List (Addr × Obj) := (List.range h.objs.size).filterMap fun a => if a = L ∨ a = d then none else (h.get? a).map fun o => (a, o)
theorem mem_ledger {h : Heap} {L d a : Addr} {o : Obj} : (a, o) ∈ ledger h L d ↔ a ≠ L ∧ a ≠ d ∧ h.get? a = some o := by
  unfold ledger
  rw [List.mem_filterMap]
  constructor
  · rintro ⟨b, _, e⟩
    split at e
    · cases e
    · rename_i hb
      obtain ⟨o', ho, e'⟩ := Option.map_eq_some_iff.mp e
      cases e'
      exact ⟨fun q => hb (.inl q), fun q => hb (.inr q), ho⟩
  · rintro ⟨n1, n2, ho⟩
    refine ⟨a, List.mem_range.mpr (Heap.lt_size ho), ?_⟩
    rw [if_neg (show ¬ (a = L ∨ a = d) from fun q => q.elim n1 n2), ho] <;> rfl
theorem news_ledger {h : Heap} {L d : Addr} {od : Obj} (hne : d ≠ L) (ho : h.get? d = some od) : News (noObjs h) L h ([] ++ (d, od) :: ledger h L d) := by
  rintro ⟨a, o⟩ hp
  rcases List.mem_cons.mp hp with e | hp
  · cases e
    exact ⟨ho, hne, noObjs_get _ _⟩
  · obtain ⟨n1, n2, e⟩ := mem_ledger.mp hp
    exact ⟨e, n1, noObjs_get _ _⟩
theorem fr_all {h : Heap} {L : Addr} {m : Str → Option Value} (n : h.Ns L m) : Fr (noObjs h) L h m :=
  ⟨n, fun b o e => (by rw [noObjs_get] at e; cases e), Nat.zero_le _⟩
/-- Upd of the head entry (for append_K, setItem_K ..) -/
theorem upd_ledger {h : Heap} {L d : Addr} {o o' : Obj} : Upd d o o' ((d, o) :: ledger h L d) ((d, o') :: ledger h L d) :=
  .head fun ⟨_, _⟩ hp => (mem_ledger.mp hp).2.1

/-- x.name = v over any heap: L is any namespace of the heap (the frame's, say): its map stays, its object is not told; all else but the dict stays -/
theorem set_field {x C dx L : Addr} {ox : Obj} {m : Str → Option Value} {es es' : List DictEntry} {n n' : Nat} {name : Str} {v : Value} {Q : Unit → Shared → Prop}
    (X : K.In s.heap) (I : PySem.W.InstAt s.heap x ox C (some (dictOf es n))) (hd : ox.dict = some dx) (hL : s.heap.Ns L m) (hne : dx ≠ L)
    (hs : findIn K (.ref C) "__setattr__" = some (some (.builtin "object.__setattr__"))) (hp : plainOver K C = true) (ht : takerIn K C name = some none) (hh : hasDictIn K C = true) (hl : (getL name es).isSome = true)
    (e : (putL name (PyData.keyHash w.params name) (.str name (s.toks + 1)) v es, putN name es n) = (es', n')) (hz : es'.length ≤ 1000)
    (h : ∀ h' : Heap, h'.Ns L m → h'.get? dx = some (dictOf es' n') → (∀ b o, b ≠ dx → b ≠ L → s.heap.get? b = some o → h'.get? b = some o) → Q () { s with heap := h', toks := s.toks + 2 }) :
    wpAny (model prog w) A (setAttr (.ref x) name v) Q E s := by
  obtain ⟨e1, e2⟩ := Prod.mk.inj e
  have hdx : s.heap.get? dx = some (dictOf es n) := by
    have := I.dict
    rw [hd] at this
    exact this
  refine set_plain X I hs (osa_dict (s := { s with toks := s.toks + 1 }) (h₀ := noObjs s.heap) (L := L) (m := m) (od := dictOf es n) (od' := dictOf es' n') (es := es') (n := n') (pre := []) (post := ledger s.heap L dx)
    (fr_all hL) (news_ledger hne hdx) X I hd hp ht hh hl (fun _ q => nomatch q) (fun ⟨_, _⟩ q => (mem_ledger.mp q).2.1) (by rw [putName_dict, e1, e2]) rfl hz fun h' F' N' => ?_)
  exact h h' F'.ns (N'.get (List.Mem.head _)) fun b o n1 n2 ho => N'.get (List.Mem.tail _ (mem_ledger.mpr ⟨n2, n1, ho⟩))
end
end Att

namespace L2
open PySem PySem.Spec PyProof.Rows

theorem vals_ints : ∀ {vs : List Value} {ns : List Int}, IntsAre vs ns → Vals (ns.map V.int) vs
  | _, _, .nil => .nil
  | _, _, .cons n t h => .cons ⟨t, rfl⟩ (vals_ints h)

/-- nothing is tracked but the script, known to the object (or it is an object of the module) -/
def Only (H : Hp) : Prop := ∀ b, H b = none ∨ ∃ o xs, H b = some (.frz o (.lst xs))

/-- THE HEAD: the law's promise, at the heap behind the top. F, the promise of the law's def, may use that base is part of the heap (so K.In base, base.Ns mainGlobals mg stand in Mod) -/
theorem law_call {P : Program} {w : World} {K : PySem.W.Frag} {mg mb : Str → Option Value} {CX : CXT} {k : Nat} {fa a : Addr} {fd : FuncData} {x : Str} {sp : Sp} {s₁ : Shared} {vs : List Value} {ns : List Int}
    (KX : K.In s₁.heap) (hns : s₁.heap.Ns mainGlobals mg) (hb : s₁.heap.Ns builtinsNs mb) (hbb : ∀ x : Str, x ≠ "__name__" → mb x = bootBuiltins x) (hlim : s₁.heap.NoLimit) (hg : s₁.gens = #[])
    (ha : s₁.heap.get? a = some { cls := .type "list", data := .seq vs.toArray }) (hi : IntsAre vs ns) (hl : ns.length ≤ sizeLine) (hr : Room k callerA)
    (F : ∀ base : Heap, K.In base → base.Ns mainGlobals mg → FnOk P w K mg base CX k fa fd [x] sp) (hbind : ∀ (s : Shared) (u : Value), BindsTo s fd ⟨[u], []⟩ [(x, u)])
    (hsp : ∀ H : Hp, Only H → SqL K H a (ns.map V.int) → sp [.ref a] H (fun v _ => v = .bl true) fun _ _ _ => False)
    (hCX : ∀ H e s', CX [] H s₁ (fun _ _ _ => False) e s' → False) :
    codeAny (model P w) callerA (.call (.ref fa) ⟨[.ref a], []⟩) (fun r s' => r = .ok (.ret (.bool true)) ∧ OldK s₁.heap s'.heap ∧ s'.os = s₁.os ∧ AllBare s'.gens) s₁ := by
  have rv := vals_ints hi
  have lenV := hi.length
  -- from an abstract heap in which nothing but the script may be tracked
  have core : ∀ H : Hp, Only H → SqL K H a (ns.map V.int) → HOk P w H s₁.heap → (∀ b, H b ≠ none → b = a) → (H a ≠ none → K.lookup a = none) →
      codeAny (model P w) callerA (.call (.ref fa) ⟨[.ref a], []⟩) (fun r s' => r = .ok (.ret (.bool true)) ∧ OldK s₁.heap s'.heap ∧ s'.os = s₁.os ∧ AllBare s'.gens) s₁ := by
    intro H hO hS hok hA hK
    have base_of : ∀ {b : Addr} {o : Obj}, s₁.heap.get? b = some o → H b = none → (hidT s₁.heap H).get? b = some o := fun e n => hidT_get e n
    have noA : ∀ {b : Addr} {o : Obj} {es : Array DictEntry} {ep : Nat}, s₁.heap.get? b = some o → o.data = .dict es ep → H b = none := fun {b o es ep} e d => by
      cases q : H b with
      | none => rfl
      | some u =>
        have e' : b = a := hA b (by rw [q]; simp)
        subst e'
        rw [ha] at e; cases e
        have d' : Data.seq vs.toArray _ = Data.dict es ep := d
        cases d'
    have nsK : ∀ {b : Addr} {m : Str → Option Value}, s₁.heap.Ns b m → (hidT s₁.heap H).Ns b m := fun {b m} ⟨o, es, ep, e, d, r⟩ => ⟨o, es, ep, base_of e (noA e d), d, r⟩
    have hKb : K.In (hidT s₁.heap H) := fun b o e => base_of (KX b o e) (by
      cases q : H b with
      | none => rfl
      | some u =>
        have e' : b = a := hA b (by rw [q]; simp)
        subst e'
        rw [hK (by rw [q]; simp)] at e; cases e)
    have hM : Mod K mg (hidT s₁.heap H) := ⟨hKb, nsK hns, ⟨mb, nsK hb, hbb⟩, let ⟨mc, h1, h2⟩ := hlim; ⟨mc, nsK h1, h2⟩⟩
    have e0 : Env0 P w K mg (hidT s₁.heap H) callerA [] s₁ H := ⟨rfl, hM, fun b o e => of_hidT e, Nat.le_of_eq (hidT_size _ _), trivial, fun b hb => absurd (show b ∈ ([] : List Addr) from hb) (by simp), hok, .of_eq hg⟩
    refine codeAny_mono ((F _ hKb (nsK hns)).run callerA [] s₁ H ⟨[.ref a], []⟩ [.ref a] [.ref a] _ _ hr e0 (hbind s₁ (.ref a)) (.cons rfl .nil) (hsp H hO hS)) fun r s' h => ?_
    cases r with
    | error e => exact (hCX H e s' h).elim
    | ok fl =>
      cases fl with
      | next => exact False.elim h
      | brk => exact False.elim h
      | cont => exact False.elim h
      | ret u =>
        obtain ⟨v, H', os, bare, un, hok', r', q⟩ := h
        have q' : v = .bl true := q
        subst q'
        obtain rfl : u = Value.bool true := r'
        refine ⟨rfl, OldK.of_keep fun b o e => ?_, os, bare⟩
        cases q : H b with
        | none => exact un.keep b o e q (by intro z; exact absurd (show b ∈ ([] : List Addr) from z) (by simp)) (by simp)
        | some u =>
          rcases hO b with z | ⟨ob, xs, z⟩
          · rw [q] at z; cases z
          · have z2 := un.frzs b ob _ z
            obtain ⟨e1, _⟩ := hok b _ z
            obtain ⟨e2, _⟩ := hok' b _ z2
            rw [e] at e1; cases e1
            exact e2
  cases hk : K.lookup a with
  | some o =>
    -- the script is one of the module's own objects
    have e := KX a o hk
    rw [ha] at e
    cases e
    refine core (fun _ => none) (fun _ => .inl rfl) (.inr ⟨_, vs.toArray, _, hk, rfl, rfl, rfl, by rw [List.size_toArray, lenV]; exact hl, by simpa using rv⟩) (fun b u z => by have z' : (none : Option HO) = some u := z; cases z') (fun b z => absurd rfl z) fun z => absurd rfl z
  | none =>
    refine core (fun b => if b = a then some (.frz { cls := .type "list", data := .seq vs.toArray } (.lst (ns.map V.int))) else none) (fun b => ?_) (.inl (.inr ⟨{ cls := .type "list", data := .seq vs.toArray }, if_pos rfl⟩)) (fun b u z => ?_) (fun b z => ?_) fun _ => hk
    · by_cases hb : b = a
      · exact .inr ⟨_, _, if_pos hb⟩
      · exact .inl (if_neg hb)
    · by_cases hb : b = a
      · have z' := (if_pos hb).symm.trans z
        cases z'
        subst hb
        exact ⟨ha, by rw [List.length_map]; exact hl, vs, _, rv, ha⟩
      · have z' := (if_neg hb).symm.trans z
        cases z'
    · by_cases hb : b = a
      · exact hb
      · exact absurd (if_neg hb) z
end L2

namespace L2
open PySem PySem.Spec PyProof.Rows

abbrev KOf {K : PySem.W.Frag} {h : Heap} (_ : K.In h) : PySem.W.Frag := K

/-- the goal that k_head leaves (case hc), from the law's promise. F gives the function object fd (K's own) once, then the promise over every base -/
theorem walk_of {l : PySem.W.OpenLaw} {n k : Nat} {q : Program} {loose : List Str} {XP : (Str → Option Value) → Heap → Prop} {YP : World → Heap → Prop} {d : DefRec} {K : Params → PySem.W.Frag} {CX : World → CXT} {sp : World → Sp} {x : Str}
    (hn : l.most = some n) (hn2 : n ≤ sizeLine) (hdf : d.params.defaults = []) (hr : Room k callerA)
    (hY : ∀ (w : World) (h : Heap), YP w h → (K w.params).In h)
    (F : ∀ (w : World) (mg : Str → Option Value) (fa : Addr) (h : Heap), (K w.params).In h → h.Ns mainGlobals mg → mg d.name = some (.ref fa) →
      ∃ fd : FuncData, (∀ (s : Shared) (u : Value), BindsTo s fd ⟨[u], []⟩ [(x, u)]) ∧
        ∀ base : Heap, (K w.params).In base → base.Ns mainGlobals mg → FnOk l.prog w (K w.params) mg base (CX w) k fa fd [x] (sp w))
    (hsp : ∀ (w : World) (H : Hp) (a : Addr) (ns : List Int), ns.length ≤ n → Only H → SqL (K w.params) H a (ns.map V.int) → sp w [.ref a] H (fun v _ => v = .bl true) fun _ _ _ => False)
    (hCX : ∀ (w : World) (H : Hp) (s : Shared) (e : Value) (s' : Shared), CX w [] H s (fun _ _ _ => False) e s' → False) :
    PySem.W.WalkO q loose XP YP l.row.toRowW d [] (fun f vs => PySem.call f vs) := by
  refine Att.attach_call hn hdf fun w s₀ s₁ mg mb fa o pm cd doc a vs ns G Y ho hd hcd hmg hobj hints hlen hg => ?_
  have KX := hY w _ Y
  obtain ⟨fd, hb, hF⟩ := F w mg fa _ KX G.T.g hmg
  exact law_call KX G.T.g G.T.b G.T.builtins G.T.nolimit hg hobj hints (Nat.le_trans hlen hn2) hr hF hb (fun H hO hS => hsp w H a ns hlen hO hS) fun H e s' => hCX w H s₁ e s'
/-- the same where the promise hangs on the written part alone: (sp := My.sp_law), no hole under a binder -/
theorem walk_ofK {l : PySem.W.OpenLaw} {n k : Nat} {q : Program} {loose : List Str} {XP : (Str → Option Value) → Heap → Prop} {YP : World → Heap → Prop} {d : DefRec} {K : Params → PySem.W.Frag} {CX : CXT} {sp : PySem.W.Frag → Sp} {x : Str}
    (hn : l.most = some n) (hn2 : n ≤ sizeLine) (hdf : d.params.defaults = []) (hr : Room k callerA)
    (hY : ∀ (w : World) (h : Heap), YP w h → (K w.params).In h)
    (F : ∀ (w : World) (mg : Str → Option Value) (fa : Addr) (h : Heap), (K w.params).In h → h.Ns mainGlobals mg → mg d.name = some (.ref fa) →
      ∃ fd : FuncData, (∀ (s : Shared) (u : Value), BindsTo s fd ⟨[u], []⟩ [(x, u)]) ∧
        ∀ base : Heap, (K w.params).In base → base.Ns mainGlobals mg → FnOk l.prog w (K w.params) mg base CX k fa fd [x] (sp (K w.params)))
    (hsp : ∀ (K : PySem.W.Frag) (H : Hp) (a : Addr) (ns : List Int), ns.length ≤ n → Only H → SqL K H a (ns.map V.int) → sp K [.ref a] H (fun v _ => v = .bl true) fun _ _ _ => False)
    (hCX : ∀ (H : Hp) (s : Shared) (e : Value) (s' : Shared), CX [] H s (fun _ _ _ => False) e s' → False) :
    PySem.W.WalkO q loose XP YP l.row.toRowW d [] (fun f vs => PySem.call f vs) :=
  walk_of (K := K) (CX := fun _ => CX) (sp := fun w => sp (K w.params)) hn hn2 hdf hr hY F (fun w H a ns h1 h2 h3 => hsp (K w.params) H a ns h1 h2 h3) fun _ H s e s' => hCX H s e s'
end L2

/- THE LAST THEOREM (shape; LID, My.* are yours):
   My.Adr: a structure of the addresses that your layer names (classes, functions); My.Txt K t: a structure (Prop) of the equations over K;
   My.txt_mk : {K} {implicit addresses ..} (e1 : nsIn K mainGlobals "law" = some (some (.ref f))) (e2 : K.lookup f = some ⟨oc, od, .func (fnOf "law" "law" params body scope dV kV doc pm an cdv ct), sl⟩) (e3 : codeIn K cdv "law" = true) .. : ∃ t, My.Txt K t

set_option maxRecDepth 100000 in
set_option maxHeartbeats 0 in
theorem PySem.Challenge.cw_LID_holds : PySem.Challenge.rw_LID.Holds := by
  w_on; o_law; k_head; (case hw => w_witness2)
  k_fill
  refine L2.walk_of (l := PySem.Challenge.rw_LID) (n := 63) (k := 40) (x := "script") (CX := fun w => ..) (sp := fun _ => My.sp_law) rfl (by decide) rfl ⟨rfl, by decide, by decide⟩ (fun w h Y => PySem.W.kIn_of Y) ?F ?S ?C
  case F =>
    intro w mg fa h KX G hmg
    have T : ∃ t, My.Txt (L2.KOf KX) t := by
      dsimp only [L2.KOf]                          -- K must stand as «<heap const> w.params» for k_is
      refine' My.txt_mk ?e1 ?e2 ?e3 ..
      (case e1 => PySem.W.k_is)                    -- in the order: a name -> its address -> its object -> its parts
      (case e2 => PySem.W.k_is)
      ..
    obtain ⟨t, T⟩ := T
    have e0 := hmg.symm.trans (PySem.W.mg_of KX G T.law)
    cases e0                                       -- fa is the law's own address
    exact ⟨_, fun s u => .of_eq rfl, fun base kb nb => My.law_fn T kb nb⟩     -- if «.of_eq rfl» comes too early: refine' ⟨_, ?b, fun base kb nb => My.law_fn T kb nb⟩; exact fun s u => .of_eq rfl
  case S => exact fun w H a ns hl hO hS => ..
  case C => exact ..
(the tactic k_is has no namespace: write k_is) -/

/-! SHORT WORDS over the layer: a def of the text, its body, what a loop and a test want. -/
namespace L2
open PySem PySem.Spec PyProof.Rows

/-! ### the text by places -/
/-- the j-th statement of a class's body -/
def inClass (s : Stmt) (j : Nat) : Stmt := match s with
  | .ClassDef _ _ _ body _ _ _ _ _ _ _ => body.getD j (.Pass ⟨0, 0, 0, 0⟩)
  | _ => .Pass ⟨0, 0, 0, 0⟩
def defArgs (s : Stmt) : Arguments := match s with
  | .FunctionDef _ a _ _ _ _ _ _ _ _ => a
  | _ => { posonlyargs := [], args := [], vararg := none, kwonlyargs := [], kw_defaults := [], kwarg := none, defaults := [] }
def defBody (s : Stmt) : List Stmt := match s with
  | .FunctionDef _ _ b _ _ _ _ _ _ _ => b
  | _ => []
def defScope (s : Stmt) : Scope := match s with
  | .FunctionDef _ _ _ _ _ _ sc _ _ _ => sc
  | _ => { kind := .function, names := [], isGenerator := false, isCoroutine := false }

/-! ### no exception leaves a def -/
abbrev CX0 : CXT := fun _ _ _ _ _ _ => False
abbrev E0 : XK := fun _ _ _ => False
theorem pass0 {X : Cx} : Passes CX0 X E0 := fun _ _ _ _ _ _ _ h => h.elim

/-! ### a def (or method) of the text as it stands behind the top -/
structure Fun (K : PySem.W.Frag) (x qual : Str) (st : Stmt) (f : Addr) (fd : FuncData) : Prop where
  ex : ∃ (oc : Value) (od : Option Addr) (kV doc pm : Value) (an : Option Addr) (cdv ct : Value) (osl : Array (Option Value)),
    fd = PySem.W.fnOf x qual (defArgs st) (defBody st) (defScope st) .none kV doc pm an cdv ct ∧ K.lookup f = some ⟨oc, od, .func fd, osl⟩ ∧ PySem.W.codeIn K cdv qual = true
  kp : PySem.W.keepIn K (.ref f) = true
section
variable {P : Program} {w : World} {K : PySem.W.Frag} {mg : Str → Option Value} {base : Heap}
/-- THE RULE for a def: its body as a term of rules, and the reading of that term -/
theorem Fun.ok {x qual : Str} {st : Stmt} {f : Addr} {fd : FuncData} {N ps : List Str} {k : Nat} {sp : Sp} (F : Fun K x qual st f fd) (S : FnScope N ps (defScope st)) (len : ∀ vs H Q E, sp vs H Q E → vs.length = ps.length)
    (hbody : ∀ (cdv : Value) (A : Around) (outer : List Env) (s : Shared) (H : Hp) (vs : List V) (Q : VK) (E : XK), Room k (A.deeper (envOfC qual (defScope st) s.heap.objs.size f cdv)) → sp vs H Q E →
      ∃ t, PSs (cxOf CX0 P w K mg base N qual (defScope st) f cdv A outer s H E).nox (defBody st) t ∧ t { nx := fun _ H' => Q .non H', rt := Q } (start N vs) H) : FnOk P w K mg base CX0 (k + 1) f fd ps sp := by
  obtain ⟨oc, od, kV, doc, pm, an, cdv, ct, osl, rfl, lk, hcd⟩ := F.ex
  refine fn_of lk hcd S len fun A outer s H vs Q E hr hsp => ?_
  obtain ⟨t, h, q⟩ := hbody cdv A outer s H vs Q E hr hsp
  exact ⟨t, h.nox, q⟩
/-- how its arguments bind (no defaults): h is «fun _ _ _ _ _ _ us hl => match us, hl with | [_, _], _ => rfl», one _ a parameter -/
theorem Fun.binds {x qual : Str} {st : Stmt} {f : Addr} {fd : FuncData} {ps : List Str} (F : Fun K x qual st f fd)
    (h : ∀ (kV doc pm : Value) (an : Option Addr) (cdv ct : Value) (us : List Value), us.length = ps.length → bindArgs (PySem.W.fnOf x qual (defArgs st) (defBody st) (defScope st) .none kV doc pm an cdv ct) ⟨us, []⟩ = pure (ps.zip us)) : Binds K fd ps [] := by
  obtain ⟨oc, od, kV, doc, pm, an, cdv, ct, osl, rfl, lk, hcd⟩ := F.ex
  exact .all (h kV doc pm an cdv ct)
theorem fun_mk {x qual : Str} {st : Stmt} {f : Addr} {oc : Value} {od an : Option Addr} {osl : Array (Option Value)} {kV doc pm cdv ct : Value} (l : K.lookup f = some ⟨oc, od, .func (PySem.W.fnOf x qual (defArgs st) (defBody st) (defScope st) .none kV doc pm an cdv ct), osl⟩)
    (c : PySem.W.codeIn K cdv qual = true) (k : PySem.W.keepIn K (.ref f) = true) : Fun K x qual st f (PySem.W.fnOf x qual (defArgs st) (defBody st) (defScope st) .none kV doc pm an cdv ct) := ⟨⟨oc, od, kV, doc, pm, an, cdv, ct, osl, rfl, l, c⟩, k⟩
end
theorem hu_of {A : Around} {k : Nat} (hr : Room k A) : A.units + 1 < cLine := Nat.lt_of_le_of_lt (Nat.add_le_add_left (by decide : 1 ≤ 64) _) hr.units
theorem small1000 {n : Nat} (h : n ≤ 1000) : n < sizeLine := Nat.lt_of_le_of_lt h (by decide)

/-! ### expressions in short: the name that stands in the i-th slot -/
section
variable {X : Cx}
theorem pv (i : Nat) {x : Str} {pos : Pos} (hN : X.N[i]? = some x := by rfl) (hv : Vis X.env.scope x := by first | exact Or.inl rfl | exact Or.inr (Or.inl rfl) | exact Or.inr (Or.inr rfl)) (hd : (x == ("__debug__" : Str)) = false := by decide)
    (hcd : (x == ("__classdict__" : Str)) = false := by decide) : PE X (.Name x pos) (tVar i) := pe_var hN hv hd hcd
end

/-! ### tests -/
theorem iteF {A B : Prop} (h : B) : if false = true then A else B := by
  rw [if_neg Bool.false_ne_true]
  exact h
theorem iteT {A B : Prop} (h : A) : if true = true then A else B := by
  rw [if_pos rfl]
  exact h
theorem ite2 {c A B : Prop} [Decidable c] (h1 : c → A) (h2 : ¬ c → B) : if c then A else B := by
  by_cases h : c
  · rw [if_pos h]
    exact h1 h
  · rw [if_neg h]
    exact h2 h
theorem iteNS {c A B : Prop} [Decidable c] (hc : c) (h : B) : if (!decide c) = true then A else B := by
  rw [decide_eq_true hc]
  exact iteF h

/-! ### heaps -/
/-- all that was tracked is as it was -/
def Same (H H' : Hp) : Prop := ∀ b o, H b = some o → H' b = some o
theorem Same.refl (H : Hp) : Same H H := fun _ _ h => h
theorem Same.trans {H H1 H2 : Hp} (a : Same H H1) (b : Same H1 H2) : Same H H2 := fun c o h => b c o (a c o h)
theorem Same.free {H H' : Hp} (e : Same H H') {l : Addr} (h : H' l = Option.none) : H l = Option.none := by
  cases q : H l with
  | none => rfl
  | some o =>
    rw [e l o q] at h
    cases h
theorem Same.seq {K : PySem.W.Frag} {H H' : Hp} {a : Addr} {xs : List V} (e : Same H H') (h : SqL K H a xs) : SqL K H' a xs := by
  rcases h with (h | ⟨o, h⟩) | h
  · exact .inl (.inl (e _ _ h))
  · exact .inl (.inr ⟨o, e _ _ h⟩)
  · exact .inr h

end L2

set_option maxHeartbeats 4000000
/-! Fewstones in plain Lean: layings as lists of ints, loads, the neat laying of a load. -/
namespace Fs

/-- what a laying weighs -/
def load : List Int → Int
  | [] => 0
  | x :: r => x + 2 * load r
/-- a laying without the noughts behind its last used stone -/
def ended : List Int → List Int
  | [] => []
  | x :: r => if x = 0 ∧ ended r = [] then [] else x :: ended r
/-- one of -1, 0, 1 -/
def triB (x : Int) : Bool := decide (-1 ≤ x) && decide (x ≤ 1)
/-- how many stones are used -/
def count (xs : List Int) : Nat := (xs.filter fun x => !decide (x = 0)).length
/-- no two neighbours are both used -/
def apartB : List Int → Bool
  | x :: y :: r => (decide (x = 0) || decide (y = 0)) && apartB (y :: r)
  | _ => true
/-- the thing at the lowest place of a load's neat laying -/
def low (n : Int) : Int := if n % 2 = 0 then 0 else 2 - n % 4

theorem low_cases (n : Int) : (low n = 0 ∧ n % 2 = 0) ∨ (low n = 1 ∧ n % 4 = 1) ∨ (low n = -1 ∧ n % 4 = 3) := by
  unfold low
  split <;> omega
theorem low_less {n : Int} (h : n ≠ 0) : ((n - low n) / 2).natAbs < n.natAbs := by
  rcases low_cases n with ⟨e, _⟩ | ⟨e, _⟩ | ⟨e, _⟩ <;> rw [e] <;> omega
/-- the neat laying of a load -/
def laid (n : Int) : List Int := if h : n = 0 then [] else low n :: laid ((n - low n) / 2)
termination_by n.natAbs
decreasing_by exact low_less h

theorem laid_zero : laid 0 = [] := by rw [laid]; simp
theorem laid_step {n : Int} (h : n ≠ 0) : laid n = low n :: laid ((n - low n) / 2) := by
  rw [laid, dif_neg h]

theorem triB_iff {x : Int} : triB x = true ↔ -1 ≤ x ∧ x ≤ 1 := by
  unfold triB
  rw [Bool.and_eq_true, decide_eq_true_iff, decide_eq_true_iff]
theorem tri_cases {x : Int} (h : triB x = true) : x = -1 ∨ x = 0 ∨ x = 1 := by
  have := triB_iff.mp h
  omega

/-! ### loads -/
theorem load_append : ∀ xs ys : List Int, load (xs ++ ys) = load xs + 2 ^ xs.length * load ys
  | [], ys => by simp [load]
  | x :: r, ys => by
    have ih := load_append r ys
    simp only [List.cons_append, load, List.length_cons]
    rw [ih, Int.pow_succ, Int.mul_add, Int.mul_comm (2 ^ r.length) 2, Int.mul_assoc, Int.add_assoc]
theorem two_pow_pos (k : Nat) : (0 : Int) < 2 ^ k := Int.pow_pos (by decide)
theorem load_bound : ∀ {xs : List Int}, xs.all triB = true → -(2 ^ xs.length) < load xs ∧ load xs < 2 ^ xs.length
  | [], _ => by simp [load]
  | x :: r, h => by
    rw [List.all_cons, Bool.and_eq_true] at h
    have ih := load_bound h.2
    have hx := triB_iff.mp h.1
    simp only [load, List.length_cons, Int.pow_succ]
    omega
theorem load_zeros (k : Nat) (xs : List Int) : load (List.replicate k 0 ++ xs) = 2 ^ k * load xs := by
  rw [load_append, List.length_replicate]
  have e : ∀ k, load (List.replicate k 0) = 0 := by
    intro k
    induction k with
    | zero => rfl
    | succ k ih => rw [List.replicate_succ, load, ih]; omega
  rw [e]
  omega
theorem load_drop {xs : List Int} {i : Nat} {x : Int} (h : xs[i]? = some x) : load (xs.drop i) = x + 2 * load (xs.drop (i + 1)) := by
  obtain ⟨hi, e⟩ := List.getElem?_eq_some_iff.mp h
  rw [List.drop_eq_getElem_cons hi, load, e]

/-! ### ended -/
theorem ended_zeros : ∀ {xs : List Int}, (∀ x ∈ xs, x = 0) → ended xs = []
  | [], _ => rfl
  | x :: r, h => by
    have h1 := h x List.mem_cons_self
    have h2 := ended_zeros (xs := r) fun y hy => h y (List.mem_cons_of_mem _ hy)
    simp [ended, h1, h2]
theorem ended_nil_iff : ∀ {xs : List Int}, ended xs = [] → ∀ x ∈ xs, x = 0
  | [], _, _, hx => by cases hx
  | y :: r, h, x, hx => by
    unfold ended at h
    split at h
    · rename_i c
      rcases List.mem_cons.mp hx with e | e
      · rw [e]; exact c.1
      · exact ended_nil_iff c.2 x e
    · cases h
/-- the things as far as the last one that is used -/
theorem ended_take : ∀ {xs : List Int} {k : Nat}, k ≤ xs.length → (∀ i x, k ≤ i → xs[i]? = some x → x = 0) → (k = 0 ∨ ∃ x, xs[k - 1]? = some x ∧ x ≠ 0) → ended xs = xs.take k
  | xs, 0, _, hz, _ => by
    rw [List.take_zero]
    refine ended_zeros fun x hx => ?_
    obtain ⟨i, hi⟩ := List.mem_iff_getElem?.mp hx
    exact hz i x (Nat.zero_le _) hi
  | [], k + 1, hk, _, _ => by simp at hk
  | x :: r, k + 1, hk, hz, hl => by
    have hk' : k ≤ r.length := by simpa using hk
    have ih := ended_take (xs := r) (k := k) hk' (fun i y hi he => hz (i + 1) y (by omega) (by simpa using he)) (by
      by_cases h0 : k = 0
      · exact .inl h0
      · right
        obtain ⟨y, hy, ny⟩ := hl.resolve_left (by omega)
        obtain ⟨j, rfl⟩ : ∃ j, k = j + 1 := ⟨k - 1, by omega⟩
        exact ⟨y, by simpa using hy, ny⟩)
    rw [List.take_succ_cons]
    unfold ended
    rw [if_neg ?_, ih]
    rintro ⟨e0, e1⟩
    obtain ⟨y, hy, ny⟩ := hl.resolve_left (by omega)
    by_cases h0 : k = 0
    · subst h0
      simp at hy
      exact ny (by omega)
    · obtain ⟨j, rfl⟩ : ∃ j, k = j + 1 := ⟨k - 1, by omega⟩
      have hm : y ∈ r := List.mem_iff_getElem?.mpr ⟨j, by simpa using hy⟩
      exact ny (ended_nil_iff e1 y hm)
theorem ended_load : ∀ xs : List Int, load (ended xs) = load xs
  | [] => rfl
  | x :: r => by
    have ih := ended_load r
    unfold ended
    split
    · rename_i c
      rw [c.2] at ih
      simp only [load] at ih ⊢
      omega
    · simp only [load, ih]
theorem ended_mem : ∀ {xs : List Int} {x : Int}, x ∈ ended xs → x ∈ xs
  | [], _, h => by cases h
  | y :: r, x, h => by
    unfold ended at h
    split at h
    · cases h
    · rcases List.mem_cons.mp h with e | e
      · exact e ▸ List.mem_cons_self
      · exact List.mem_cons_of_mem _ (ended_mem e)
theorem ended_all {xs : List Int} (h : xs.all triB = true) : (ended xs).all triB = true :=
  List.all_eq_true.mpr fun x hx => List.all_eq_true.mp h x (ended_mem hx)
theorem ended_len : ∀ xs : List Int, (ended xs).length ≤ xs.length
  | [] => Nat.le_refl _
  | x :: r => by
    have ih := ended_len r
    unfold ended
    split
    · exact Nat.zero_le _
    · simpa using ih
theorem ended_ended : ∀ xs : List Int, ended (ended xs) = ended xs
  | [] => rfl
  | x :: r => by
    have ih := ended_ended r
    by_cases c : x = 0 ∧ ended r = []
    · rw [ended, if_pos c]; rfl
    · rw [show ended (x :: r) = x :: ended r by rw [ended, if_neg c], ended, ih, if_neg c]

/-! ### the neat laying of a load -/
def neatB (xs : List Int) : Bool := xs.all triB && (apartB xs && decide (ended xs = xs))
theorem laid_load (n : Int) : load (laid n) = n := by
  by_cases h : n = 0
  · rw [h, laid_zero]; rfl
  · have ih := laid_load ((n - low n) / 2)
    rw [laid_step h, load, ih]
    rcases low_cases n with ⟨e, _⟩ | ⟨e, _⟩ | ⟨e, _⟩ <;> rw [e] <;> omega
termination_by n.natAbs
decreasing_by exact low_less h
theorem laid_all (n : Int) : (laid n).all triB = true := by
  by_cases h : n = 0
  · rw [h, laid_zero]; rfl
  · have ih := laid_all ((n - low n) / 2)
    rw [laid_step h, List.all_cons, ih, Bool.and_true]
    rcases low_cases n with ⟨e, _⟩ | ⟨e, _⟩ | ⟨e, _⟩ <;> rw [e] <;> decide
termination_by n.natAbs
decreasing_by exact low_less h
theorem laid_nil {n : Int} (h : laid n = []) : n = 0 := by
  by_cases c : n = 0
  · exact c
  · rw [laid_step c] at h; cases h
theorem laid_ended (n : Int) : ended (laid n) = laid n := by
  by_cases h : n = 0
  · rw [h, laid_zero]; rfl
  · have ih := laid_ended ((n - low n) / 2)
    rw [laid_step h, ended, ih, if_neg]
    rintro ⟨e1, e2⟩
    have z := laid_nil e2
    rcases low_cases n with ⟨e, _⟩ | ⟨e, _⟩ | ⟨e, _⟩ <;> rw [e] at e1 z <;> omega
termination_by n.natAbs
decreasing_by exact low_less h
theorem laid_apart (n : Int) : apartB (laid n) = true := by
  by_cases h : n = 0
  · rw [h, laid_zero]; rfl
  · have ih := laid_apart ((n - low n) / 2)
    rw [laid_step h]
    by_cases h2 : (n - low n) / 2 = 0
    · rw [h2, laid_zero]; rfl
    · rw [laid_step h2] at ih ⊢
      rw [apartB, ih, Bool.and_true]
      rcases low_cases n with ⟨e, _⟩ | ⟨e, h4⟩ | ⟨e, h4⟩
      · rw [e]; rfl
      · have z : low ((n - low n) / 2) = 0 := by rw [e]; unfold low; rw [if_pos (by omega)]
        rw [z]; simp
      · have z : low ((n - low n) / 2) = 0 := by rw [e]; unfold low; rw [if_pos (by omega)]
        rw [z]; simp
termination_by n.natAbs
decreasing_by exact low_less h
theorem laid_neat (n : Int) : neatB (laid n) = true := by
  unfold neatB
  rw [laid_all, laid_apart, laid_ended]
  simp
theorem laid_len (n : Int) (k : Nat) (h : n.natAbs ≤ 2 ^ k) : (laid n).length ≤ k + 1 := by
  induction k generalizing n with
  | zero =>
    by_cases h0 : n = 0
    · rw [h0, laid_zero]; exact Nat.zero_le _
    · have h1 : n = 1 ∨ n = -1 := by simp at h; omega
      rw [laid_step h0]
      rcases h1 with e | e <;> subst e
      · rw [show ((1 : Int) - low 1) / 2 = 0 by decide, laid_zero]; exact Nat.le_refl _
      · rw [show ((-1 : Int) - low (-1)) / 2 = 0 by decide, laid_zero]; exact Nat.le_refl _
  | succ k ih =>
    by_cases h0 : n = 0
    · rw [h0, laid_zero]; exact Nat.zero_le _
    · rw [laid_step h0, List.length_cons]
      have q := ih ((n - low n) / 2) (by
        have hp : 2 ^ (k + 1) = 2 * 2 ^ k := by rw [Nat.pow_succ, Nat.mul_comm]
        rw [hp] at h
        have hk : 0 < 2 ^ k := Nat.pow_pos (by decide)
        rcases low_cases n with ⟨e, _⟩ | ⟨e, _⟩ | ⟨e, _⟩ <;> rw [e] <;> omega)
      omega
/-- just one neat laying -/
theorem neat_only : ∀ {xs : List Int}, neatB xs = true → laid (load xs) = xs
  | [], _ => laid_zero
  | x :: r, h => by
    unfold neatB at h
    rw [Bool.and_eq_true, Bool.and_eq_true, List.all_cons, Bool.and_eq_true, decide_eq_true_iff] at h
    obtain ⟨⟨hx, hr⟩, ha, he⟩ := h
    have c : ¬ (x = 0 ∧ ended r = []) := fun c => by rw [ended, if_pos c] at he; cases he
    have er : ended r = r := by rw [ended, if_neg c] at he; exact (List.cons.inj he).2
    have ar : apartB r = true := by
      cases r with
      | nil => rfl
      | cons y q => rw [apartB, Bool.and_eq_true] at ha; exact ha.2
    have ih := neat_only (xs := r) (by unfold neatB; rw [hr, ar, er]; simp)
    -- the rest's load is even where x is used
    have ev : x = 0 ∨ load r % 2 = 0 := by
      cases r with
      | nil => right; rfl
      | cons y q =>
        rw [apartB, Bool.and_eq_true, Bool.or_eq_true, decide_eq_true_iff, decide_eq_true_iff] at ha
        rcases ha.1 with e | e
        · exact .inl e
        · right; rw [load, e]; omega
    have nz : x + 2 * load r ≠ 0 := by
      intro z
      rcases tri_cases hx with e | e | e
      · omega
      · subst e
        have : load r = 0 := by omega
        rw [this, laid_zero] at ih
        exact c ⟨rfl, by rw [er, ← ih]⟩
      · omega
    have hl : low (x + 2 * load r) = x := by
      unfold low
      rcases tri_cases hx with e | e | e
      · have := ev.resolve_left (by omega); subst e; rw [if_neg (by omega)]; omega
      · subst e; rw [if_pos (by omega)]
      · have := ev.resolve_left (by omega); subst e; rw [if_neg (by omega)]; omega
    rw [load, laid_step nz, hl, show (x + 2 * load r - x) / 2 = load r by omega, ih]
end Fs

namespace Fs
/-! ### neighbours -/
theorem apart_yes : ∀ {xs : List Int}, (∀ k x y, xs[k]? = some x → xs[k + 1]? = some y → x = 0 ∨ y = 0) → apartB xs = true
  | [], _ => rfl
  | [_], _ => rfl
  | x :: y :: r, h => by
    have ih := apart_yes (xs := y :: r) fun k a b h1 h2 => h (k + 1) a b (by simpa using h1) (by simpa using h2)
    rw [apartB, ih, Bool.and_true]
    rcases h 0 x y rfl rfl with e | e
    · rw [e]; rfl
    · rw [e]; simp
theorem apart_no : ∀ {xs : List Int} {k : Nat} {x y : Int}, xs[k]? = some x → xs[k + 1]? = some y → x ≠ 0 → y ≠ 0 → apartB xs = false
  | [], _, _, _, h, _, _, _ => by simp at h
  | [_], 0, _, _, _, h, _, _ => by simp at h
  | [_], k + 1, _, _, h, _, _, _ => by simp at h
  | a :: b :: r, 0, x, y, h1, h2, n1, n2 => by
    simp at h1 h2
    subst h1 h2
    rw [apartB, decide_eq_false n1, decide_eq_false n2]
    rfl
  | a :: b :: r, k + 1, x, y, h1, h2, n1, n2 => by
    rw [apartB, apart_no (xs := b :: r) (k := k) (by simpa using h1) (by simpa using h2) n1 n2, Bool.and_false]
theorem apart_get : ∀ {xs : List Int} {k : Nat} {x y : Int}, apartB xs = true → xs[k]? = some x → xs[k + 1]? = some y → x = 0 ∨ y = 0 := fun {xs k x y} h h1 h2 => by
  by_cases c : x = 0
  · exact .inl c
  · by_cases d : y = 0
    · exact .inr d
    · rw [apart_no h1 h2 c d] at h; cases h
/-! ### how long the neat laying is -/
theorem laid_len_of {n : Int} {k : Nat} (h : n.natAbs ≤ 2 ^ k) : (laid n).length ≤ k + 1 := laid_len n k h
theorem cast_two_pow (k : Nat) : ((2 ^ k : Nat) : Int) = 2 ^ k := by simp
theorem load_abs {xs : List Int} (h : xs.all triB = true) : (load xs).natAbs ≤ 2 ^ xs.length := by
  have b := load_bound h
  have e := cast_two_pow xs.length
  omega
theorem pow_mono {a b : Nat} (h : a ≤ b) : 2 ^ a ≤ 2 ^ b := Nat.pow_le_pow_right (by decide) h
theorem load_abs2 {xs ys : List Int} {k : Nat} (hx : xs.all triB = true) (hy : ys.all triB = true) (h1 : xs.length ≤ k) (h2 : ys.length ≤ k) : (load xs + load ys).natAbs ≤ 2 ^ (k + 1) := by
  have a := load_abs hx
  have b := load_abs hy
  have c := pow_mono h1
  have d := pow_mono h2
  have e : 2 ^ (k + 1) = 2 * 2 ^ k := by rw [Nat.pow_succ, Nat.mul_comm]
  omega
end Fs

namespace Fs
/-! ### the last thing -/
theorem ended_snoc {z : Int} (hz : z ≠ 0) : ∀ r : List Int, ended (r ++ [z]) = r ++ [z]
  | [] => by simp [ended, hz]
  | x :: r => by
    have ih := ended_snoc hz r
    rw [List.cons_append, ended, ih, if_neg]
    rintro ⟨_, e⟩
    simp at e
theorem ended_snoc0 : ∀ r : List Int, ended (r ++ [0]) = ended r
  | [] => by simp [ended]
  | x :: r => by rw [List.cons_append, ended, ended_snoc0 r, ended]
theorem ended_snoc_iff (r : List Int) (z : Int) : ended (r ++ [z]) = r ++ [z] ↔ z ≠ 0 := by
  constructor
  · rintro h rfl
    rw [ended_snoc0] at h
    have := ended_len r
    rw [h, List.length_append, List.length_singleton] at this
    omega
  · exact fun hz => ended_snoc hz r
theorem nil_or_snoc (xs : List Int) : xs = [] ∨ ∃ r z, xs = r ++ [z] := by
  rcases List.eq_nil_or_concat xs with h | ⟨r, z, h⟩
  · exact .inl h
  · exact .inr ⟨r, z, by rw [h, List.concat_eq_append]⟩
theorem load_turned : ∀ xs : List Int, load (xs.map fun x => -x) = - load xs
  | [] => rfl
  | x :: r => by
    have ih := load_turned r
    simp only [List.map_cons, load, ih]
    omega
theorem turned_all {xs : List Int} (h : xs.all triB = true) : (xs.map fun x => -x).all triB = true := List.all_eq_true.mpr fun y hy => by
  obtain ⟨x, hx, rfl⟩ := List.mem_map.mp hy
  have := triB_iff.mp (List.all_eq_true.mp h x hx)
  rw [triB_iff]
  omega
end Fs

namespace Fs
/-! ### parts -/
theorem apart_take {xs : List Int} (k : Nat) (h : apartB xs = true) : apartB (xs.take k) = true := apart_yes fun i x y h1 h2 => by
  rw [List.getElem?_take] at h1 h2
  split at h1
  · split at h2
    · exact apart_get h h1 h2
    · cases h2
  · cases h1
theorem apart_drop {xs : List Int} (k : Nat) (h : apartB xs = true) : apartB (xs.drop k) = true := apart_yes fun i x y h1 h2 => by
  rw [List.getElem?_drop] at h1 h2
  exact apart_get h h1 (by rw [Nat.add_assoc]; exact h2)
theorem ended_is_take : ∀ xs : List Int, ended xs = xs.take (ended xs).length
  | [] => rfl
  | x :: r => by
    have ih := ended_is_take r
    by_cases c : x = 0 ∧ ended r = []
    · rw [ended, if_pos c]; rfl
    · rw [show ended (x :: r) = x :: ended r by rw [ended, if_neg c], List.length_cons, List.take_succ_cons, ← ih]
theorem apart_ended {xs : List Int} (h : apartB xs = true) : apartB (ended xs) = true := by
  rw [ended_is_take]
  exact apart_take _ h
theorem all_take {xs : List Int} (k : Nat) (h : xs.all triB = true) : (xs.take k).all triB = true := List.all_eq_true.mpr fun x hx => List.all_eq_true.mp h x (List.mem_of_mem_take hx)
theorem all_drop {xs : List Int} (k : Nat) (h : xs.all triB = true) : (xs.drop k).all triB = true := List.all_eq_true.mpr fun x hx => List.all_eq_true.mp h x (List.mem_of_mem_drop hx)
theorem load_parts (xs : List Int) (k : Nat) : load (xs.drop k) * 2 ^ k + load (xs.take k) = load xs := by
  by_cases h : k ≤ xs.length
  · have e := load_append (xs.take k) (xs.drop k)
    rw [List.take_append_drop, List.length_take, Nat.min_eq_left h] at e
    rw [e, Int.mul_comm, Int.add_comm]
  · rw [List.drop_eq_nil_of_le (by omega), List.take_of_length_le (by omega)]
    show 0 * _ + _ = _
    rw [Int.zero_mul, Int.zero_add]
/-- a laying without used neighbours is light -/
theorem light : ∀ {xs : List Int}, xs.all triB = true → apartB xs = true → 3 * load xs ≤ 2 ^ (xs.length + 1) - 1 ∧ -(3 * load xs) ≤ 2 ^ (xs.length + 1) - 1
  | [], _, _ => by simp [load]
  | [x], h, _ => by
    have hx := triB_iff.mp (List.all_eq_true.mp h x List.mem_cons_self)
    simp [load]
    omega
  | x :: y :: r, h, ha => by
    rw [List.all_cons, Bool.and_eq_true] at h
    rw [apartB, Bool.and_eq_true, Bool.or_eq_true, decide_eq_true_iff, decide_eq_true_iff] at ha
    obtain ⟨hx, hr⟩ := h
    obtain ⟨hxy, hr'⟩ := ha
    have tx := triB_iff.mp hx
    have ih := light hr hr'
    have p1 := two_pow_pos (r.length + 1)
    simp only [List.length_cons, Int.pow_succ] at ih p1 ⊢
    rcases hxy with e | e
    · subst e
      simp only [load] at ih ⊢
      omega
    · have ar : apartB r = true := by
        cases r with
        | nil => rfl
        | cons z q => rw [apartB, Bool.and_eq_true] at hr'; exact hr'.2
      have hr2 : r.all triB = true := by rw [List.all_cons, Bool.and_eq_true] at hr; exact hr.2
      have ih2 := light hr2 ar
      subst e
      simp only [load, Int.pow_succ] at ih2 ⊢
      omega
theorem light_take {xs : List Int} {k : Nat} (h : xs.all triB = true) (ha : apartB xs = true) : 3 * load (xs.take k) < 2 ^ (k + 1) ∧ -(3 * load (xs.take k)) < 2 ^ (k + 1) := by
  have q := light (all_take k h) (apart_take k ha)
  have m : (xs.take k).length + 1 ≤ k + 1 := by rw [List.length_take]; omega
  have pm : (2 : Nat) ^ ((xs.take k).length + 1) ≤ 2 ^ (k + 1) := pow_mono m
  have e1 := cast_two_pow ((xs.take k).length + 1)
  have e2 := cast_two_pow (k + 1)
  omega
def sgn (d : Int) : Int := if 0 < d then 1 else if d < 0 then -1 else 0
end Fs

namespace Fs
/-! ### one thing more behind -/
theorem apart_snoc {xs : List Int} {t : Int} (h : apartB xs = true) (c : t = 0 ∨ ∀ r z, xs = r ++ [z] → z = 0) : apartB (xs ++ [t]) = true := apart_yes fun k x y h1 h2 => by
  have hk : k + 1 < (xs ++ [t]).length := (List.getElem?_eq_some_iff.mp h2).1
  rw [List.length_append, List.length_singleton] at hk
  by_cases e : k + 1 = xs.length
  · rw [List.getElem?_append_right (by omega), e, Nat.sub_self] at h2
    have ht : t = y := by simpa using h2
    rcases c with c | c
    · exact .inr (by omega)
    · rcases nil_or_snoc xs with z | ⟨r, z, hz⟩
      · rw [z] at e; simp at e
      · have hr : k = r.length := by rw [hz, List.length_append, List.length_singleton] at e; omega
        rw [List.getElem?_append_left (by omega), hz, hr] at h1
        have : z = x := by simpa using h1
        exact .inl (by rw [← this]; exact c r z hz)
  · rw [List.getElem?_append_left (by omega)] at h1 h2
    exact apart_get h h1 h2
theorem not_neat_end (xs : List Int) (m : Nat) : neatB (xs ++ List.replicate (m + 1) 0) = false := by
  unfold neatB
  rw [List.replicate_succ', ← List.append_assoc]
  have : ¬ ended (xs ++ List.replicate m 0 ++ [0]) = xs ++ List.replicate m 0 ++ [0] := fun h => (ended_snoc_iff _ _).mp h rfl
  rw [decide_eq_false this, Bool.and_false, Bool.and_false]
theorem not_neat_of {zs : List Int} {k : Nat} {x y : Int} (h1 : zs[k]? = some x) (h2 : zs[k + 1]? = some y) (n1 : x ≠ 0) (n2 : y ≠ 0) : neatB zs = false := by
  unfold neatB
  rw [apart_no h1 h2 n1 n2, Bool.false_and, Bool.and_false]
theorem spoilt_behind {xs : List Int} {k : Nat} {x t : Int} (hx : xs[k]? = some x) (nx : x ≠ 0) (nt : t ≠ 0) : neatB (xs.take (k + 1) ++ [t] ++ xs.drop (k + 2)) = false := by
  have hk := (List.getElem?_eq_some_iff.mp hx).1
  have hl : (xs.take (k + 1)).length = k + 1 := by rw [List.length_take]; omega
  refine not_neat_of (k := k) (x := x) (y := t) ?_ ?_ nx nt
  · rw [List.append_assoc, List.getElem?_append_left (by omega), List.getElem?_take, if_pos (by omega)]
    exact hx
  · rw [List.append_assoc, List.getElem?_append_right (by omega), hl, Nat.sub_self]
    rfl
theorem spoilt_first {xs : List Int} {x t : Int} (hx : xs[0]? = some x) (nx : x ≠ 0) (nt : t ≠ 0) : neatB ([t] ++ xs) = false :=
  not_neat_of (k := 0) (x := t) (y := x) rfl (by simpa using hx) nt nx
theorem spoilt_ahead {xs : List Int} {k : Nat} {x t : Int} (hx : xs[k + 1]? = some x) (nx : x ≠ 0) (nt : t ≠ 0) : neatB (xs.take k ++ [t] ++ xs.drop (k + 1)) = false := by
  have hk := (List.getElem?_eq_some_iff.mp hx).1
  have hl : (xs.take k).length = k := by rw [List.length_take]; omega
  refine not_neat_of (k := k) (x := t) (y := x) ?_ ?_ nt nx
  · rw [List.append_assoc, List.getElem?_append_right (by omega), hl, Nat.sub_self]
    rfl
  · rw [List.append_assoc, List.getElem?_append_right (by omega), hl, show k + 1 - k = 1 by omega]
    show (xs.drop (k + 1))[0]? = some x
    rw [List.getElem?_drop]
    exact hx
theorem neat_of_parts {xs : List Int} (h1 : xs.all triB = true) (h2 : apartB xs = true) : neatB (ended xs) = true := by
  unfold neatB
  rw [ended_all h1, apart_ended h2, ended_ended]
  simp
theorem neat_all {xs : List Int} (h : neatB xs = true) : xs.all triB = true := by
  unfold neatB at h
  rw [Bool.and_eq_true] at h
  exact h.1
/-- the places of the used stones -/
def used (xs : List Int) : List Nat := (List.range xs.length).filter fun i => !decide (xs.getD i 0 = 0)
theorem used_mem {xs : List Int} {k : Nat} (h : k ∈ used xs) : ∃ x, xs[k]? = some x ∧ x ≠ 0 := by
  unfold used at h
  rw [List.mem_filter, List.mem_range] at h
  refine ⟨xs[k], List.getElem?_eq_getElem h.1, ?_⟩
  have := h.2
  rw [List.getD_eq_getElem?_getD, List.getElem?_eq_getElem h.1] at this
  simpa using this
theorem used_len (xs : List Int) : (used xs).length ≤ xs.length := by
  unfold used
  exact Nat.le_trans (List.length_filter_le _ _) (by rw [List.length_range]; exact Nat.le_refl _)
end Fs

/-! More rules over the layer: comprehensions, reversed, all, isinstance, is, lists compared. -/
namespace L2
open PySem PySem.Spec PyProof.Rows

/-! ### comprehensions -/
/-- the context of a comprehension's block: x its own name, fr the def's names that it uses (cells at cl), fp what it walks -/
abbrev cxComp (X : Cx) (scope : Scope) (x : Str) (cl : List (Str × Addr)) (fr : List Str) (C : Addr) (fp : List Addr) (s : Shared) (H : Hp) : Cx :=
  { X with N := x :: fr, s₀ := s, H₀ := H, env := compEnvC scope cl C X.env, outer := X.stack, stack := X.stack, ex := fp, fn := fun _ => false, pn := [], xe := fun _ _ => False }
/-- what the scope must be; js: the slots of fr in the def -/
structure CompSc (X : Cx) (scope : Scope) (x : Str) (cl : List (Str × Addr)) (fr : List Str) (js : List Nat) : Prop where
  kind : scope.kind = .function
  nocell : ∀ y ∈ scope.names, y.2 ≠ .cell
  names : ∀ y ∈ scope.names, y.2 = .local → scope.names.lookup y.1 = some .local
  loc : scope.names.lookup x = some .local
  clos : closureFor scope X.env = pure cl
  cells : ∀ y c, cl.lookup y = some c → X.env.cells.lookup y = some c
  has : ∀ y, ((relabel scope X.env).names.lookup y = some .cell ∨ (relabel scope X.env).names.lookup y = some .free) → ∃ c, cl.lookup y = some c
  nd : (x :: fr).Nodup
  len : fr.length = js.length
  slots : ∀ (i : Nat) (y : Str) (j : Nat), fr[i]? = some y → js[i]? = some j → X.N[j]? = some y ∧ (X.env.kindOf y = some .cell ∨ X.env.kindOf y = some .free) ∧
    ((relabel scope X.env).names.lookup y = some .cell ∨ (relabel scope X.env).names.lookup y = some .free)
/-- no name of the def is used -/
theorem CompSc.plain {X : Cx} {scope : Scope} {x : Str} (kind : scope.kind = .function) (nocell : ∀ y ∈ scope.names, y.2 ≠ .cell) (nofree : ∀ y ∈ scope.names, y.2 ≠ .free)
    (names : ∀ y ∈ scope.names, y.2 = .local → scope.names.lookup y.1 = some .local) (loc : scope.names.lookup x = some .local) : CompSc X scope x [] [] [] := by
  have er : (relabel scope X.env).names = scope.names := map_eq_self (l := scope.names) (fun y hy => by
    obtain ⟨n, k⟩ := y
    have : (k == NameKind.free) = false := by simpa using nofree _ hy
    simp [this])
  refine ⟨kind, nocell, names, loc, closureFor_none nofree, fun y c h => by simp at h, fun y h => ?_, by simp, rfl, fun i y j h => by simp at h⟩
  rw [er] at h
  rcases h with h | h
  · exact absurd rfl (nocell _ (PySem.mem_of_lookup h))
  · exact absurd rfl (nofree _ (PySem.mem_of_lookup h))
/-- the block's slots: the turn's value, then the def's -/
def subS (js : List Nat) (σ : St) (o : Option V) : St := o :: js.map fun j => (σ[j]?).getD none
/-- the tests of a clause -/
def PIfs (X : Cx) (ifs : List Expr) (t : TT) : Prop :=
  ∀ (pins : List (Addr × Obj)) (s : Shared) (σ : St) (H : Hp) (Q : Bool → Hp → Prop), Inv X pins σ H s → t σ H Q →
    wpAny (model X.prog X.w) X.A (forIn ifs true fun c r => if r = true then do let ok ← isTrue c X.env (eval c X.env); pure (ForInStep.yield ok) else pure (ForInStep.yield r)) (TP X pins σ Q) X.xe s
def tNoIf : TT := fun _ H Q => Q true H
theorem pifs_nil {X : Cx} : PIfs X [] tNoIf := fun _ _ _ H _ I h => wpAny_tests_nil ⟨H, I, h⟩
theorem pifs_one {X : Cx} {c : Expr} {t : TT} (h : PT X c t) : PIfs X [c] t := fun pins s σ H Q I hq => wpAny_tests_one (h pins s σ H Q I hq)
/-- what a comprehension reads: W the invariant by the turn and a measure, the new list stands at p -/
def compW (js : List Nat) (tt : TT) (te : TE) (σ : St) (Q : VK) (J : It) (H1 : Hp) : Prop :=
  ∀ p, H1 p = none → ∃ W : Nat → Nat → Hp → Prop, (∃ m, W 0 m (upd H1 p (.lst []))) ∧ ∀ i m H, W i m H →
    (J.stop i H ∧ Q (.ref p) H) ∨ (J.go i H ∧ ∀ x H', J.yld i H x H' → tt (subS js σ (some x)) H' fun c H2 =>
      if c = true then te (subS js σ (some x)) H2 fun y H3 => ∃ ys, H3 p = some (.lst ys) ∧ ys.length < sizeLine ∧ ∃ m', m' < m ∧ W (i + 1) m' (upd H3 p (.lst (ys ++ [y])))
      else ∃ m', m' < m ∧ W (i + 1) m' H2)
def tComp (js : List Nat) (wi : TI) (tt : TT) (te : TE) : TE := fun σ H Q => wi σ H fun J H1 => compW js tt te σ Q J H1

section
variable {prog : Program} {w : World} {A : Around} {R : Result → Shared → Prop} {s : Shared}
/-- the loop of a comprehension, with the step ahead of the store -/
theorem compLoop_go {elt target iter : Expr} {ifs : List Expr} {scope : Scope} {pos : Pos} {it acc : Value} {env : Env} (I : Nat → Shared → Prop)
    (turn : ∀ n s, I n s → wpAny (model prog w) A (pyNext it) (fun r s₁ => match r with
      | none => R (.ok .next) s₁
      | some v => wpAny (model prog w) A (letOwnedTupleGo target it v) (fun _ s₁ => wpAny (model prog w) A (assign target env v) (fun _ s₂ =>
          wpAny (model prog w) A (forIn ifs true fun c r => if r = true then do let ok ← isTrue c env (eval c env); pure (ForInStep.yield ok) else pure (ForInStep.yield r)) (fun ok s₃ =>
            if ok = true then wpAny (model prog w) A (eval elt env) (fun x s₄ =>
              wpAny (model prog w) A (call (.builtin "list.append") [acc, x]) (fun _ s₅ => ∃ m, m < n ∧ I m s₅) (fun _ _ => False) s₄) (fun _ _ => False) s₃
            else ∃ m, m < n ∧ I m s₃) (fun _ _ => False) s₂) (fun _ _ => False) s₁) (fun _ _ => False) s₁) (fun _ _ => False) s)
    (n : Nat) (h : I n s) :
    codeAny (model prog w) A (.compLoop (.ListComp elt [⟨target, iter, ifs, 0⟩] scope pos) 0 it acc env) R s := by
  have no : ∀ (x : Value) (s' : Shared), False → notedBy (model prog w) A env (fun e s' => R (.error e) s') x s' := fun _ _ z => z.elim
  refine codeAny_loop rfl I (fun n s hI => ?_) n h
  show wpAny _ A ((compTurn (.ListComp elt [⟨target, iter, ifs, 0⟩] scope pos) 0 it acc env).onRaise (fun x => do noteFrame x env; theTreesLotGoes x)) _ _ s
  refine wpAny_noted ?_
  rw [compTurn_list]
  refine wpAny_bind (wpAny_standAt (wpAny_bind (wpAny_mono (turn n s hI) (fun r s₁ h₁ => ?_) no)))
  cases r with
  | none => exact wpAny_pure h₁
  | some v =>
    refine wpAny_bind (wpAny_mono h₁ (fun _ s₁' h₁' => ?_) no)
    refine wpAny_bind (wpAny_mono h₁' (fun _ s₂ h₂ => wpAny_bind (wpAny_mono h₂ (fun ok s₃ h₃ => ?_) no)) no)
    cases ok with
    | false => exact wpAny_pure ⟨rfl, h₃⟩
    | true =>
      exact wpAny_bind (wpAny_bind (wpAny_mono h₃ (fun x s₄ h₄ => wpAny_bind (wpAny_mono h₄ (fun _ s₅ h₅ => wpAny_pure (wpAny_pure ⟨rfl, h₅⟩)) no)) no))
end

section
variable {X : Cx} {elt iter : Expr} {x : Str} {px pos : Pos} {ifs : List Expr} {scope : Scope} {cl : List (Str × Addr)} {fr : List Str} {js : List Nat} {te : TE} {tt : TT}

/-- the block: from the iterator to the made list; C (pinned) is the block's own frame -/
theorem comp_run {pins : List (Addr × Obj)} {σ : St} {H2 : Hp} {s2 : Shared} {Q : VK} {it : Addr} {fp : List Addr} {tn : Nat → Heap → Prop} {J : It} {E : Value → Shared → Prop} {RR : Value → Addr → Result → Shared → Prop}
    (S : CompSc X scope x cl fr js) (hc : X.calm = true) (helt : ∀ C fp s H, PE (cxComp X scope x cl fr C fp s H) elt te) (hifs : ∀ C fp s H, PIfs (cxComp X scope x cl fr C fp s H) ifs tt)
    (I2 : Inv X pins σ H2 s2) (T : Turn X.prog X.w X.K (.Name x px) J fp it tn) (st2 : tn 0 s2.heap) (f2 : ∀ b ∈ fp, FpOk X pins H2 b) (hw : compW js tt te σ Q J H2)
    (hRR : ∀ (D C : Addr) (oC : Obj) (s1 : Shared) (H' : Hp), Inv X (pins ++ [(C, oC)]) σ H' s1 → (∃ m, s1.heap.Ns C m) → X.s₀.heap.objs.size ≤ C → (∀ p ∈ X.pn ++ pins, p.1 ≠ C) → Q (.ref D) H' → RR (.ref D) C (.ok .next) s1) :
    wpAny (model X.prog X.w) X.A (newList []) (fun acc s₃ => wpAny (model X.prog X.w) X.A (newFunctionEnv scope X.env.globals cl [] X.env.qual none .none (some X.env)) (fun cenv s₄ =>
      codeAny (model X.prog X.w) X.A (.compStart (.ListComp elt [⟨.Name x px, iter, ifs, 0⟩] scope pos) 0 (.ref it) acc { cenv with scope := relabel scope X.env }) (RR acc cenv.locals) s₄) E s₃) E s2 := by
  refine wpAny_newObj_type ?_
  -- the new list
  have hD : H2 s2.heap.objs.size = none := I2.hok.fresh (Nat.le_refl _)
  have I3 : Inv X pins σ (upd H2 s2.heap.objs.size (.lst [])) { s2 with heap := s2.heap.push { cls := .type "list", data := .seq ([] : List Value).toArray } } := I2.lnew (t' := s2.toks) (ys := []) .nil (Nat.zero_le _)
  obtain ⟨W, ⟨m0, w0⟩, turn⟩ := hw _ hD
  have fl2 : ∀ b ∈ fp, b < s2.heap.objs.size := fun b hb => by
    obtain ⟨o, e, _⟩ := T.obj 0 _ st2 b hb
    exact Heap.lt_size e
  have f3 : ∀ b ∈ fp, FpOk X pins (upd H2 s2.heap.objs.size (.lst [])) b := fun b hb => by
    obtain ⟨f0, fr⟩ := f2 b hb
    exact ⟨by rw [upd_ne (Nat.ne_of_lt (fl2 b hb))]; exact f0, fr⟩
  have st3 : tn 0 (s2.heap.push { cls := .type "list", data := .seq ([] : List Value).toArray }) := T.keep 0 _ _ st2 fun b _ o e => Heap.get?_push_of_some _ e
  generalize hs3 : ({ s2 with heap := s2.heap.push { cls := .type "list", data := .seq ([] : List Value).toArray } } : Shared) = s3 at I3 ⊢
  have st3' : tn 0 s3.heap := by rw [← hs3]; exact st3
  generalize hDe : s2.heap.objs.size = D at *
  generalize hH3 : upd H2 D (.lst []) = H3 at *
  refine wpAny_newFunctionEnv S.nocell (fun y hy => by simp at hy) (fun h₁ ns₁ sb₁ => ?_) S.kind
  -- the block's frame
  have keep : ∀ b o, s3.heap.get? b = some o → h₁.get? b = some o := fun b o e => (sb₁.2 b (Nat.ne_of_lt (Heap.lt_size e))).trans (Heap.get?_push_of_some _ e)
  generalize hCe : s3.heap.objs.size = C at *
  have fl3 : ∀ b ∈ fp, b < C := fun b hb => by
    obtain ⟨o, e, _⟩ := T.obj 0 _ st3' b hb
    rw [← hCe]; exact Heap.lt_size e
  have Ok' : (cxComp X scope x cl fr C fp s3 H3).Ok := by
    refine ⟨I3.ok.mod, S.kind, I3.ok.glob, I3.ok.blt, Nat.le_of_eq hCe, fun y z c h1 h2 => ?_, fun y hy => S.has y hy, fun y c h _ => absurd h Bool.false_ne_true, I3.ok.hd, I3.ok.frames, .inl rfl, fun b hb => ⟨Nat.ne_of_lt (fl3 b hb), fun y c h => (f3 b hb).2.2.2.2.1 y c (S.cells y c h)⟩,
      I3.bs, Nat.le_trans I3.ok.bsz I3.sz, fun b o e hb => ?_, fun b hb hb' => ?_, I3.stack, I3.stkFree⟩
    · exact I3.ok.inj y z c (S.cells y c h1) (S.cells z c h2)
    · rcases (f3 b hb).2.2.2.1 with z | z
      · exact I3.ok.noex b o e z
      · exact absurd (Nat.lt_of_lt_of_le (Heap.lt_size (I3.ok.bs b o e).1) z) (Nat.lt_irrefl _)
    · rcases List.mem_cons.mp (I3.stkSub b hb') with z | z
      · exact (f3 b hb).2.1 z
      · exact (f3 b hb).2.2.1 z
  have J0 : Inv (cxComp X scope x cl fr C fp s3 H3) [] (subS js σ none) H3 { s3 with heap := h₁, toks := s3.toks + ([] : List (Str × Value)).length } := by
    refine ⟨Ok', rfl, I3.bare, Un.kept keep, ⟨_, ns₁, fun i y v h1 h2 h3 => ?_⟩, fun y c h => ?_, I3.hok.fresh (Nat.le_of_eq hCe), fun y c h => I3.freeC y c (S.cells y c h), fun p hp => by simp at hp, I3.hok.kept keep, by simp [subS, S.len]⟩
    · cases i with
      | zero => simp [subS] at h2
      | succ i =>
        have h1' : fr[i]? = some y := by simpa using h1
        have h2' : (js.map fun j => (σ[j]?).getD none)[i]? = some (some v) := by simpa [subS] using h2
        rw [List.getElem?_map] at h2'
        cases ej : js[i]? with
        | none => rw [ej] at h2'; cases h2'
        | some j =>
          rw [ej] at h2'
          have h2'' : (σ[j]?).getD none = some v := Option.some.inj h2'
          have h2''' : σ[j]? = some (some v) := by
            cases es : σ[j]? with
            | none => rw [es] at h2''; cases h2''
            | some o => rw [es] at h2''; exact congrArg some h2''
          obtain ⟨hN, hk, hk'⟩ := S.slots i y j h1' ej
          obtain ⟨m, hm, hl⟩ := I3.loc
          obtain ⟨u, ru, lu⟩ := hl j y v hN h2''' (by
            rcases hk with k | k
            · exact .inr (.inl k)
            · exact .inr (.inr k))
          refine ⟨u, ru, ?_⟩
          rcases lu with ⟨k, _⟩ | ⟨_, c, hc1, hc2⟩
          · rcases hk with q | q
            · rw [k] at q; cases q
            · rw [k] at q; cases q
          · obtain ⟨c', hc'⟩ := S.has y hk'
            have ec : c' = c := Option.some.inj ((S.cells y c' hc').symm.trans hc1)
            subst ec
            obtain ⟨o, ho, hd⟩ := hc2
            exact .inr ⟨hk', c', hc', ⟨o, keep _ o ho, hd⟩⟩
    · obtain ⟨v, o, ho, hd⟩ := I3.cell y c (S.cells y c h)
      exact ⟨v, o, keep _ o ho, hd⟩
  have st4 : tn 0 h₁ := T.keep 0 _ _ st3' fun b _ o e => keep b o e
  -- what stays true of the iterator's objects
  have stat : ∀ {H' : Hp}, (∀ b ∈ fp, H' b = none) → ∀ b ∈ fp, FpOk (cxComp X scope x cl fr C fp s3 H3) [] H' b := fun hn b hb =>
    ⟨hn b hb, Nat.ne_of_lt (fl3 b hb), Ok'.exfs b hb, .inl hb, fun y c h => (f3 b hb).2.2.2.2.1 y c (S.cells y c h), fun p hp => by simp at hp⟩
  have loop : ∀ s₄ : Shared, s₄ = { s3 with heap := h₁, toks := s3.toks + ([] : List (Str × Value)).length } →
      codeAny (model X.prog X.w) X.A (.compLoop (.ListComp elt [⟨.Name x px, iter, ifs, 0⟩] scope pos) 0 (.ref it) (.ref D) (compEnvC scope cl C X.env)) (RR (.ref D) C) s₄ := by
    rintro s₄ rfl
    refine compLoop_go (fun n s' => ∃ i o H', Inv (cxComp X scope x cl fr C fp s3 H3) [] (subS js σ o) H' s' ∧ tn i s'.heap ∧ (∀ b ∈ fp, H' b = none) ∧ W i n H') ?_ m0 ⟨0, none, H3, J0, st4, fun b hb => (f3 b hb).1, w0⟩
    rintro n s5 ⟨i, o, H5, J5, st5, fr5, w5⟩
    rcases turn i n H5 w5 with ⟨stop, qn⟩ | ⟨go, step⟩
    · refine thn (T.done (cxComp X scope x cl fr C fp s3 H3) rfl rfl rfl hc i [] s5 _ H5 (fun _ _ => False) J5 (stat fr5) st5 stop) fun r s6 ⟨hr, J6⟩ => ?_
      subst hr
      -- back in the def
      have B : Un (frs X.stack) fp H3 H5 s3.heap s6.heap := J6.base
      have I6 : Inv X pins σ H5 s6 := I3.call' (ch := fp) J6.os B J6.hok J6.bare fun b hb => ⟨(f3 b hb).2.2.2.1, (f3 b hb).2.1, (f3 b hb).2.2.2.2.1, (f3 b hb).2.2.2.2.2⟩
      obtain ⟨m, hn, _⟩ := id J6.loc
      obtain ⟨oC, es, ep, hoC, hdC, hrest⟩ := id hn
      have hne : ∀ p ∈ X.pn ++ pins, p.1 ≠ C := fun p hp z => by
        have := Heap.lt_size (I3.pin p hp).1
        rw [z, hCe] at this
        exact Nat.lt_irrefl _ this
      refine hRR D C oC s6 H5 (I6.pins_of fun p hp => ?_) ⟨m, hn⟩ (by rw [← hCe]; exact I3.sz) hne qn
      rcases List.mem_append.mp hp with hp | hp
      · exact I6.pin p (List.mem_append_right _ hp)
      · have e : p = (C, oC) := by simpa using hp
        subst e
        refine ⟨hoC, J6.free, ?_, ?_, fun v z => by rw [hdC] at z; cases z⟩
        · have := I3.lt
          rw [hCe] at this
          exact (Nat.ne_of_lt this).symm
        · exact I3.nofs (Nat.le_of_eq hCe)
    · refine thn (T.item (cxComp X scope x cl fr C fp s3 H3) rfl rfl rfl hc i [] s5 _ H5 (fun _ _ => False) J5 (stat fr5) st5 go) fun r s6 ⟨u, hr, h6⟩ => ?_
      subst hr
      refine thn h6 fun _ s7 ⟨v, H7, J7, r7, y7, st7, fr7⟩ => ?_
      have J7' := J7.pinned (stat fr7) (T.obj _ _ st7)
      refine thn (pg_name (X := cxComp X scope x cl fr C fp s3 H3) (pos := px) (i := 0) S.nd rfl (.inl (lookup_relabel_local S.loc)) (.inr (lookup_relabel_local S.loc)) _ s7 _ H7 v u
        (fun σ8 H8 => σ8 = subS js σ (some v) ∧ H8 = H7) J7' r7 ⟨rfl, rfl⟩) fun _ s8 ⟨σ8, H8, J8, e1, e2⟩ => ?_
      subst e1 e2
      have again : ∀ {H9 : Hp} {s9 : Shared}, Inv (cxComp X scope x cl fr C fp s3 H3) ([] ++ pinsAt fp s7.heap) (subS js σ (some v)) H9 s9 → (∃ m', m' < n ∧ W (i + 1) m' H9) →
          ∃ m, m < n ∧ ∃ i o H', Inv (cxComp X scope x cl fr C fp s3 H3) [] (subS js σ o) H' s9 ∧ tn i s9.heap ∧ (∀ b ∈ fp, H' b = none) ∧ W i m H' := fun {H9 s9} J9 w9 => by
        obtain ⟨m', hm, w9⟩ := w9
        refine ⟨m', hm, i + 1, some v, H9, J9.unpinned, T.keep _ _ _ st7 fun b hb o e => (J9.pin (b, o) (List.mem_append_right _ (List.mem_append_right _ (mem_pinsAt hb e)))).1, fun b hb => ?_, w9⟩
        obtain ⟨o, e, d⟩ := T.obj _ _ st7 b hb
        exact (J9.pin (b, o) (List.mem_append_right _ (List.mem_append_right _ (mem_pinsAt hb e)))).2.1
      refine thn (hifs C fp s3 H3 _ s8 _ _ _ J8 (step v _ y7)) fun ok s9 ⟨H9, J9, q9⟩ => ?_
      cases ok with
      | false =>
        rw [if_neg Bool.false_ne_true] at q9 ⊢
        exact again J9 q9
      | true =>
        rw [if_pos rfl] at q9 ⊢
        refine thn (helt C fp s3 H3 _ s9 _ _ _ J9 q9) fun yv s10 ⟨y, H10, J10, r10, ys, e10, z10, w10⟩ => ?_
        refine thn (mt_append (X := cxComp X scope x cl fr C fp s3 H3) _ s10 _ H10 (.ref D) [y] (.ref D) [yv] (fun _ H11 => H11 = upd H10 D (.lst (ys ++ [y]))) J10 rfl (.cons r10 .nil) ⟨D, ys, y, rfl, rfl, e10, z10, rfl⟩) fun _ s11 ⟨_, H11, J11, _, e11⟩ => ?_
        subst e11
        exact again J11 w10
  exact codeAny_compStart_list (loop _ rfl) (T.self X.A 0 _ _ _ st4 (loop _ rfl))

/-- [elt for x in iter if ..] -/
theorem pe_comp {wi : TI} (S : CompSc X scope x cl fr js) (hc : X.calm = true) (hi : PI X (.Name x px) iter wi) (hifs : ∀ C fp s H, PIfs (cxComp X scope x cl fr C fp s H) ifs tt) (helt : ∀ C fp s H, PE (cxComp X scope x cl fr C fp s H) elt te)
    (hs : ∀ x, foldedSetIterable iter X.env x = pure x := by intro _; rfl) :
    PE X (.ListComp elt [⟨.Name x px, iter, ifs, 0⟩] scope pos) (tComp js wi tt te) := by
  intro pins s σ H Q I h
  rw [eval_ListComp]
  refine wpAny_comprehension_free (use := none) rfl hs S.clos S.kind S.names (thn (hi pins s σ H _ I h) fun v s1 h1 => thn h1 fun itv s2 h2 => ?_)
  obtain ⟨it, fp, tn, J, H2, e, I2, T, st2, f2, hw⟩ := h2
  subst e
  refine comp_run S hc helt hifs I2 T st2 f2 hw fun D C oC s1 H' I1 hn hC hp q => ?_
  obtain ⟨m, hn⟩ := hn
  refine ⟨m, hn, fun h' hs' => ?_⟩
  have pC := I1.pin (C, oC) (List.mem_append_right _ (List.mem_append_right _ (List.mem_singleton.mpr rfl)))
  have I1' : Inv X pins σ H' s1 := I1.unpinned
  refine ⟨.ref D, H', I1'.turned (t' := s1.toks) (it := C) (fun b o hb e => (hs'.2 b hb).trans e) pC.2.1 pC.2.2.1 (.inr hC) (fun y c e z => ?_) hp, rfl, q⟩
  obtain ⟨w', o, ho, hd⟩ := I1'.cell y c e
  rw [z] at ho
  have eo : o = oC := Option.some.inj (ho.symm.trans pC.1)
  exact pC.2.2.2.2 w' (by rw [← eo]; exact hd)
/-- y = [elt for x in iter if ..], on one line -/
theorem ps_comp {wi : TI} {k : Nat} {y : Str} {py spos : Pos} (S : CompSc X scope x cl fr js) (hc : X.calm = true) (hN : X.N.Nodup) (hk : X.N[k]? = some y) (hy : Loc X.env.scope y) (hi : PI X (.Name x px) iter wi)
    (hifs : ∀ C fp s H, PIfs (cxComp X scope x cl fr C fp s H) ifs tt) (helt : ∀ C fp s H, PE (cxComp X scope x cl fr C fp s H) elt te)
    (hsw : swapsWith (.ListComp elt [⟨.Name x px, iter, ifs, 0⟩] scope pos) (some (.Name y py)) spos.line X.env = pure true := by rfl) (hs : ∀ x, foldedSetIterable iter X.env x = pure x := by intro _; rfl)
    (hf : X.fn y = true ∨ X.env.scope.names.lookup y = some .local := by first | exact .inl rfl | exact .inr rfl | assumption) :
    PS X (.Assign [.Name y py] (.ListComp elt [⟨.Name x px, iter, ifs, 0⟩] scope pos) spos) (tAsg (tComp js wi tt te) (gName k)) := by
  intro pins s σ H D I h
  rw [exec_Assign_Name_used _ _ _ _ hsw]
  refine wpAny_bind (wpAny_standAt (wpAny_bind ?_))
  show wpAny _ X.A (do let _ ← comprehension (.ListComp elt [⟨.Name x px, iter, ifs, 0⟩] scope pos) scope X.env _ (newList []) false (eval iter X.env) (some (assign (.Name y py) X.env))) _ _ s
  refine wpAny_bind (wpAny_mono (wpAny_comprehension_free (use := some (assign (.Name y py) X.env)) (Q := fun _ s' => SP X pins D .next s') rfl hs S.clos S.kind S.names
    (thn (hi pins s σ H _ I h) fun v s1 h1 => thn h1 fun itv s2 h2 => ?_)) (fun _ s' hq => wpAny_pure (wpAny_pure hq)) fun _ _ e => e)
  obtain ⟨it, fp, tn, J, H2, e, I2, T, st2, f2, hw⟩ := h2
  subst e
  refine comp_run S hc helt hifs I2 T st2 f2 hw fun D' C oC s1 H' I1 hn hC hp q => ?_
  obtain ⟨m, hn⟩ := hn
  show wpAny _ X.A (assign (.Name y py) X.env (.ref D')) _ _ _
  refine thn (pg_name (X := X) (pos := py) hN hk hy hf _ s1 σ H' (.ref D') (.ref D') (fun σ' H'' => σ' = σ.set k (some (.ref D')) ∧ H'' = H') I1 rfl ⟨rfl, rfl⟩) fun _ s5 ⟨σ5, H5, I5, e1, e2⟩ => ?_
  subst e1 e2
  have pC := I5.pin (C, oC) (List.mem_append_right _ (List.mem_append_right _ (List.mem_singleton.mpr rfl)))
  have pC1 := I1.pin (C, oC) (List.mem_append_right _ (List.mem_append_right _ (List.mem_singleton.mpr rfl)))
  have I5' : Inv X pins _ _ s5 := I5.unpinned
  refine ⟨m, ?_, fun h' hs' => ?_⟩
  · obtain ⟨o, es, ep, ho, r⟩ := hn
    have eo : o = oC := Option.some.inj (ho.symm.trans pC1.1)
    subst eo
    exact ⟨o, es, ep, pC.1, r⟩
  · refine ⟨_, _, I5'.turned (t' := s5.toks) (it := C) (fun b o hb e => (hs'.2 b hb).trans e) pC.2.1 pC.2.2.1 (.inr hC) (fun z c e w => ?_) hp, q⟩
    obtain ⟨w', o, ho, hd⟩ := I5'.cell z c e
    rw [w] at ho
    have eo : o = oC := Option.some.inj (ho.symm.trans pC.1)
    exact pC.2.2.2.2 w' (by rw [← eo]; exact hd)
end

/-! ### for x in reversed(a list) -/
def Itv (K : PySem.W.Frag) (a : Addr) (n : Nat) : It :=
  ⟨fun i H => ∃ xs x, SqL K H a xs ∧ xs.length = n ∧ i < n ∧ xs[n - 1 - i]? = some x, fun i H x H' => H' = H ∧ ∀ xs, SqL K H a xs → xs[n - 1 - i]? = some x, fun i _ => n ≤ i⟩
theorem turn_rev {P : Program} {w : World} {K : PySem.W.Frag} {tg : Expr} (a it : Addr) (n : Nat) : Turn P w K tg (Itv K a n) [it] it (fun i h => i ≤ n ∧ h.IsRevIter it a ((n : Int) - 1 - (i : Int))) where
  mem := by simp
  obj := fun i h st b hb => by
    have e : b = it := by simpa using hb
    subst e
    obtain ⟨_, o, e, c, d⟩ := st
    exact ⟨o, e, fun v z => by rw [d] at z; cases z⟩
  keep := fun i h h' st k => ⟨st.1, st.2.at fun o e => k it (by simp) o e⟩
  item := by
    intro X hP hw hK hc i pins s σ H E I hf st hg
    subst hP hw hK
    obtain ⟨xs, x, hq, hn, hi, hx⟩ := hg
    obtain ⟨its, rv, p, hz⟩ := I.list hq
    obtain ⟨u, hu, ru⟩ := rv.get hx
    obtain ⟨f0, f1, f2, f3, f4, f5⟩ := hf it (by simp)
    have e : (n : Int) - 1 - (i : Int) = ((n - 1 - i : Nat) : Int) := by omega
    have hit := st.2
    rw [e] at hit
    refine wpAny_pyNext_rev_item hit p.isList (x := u) (by simpa using hu) fun h' st' sb => ?_
    have I1 : Inv X pins σ H { s with heap := h' } := I.turned (t' := s.toks) (fun b o hb e => (sb.2 b hb).trans e) f0 f1 f3 f4 f5
    obtain ⟨o, e', c, d⟩ := id st'
    refine ⟨u, rfl, go_of (s := { s with heap := h' }) e' c d (by decide) ⟨x, H, I1, ru, ⟨rfl, fun ys hy => by rw [I.list_inj hy hq]; exact hx⟩, ⟨hi, ?_⟩, fun b hb => (hf b hb).1⟩⟩
    have e2 : (n : Int) - 1 - ((i + 1 : Nat) : Int) = ((n - 1 - i : Nat) : Int) - 1 := by omega
    rw [e2]
    exact st'
  done := by
    intro X hP hw hK hc i pins s σ H E I hf st hg
    subst hP hw hK
    obtain ⟨f0, f1, f2, f3, f4, f5⟩ := hf it (by simp)
    have hn : n ≤ i := hg
    have e : (n : Int) - 1 - (i : Int) = -1 := by have := st.1; omega
    have hit := st.2
    rw [e] at hit
    exact wpAny_pyNext_rev_end (I.ok.hd hc) hit fun h' eb => ⟨rfl, I.turned (t' := s.toks) (fun b o hb e => eb b o hb e) f0 f1 f3 f4 f5⟩
  self := fun _ _ _ _ _ st h => wpAny_pyIter_revIter st.2 h
def iRev (K : PySem.W.Frag) (ta : TA) : TI := fun σ H R => ta σ H fun vs H1 => ∃ a xs, vs = [.ref a] ∧ SqL K H1 a xs ∧ R (Itv K a xs.length) H1
theorem boot_reversed : bootBuiltins "reversed" = some (.type "reversed") := by decide +kernel
theorem pi_rev {X : Cx} {tg a : Expr} {ta : TA} {p pos : Pos} (hg : Gl X "reversed") (hm : X.mg "reversed" = none) (ha : PA X [a] ta) (hs : starEach [a] X.env = [(false, eval a X.env)] := by rfl) : PI X tg (.Call (.Name "reversed" p) [a] [] pos) (iRev X.K ta) := by
  intro pins s σ H R I h
  refine Call_ (ld_blt I hg hm boot_reversed (PyProof.Rows.callWith_type1 (thn (ha pos pins s σ H _ I h) fun us s1 ⟨vs, H1, I1, r1, q1⟩ => ?_) hs rfl))
  obtain ⟨a, xs, e, hq, q⟩ := q1
  subst e
  cases r1 with
  | cons r rr =>
    cases rr
    cases r
    obtain ⟨its, rv, p, hz⟩ := I1.list hq
    have hl := rv.length
    refine call_reversed_list p.isList ?_
    have e : (((its.toArray).size : Int) - 1) = (xs.length : Int) - 1 := by rw [List.size_toArray, hl]
    rw [e]
    have hit : (s1.heap.push (revObj a ((xs.length : Int) - 1))).IsRevIter s1.heap.objs.size a ((xs.length : Int) - 1) := ⟨_, Heap.get?_push_size _ rfl, rfl, rfl⟩
    refine wpAny_pyIter_revIter hit ?_
    refine ⟨s1.heap.objs.size, [s1.heap.objs.size], _, _, H1, rfl, I1.kept (t' := s1.toks) fun b o e => Heap.get?_push_of_some _ e, turn_rev a _ xs.length, ⟨Nat.zero_le _, ?_⟩, fun b hb => ?_, q⟩
    · rw [show (xs.length : Int) - 1 - ((0 : Nat) : Int) = (xs.length : Int) - 1 by omega]
      exact hit
    · have e : b = s1.heap.objs.size := by simpa using hb
      subst e
      exact I1.fpOk (Nat.le_refl _) (I1.hok.fresh (Nat.le_refl _))
theorem for_rev {K : PySem.W.Frag} {a : Addr} {xs : List V} {g : TG} {tb : TS} {D : Ends} {σ : St} {H : Hp} (Pv : Nat → St → Hp → Prop) (h0 : Pv 0 σ H) (hl : ∀ i σ H, i ≤ xs.length → Pv i σ H → SqL K H a xs)
    (hs : ∀ i x σ H, i < xs.length → xs[xs.length - 1 - i]? = some x → Pv i σ H → g x σ H fun σ2 H2 => tb { D with nx := Pv (i + 1), ct := Pv (i + 1), bk := D.nx } σ2 H2) (hd : ∀ σ H, Pv xs.length σ H → D.nx σ H) :
    ∃ W : Nat → Nat → St → Hp → Prop, (∃ m, W 0 m σ H) ∧ ∀ i m σ H, W i m σ H →
      ((Itv K a xs.length).stop i H ∧ D.nx σ H) ∨ ((Itv K a xs.length).go i H ∧ ∃ N : St → Hp → Prop, (∀ σ' H', N σ' H' → ∃ m', m' < m ∧ W (i + 1) m' σ' H') ∧ ∀ x H', (Itv K a xs.length).yld i H x H' → g x σ H' fun σ2 H2 => tb { D with nx := N, ct := N, bk := D.nx } σ2 H2) := by
  refine ⟨fun i m σ H => m = xs.length - i ∧ i ≤ xs.length ∧ Pv i σ H, ⟨xs.length, by simp, Nat.zero_le _, h0⟩, ?_⟩
  rintro i m σ H ⟨rfl, hi, p⟩
  have q := hl i σ H hi p
  by_cases hlt : i < xs.length
  · refine .inr ⟨⟨xs, xs[xs.length - 1 - i], q, rfl, hlt, List.getElem?_eq_getElem (by omega)⟩, Pv (i + 1), fun σ' H' p' => ⟨xs.length - (i + 1), by omega, rfl, hlt, p'⟩, fun x H' y => ?_⟩
    obtain ⟨e, y⟩ := y
    subst e
    exact hs i x σ _ hlt (y xs q) p
  · have e : i = xs.length := by omega
    subst e
    exact .inl ⟨Nat.le_refl _, hd σ H p⟩

/-! ### all, isinstance, is -/
section
variable {X : Cx}
theorem boot_all' : bootBuiltins "all" = some (.builtin "all") := by decide +kernel
/-- all(a list of bools) -/
theorem call_all (hc : X.calm = true) : CallR X (.builtin "all") (fun xs H Q => ∃ (a : Addr) (bs : List Bool), xs = [.ref a] ∧ SqL X.K H a (bs.map V.bl) ∧ Q (.bl (bs.all id)) H) := by
  intro pins s σ H xs us Q I r h
  obtain ⟨a, bs, rfl, hq, q⟩ := h
  obtain ⟨u, rfl, ru⟩ := vals1 r
  cases ru
  obtain ⟨its, rv, p, hz⟩ := I.list hq
  have hl := rv.length
  rw [List.length_map] at hl
  have hlt : a < s.heap.objs.size := by obtain ⟨o, _, e, _⟩ := p; exact Heap.lt_size e
  refine call_all_walk (wpAny_pyIter_list p.isList ?_)
  refine ⟨s.heap.objs.size, [s.heap.objs.size, a], [s.heap.objs.size], its.toArray.size, _, _, fun i => bs.getD i false, rfl,
    Walks.list (A := X.A.in1) (I.ok.hd hc) s.heap.objs.size a (Nat.ne_of_lt hlt) its.toArray, ⟨⟨_, Heap.get?_push_size _ rfl, rfl, rfl⟩, p.isList.push _⟩, fun i v s' Q' E' hv hQ' => ?_, fun h' tk hk => ?_⟩
  · have hv' : its[i]? = some v := by simpa using hv
    have hi : i < bs.length := by rw [hl]; exact (List.getElem?_eq_some_iff.mp hv').1
    obtain ⟨u, hu, ru⟩ := rv.get (i := i) (x := .bl bs[i]) (by rw [List.getElem?_map, List.getElem?_eq_getElem hi] <;> rfl)
    rw [hv'] at hu
    cases hu
    cases ru
    refine wpAny_truthy_bool ?_
    have e : bs.getD i false = bs[i] := by rw [List.getD_eq_getElem?_getD, List.getElem?_eq_getElem hi]; rfl
    have hQ2 : Q' (bs.getD i false) s' := hQ'
    rw [e] at hQ2
    exact hQ2
  · have e : (List.range its.toArray.size).all (fun i => bs.getD i false) = bs.all id := by
      rw [List.size_toArray, ← hl, Bool.eq_iff_iff, List.all_eq_true, List.all_eq_true]
      constructor
      · intro h b hb
        obtain ⟨i, hi, e⟩ := List.mem_iff_getElem.mp hb
        have := h i (List.mem_range.mpr hi)
        rw [List.getD_eq_getElem?_getD, List.getElem?_eq_getElem hi, e] at this
        exact this
      · intro h i hi
        have hi' := List.mem_range.mp hi
        have := h bs[i] (List.getElem_mem hi')
        rw [List.getD_eq_getElem?_getD, List.getElem?_eq_getElem hi']
        exact this
    rw [e]
    refine ⟨.bl _, H, ?_, rfl, q⟩
    have I1 : Inv X pins σ H { s with heap := s.heap.push { cls := .type "list_iterator", data := .fields #[.ref a, .int 0 0] } } := I.kept (t' := s.toks) fun b o e => Heap.get?_push_of_some _ e
    have nI := I.fpOk (Nat.le_refl _) (I.hok.fresh (Nat.le_refl _))
    exact I1.turned (it := s.heap.objs.size) (fun b o hb e => hk b o (by simpa using hb) e) nI.1 nI.2.1 nI.2.2.2.1 nI.2.2.2.2.1 nI.2.2.2.2.2

/-- a class as a value -/
def clsV : V → Option Value
  | .ty n => some (.type n)
  | .ref C => some (.ref C)
  | _ => none
theorem clsV_rel {y : V} {c u : Value} (h : clsV y = some c) (r : RelV y u) : u = c := by
  cases y with
  | ty n => cases r; exact Option.some.inj h
  | ref C => cases r; exact Option.some.inj h
  | _ => cases h
theorem boot_isinstance : bootBuiltins "isinstance" = some (.builtin "isinstance") := by decide +kernel
/-- isinstance(x, one class) -/
theorem call_isinst : CallR X (.builtin "isinstance") (fun xs H Q => ∃ x y t c b, xs = [x, y] ∧ clsV y = some c ∧ TyOf X.K H x t ∧ PySem.W.kitOne X.K t c = some b ∧ Q (.bl b) H) := by
  intro pins s σ H xs us Q I r h
  obtain ⟨x, y, t, c, b, rfl, hy, ty, e, q⟩ := h
  obtain ⟨u, v, rfl, ru, rv⟩ := vals2 r
  obtain rfl := clsV_rel hy rv
  exact isinst_ok I ru ty e fun tk => ⟨.bl b, H, I.tok tk, rfl, q⟩
/-- is, is not, of bools -/
theorem op_isB : OpR X (compareOp .Is) (fun x y H Q => ∃ a b, x = .bl a ∧ y = .bl b ∧ Q (.bl (a == b)) H) := by
  intro pins s σ H x y v u Q I rx ry h
  obtain ⟨a, b, rfl, rfl, q⟩ := h
  cases rx
  cases ry
  exact is_bool ⟨.bl _, H, I, rfl, q⟩
theorem op_isnotB : OpR X (compareOp .IsNot) (fun x y H Q => ∃ a b, x = .bl a ∧ y = .bl b ∧ Q (.bl (a != b)) H) := by
  intro pins s σ H x y v u Q I rx ry h
  obtain ⟨a, b, rfl, rfl, q⟩ := h
  cases rx
  cases ry
  exact isnot_bool ⟨.bl _, H, I, rfl, q⟩
end

/-! ### lists of ints compared; lists of lists that are alike -/
section
variable {X : Cx}
def rEqL (K : PySem.W.Frag) : R2 := fun x y H Q => ∃ (a b : Addr) (ns ms : List Int), x = .ref a ∧ y = .ref b ∧ SqL K H a (ns.map V.int) ∧ SqL K H b (ms.map V.int) ∧ Q (.bl (decide (ns = ms))) H
def rNeL (K : PySem.W.Frag) : R2 := fun x y H Q => ∃ (a b : Addr) (ns ms : List Int), x = .ref a ∧ y = .ref b ∧ SqL K H a (ns.map V.int) ∧ SqL K H b (ms.map V.int) ∧ Q (.bl (!decide (ns = ms))) H
theorem op_eqL (hu : X.A.units + 64 < cLine) : OpR X (compareOp .Eq) (rEqL X.K) := by
  intro pins s σ H x y v u Q I rx ry h
  obtain ⟨a, b, ns, ms, rfl, rfl, ha, hb, q⟩ := h
  cases rx
  cases ry
  obtain ⟨its, r, pl, _⟩ := I.list ha
  obtain ⟨its2, r2, pl2, _⟩ := I.list hb
  exact PySem.W.ke_eq_ints pl.isList pl2.isList (intsAre_of r) (intsAre_of r2) hu ⟨.bl _, H, I, rfl, q⟩
theorem op_neL (hu : X.A.units + 64 < cLine) : OpR X (compareOp .NotEq) (rNeL X.K) := by
  intro pins s σ H x y v u Q I rx ry h
  obtain ⟨a, b, ns, ms, rfl, rfl, ha, hb, q⟩ := h
  cases rx
  cases ry
  obtain ⟨its, r, pl, _⟩ := I.list ha
  obtain ⟨its2, r2, pl2, _⟩ := I.list hb
  exact PySem.W.ke_ne_ints pl.isList pl2.isList (intsAre_of r) (intsAre_of r2) hu ⟨.bl _, H, I, rfl, q⟩
/-- two lists of ints that are alike, side by side -/
def Alikes (K : PySem.W.Frag) (H : Hp) : List V → List V → Prop
  | [], [] => True
  | x :: xs, y :: ys => (∃ (a b : Addr) (ns : List Int), x = .ref a ∧ y = .ref b ∧ SqL K H a (ns.map V.int) ∧ SqL K H b (ns.map V.int)) ∧ Alikes K H xs ys
  | _, _ => False
theorem Alikes.len {K : PySem.W.Frag} {H : Hp} : ∀ {xs ys : List V}, Alikes K H xs ys → xs.length = ys.length
  | [], [], _ => rfl
  | _ :: _, _ :: _, h => by simp [Alikes.len h.2]
  | [], _ :: _, h => h.elim
  | _ :: _, [], h => h.elim
theorem Alikes.get {K : PySem.W.Frag} {H : Hp} : ∀ {xs ys : List V} {i : Nat} {x y : V}, Alikes K H xs ys → xs[i]? = some x → ys[i]? = some y →
    ∃ (a b : Addr) (ns : List Int), x = .ref a ∧ y = .ref b ∧ SqL K H a (ns.map V.int) ∧ SqL K H b (ns.map V.int)
  | [], [], _, _, _, _, h, _ => by simp at h
  | _ :: _, _ :: _, 0, _, _, h, h1, h2 => by
    simp at h1 h2
    subst h1 h2
    exact h.1
  | _ :: _, _ :: _, i + 1, _, _, h, h1, h2 => Alikes.get (i := i) h.2 (by simpa using h1) (by simpa using h2)
  | [], _ :: _, _, _, _, h, _, _ => h.elim
  | _ :: _, [], _, _, _, h, _, _ => h.elim
theorem range_all_true (n : Nat) : (List.range n).all (fun _ => true) = true := List.all_eq_true.mpr fun _ _ => rfl
/-- a list of lists == another one, item by item alike -/
theorem op_eqLL (hu : X.A.units + 64 < cLine) : OpR X (compareOp .Eq) (fun x y H Q => ∃ (a b : Addr) (xs ys : List V), x = .ref a ∧ y = .ref b ∧ SqL X.K H a xs ∧ SqL X.K H b ys ∧ Alikes X.K H xs ys ∧ Q (.bl true) H) := by
  intro pins s σ H x y v u Q I rx ry h
  obtain ⟨a, b, xs, ys, rfl, rfl, ha, hb, al, q⟩ := h
  cases rx
  cases ry
  obtain ⟨its, r, pl, _⟩ := I.list ha
  obtain ⟨its2, r2, pl2, _⟩ := I.list hb
  have l1 := r.length
  have l2 := r2.length
  have l3 := al.len
  refine SeqAt.eq_listAt (e := fun _ => true) pl.isList pl2.isList (by simp only [List.size_toArray]; omega) (by omega) (fun j h1 h2 => ?_) ?_
  · have h1' : j < its.length := by simpa using h1
    have h2' : j < its2.length := by simpa using h2
    have g1 : xs[j]? = some (xs[j]'(by omega)) := List.getElem?_eq_getElem (by omega)
    have g2 : ys[j]? = some (ys[j]'(by omega)) := List.getElem?_eq_getElem (by omega)
    obtain ⟨p, p', ns, e1, e2, hp, hp'⟩ := al.get g1 g2
    obtain ⟨u1, hu1, ru1⟩ := r.get g1
    obtain ⟨u2, hu2, ru2⟩ := r2.get g2
    rw [e1] at ru1
    rw [e2] at ru2
    cases ru1
    cases ru2
    have i1 : its.toArray[j] = .ref p := by
      have := (List.getElem?_eq_some_iff.mp hu1).2
      simpa using this
    have i2 : its2.toArray[j] = .ref p' := by
      have := (List.getElem?_eq_some_iff.mp hu2).2
      simpa using this
    rw [i1, i2]
    by_cases hpp : p = p'
    · subst hpp
      exact SeqAt.EqAt.same _
    · obtain ⟨js, q1, plp, _⟩ := I.list hp
      obtain ⟨js', q2, plp', _⟩ := I.list hp'
      have m1 := q1.length
      have m2 := q2.length
      rw [List.length_map] at m1 m2
      have := SeqAt.RcAt.lists (A := X.A.in1) (e := fun _ => true) plp.isList plp'.isList (by simp only [List.size_toArray]; omega) (by show X.A.units + 1 < cLine; omega) (fun k k1 k2 => by
        have k1' : k < js.length := by simpa using k1
        have k2' : k < js'.length := by simpa using k2
        have gk : (ns.map V.int)[k]? = some (.int (ns[k]'(by omega))) := by rw [List.getElem?_map, List.getElem?_eq_getElem (by omega)]; rfl
        obtain ⟨w1, hw1, t1, rfl⟩ := q1.get gk
        obtain ⟨w2, hw2, t2, rfl⟩ := q2.get gk
        have x1 : js.toArray[k] = .int (ns[k]'(by omega)) t1 := by
          have := (List.getElem?_eq_some_iff.mp hw1).2
          simpa using this
        have x2 : js'.toArray[k] = .int (ns[k]'(by omega)) t2 := by
          have := (List.getElem?_eq_some_iff.mp hw2).2
          simpa using this
        rw [x1, x2]
        have z := SeqAt.EqAt.int_int (A := X.A.in1.in1) (s := s) (ns[k]'(by omega)) t1 (ns[k]'(by omega)) t2
        rw [beq_self_eq_true] at z
        exact z)
      rw [range_all_true] at this
      exact SeqAt.EqAt.of_refs hpp this
  · rw [range_all_true]
    exact ⟨.bl _, H, I, rfl, q⟩
end

/-! ### what holds behind a statement, said once; xs.insert(0, y) -/
section
variable {X : Cx}
/-- behind the statement J holds; the rest goes on from J -/
def tCut (t : TS) : TS := fun D σ H => ∃ J : St → Hp → Prop, t { D with nx := J } σ H ∧ ∀ σ' H', J σ' H' → D.nx σ' H'
theorem ps_cut {st : Stmt} {t : TS} (h : PS X st t) : PS X st (tCut t) := by
  intro pins s σ H D I hq
  obtain ⟨J, hq, hJ⟩ := hq
  refine thn (h pins s σ H { D with nx := J } I hq) fun f s1 q => ?_
  cases f with
  | next =>
    obtain ⟨σ', H', I', q⟩ := q
    exact ⟨σ', H', I', hJ σ' H' q⟩
  | ret v => exact q
  | brk => exact q
  | cont => exact q
def rInsert0 : V → List V → Hp → VK → Prop := fun x vs H Q => ∃ l xs y, x = .ref l ∧ vs = [.int 0, y] ∧ H l = some (.lst xs) ∧ xs.length < sizeLine ∧ Q .non (upd H l (.lst (y :: xs)))
theorem mt_insert0 : MtM X "list.insert" rInsert0 := by
  intro pins s σ H x vs v us Q I rx rv h
  obtain ⟨l, xs, y, rfl, rfl, hH, hz, q⟩ := h
  cases rx
  obtain ⟨u, u2, rfl, ru, ru2⟩ := rv.two
  obtain ⟨t, rfl⟩ := ru
  obtain ⟨z, its, n, r, hl, e⟩ := I.lstM hH
  refine call_meets F.slot_list_insert ⟨_, e, rfl⟩ F.entry_list_insert (F.args_list_insert_3 _ _ _)
    (AutoSeq1.list_insert_list_int_val_1 l its.toArray n 0 t u2 (by rw [fitsIndex_both (by decide) (by decide)]; exact Bool.false_ne_true) (by rw [List.size_toArray]; omega)) ⟨e, ?_⟩
  refine ⟨.non, _, I.lset (its' := u2 :: its) hH e ?_ (.cons ru2 r) ?_, rfl, q⟩
  · simp
  · rw [List.length_cons]
    omega
end

/-! ### a product of two numbers of some thousand bits -/
theorem bits_le {x : Int} {k : Nat} (h : x.natAbs ≤ 2 ^ k) : Builtin.Int.intBits x ≤ k + 1 := by
  unfold Builtin.Int.intBits
  split
  · exact Nat.zero_le _
  · rename_i c
    have hx : x.natAbs ≠ 0 := fun z => c (by simp [Int.natAbs_eq_zero.mp z])
    have : x.natAbs.log2 < k + 1 := (Nat.log2_lt hx).mpr (Nat.lt_of_le_of_lt h (Nat.pow_lt_pow_right (by decide) (Nat.lt_succ_self _)))
    omega
theorem op_mulW {X : Cx} : OpR X (binaryOp .Mult) (rI (fun i j => ∃ k m : Nat, i.natAbs ≤ 2 ^ k ∧ j.natAbs ≤ 2 ^ m ∧ k ≤ 10000 ∧ m ≤ 10000) fun i j => .int (i * j)) := opI fun _ _ _ _ _ _ _ hc q => by
  obtain ⟨k, m, h1, h2, h3, h4⟩ := hc
  have b1 := bits_le h1
  have b2 := bits_le h2
  have e : (2 : Nat) ^ 20 = 1048576 := by decide
  exact mul_int q (IntMulOk.of_bits (by omega) (by omega))
end L2

/-! A def of the text as a promise under its name; heaps that grow; a comprehension over a list. -/
namespace L2
open PySem PySem.Spec PyProof.Rows

/-- the global x is a def that keeps sp, with k calls below it -/
def Def (P : Program) (w : World) (K : PySem.W.Frag) (mg : Str → Option Value) (base : Heap) (x : Str) (k : Nat) (ps : List Str) (sp : Sp) : Prop :=
  ∃ (f : Addr) (fd : FuncData), mg x = some (.ref f) ∧ PySem.W.keepIn K (.ref f) = true ∧ Binds K fd ps [] ∧ FnOk P w K mg base CX0 k f fd ps sp
/-- the global x is the def st of the text -/
def At (K : PySem.W.Frag) (mg : Str → Option Value) (x : Str) (st : Stmt) (ps : List Str) : Prop :=
  ∃ (f : Addr) (fd : FuncData), mg x = some (.ref f) ∧ Fun K x x st f fd ∧ Binds K fd ps []
section
variable {P : Program} {w : World} {K : PySem.W.Frag} {mg : Str → Option Value} {base : Heap} {x : Str} {k : Nat} {ps : List Str} {sp : Sp} {st : Stmt}
theorem At.def (A : At K mg x st ps) (h : ∀ f fd, Fun K x x st f fd → FnOk P w K mg base CX0 k f fd ps sp) : Def P w K mg base x k ps sp := by
  obtain ⟨f, fd, hm, F, hb⟩ := A
  exact ⟨f, fd, hm, F.kp, hb, h f fd F⟩
theorem Def.mono {j : Nat} (D : Def P w K mg base x j ps sp) (h : j ≤ k) : Def P w K mg base x k ps sp := by
  obtain ⟨f, fd, hm, hk, hb, F⟩ := D
  exact ⟨f, fd, hm, hk, hb, F.mono h⟩
end
theorem Def.imp {P : Program} {w : World} {K : PySem.W.Frag} {mg : Str → Option Value} {base : Heap} {x : Str} {k : Nat} {ps : List Str} {sp sp' : Sp} (D : Def P w K mg base x k ps sp) (h : ∀ vs H Q E, sp' vs H Q E → sp vs H Q E) : Def P w K mg base x k ps sp' := by
  obtain ⟨f, fd, hm, hk, hb, F⟩ := D
  exact ⟨f, fd, hm, hk, hb, F.imp h⟩
/-- a call of a def by its name -/
theorem pe_def {X : Cx} {x : Str} {k : Nat} {ps : List Str} {sp : Sp} {p pos : Pos} {e : Expr} {es : List Expr} {t : TA} (G : Def X.prog X.w X.K X.mg X.base x k ps sp) (hr : Room k X.A) (ha : PA X (e :: es) t) (hg : Gl X x := by rfl)
    (hdb : (x == ("__debug__" : Str)) = false := by decide) (he : starEach (e :: es) X.env = (false, eval e X.env) :: starEach es X.env := by rfl) (hpl : (backTo pos (starEach es X.env)).any (·.1) = false := by rfl) :
    PE X (.Call (.Name x p) (e :: es) [] pos) (tCall sp [] E0 t) := by
  obtain ⟨f, fd, hm, hk, hb, F⟩ := G
  exact pe_call F hr hg hm hk hb .nil pass0 ha hdb he hpl
/-- a built-in type's name as a value -/
theorem pe_ty {X : Cx} {x : Str} {T : String} {pos : Pos} (hm : X.mg x = none) (hv : bootBuiltins x = some (.type T)) (hg : Gl X x := by rfl) (hn : x ≠ "__name__" := by decide) (hd : (x == ("__debug__" : Str)) = false := by decide) : PE X (.Name x pos) (tC (.ty T)) :=
  pe_bltn hg hm hv rfl hn hd
theorem boot_tint : bootBuiltins "int" = some (.type "int") := by decide +kernel
theorem boot_tbool : bootBuiltins "bool" = some (.type "bool") := by decide +kernel
theorem boot_tlist : bootBuiltins "list" = some (.type "list") := by decide +kernel
theorem boot_tabs : bootBuiltins "abs" = some (.builtin "abs") := by decide +kernel
theorem boot_ttuple : bootBuiltins "tuple" = some (.type "tuple") := by decide +kernel

/-! ### heaps that grow -/
theorem Same.new {H : Hp} {p : Addr} (h : H p = none) (o : HO) : Same H (upd H p o) := fun b u q => by rw [upd_ne (ne_of_none q h)]; exact q
theorem Same.rd {H H' : Hp} {a : Addr} {u : HO} (s : Same H H') (h : Rd H a u) : Rd H' a u := by
  rcases h with h | ⟨o, h⟩
  · exact .inl (s _ _ h)
  · exact .inr ⟨o, s _ _ h⟩
theorem Rd.sq {K : PySem.W.Frag} {H : Hp} {a : Addr} {xs : List V} (h : Rd H a (.lst xs)) : SqL K H a xs := .inl h
/-- a value whose kind is known: no instance -/
def Kind (K : PySem.W.Frag) (H : Hp) (v : V) (n : String) : Prop := TyOf K H v (.type n)
theorem Kind.same {K : PySem.W.Frag} {H H' : Hp} {v : V} {n : String} (s : Same H H') (h : Kind K H v n) : Kind K H' v n := by
  unfold Kind at h ⊢
  generalize e : Value.type n = t at h
  cases h with
  | non => exact .non
  | bl x => exact .bl x
  | int i => exact .int i
  | str x => exact .str x
  | flt x => exact .flt x
  | lst h => exact .lst (s _ _ h)
  | frz h => exact .frz (s _ _ h)
  | tup h => exact .tup (s _ _ h)
  | dK h => exact .dK (s _ _ h)
  | dT h => exact .dT (s _ _ h)
  | ins h cl ha hn htk hm => cases e
theorem Rd.kind {K : PySem.W.Frag} {H : Hp} {a : Addr} {xs : List V} (h : Rd H a (.lst xs)) : Kind K H (.ref a) "list" := by
  rcases h with h | ⟨o, h⟩
  · exact .lst h
  · exact .frz h
/-- a whole number: an int that is no truth -/
def wholeV : V → Bool
  | .int _ => true
  | _ => false
def intLike : V → Bool
  | .int _ => true
  | .bl _ => true
  | _ => false
theorem kit_int {K : PySem.W.Frag} {H : Hp} {v : V} {n : String} (h : Kind K H v n) : PySem.W.kitOne K (.type n) (.type "int") = some (intLike v) := by
  unfold Kind at h
  generalize e : Value.type n = t at h ⊢
  cases h with
  | non => kernel_rfl
  | bl x => kernel_rfl
  | int i => kernel_rfl
  | str x => kernel_rfl
  | flt x => kernel_rfl
  | lst h => kernel_rfl
  | frz h => kernel_rfl
  | tup h => kernel_rfl
  | dK h => kernel_rfl
  | dT h => kernel_rfl
  | ins h cl ha hn htk hm => cases e
theorem kit_bool {K : PySem.W.Frag} {H : Hp} {v : V} {n : String} (h : Kind K H v n) : PySem.W.kitOne K (.type n) (.type "bool") = some (intLike v && !wholeV v) := by
  unfold Kind at h
  generalize e : Value.type n = t at h ⊢
  cases h with
  | non => kernel_rfl
  | bl x => kernel_rfl
  | int i => kernel_rfl
  | str x => kernel_rfl
  | flt x => kernel_rfl
  | lst h => kernel_rfl
  | frz h => kernel_rfl
  | tup h => kernel_rfl
  | dK h => kernel_rfl
  | dT h => kernel_rfl
  | ins h cl ha hn htk hm => cases e
theorem kit_list {K : PySem.W.Frag} {H : Hp} {v : V} {n : String} (h : Kind K H v n) : PySem.W.kitOne K (.type n) (.type "list") = some (decide (n = "list")) := by
  unfold Kind at h
  generalize e : Value.type n = t at h ⊢
  cases h with
  | non => cases e; kernel_rfl
  | bl x => cases e; kernel_rfl
  | int i => cases e; kernel_rfl
  | str x => cases e; kernel_rfl
  | flt x => cases e; kernel_rfl
  | lst h => cases e; kernel_rfl
  | frz h => cases e; kernel_rfl
  | tup h => cases e; kernel_rfl
  | dK h => cases e; kernel_rfl
  | dT h => cases e; kernel_rfl
  | ins h cl ha hn htk hm => cases e

theorem kit_tuple {K : PySem.W.Frag} {H : Hp} {v : V} {n : String} (h : Kind K H v n) : PySem.W.kitOne K (.type n) (.type "tuple") = some (decide (n = "tuple")) := by
  unfold Kind at h
  generalize e : Value.type n = t at h ⊢
  cases h with
  | non => cases e; kernel_rfl
  | bl x => cases e; kernel_rfl
  | int i => cases e; kernel_rfl
  | str x => cases e; kernel_rfl
  | flt x => cases e; kernel_rfl
  | lst h => cases e; kernel_rfl
  | frz h => cases e; kernel_rfl
  | tup h => cases e; kernel_rfl
  | dK h => cases e; kernel_rfl
  | dT h => cases e; kernel_rfl
  | ins h cl ha hn htk hm => cases e

/-! ### a comprehension over a list that stays -/
theorem comp_list {K : PySem.W.Frag} {a : Addr} {xs : List V} {js : List Nat} {tt : TT} {te : TE} {σ : St} {Q : VK} {H1 : Hp} (f : V → Bool) (g : V → V) (hl : SqL K H1 a xs) (hz : xs.length ≤ 1000)
    (ht : ∀ x ∈ xs, ∀ H', Same H1 H' → ∀ Q' : Bool → Hp → Prop, (∀ H'', Same H' H'' → Q' (f x) H'') → tt (subS js σ (some x)) H' Q')
    (he : ∀ x ∈ xs, f x = true → ∀ H', Same H1 H' → ∀ Q' : VK, (∀ H'', Same H' H'' → Q' (g x) H'') → te (subS js σ (some x)) H' Q')
    (hq : ∀ p H', H1 p = none → Same H1 H' → H' p = some (.lst ((xs.filter f).map g)) → Q (.ref p) H') : compW js tt te σ Q (Itl K a) H1 := by
  intro p hp
  refine ⟨fun i m H => m = xs.length - i ∧ i ≤ xs.length ∧ Same H1 H ∧ H p = some (.lst (((xs.take i).filter f).map g)), ⟨xs.length, by simp, Nat.zero_le _, Same.new hp _, upd_same⟩, ?_⟩
  rintro i m H ⟨rfl, hi, sm, hH⟩
  have q := sm.seq hl
  by_cases hlt : i < xs.length
  · refine .inr ⟨⟨xs, xs[i], q, List.getElem?_eq_getElem hlt⟩, fun x H' y => ?_⟩
    obtain ⟨e, y⟩ := y
    subst e
    have hx := y xs q
    have hm : x ∈ xs := List.mem_of_getElem? hx
    have tk := take_succ_filter f xs i x hx
    refine ht x hm _ sm _ fun H2 s2 => ?_
    cases hf : f x with
    | false =>
      rw [if_neg Bool.false_ne_true]
      rw [hf] at tk
      refine ⟨xs.length - (i + 1), by omega, rfl, hlt, sm.trans s2, ?_⟩
      rw [tk, if_neg Bool.false_ne_true, List.append_nil]
      exact s2 _ _ hH
    | true =>
      rw [if_pos rfl]
      rw [hf] at tk
      refine he x hm hf _ (sm.trans s2) _ fun H3 s3 => ?_
      refine ⟨_, s3 _ _ (s2 _ _ hH), ?_, xs.length - (i + 1), by omega, rfl, hlt, ?_, ?_⟩
      · have h1 : (((xs.take i).filter f).map g).length ≤ (xs.take i).length := by rw [List.length_map]; exact List.length_filter_le _ _
        rw [List.length_take] at h1
        exact small1000 (by omega)
      · intro b u hb
        rw [upd_ne (ne_of_none hb hp)]
        exact s3 _ _ (s2 _ _ (sm _ _ hb))
      · rw [upd_same, tk, if_pos rfl, List.map_append]
        all_goals rfl
  · have e : i = xs.length := by omega
    subst e
    rw [List.take_length] at hH
    exact .inl ⟨⟨xs, q, Nat.le_refl _⟩, hq p H hp sm hH⟩
theorem small {n : Nat} (h : n ≤ 1000) : n ≤ sizeLine := Nat.le_of_lt (small1000 h)

/-! ### slices of lists of ints -/
theorem cut_to (xs : List V) (k : Nat) : cutV xs none (some (k : Int)) = xs.take k := by
  unfold cutV
  rw [HT.sIx_none, HT.sIx_nat, List.drop_zero, Nat.sub_zero, List.take_eq_take_iff]
  omega
theorem cut_from (xs : List V) (k : Nat) : cutV xs (some (k : Int)) none = xs.drop k := by
  unfold cutV
  rw [HT.sIx_none, HT.sIx_nat]
  by_cases h : k ≤ xs.length
  · rw [Nat.min_eq_left h, List.take_of_length_le (by rw [List.length_drop]; exact Nat.le_refl _)]
  · rw [Nat.min_eq_right (by omega), List.drop_length, List.drop_eq_nil_of_le (by omega), List.take_nil]
/-- an item of a list of ints -/
theorem at_int {ns : List Int} {k : Nat} {x : Int} (h : ns[k]? = some x) : atI (ns.map V.int) (k : Int) = some (.int x) := atI_nat (by rw [List.getElem?_map, h] <;> rfl)
theorem get_int {ns : List Int} {i : Nat} {y : V} (h : (ns.map V.int)[i]? = some y) : ∃ z, ns[i]? = some z ∧ y = .int z := by
  rw [List.getElem?_map] at h
  cases e : ns[i]? with
  | none => rw [e] at h; cases h
  | some z => rw [e] at h; exact ⟨z, rfl, (Option.some.inj h).symm⟩
end L2
namespace L2
open PySem PySem.Spec PyProof.Rows
/-! ### a comprehension over range(n) -/
theorem comp_range {n : Nat} {js : List Nat} {tt : TT} {te : TE} {σ : St} {Q : VK} {H1 : Hp} (f : Nat → Bool) (hz : n ≤ 1000)
    (ht : ∀ i, i < n → ∀ H', Same H1 H' → ∀ Q' : Bool → Hp → Prop, Q' (f i) H' → tt (subS js σ (some (.int (i : Int)))) H' Q')
    (he : ∀ i, i < n → f i = true → ∀ H', Same H1 H' → ∀ Q' : VK, Q' (.int (i : Int)) H' → te (subS js σ (some (.int (i : Int)))) H' Q')
    (hq : ∀ p H', H1 p = none → Same H1 H' → H' p = some (.lst (((List.range n).filter f).map fun i : Nat => V.int (i : Int))) → Q (.ref p) H') : compW js tt te σ Q (Itr 0 n) H1 := by
  intro p hp
  refine ⟨fun i m H => m = n - i ∧ i ≤ n ∧ Same H1 H ∧ H p = some (.lst (((List.range i).filter f).map fun i : Nat => V.int (i : Int))), ⟨n, by simp, Nat.zero_le _, Same.new hp _, upd_same⟩, ?_⟩
  rintro i m H ⟨rfl, hi, sm, hH⟩
  by_cases hlt : i < n
  · refine .inr ⟨hlt, fun x H' y => ?_⟩
    obtain ⟨e, y⟩ := y
    subst e y
    rw [Int.zero_add]
    have rs : (List.range (i + 1)).filter f = (List.range i).filter f ++ (if f i = true then [i] else []) := by
      rw [List.range_succ, List.filter_append]
      cases hf : f i <;> simp [hf]
    refine ht i hlt _ sm _ ?_
    cases hf : f i with
    | false =>
      rw [if_neg Bool.false_ne_true]
      refine ⟨n - (i + 1), by omega, rfl, hlt, sm, ?_⟩
      rw [rs, hf, if_neg Bool.false_ne_true, List.append_nil]
      exact hH
    | true =>
      rw [if_pos rfl]
      refine he i hlt hf _ sm _ ?_
      refine ⟨_, hH, ?_, n - (i + 1), by omega, rfl, hlt, ?_, ?_⟩
      · have h1 := List.length_filter_le f (List.range i)
        rw [List.length_range] at h1
        rw [List.length_map]
        exact small1000 (by omega)
      · intro b u hb
        rw [upd_ne (ne_of_none hb hp)]
        exact sm _ _ hb
      · rw [upd_same, rs, hf, if_pos rfl, List.map_append]
        all_goals rfl
  · have e : i = n := by omega
    subst e
    exact .inl ⟨Nat.le_refl _, hq p H hp sm hH⟩
end L2

/-! Exceptions of own classes: raised, passed on, caught with a name, looked at. -/
namespace L2
open PySem PySem.Spec PyProof.Rows PySem.W
/-! ### isinstance of an exception of an own class -/
/-- an exception's class, by the text's facts -/
structure XCls (K : Frag) (C : Addr) : Prop where
  ga : findIn K (.ref C) "__getattribute__" = some (some (.builtin "BaseException.__getattribute__"))
  gt : findIn K (.ref C) "__getattr__" = some none
  cl : findIn K (.ref C) "__class__" = some (some (.builtin "object.__class__"))
  sb : subIn K (.ref C) (.type "BaseException") = some true
  so : subIn K (.ref C) (.type "object") = some true
  ci : (clsIn K C).isSome = true
section
variable {prog : Program} {w : World} {A : Around} {E : Value → Shared → Prop} {h : Heap} {g : Array GenState} {d : Drawn} {t : Nat} {os : OsState} {a C : Addr} {o : Obj} {K : Frag}

theorem exc_get {R : Result → Shared → Prop} (XC : XCls K C) (X : K.In h) (hx : h.get? a = some o) (hc : o.cls = .ref C) (hq : R (.ok (.ret (.ref C))) ⟨h, g, d, t, os⟩) :
    codeAny (model prog w) A (.call (.builtin "getset_descriptor.__get__") ⟨[.builtin "object.__class__", .ref a, .ref C], []⟩) R ⟨h, g, d, t, os⟩ := by
  have hT5 : (⟨h, g, d, t, os⟩ : Shared).TypeIs (.builtin "object.__class__") "getset_descriptor" := F.typeOf_object_class
  have LS : Looks (model prog w) h (isSubtype (.ref C) (.type (".".intercalate ("object.__class__".cutAt '.').dropLast))) true := by rw [F.owner_object_class]; exact looks_subIn X XC.so
  refine codeAny_call_builtin F.slot_gs_get.plain F.entry_gs_get (F.slot_gs_get.check _ _ _ _ _ _ _ _ hT5 (F.args_gs_get _ _ _) ?_)
  repeat (any_goals (first | assumption | (with_reducible refine wpAny_loadPart_at hx ?_; rw [hc]) | with_reducible refine LS.at ?_ | wp_step))
  refine ⟨Code.quiet_builtin _ (by decide +kernel), codeAny_builtin F.entry_object_class ?_⟩
  repeat (any_goals (first | assumption | (with_reducible refine wpAny_loadPart_at hx ?_; rw [hc]) | wp_step))

theorem exc_entry {tk : Tok} {Q : Fin → Shared → Prop} (XC : XCls K C) (X : K.In h) (hx : h.get? a = some o) (hc : o.cls = .ref C) (hq : Q (.done (.ret (.ref C))) ⟨h, g, d, t, os⟩) :
    wpAny (model prog w) A (Builtin.«object.__getattribute__» ⟨[.ref a, .str "__class__" tk], []⟩) Q E ⟨h, g, d, t, os⟩ := by
  have hT5 : (⟨h, g, d, t, os⟩ : Shared).TypeIs (.builtin "object.__class__") "getset_descriptor" := F.typeOf_object_class
  have f5 := F.typeOf_object_class
  have f6 := F.slot_gs_get.lookup
  have f7 := F.slot_gs_set.lookup
  have L4 := looks_findIn (M := model prog w) X XC.cl
  repeat (any_goals (first | assumption | (with_reducible refine wpAny_loadPart_at hx ?_; rw [hc]) | with_reducible refine L4.at ?_ | wp_step))
  refine exc_get XC X hx hc ?_
  repeat (any_goals (first | assumption | wp_step))

theorem exc_check {M : Model} {nameV : Value} {Q : Unit → Shared → Prop} (XC : XCls K C) (X : K.In h) (hx : h.get? a = some o) (hc : o.cls = .ref C) (hq : Q () ⟨h, g, d, t, os⟩) :
    wpAny M A (checkBuiltinCall "BaseException.__getattribute__" ⟨[.ref a, nameV], []⟩) Q E ⟨h, g, d, t, os⟩ := by
  have hk : builtinKind "BaseException.__getattribute__" = some .slot := by decide +kernel
  have hsplit : splitId "BaseException.__getattribute__" = some ("BaseException", "__getattribute__") := by decide +kernel
  have LS := looks_subIn (M := M) X XC.sb
  have ha := F.args_bexc_ga (.ref a) nameV
  simp only [checkBuiltinCall, hk, hsplit]
  refine wpAny_bind ?_
  · unfold isInstance
    repeat (first | (with_reducible refine wpAny_loadPart_at hx ?_; rw [hc]) | with_reducible refine LS.at ?_ | wp_step)
    exact hq

theorem exc_call {tk : Tok} {R : Result → Shared → Prop} (XC : XCls K C) (X : K.In h) (hx : h.get? a = some o) (hc : o.cls = .ref C) (hq : R (.ok (.ret (.ref C))) ⟨h, g, d, t, os⟩) :
    codeAny (model prog w) A (.call (.builtin "BaseException.__getattribute__") ⟨[.ref a, .str "__class__" tk], []⟩) R ⟨h, g, d, t, os⟩ :=
  codeAny_call_builtin F.attrBase_ValueError.ga.plain F.entry_bexc_ga (exc_check XC X hx hc (exc_entry XC X hx hc hq))

theorem exc_by {tk : Tok} {Q : Value → Shared → Prop} (XC : XCls K C) (X : K.In h) (hx : h.get? a = some o) (hc : o.cls = .ref C) (hq : Q (.ref C) ⟨h, g, d, t, os⟩) :
    wpAny (model prog w) A (getAttrBy (.ref a) (.str "__class__" tk) false) Q E ⟨h, g, d, t, os⟩ := by
  have f3 := F.attrBase_ValueError.ga.bind (.ref a)
  have hx2 : (Value.builtin "BaseException.__getattribute__" == Value.builtin "object.__getattribute__") = false := by decide +kernel
  have hx1 : (onTheHeap (Value.ref C) && Value.builtin "BaseException.__getattribute__" == Value.builtin "object.__getattribute__") = false := by rw [hx2]; rfl
  have L1 := looks_findIn (M := model prog w) X XC.ga
  have L2 := looks_findIn (M := model prog w) X XC.gt
  repeat (any_goals (first | assumption | (with_reducible refine wpAny_loadPart_at hx ?_; rw [hc]) | with_reducible refine L1.at ?_ | with_reducible refine L2.at ?_ | wp_step))
  refine exc_call XC X hx hc ?_
  repeat (any_goals (first | assumption | wp_step))

theorem exc_attr {Q : Option Value → Shared → Prop} (XC : XCls K C) (X : K.In h) (hx : h.get? a = some o) (hc : o.cls = .ref C) (hq : Q (some (.ref C)) ⟨h, g, d, t + 1, os⟩) :
    wpAny (model prog w) A (getAttr? (.ref a) "__class__") Q E ⟨h, g, d, t, os⟩ := by
  unfold getAttr? getAttrBy?
  repeat (any_goals (first | assumption | with_reducible apply exc_by XC X hx hc | wp_step))

theorem kitx_exc (XC : XCls K C) : KitX K (.ref a) (.ref C) (fun h => ∃ o, h.get? a = some o ∧ o.cls = .ref C) where
  ty := fun M h _ p => by
    obtain ⟨o, h1, h2⟩ := p
    exact h2 ▸ (Looks.ld h1).andThen .now
  it := fun M h X _ => by
    have hcD := XC.ci
    unfold clsIn at hcD
    split at hcD
    · rename_i c' d' cd' sl' ho
      intro A' Q' E' s' k q
      unfold isType loadHead
      exact wpAny_bind (wpAny_loadPart (k _ _ (X _ _ ho)) (wpAny_pure q))
    · cases hcD
  ne := fun h tp dd its n sl X htp => by
    have hcD := XC.ci
    refine Bool.eq_false_iff.mpr fun q => ?_
    have e : C = tp := Value.ref.inj (beq_iff_eq.mp q)
    subst e
    unfold clsIn at hcD
    split at hcD
    · rename_i c' d' cd' sl' ho
      have z := (X _ _ ho).symm.trans htp
      cases z
    · cases hcD
  ca := fun {prog w A E Q s} X p k => by
    obtain ⟨h, g, d, t, os⟩ := s
    obtain ⟨o, h1, h2⟩ := p
    exact exc_attr XC X h1 h2 k
end

/-! ### an exception that flies -/
/-- B: what an exception's way through the frames leaves as it is -/
structure Cov (fs : List Addr) (H H' : Hp) (h B : Heap) : Prop where
  keep : ∀ b o, h.get? b = some o → H b = none → b ∉ fs → B.get? b = some o
  there : ∀ b o, h.get? b = some o → b ∉ fs → ∃ o', B.get? b = some o'
  trk : ∀ b u, H' b = some u → ∃ o, B.get? b = some o
theorem ObjOk.ex {P : Program} {w : World} {H : Hp} {h : Heap} {a : Addr} {o : HO} (x : ObjOk P w H h a o) : ∃ ob, h.get? a = some ob := by
  cases o with
  | lst xs => obtain ⟨_, _, _, _, e⟩ := x; exact ⟨_, e⟩
  | tup xs => obtain ⟨_, _, _, o, e, _⟩ := x; exact ⟨_, e⟩
  | dK kvs => obtain ⟨_, _, _, _, o, _, _, e, _⟩ := x; exact ⟨_, e⟩
  | dT kvs => obtain ⟨_, _, _, _, o, _, _, e, _⟩ := x; exact ⟨_, e⟩
  | set S n => obtain ⟨o, _, _, _, e, _⟩ := x; exact ⟨_, e⟩
  | ins C dx fs => obtain ⟨_, _, _, e, _⟩ := x; exact ⟨_, e⟩
  | own y => obtain ⟨_, e⟩ := x; exact ⟨_, e⟩
  | xd fs => obtain ⟨_, ⟨_, _, _, e, _⟩, _⟩ := x; exact ⟨_, e⟩
  | rng lo hi => obtain ⟨_, _, _, e⟩ := x; exact ⟨_, e⟩
  | frz ob u => obtain ⟨e, _⟩ := x; exact ⟨_, e⟩
  | tbl ps => exact ⟨_, (show h.get? a = some _ from x)⟩
  | met f y => exact ⟨_, (show h.get? a = some _ from x)⟩
  | ext φ => obtain ⟨_, e, _⟩ := x; exact e
section
variable {P : Program} {w : World} {l : List Env} {H H' : Hp} {h h1 h' B : Heap} {s s' : Shared} {x : Addr} {cls a0 : Value}
theorem Cov.un (c : Cov (frs l) H H' h B) (old : Un (frs l) [] H H' h h1) (fr : h1.FunFrames B l) (st : B.StaysIn h') (up : h1.UpToSlots h') : Un (frs l) [] H H' h h' where
  keep := fun b o e n hb _ => st b o (c.keep b o e n hb)
  slot := fun b o e n hb hx => by
    obtain ⟨sl, e1⟩ := old.slot b o e n hb hx
    obtain ⟨_, o2, e2, d⟩ := fr.mem hb
    rw [e1] at e2
    cases e2
    obtain ⟨sl', e3⟩ := up b _ e1 d
    exact ⟨sl', e3⟩
  free := old.free
  there := fun b o e hx => by
    by_cases hb : b ∈ frs l
    · obtain ⟨_, o2, e2, d⟩ := fr.mem hb
      obtain ⟨sl, e3⟩ := up b o2 e2 d
      exact ⟨_, e3⟩
    · obtain ⟨o', e'⟩ := c.there b o e hb
      exact ⟨o', st b o' e'⟩
  tups := old.tups
  frzs := old.frzs
  tbls := old.tbls
theorem Cov.hok {fs : List Addr} (c : Cov fs H H' h B) (ok : HOk P w H' h1) (s1 : B.StaysIn h1) (st : B.StaysIn h') : HOk P w H' h' := fun a o e => by
  refine (ok a o e).stay (fun b u hb q => ?_) (fun _ q => q) fun _ _ q => q
  have tr : ∃ v, H' b = some v := by
    rcases hb with z | z
    · exact ⟨o, by rw [z]; exact e⟩
    · exact ⟨_, z⟩
  obtain ⟨v, hv⟩ := tr
  obtain ⟨ob, e1⟩ := c.trk b v hv
  have e2 := s1 b ob e1
  rw [q] at e2
  cases e2
  exact st b u e1
structure Fly (P : Program) (w : World) (l : List Env) (H : Hp) (s : Shared) (x : Addr) (cls a0 : Value) (B : Heap) (H' : Hp) (s' : Shared) : Prop where
  fl : Heap.FlyingW B l x cls a0 s'.heap
  os : s'.os = s.os
  bare : AllBare s'.gens
  un : Un (frs l) [] H H' s.heap s'.heap
  hok : HOk P w H' s'.heap
  cov : Cov (frs l) H H' s.heap B
/-- how an exception lies behind a call -/
def CX1 (P : Program) (w : World) : CXT := fun l H s E e s' => ∃ (x : Addr) (cls a0 : Value) (B : Heap) (H' : Hp), e = .ref x ∧ Fly P w l H s x cls a0 B H' s' ∧ E cls none H'
theorem Fly.next (F : Fly P w l H s x cls a0 B H' s') (hf : Heap.FlyingW B l x cls a0 h') (up : s'.heap.UpToSlots h') : Fly P w l H s x cls a0 B H' { s' with heap := h' } :=
  ⟨hf, F.os, F.bare, F.cov.un F.un F.fl.2.2.1 hf.1 up, F.cov.hok F.hok F.fl.1 hf.1, F.cov⟩
/-- the exception itself is new -/
theorem Fly.new (F : Fly P w l H s x cls a0 B H' s') : s.heap.get? x = none := by
  cases e : s.heap.get? x with
  | none => rfl
  | some o =>
    obtain ⟨f1, f2, f3, oe, vs, T, oT, ts, a1, a2, a3, _⟩ := F.fl
    by_cases hb : x ∈ frs l
    · obtain ⟨_, o2, e2, d⟩ := f3.mem hb
      rw [a1] at e2
      cases e2
      exact absurd a3 (d vs)
    · obtain ⟨o', e'⟩ := F.cov.there x o e hb
      rw [f2] at e'
      cases e'
theorem Fly.free (F : Fly P w l H s x cls a0 B H' s') : H' x = none := by
  cases e : H' x with
  | none => rfl
  | some u =>
    obtain ⟨o, e'⟩ := F.cov.trk x u e
    rw [F.fl.2.1] at e'
    cases e'
end
section
variable {X : Cx} {pins : List (Addr × Obj)} {σ : St} {H H' : Hp} {s s' : Shared} {x : Addr} {cls a0 : Value} {B h' : Heap} {E : XK}
theorem Cov.out (I : Inv X pins σ H s) (hex : X.ex = []) (c : Cov (frs X.stack) H H' s.heap B) : Cov (frs X.outer) X.H₀ H' X.s₀.heap B := by
  have nx : ∀ b, b ∉ X.ex := fun b z => by rw [hex] at z; cases z
  have far : ∀ b o, X.s₀.heap.get? b = some o → b ∉ frs X.outer → b ∉ frs X.stack := fun b o e hb z => by
    rcases List.mem_cons.mp (I.stkSub b z) with q | q
    · exact absurd (Nat.lt_of_lt_of_le (Heap.lt_size e) I.ok.above) (by rw [q]; exact Nat.lt_irrefl _)
    · exact hb q
  refine ⟨fun b o e n hb => c.keep b o (I.base.keep b o e n hb (nx b)) (I.base.free b o e n (nx b)) (far b o e hb), fun b o e hb => ?_, c.trk⟩
  obtain ⟨o1, e1⟩ := I.base.there b o e (nx b)
  exact c.there b o1 e1 (far b o e hb)
theorem fly_leave (I : Inv X pins σ H s) (hex : X.ex = []) (F : Fly X.prog X.w X.stack H s x cls a0 B H' s') (hf : Heap.FlyingW B X.outer x cls a0 h') (up : s'.heap.UpToSlots h') :
    Fly X.prog X.w X.outer X.H₀ X.s₀ x cls a0 B H' { s' with heap := h' } := by
  have u := F.cov.un F.un F.fl.2.2.1 hf.1 up
  have k := F.cov.hok F.hok F.fl.1 hf.1
  have J : Inv X pins σ H' { s' with heap := h' } := I.call' (ch := []) F.os u k F.bare fun b z => absurd z (by simp)
  have jb := J.base
  rw [hex] at jb
  exact ⟨hf, J.os, J.bare, jb, J.hok, F.cov.out I hex⟩
end
/-- a callee's exception leaves this def too -/
theorem passX {P : Program} {w : World} {K : PySem.W.Frag} {mg : Str → Option Value} {base : Heap} {N : List Str} {qual : Str} {scope : Scope} {f : Addr} {cd : Value} {A : Around} {outer : List Env} {s0 : Shared} {H0 : Hp} {E : XK} :
    Passes (CX1 P w) (cxOf (CX1 P w) P w K mg base N qual scope f cd A outer s0 H0 E) E := by
  intro pins σ H s e s' I h
  obtain ⟨x, cls, a0, B, H', rfl, F, q⟩ := h
  refine wpAny_leaves_onW (outer := outer) I.ok.frames rfl F.fl fun h' hf up => ?_
  exact ⟨x, cls, a0, B, H', rfl, fly_leave I rfl F hf up, q⟩
/-- none comes -/
theorem passX0 {X : Cx} : Passes (CX1 X.prog X.w) X E0 := fun _ _ _ _ _ _ _ ⟨_, _, _, _, _, _, _, q⟩ => q.elim
/-- a promise without exceptions -/
theorem FnOk.calm {P : Program} {w : World} {K : PySem.W.Frag} {mg : Str → Option Value} {base : Heap} {k : Nat} {f : Addr} {fd : FuncData} {ps : List Str} {sp sp' : Sp} (F : FnOk P w K mg base (CX1 P w) k f fd ps sp)
    (h : ∀ vs H Q E, sp' vs H Q E → sp vs H Q E0) : FnOk P w K mg base CX0 k f fd ps sp' :=
  ⟨fun vs H Q E q => F.len vs H Q _ (h _ _ _ _ q), fun A outer s H args us vs Q E hr he hb hv hs => codeAny_mono (F.run A outer s H args us vs Q E0 hr he hb hv (h _ _ _ _ hs)) fun r s' q => by
    cases r with
    | error e =>
      obtain ⟨_, _, _, _, _, _, _, z⟩ := q
      exact z.elim
    | ok fl => cases fl <;> exact q⟩
/-- a def whose exceptions are told -/
theorem Fun.okX {P : Program} {w : World} {K : PySem.W.Frag} {mg : Str → Option Value} {base : Heap} {x qual : Str} {st : Stmt} {f : Addr} {fd : FuncData} {N ps : List Str} {k : Nat} {sp : Sp} (F : Fun K x qual st f fd) (S : FnScope N ps (defScope st)) (len : ∀ vs H Q E, sp vs H Q E → vs.length = ps.length)
    (hbody : ∀ (cdv : Value) (A : Around) (outer : List Env) (s : Shared) (H : Hp) (vs : List V) (Q : VK) (E : XK), Room k (A.deeper (envOfC qual (defScope st) s.heap.objs.size f cdv)) → sp vs H Q E →
      ∃ t, PSs (cxOf (CX1 P w) P w K mg base N qual (defScope st) f cdv A outer s H E) (defBody st) t ∧ t { nx := fun _ H' => Q .non H', rt := Q } (start N vs) H) : FnOk P w K mg base (CX1 P w) (k + 1) f fd ps sp := by
  obtain ⟨oc, od, kV, doc, pm, an, cdv, ct, osl, rfl, lk, hcd⟩ := F.ex
  exact fn_of lk hcd S len fun A outer s H vs Q E hr hsp => hbody cdv A outer s H vs Q E hr hsp

/-! ### raise C(text) -/
abbrev mroV : List Value := [.type "ValueError", .type "Exception", .type "BaseException", .type "object"]
/-- C: an own class over ValueError -/
structure ErrC (K : PySem.W.Frag) (C : Addr) : Prop extends XCls K C where
  ex : PySem.W.excIn K C mroV "ValueError.__new__" = true
theorem own_exc {K : PySem.W.Frag} {h : Heap} {C : Addr} {x : Str} {mg : Str → Option Value} (X : K.In h) (hm : mg x = some (.ref C)) (q : PySem.W.excIn K C mroV "ValueError.__new__" = true) : OwnCls x C mroV "ValueError.__new__" mg h := by
  refine ⟨hm, ?_⟩
  unfold PySem.W.excIn at q
  split at q
  · next dd cd sl ho =>
    split at q
    · next C' bm k0 k1 k2 k3 n k5 hmr hs =>
      simp only [Bool.and_eq_true, beq_iff_eq, Bool.not_eq_true'] at q
      obtain ⟨⟨⟨⟨⟨q1, q2⟩, q3⟩, q4⟩, q5⟩, q6⟩ := q
      subst q1 q2
      obtain ⟨nm, bs, mro, ns, qn, hd, sn, sub, ab, col, del⟩ := cd
      dsimp only at hmr q3 q5 q6
      subst hmr q3
      have esl : sl = #[k0, k1, k2, k3, some (.builtin "ValueError.__new__"), k5] := by
        cases sl with
        | mk l =>
          simp only at hs
          rw [hs]
      subst esl
      exact ⟨bm, ns, nm, qn, bs, hd, sn, sub, ab, col, dd, k0, k1, k2, k3, k5, _, X _ _ ho, .of_isNs (PySem.W.isNs_of_in X q5), PySem.W.nsMap_none_of_in X q5 q6, PySem.W.tail_of_in X q4⟩
    · cases q
  · cases q
def tRaise (C : Addr) (E : XK) (t : TA) : TS := fun _ σ H => t σ H fun vs H1 => vs.length ≤ sizeLine ∧ E (.ref C) none H1
theorem ps_raise {X : Cx} {E : XK} {cn : Str} {C : Addr} {e : Expr} {es : List Expr} {t : TA} {np cpos pos : Pos} (EC : ErrC X.K C) (hg : Gl X cn) (hm : X.mg cn = some (.ref C)) (ha : PA X (e :: es) t)
    (hxe : ∀ e s', wpAny (model X.prog X.w) X.A (leaving X.env e) (fun _ s'' => CX1 X.prog X.w X.outer X.H₀ X.s₀ E e s'') (fun e' s'' => CX1 X.prog X.w X.outer X.H₀ X.s₀ E e' s'') s' → X.xe e s' := by exact fun _ _ h => h)
    (hst : X.stack = X.env :: X.outer := by rfl) (hex : X.ex = [] := by rfl) (hfr : X.env.frame = some X.env.locals := by rfl) (hc : X.calm = true := by rfl) (hd : (cn == ("__debug__" : Str)) = false := by decide)
    (he : starEach (e :: es) X.env = (false, eval e X.env) :: starEach es X.env := by rfl) (hpl : (backTo cpos (starEach (e :: es) X.env)).any (·.1) = false := by rfl) :
    PS X (.Raise (some (.Call (.Name cn np) (e :: es) [] cpos)) none pos) (tRaise C E t) := by
  intro pins s σ H D I hq
  obtain ⟨tl, N, nm, q, bs, hdct, sn, sub, ab, col, dd, k0, k1, k2, k3, k5, mN, hC, hN, hni, T⟩ := (own_exc I.ok.mod.kin hm EC.ex).obj
  have pa := ha cpos pins s σ H _ I hq
  refine wpAny_Raise_call_subT (C := C) (nm := nm) (q := q) (N := N) (bs := bs) (bm := tl) (hdct := hdct) (sn := sn) (sub := sub) (ab := ab) (col := col) (dd := dd) (k0 := k0) (k1 := k1) (k2 := k2) (k3 := k3) (k5 := k5)
    PySem.F.excBase_ValueError (mN := mN) (T.hasType PySem.F.excBase_ValueError.hasBase) (I.ok.hd hc) hpl hni (ld_glob I hg hm ⟨rfl, ?_⟩ hd)
  rw [he] at pa ⊢
  refine Calls.evalArgs_plain (wpAny_mono pa (fun us s2 ⟨vs, H2, I2, r, hz, q2⟩ => ⟨rfl, by show us.length ≤ _; rw [← r.length]; exact hz, I2.bk _ _ hC, hN.keeps I2.bk, T.keeps I2.bk, fun hp ea hmd => hxe _ _ ?_⟩) fun _ _ y => y)
  have hin : ∀ env ∈ X.stack, ∀ a, env.frame = some a → a ∈ frs X.stack := fun env z a q => List.mem_filterMap.mpr ⟨env, z, q⟩
  have ff : s2.heap.FunFrames (PySem.W.hideAll s2.heap (frs X.stack)) X.stack := PySem.W.funFrames_hide I2.stack hin
  have hid : (PySem.W.hideAll s2.heap (frs X.stack)).StaysIn s2.heap := fun b o z => PySem.W.of_hideAll _ z
  have cov : Cov (frs X.stack) H2 H2 s2.heap (PySem.W.hideAll s2.heap (frs X.stack)) := by
    refine ⟨fun b o z _ hb => PySem.W.hideAll_get _ z hb, fun b o z hb => ⟨o, PySem.W.hideAll_get _ z hb⟩, fun b u z => ?_⟩
    obtain ⟨o, e1⟩ := (I2.hok b u z).ex
    exact ⟨o, PySem.W.hideAll_get _ e1 fun hb => by rw [I2.stkFree b hb] at z; cases z⟩
  have fr0 : X.A.frames = some (X.env :: X.outer) := by rw [I.ok.frames, hst]
  refine wpAny_leaves_madeW (s := { s2 with heap := hp }) (base := PySem.W.hideAll s2.heap (frs X.stack)) (h := s2.heap) fr0 hfr hid (by rw [← hst]; exact ff) hmd fun h'' t' fl _ _ up => ?_
  have up2 : s2.heap.UpToSlots h'' := (Heap.UpToSlots.of_keeps hmd.keeps).trans up
  have u := cov.un Un.refl ff fl.1 up2
  have k := cov.hok I2.hok hid fl.1
  have J : Inv X pins σ H2 { s2 with heap := h'' } := I2.call' (ch := []) rfl u k I2.bare fun b z => absurd z (by simp)
  have jb := J.base
  rw [hex] at jb
  exact ⟨ea, .ref C, .ref t', _, H2, rfl, ⟨fl, J.os, J.bare, jb, J.hok, cov.out I2 hex⟩, q2⟩

/-! ### within a try: what may raise -/
/-- an exception came out of a call in the state σ -/
def XP (X : Cx) (pins : List (Addr × Obj)) (σ : St) (E : XK) (e : Value) (s' : Shared) : Prop := ∃ (H1 : Hp) (s1 : Shared), Inv X pins σ H1 s1 ∧ CX1 X.prog X.w X.stack H1 s1 E e s'
abbrev TEX := St → Hp → VK → XK → Prop
abbrev TSX := Ends → (St → XK) → St → Hp → Prop
def PEX (X : Cx) (e : Expr) (t : TEX) : Prop :=
  ∀ (pins : List (Addr × Obj)) (s : Shared) (σ : St) (H : Hp) (Q : VK) (E : XK), Inv X pins σ H s → t σ H Q E → wpAny (model X.prog X.w) X.A (eval e X.env) (EP X pins σ Q) (XP X pins σ E) s
def XS (X : Cx) (pins : List (Addr × Obj)) (Z : St → XK) (e : Value) (s' : Shared) : Prop := ∃ σ', XP X pins σ' (Z σ') e s'
def PSX (X : Cx) (st : Stmt) (t : TSX) : Prop :=
  ∀ (pins : List (Addr × Obj)) (s : Shared) (σ : St) (H : Hp) (D : Ends) (Z : St → XK), Inv X pins σ H s → t D Z σ H → wpAny (model X.prog X.w) X.A (exec st X.env) (SP X pins D) (XS X pins Z) s
def PSsX (X : Cx) (sts : List Stmt) (t : TSX) : Prop :=
  ∀ (pins : List (Addr × Obj)) (s : Shared) (σ : St) (H : Hp) (D : Ends) (Z : St → XK), Inv X pins σ H s → t D Z σ H → wpAny (model X.prog X.w) X.A (execs sts X.env) (SP X pins D) (XS X pins Z) s
section
variable {X : Cx} {k : Nat} {f C : Addr} {fd : FuncData} {ps : List Str} {sp : Sp} {dvs : List V} {ds : List Value} {x m : Str} {p pos apos : Pos} {e o : Expr} {es : List Expr} {ta : TE} {t : TA}
theorem run_fnX {pins : List (Addr × Obj)} {σ : St} {H : Hp} {s : Shared} {Q : VK} {E : XK} {us : List Value} {vs : List V} (F : FnOk X.prog X.w X.K X.mg X.base (CX1 X.prog X.w) k f fd ps sp) (hr : Room k X.A) (hb : Binds X.K fd ps ds) (hd : Vals dvs ds)
    (I : Inv X pins σ H s) (r : Vals vs us) (h : sp (vs ++ dvs) H Q E) : wpAny (model X.prog X.w) X.A (call (.ref f) us) (EP X pins σ Q) (XP X pins σ E) s := by
  have r2 : Vals (vs ++ dvs) (us ++ ds) := r.append hd
  have hl : (us ++ ds).length = ps.length := by rw [← r2.length]; exact F.len _ _ _ _ h
  refine wpAny_call (codeAny_mono (F.run X.A X.stack s H ⟨us, []⟩ (us ++ ds) (vs ++ dvs) Q E hr I.env0 (hb s us I.kIn hl) r2 h) fun r s' hq => ?_)
  cases r with
  | error e => exact ⟨H, s, I, hq⟩
  | ok fl =>
    cases fl with
    | ret u => exact I.after hq
    | _ => exact False.elim hq
def tCallX (sp : Sp) (dvs : List V) (t : TA) : TEX := fun σ H Q E => t σ H fun vs H1 => sp (vs ++ dvs) H1 Q E
theorem pex_call (F : FnOk X.prog X.w X.K X.mg X.base (CX1 X.prog X.w) k f fd ps sp) (hr : Room k X.A) (hg : Gl X x) (hm : X.mg x = some (.ref f)) (hk : PySem.W.keepIn X.K (.ref f) = true) (hb : Binds X.K fd ps ds) (hd : Vals dvs ds)
    (ha : PA X.nox (e :: es) t) (hdb : (x == ("__debug__" : Str)) = false := by decide) (he : starEach (e :: es) X.env = (false, eval e X.env) :: starEach es X.env := by rfl) (hpl : (backTo pos (starEach es X.env)).any (·.1) = false := by rfl) :
    PEX X (.Call (.Name x p) (e :: es) [] pos) (tCallX sp dvs t) := by
  intro pins s σ H Q E I h
  refine wpAny_Call_Name_kw (ld_glob I hg hm ?_ hdb)
  refine PySem.W.callWith_K (h₀ := X.base) I.ok.mod.kin hk (wpAny_mono (ha pos pins s σ H _ (I.wish _) h) (fun us s1 ⟨vs, H1, I1, r, q⟩ => ⟨I1.unwish.kIn, ?_⟩) fun _ _ z => False.elim z) he hpl
  exact run_fnX F hr hb hd I1.unwish r q
/-- an expression that raises nothing -/
theorem pex_of {te : TE} (h : PE X.nox e te) : PEX X e (fun σ H Q _ => te σ H Q) := fun pins s σ H Q E I q =>
  wpAny_mono (h pins s σ H Q (I.wish _) q) (fun _ _ ⟨v, H', I', r, q⟩ => ⟨v, H', I'.unwish, r, q⟩) fun _ _ z => False.elim z
theorem psx_expr {te : TEX} (he : PEX X e te) (hs : swapsWith e none pos.line X.env = pure false := by rfl) : PSX X (.Expr e pos) (fun D Z σ H => te σ H (fun _ H1 => D.nx σ H1) (Z σ)) := by
  intro pins s σ H D Z I h
  exact wpAny_Expr_any (wpAny_mono (he pins s σ H _ _ I h) (fun v s1 ⟨y, H1, I1, r1, q1⟩ => ⟨σ, H1, I1, q1⟩) fun _ _ z => ⟨σ, z⟩) I.quiet hs
theorem psx_set {i : Nat} {te : TEX} {pos' : Pos} (hN : X.N.Nodup) (hi : X.N[i]? = some x) (hx : Loc X.env.scope x) (he : PEX X e te) (hs : swapsWith e (some (.Name x pos')) pos.line X.env = pure false := by rfl)
    (hf : X.fn x = true ∨ X.env.scope.names.lookup x = some .local := by first | exact .inl rfl | exact .inr rfl | assumption) :
    PSX X (.Assign [.Name x pos'] e pos) (fun D Z σ H => te σ H (fun v H1 => D.nx (σ.set i (some v)) H1) (Z σ)) := by
  intro pins s σ H D Z I h
  refine wpAny_Assign_Name (wpAny_mono (he pins s σ H _ _ I h) (fun v s1 ⟨y, H1, I1, r1, q1⟩ => ?_) fun _ _ z => ⟨σ, z⟩) hs
  exact store_ok I1 hN hi hx r1 (fun s2 I2 => ⟨_, H1, I2, q1⟩) hf
theorem psx_if {c : Expr} {a b : List Stmt} {tc : TT} {t u : TSX} (hc : PT X.nox c tc) (ha : PSsX X a t) (hb : PSsX X b u) : PSX X (.If c a b pos) (fun D Z σ H => tc σ H fun b H1 => if b = true then t D Z σ H1 else u D Z σ H1) := by
  intro pins s σ H D Z I h
  refine wpAny_If (wpAny_mono (hc pins s σ H _ (I.wish _) h) (fun d s1 ⟨H1, I1, q1⟩ => ?_) fun _ _ z => False.elim z)
  cases d with
  | true => exact ha pins s1 σ H1 D Z I1.unwish q1
  | false => exact hb pins s1 σ H1 D Z I1.unwish q1
theorem pssx_one {st : Stmt} {t : TSX} (h1 : PSX X st t) : PSsX X [st] t := by
  intro pins s σ H D Z I h
  refine wpAny_execs_cons (thn (h1 pins s σ H D Z I h) fun f s1 q => ?_)
  cases f with
  | next => exact wpAny_execs_nil q
  | _ => exact q
theorem pssx_never {sts : List Stmt} : PSsX X sts (fun _ _ _ _ => False) := fun _ _ _ _ _ _ _ h => h.elim
end

/-! ### the caught exception -/
/-- an exception of the class at C -/
def excO (x C : Addr) : HO := .ext fun h => ∃ o, h.get? x = some o ∧ o.cls = .ref C
def rIsx (K : PySem.W.Frag) : List V → Hp → VK → Prop := fun xs H Q => ∃ x C y c b, xs = [.ref x, y] ∧ clsV y = some c ∧ H x = some (excO x C) ∧ XCls K C ∧ PySem.W.kitOne K (.ref C) c = some b ∧ Q (.bl b) H
theorem call_isx {X : Cx} {K : PySem.W.Frag} (hK : X.K = K := by rfl) : CallR X (.builtin "isinstance") (rIsx K) := by
  subst hK
  intro pins s σ H xs us Q I r h
  obtain ⟨x, C, y, c, b, rfl, hy, hH, XC, e, q⟩ := h
  obtain ⟨u, v, rfl, ru, rv⟩ := vals2 r
  obtain rfl := clsV_rel hy rv
  cases (show u = Value.ref x from ru)
  obtain ⟨p, _, _⟩ := (show ObjOk X.prog X.w H s.heap x (excO x C) from I.hok x _ hH)
  exact PySem.W.kia_one (kitx_exc XC) I.kIn p e (fun z => nomatch z) fun tk => ⟨.bl b, H, I.tok tk, rfl, q⟩
section
variable {X : Cx} {pins : List (Addr × Obj)} {σ : St} {H H' : Hp} {s s' : Shared} {x C : Addr} {a0 : Value} {B h' : Heap}
theorem Fly.caught (I : Inv X pins σ H s) (F : Fly X.prog X.w X.stack H s x (.ref C) a0 B H' s') : Inv X pins σ (upd H' x (excO x C)) s' := by
  have new := F.new
  have fr := F.free
  have neS : ∀ b o, s.heap.get? b = some o → b ≠ x := fun b o e z => by rw [z, new] at e; cases e
  have neH : ∀ b u, H b = some u → b ≠ x := fun b u e => by
    obtain ⟨o, e1⟩ := (I.hok b u e).ex
    exact neS b o e1
  have neT : ∀ b u, H' b = some u → b ≠ x := fun b u e z => by rw [z, fr] at e; cases e
  refine I.call' (ch := []) F.os ⟨F.un.keep, F.un.slot, fun b o e n hx => ?_, F.un.there, fun b xs e => ?_, fun b o u e => ?_, fun b ps e => ?_⟩ (fun b u e => ?_) F.bare fun b z => absurd z (by simp)
  · rw [upd_ne (neS b o e)]
    exact F.un.free b o e n hx
  · rw [upd_ne (neH b _ e)]
    exact F.un.tups b xs e
  · rw [upd_ne (neH b _ e)]
    exact F.un.frzs b o u e
  · obtain ⟨more, q⟩ := F.un.tbls b ps e
    exact ⟨more, by rw [upd_ne (neH b _ e)]; exact q⟩
  · by_cases hb : b = x
    · subst hb
      rw [upd_same] at e
      cases e
      obtain ⟨ob, h1, h2⟩ := F.fl.there
      refine ⟨⟨ob, h1, h2⟩, ⟨ob, h1⟩, fun g1 g2 p k => ?_⟩
      obtain ⟨o2, p1, p2⟩ := p
      exact ⟨o2, k o2 p1, p2⟩
    · rw [upd_ne hb] at e
      exact (F.hok b u e).stay (fun c v _ q => q) (fun c q => by rw [upd_ne (neT c _ q)]; exact q) fun c xs q => by rw [upd_ne (neT c _ q)]; exact q
/-- the name of an except clause goes -/
theorem Inv.gone {M : Model} {A : Around} {E : Value → Shared → Prop} {j : Nat} {n : Str} {pos : Pos} {Q : Unit → Shared → Prop} (I : Inv X pins σ H s) (hN : X.N.Nodup) (hj : X.N[j]? = some n) (hk : X.env.scope.names.lookup n = some .local)
    (h : ∀ s', Inv X pins (σ.set j none) H s' → Q () s') : wpAny M A (do bindName X.env n .none; unbindBehindTheSuite X.env n pos) Q E s := by
  obtain ⟨m, hn, hl⟩ := id I.loc
  have hcls : (X.env.scope.kind == .class || (X.env.scope.kind == .module && X.env.locals != X.env.globals)) = false := by rw [I.ok.kind]; rfl
  refine wpAny_nameGoes_keeps hk hn hcls fun h' v hn' hs => ?_
  have far : ∀ b o, X.s₀.heap.get? b = some o → b ≠ X.env.locals := fun b o e => Nat.ne_of_lt (Nat.lt_of_lt_of_le (Heap.lt_size e) I.ok.above)
  refine h _ ⟨I.ok, I.os, I.bare, ⟨fun b o e n' hb hx => (hs.2 b (far b o e)).trans (I.base.keep b o e n' hb hx), fun b o e n' hb hx => ?_, I.base.free, fun b o e hx => ?_, I.base.tups, I.base.frzs, I.base.tbls⟩, ⟨_, hn', fun i y v' e1 e2 e3 => ?_⟩, fun y c e => ?_, I.free, I.freeC, fun p hp => ?_, fun b u e => ?_, by simpa using I.len⟩
  · obtain ⟨sl, e1⟩ := I.base.slot b o e n' hb hx
    exact ⟨sl, (hs.2 b (far b o e)).trans e1⟩
  · obtain ⟨o', e1⟩ := I.base.there b o e hx
    exact ⟨o', (hs.2 b (far b o e)).trans e1⟩
  · by_cases hi : i = j
    · subst hi
      rw [List.getElem?_set] at e2
      rw [if_pos rfl] at e2
      split at e2 <;> cases e2
    · rw [List.getElem?_set_ne (Ne.symm hi)] at e2
      obtain ⟨u', r', q⟩ := hl i y v' e1 e2 e3
      refine ⟨u', r', ?_⟩
      rcases q with ⟨k, e⟩ | ⟨k, c, e, z⟩
      · refine .inl ⟨k, ?_⟩
        have : y ≠ n := fun e => hi (nodup_ix hN e1 (e ▸ hj))
        simp [this, e]
      · exact .inr ⟨k, c, e, z.sameBut hs (I.cne y c e)⟩
  · obtain ⟨w', z⟩ := I.cell y c e
    exact ⟨w', z.sameBut hs (I.cne y c e)⟩
  · obtain ⟨e, n', ne, nf, d⟩ := I.pin p hp
    exact ⟨(hs.2 p.1 ne).trans e, n', ne, nf, d⟩
  · refine (I.hok b u e).stay (fun c w' hc q => (hs.2 c ?_).trans q) (fun _ q => q) fun _ _ q => q
    rintro rfl
    have fr := I.free
    rcases hc with z | z
    · rw [← z, fr] at e; cases e
    · rw [fr] at z; cases z
end
/-- the context of an except suite -/
abbrev cxH (X : Cx) (x : Addr) : Cx := { X with A := X.A.mark (some (.ref x)), calm := false, xe := fun _ _ => False }
theorem Inv.mark {X : Cx} {pins : List (Addr × Obj)} {σ : St} {H : Hp} {s : Shared} (I : Inv X pins σ H s) (x : Addr) : Inv (cxH X x) pins σ H s :=
  ⟨⟨I.ok.mod, I.ok.kind, I.ok.glob, I.ok.blt, I.ok.above, I.ok.inj, I.ok.has, I.ok.cab, fun z => absurd z Bool.false_ne_true, I.ok.frames, I.ok.stk, I.ok.exf, I.ok.bs, I.ok.bsz, I.ok.noex, I.ok.exfs, I.ok.funs, I.ok.frf⟩, I.os, I.bare, I.base, I.loc, I.cell, I.free, I.freeC, I.pin, I.hok, I.len⟩
theorem Inv.unmark {X : Cx} {pins : List (Addr × Obj)} {σ : St} {H : Hp} {s : Shared} {x : Addr} (I : Inv (cxH X x) pins σ H s) (ok : X.Ok) : Inv X pins σ H s :=
  ⟨ok, I.os, I.bare, I.base, I.loc, I.cell, I.free, I.freeC, I.pin, I.hok, I.len⟩
/-! ### try: .. except C as n: .. -/
def tTry (K : PySem.W.Frag) (SE : Addr) (j : Nat) (tb : TSX) (ts : TS) : TS := fun D σ H => tb D (fun σ' cls _ H' => ∃ C, cls = .ref C ∧ PySem.W.exmOne K (.ref C) (.ref SE) = some true ∧ ∀ x, H' x = none →
  ts { nx := fun σ'' H'' => D.nx (σ''.set j none) H'', rt := fun _ _ => False } (σ'.set j (some (.ref x))) (upd H' x (excO x C))) σ H
theorem ps_try {X : Cx} {j : Nat} {n cn : Str} {SE : Addr} {body suite : List Stmt} {b₀ : Stmt} {tb : TSX} {ts : TS} {np hp pos : Pos} (hN : X.N.Nodup) (hj : X.N[j]? = some n) (hk : X.env.scope.names.lookup n = some .local)
    (hg : Gl X cn) (hm : X.mg cn = some (.ref SE)) (hb : PSsX X body tb) (hs : ∀ x, PSs (cxH X x) (b₀ :: suite) ts)
    (hst : X.stack = X.env :: X.outer := by rfl) (hfr : X.env.frame = some X.env.locals := by rfl) (hd : (cn == ("__debug__" : Str)) = false := by decide) :
    PS X (.Try body [.ExceptHandler (some (.Name cn np)) (some n) (b₀ :: suite) hp] [] [] pos) (tTry X.K SE j tb ts) := by
  intro pins s σ H D I hq
  have fr0 : X.A.frames = some (X.env :: X.outer) := by rw [I.ok.frames, hst]
  refine wpAny_Try_except (wpAny_mono (hb pins s σ H D _ I hq) (fun f s1 q => ?_) fun e s1 q => ?_)
  · cases f with
    | next => exact wpAny_execs_nil q
    | _ => exact q
  · obtain ⟨σ', H1, s0, I0, x, cls, a0, B, H', rfl, F, C, rfl, hx, q⟩ := q
    have hfl := F.fl
    rw [hst] at hfl
    refine wpAny_looks_onW fr0 hfr hfl fun h4 hh4 up4 => ?_
    refine wpAny_landsW hh4 fun h5 hh5 up5 => ?_
    have F5 : Fly X.prog X.w X.stack H1 s0 x (.ref C) a0 B H' { s1 with heap := h5 } := F.next (by rw [hst]; exact hh5) (up4.trans up5)
    have I5 := F5.caught I0
    obtain ⟨ob, ho1, ho2⟩ := F5.fl.there
    have LT : Looks (model X.prog X.w) h5 (typeOf (.ref x)) (.ref C) := ho2 ▸ (Looks.ld ho1).andThen .now
    refine wpAny_handleBy_cons (codeAny_handlers_test (ld_glob (I5.mark x) hg hm ?_ hd)) (by intro z; cases z)
    refine (PySem.W.exm_one (M := model X.prog X.w) I5.kIn LT hx).here (codeAny_handlers_suite_as ?_)
    refine lands_againW hh5 fun h6 hh6 up6 => ?_
    have F6 : Fly X.prog X.w X.stack H1 s0 x (.ref C) a0 B H' { s1 with heap := h6 } := F5.next (by rw [hst]; exact hh6) up6
    have I6 := F6.caught I0
    refine store_ok I6 hN hj (.inl hk) (v := .ref x) rfl (fun s7 I7 => ?_) (.inr hk)
    refine wpAny_mono (hs x pins s7 _ _ _ (I7.mark x) (q x F.free)) (fun f s8 q8 => ?_) fun _ _ z => False.elim z
    cases f with
    | next =>
      obtain ⟨σ8, H8, I8, q8⟩ := q8
      exact (I8.unmark I.ok).gone hN hj hk fun s9 I9 => ⟨_, H8, I9, q8⟩
    | brk => obtain ⟨_, _, _, z⟩ := q8; exact z.elim
    | cont => obtain ⟨_, _, _, z⟩ := q8; exact z.elim
    | ret v => obtain ⟨_, _, _, _, _, z⟩ := q8; exact z.elim
end L2

/-! More: lists of bools and texts compared, {}, defs that raise, what is asked of an exception's class. -/
namespace L2
open PySem PySem.Spec PyProof.Rows

/-! ### lists of one plain kind compared -/
structure Flat {α : Type} [DecidableEq α] (v : α → V) (d : α → PyData) (S : Shape) : Prop where
  lay : ∀ a, PyData.canLay0 (d a) = true
  dep : ∀ a, PyData.depth (d a) = 0
  same : ∀ a b, PySem.Spec.same (d a) (d b) = decide (a = b)
  has : ∀ a, S.has (d a) = true
  plain : SeqAt.plainShape S = true
  car : ∀ a u, RelV (v a) u → Carried u (d a)
section
variable {α : Type} [DecidableEq α] {v : α → V} {d : α → PyData} {S : Shape}
theorem Flat.layAll (F : Flat v d S) : ∀ ns : List α, PyData.canLayAll0 (ns.map d) = true
  | [] => rfl
  | a :: r => by simp [PyData.canLayAll0, F.lay, F.layAll r]
theorem Flat.depAll (F : Flat v d S) : ∀ ns : List α, PyData.depthAll (ns.map d) = 0
  | [] => rfl
  | a :: r => by simp [PyData.depthAll, F.dep, F.depAll r]
theorem Flat.shaped (F : Flat v d S) (ns : List α) : SeqAt.shaped (.list (ns.map d)) = true := by
  simp [SeqAt.shaped, PyData.canLay0, PyData.depth, F.layAll, F.depAll]
theorem Flat.sameAll (F : Flat v d S) : ∀ ns ms : List α, PySem.Spec.sameAll (ns.map d) (ms.map d) = decide (ns = ms)
  | [], [] => by simp [PySem.Spec.sameAll]
  | [], _ :: _ => by simp [PySem.Spec.sameAll]
  | _ :: _, [] => by simp [PySem.Spec.sameAll]
  | a :: r, b :: t => by
    simp only [List.map_cons, PySem.Spec.sameAll, F.same, F.sameAll r t]
    by_cases h : a = b <;> by_cases h' : r = t <;> simp [h, h']
theorem Flat.sameL (F : Flat v d S) (ns ms : List α) : PySem.Spec.same (.list (ns.map d)) (.list (ms.map d)) = decide (ns = ms) := by
  simp only [PySem.Spec.same]
  exact F.sameAll ns ms
theorem Flat.carry (F : Flat v d S) : ∀ {ns : List α} {us : List Value}, Vals (ns.map v) us → CarriedAll us (ns.map d)
  | [], _, r => by rw [List.map_nil] at r; cases r; exact .nil
  | a :: ns, _, r => by
    rw [List.map_cons] at r
    cases r with
    | cons r1 r2 => exact .cons (F.car _ _ r1) (F.carry r2)
theorem op_eqF {X : Cx} (F : Flat v d S) (hu : X.A.units + 64 < cLine) : OpR X (compareOp .Eq) (fun x y H Q => ∃ (a b : Addr) (ns ms : List α), x = .ref a ∧ y = .ref b ∧ SqL X.K H a (ns.map v) ∧ SqL X.K H b (ms.map v) ∧ Q (.bl (decide (ns = ms))) H) := by
  intro pins s σ H x y vv u Q I rx ry h
  obtain ⟨a, b, ns, ms, rfl, rfl, ha, hb, q⟩ := h
  cases rx
  cases ry
  obtain ⟨its, r, pl, _⟩ := I.list ha
  obtain ⟨its2, r2, pl2, _⟩ := I.list hb
  exact eq_dataH_same (reads_newData pl.isList (F.carry r)) (reads_newData pl2.isList (F.carry r2)) (F.shaped _) (F.shaped _) hu (SeqAt.noMix_of_shape (.list S) F.plain _ _ (list_map_has F.has) (list_map_has F.has)) (by rw [F.sameL]; exact ⟨.bl _, H, I, rfl, q⟩)
theorem op_neF {X : Cx} (F : Flat v d S) (hu : X.A.units + 64 < cLine) : OpR X (compareOp .NotEq) (fun x y H Q => ∃ (a b : Addr) (ns ms : List α), x = .ref a ∧ y = .ref b ∧ SqL X.K H a (ns.map v) ∧ SqL X.K H b (ms.map v) ∧ Q (.bl (!decide (ns = ms))) H) := by
  intro pins s σ H x y vv u Q I rx ry h
  obtain ⟨a, b, ns, ms, rfl, rfl, ha, hb, q⟩ := h
  cases rx
  cases ry
  obtain ⟨its, r, pl, _⟩ := I.list ha
  obtain ⟨its2, r2, pl2, _⟩ := I.list hb
  exact ne_dataH_same (reads_newData pl.isList (F.carry r)) (reads_newData pl2.isList (F.carry r2)) (F.shaped _) (F.shaped _) hu (SeqAt.noMix_of_shape (.list S) F.plain _ _ (list_map_has F.has) (list_map_has F.has)) (by rw [F.sameL]; exact ⟨.bl _, H, I, rfl, q⟩)
end
theorem flat_bl : Flat V.bl PyData.bool .bool := ⟨fun _ => rfl, fun _ => rfl, fun a b => by cases a <;> cases b <;> rfl, fun _ => rfl, rfl, fun a u r => by cases r; exact .bool a⟩

/-! ### two lists of the same things -/
/-- plain things, and lists of ints, as data -/
inductive Dat (K : PySem.W.Frag) (H : Hp) : V → PyData → Prop where
  | non : Dat K H .non .none
  | bl (b : Bool) : Dat K H (.bl b) (.bool b)
  | int (i : Int) : Dat K H (.int i) (.int i)
  | str (x : Str) (h : PyData.strOk x = true) : Dat K H (.str x) (.str x)
  | lst {a : Addr} {ns : List Int} (h : SqL K H a (ns.map V.int)) : Dat K H (.ref a) (.list (ns.map PyData.int))
abbrev Dats (K : PySem.W.Frag) (H : Hp) : List V → List PyData → Prop := Paired (Dat K H)
theorem flat_int : Flat V.int PyData.int .int := ⟨fun _ => rfl, fun _ => rfl, fun a b => by simp only [PySem.Spec.same]; by_cases h : a = b <;> simp [h], fun _ => rfl, rfl, fun a u r => by obtain ⟨t, rfl⟩ := r; exact .int a t⟩
section
variable {X : Cx} {pins : List (Addr × Obj)} {σ : St} {H : Hp} {s : Shared}
theorem Dat.reads (I : Inv X pins σ H s) {x : V} {d : PyData} {u : Value} (h : Dat X.K H x d) (r : RelV x u) : ∃ as, Reads s.heap u d as := by
  cases h with
  | non => cases r; exact ⟨_, .none⟩
  | bl b => cases r; exact ⟨_, .bool b⟩
  | int i => obtain ⟨t, rfl⟩ := r; exact ⟨_, .int i t⟩
  | str y h => obtain ⟨t, rfl⟩ := r; exact ⟨_, .str y t⟩
  | lst h =>
    cases r
    obtain ⟨its, r, pl, _⟩ := I.list h
    exact ⟨_, reads_newData pl.isList (flat_int.carry r)⟩
theorem Dats.reads (I : Inv X pins σ H s) : ∀ {xs : List V} {ds : List PyData} {us : List Value}, Dats X.K H xs ds → Vals xs us → ∃ as, ReadsAll s.heap us ds as
  | _, _, _, .nil, r => by cases r; exact ⟨_, .nil⟩
  | _, _, _, .cons h t, r => by
    cases r with
    | cons r1 r2 =>
      obtain ⟨as, e1⟩ := h.reads I r1
      obtain ⟨bs, e2⟩ := Dats.reads I t r2
      exact ⟨_, .cons e1 e2⟩
theorem Dat.lay {K : PySem.W.Frag} {x : V} {d : PyData} (h : Dat K H x d) : PyData.canLay0 d = true ∧ PyData.depth d ≤ 1 := by
  cases h with
  | str y h => exact ⟨h, by simp [PyData.depth]⟩
  | lst h => exact ⟨by rw [PyData.canLay0]; exact flat_int.layAll _, by simp [PyData.depth, flat_int.depAll]⟩
  | _ => exact ⟨rfl, by simp [PyData.depth]⟩
theorem Dats.lay {K : PySem.W.Frag} : ∀ {xs : List V} {ds : List PyData}, Dats K H xs ds → PyData.canLayAll0 ds = true ∧ PyData.depthAll ds ≤ 1
  | _, _, .nil => ⟨rfl, by simp [PyData.depthAll]⟩
  | _, _, .cons h t => by
    obtain ⟨a, b⟩ := h.lay
    obtain ⟨c, d⟩ := Dats.lay t
    refine ⟨by simp [PyData.canLayAll0, a, c], ?_⟩
    simp only [PyData.depthAll]
    omega
theorem op_neSame (hu : X.A.units + 64 < cLine) : OpR X (compareOp .NotEq) (fun x y H Q => ∃ (a b : Addr) (xs : List V) (ds : List PyData), x = .ref a ∧ y = .ref b ∧ SqL X.K H a xs ∧ SqL X.K H b xs ∧ Dats X.K H xs ds ∧ Q (.bl false) H) := by
  intro pins s σ H x y v u Q I rx ry h
  obtain ⟨a, b, xs, ds, rfl, rfl, ha, hb, hd, q⟩ := h
  cases rx
  cases ry
  obtain ⟨its, r, pl, _⟩ := I.list ha
  obtain ⟨its2, r2, pl2, _⟩ := I.list hb
  obtain ⟨as, e1⟩ := hd.reads I r
  obtain ⟨bs, e2⟩ := hd.reads I r2
  obtain ⟨o, ho, hc, n, hdt⟩ := id pl.isList
  obtain ⟨o2, ho2, hc2, n2, hdt2⟩ := id pl2.isList
  obtain ⟨l1, l2⟩ := hd.lay
  have sh : SeqAt.shaped (.list ds) = true := by
    have : PyData.depth (.list ds) ≤ 2 := by simp only [PyData.depth]; omega
    simp [SeqAt.shaped, PyData.canLay0, l1]
    omega
  refine ne_dataH (.list ho hc hdt e1) (.list ho2 hc2 hdt2 e2) sh sh hu ?_
  rw [SeqAt.eqv_refl (.list ds) (by rw [PyData.canLay0]; exact l1)]
  exact ⟨.bl false, H, I, rfl, q⟩
end

/-! ### argument lists, flat -/
/-- no star -/
def NoStar (e : Expr) : Prop := ∀ (env : Env) (es : List Expr), starEach (e :: es) env = (false, eval e env) :: starEach es env
theorem pa_c {X : Cx} {e : Expr} {es : List Expr} {te : TE} {t : TA} (ha : PE X e te) (hr : PA X es t) (hs : NoStar e) : PA X (e :: es) (tCons te t) := pa_cons ha hr (hs _ _)
theorem pa2 {X : Cx} {e1 e2 : Expr} {t1 t2 : TE} (h1 : PE X e1 t1) (h2 : PE X e2 t2) (s1 : NoStar e1 := by exact fun _ _ => rfl) (s2 : NoStar e2 := by exact fun _ _ => rfl) : PA X [e1, e2] (tCons t1 (tCons t2 tNil)) := (pa_c h1 (pa_c h2 pa_nil s2) s1)
theorem pa3 {X : Cx} {e1 e2 e3 : Expr} {t1 t2 t3 : TE} (h1 : PE X e1 t1) (h2 : PE X e2 t2) (h3 : PE X e3 t3) (s1 : NoStar e1 := by exact fun _ _ => rfl) (s2 : NoStar e2 := by exact fun _ _ => rfl) (s3 : NoStar e3 := by exact fun _ _ => rfl) : PA X [e1, e2, e3] (tCons t1 (tCons t2 (tCons t3 tNil))) := (pa_c h1 (pa_c h2 (pa_c h3 pa_nil s3) s2) s1)
theorem pa4 {X : Cx} {e1 e2 e3 e4 : Expr} {t1 t2 t3 t4 : TE} (h1 : PE X e1 t1) (h2 : PE X e2 t2) (h3 : PE X e3 t3) (h4 : PE X e4 t4) (s1 : NoStar e1 := by exact fun _ _ => rfl) (s2 : NoStar e2 := by exact fun _ _ => rfl) (s3 : NoStar e3 := by exact fun _ _ => rfl) (s4 : NoStar e4 := by exact fun _ _ => rfl) : PA X [e1, e2, e3, e4] (tCons t1 (tCons t2 (tCons t3 (tCons t4 tNil)))) := (pa_c h1 (pa_c h2 (pa_c h3 (pa_c h4 pa_nil s4) s3) s2) s1)
theorem pa5 {X : Cx} {e1 e2 e3 e4 e5 : Expr} {t1 t2 t3 t4 t5 : TE} (h1 : PE X e1 t1) (h2 : PE X e2 t2) (h3 : PE X e3 t3) (h4 : PE X e4 t4) (h5 : PE X e5 t5) (s1 : NoStar e1 := by exact fun _ _ => rfl) (s2 : NoStar e2 := by exact fun _ _ => rfl) (s3 : NoStar e3 := by exact fun _ _ => rfl) (s4 : NoStar e4 := by exact fun _ _ => rfl) (s5 : NoStar e5 := by exact fun _ _ => rfl) : PA X [e1, e2, e3, e4, e5] (tCons t1 (tCons t2 (tCons t3 (tCons t4 (tCons t5 tNil))))) := (pa_c h1 (pa_c h2 (pa_c h3 (pa_c h4 (pa_c h5 pa_nil s5) s4) s3) s2) s1)
theorem pa6 {X : Cx} {e1 e2 e3 e4 e5 e6 : Expr} {t1 t2 t3 t4 t5 t6 : TE} (h1 : PE X e1 t1) (h2 : PE X e2 t2) (h3 : PE X e3 t3) (h4 : PE X e4 t4) (h5 : PE X e5 t5) (h6 : PE X e6 t6) (s1 : NoStar e1 := by exact fun _ _ => rfl) (s2 : NoStar e2 := by exact fun _ _ => rfl) (s3 : NoStar e3 := by exact fun _ _ => rfl) (s4 : NoStar e4 := by exact fun _ _ => rfl) (s5 : NoStar e5 := by exact fun _ _ => rfl) (s6 : NoStar e6 := by exact fun _ _ => rfl) : PA X [e1, e2, e3, e4, e5, e6] (tCons t1 (tCons t2 (tCons t3 (tCons t4 (tCons t5 (tCons t6 tNil)))))) := (pa_c h1 (pa_c h2 (pa_c h3 (pa_c h4 (pa_c h5 (pa_c h6 pa_nil s6) s5) s4) s3) s2) s1)
theorem pa7 {X : Cx} {e1 e2 e3 e4 e5 e6 e7 : Expr} {t1 t2 t3 t4 t5 t6 t7 : TE} (h1 : PE X e1 t1) (h2 : PE X e2 t2) (h3 : PE X e3 t3) (h4 : PE X e4 t4) (h5 : PE X e5 t5) (h6 : PE X e6 t6) (h7 : PE X e7 t7) (s1 : NoStar e1 := by exact fun _ _ => rfl) (s2 : NoStar e2 := by exact fun _ _ => rfl) (s3 : NoStar e3 := by exact fun _ _ => rfl) (s4 : NoStar e4 := by exact fun _ _ => rfl) (s5 : NoStar e5 := by exact fun _ _ => rfl) (s6 : NoStar e6 := by exact fun _ _ => rfl) (s7 : NoStar e7 := by exact fun _ _ => rfl) : PA X [e1, e2, e3, e4, e5, e6, e7] (tCons t1 (tCons t2 (tCons t3 (tCons t4 (tCons t5 (tCons t6 (tCons t7 tNil))))))) := (pa_c h1 (pa_c h2 (pa_c h3 (pa_c h4 (pa_c h5 (pa_c h6 (pa_c h7 pa_nil s7) s6) s5) s4) s3) s2) s1)
theorem pa8 {X : Cx} {e1 e2 e3 e4 e5 e6 e7 e8 : Expr} {t1 t2 t3 t4 t5 t6 t7 t8 : TE} (h1 : PE X e1 t1) (h2 : PE X e2 t2) (h3 : PE X e3 t3) (h4 : PE X e4 t4) (h5 : PE X e5 t5) (h6 : PE X e6 t6) (h7 : PE X e7 t7) (h8 : PE X e8 t8) (s1 : NoStar e1 := by exact fun _ _ => rfl) (s2 : NoStar e2 := by exact fun _ _ => rfl) (s3 : NoStar e3 := by exact fun _ _ => rfl) (s4 : NoStar e4 := by exact fun _ _ => rfl) (s5 : NoStar e5 := by exact fun _ _ => rfl) (s6 : NoStar e6 := by exact fun _ _ => rfl) (s7 : NoStar e7 := by exact fun _ _ => rfl) (s8 : NoStar e8 := by exact fun _ _ => rfl) : PA X [e1, e2, e3, e4, e5, e6, e7, e8] (tCons t1 (tCons t2 (tCons t3 (tCons t4 (tCons t5 (tCons t6 (tCons t7 (tCons t8 tNil)))))))) := (pa_c h1 (pa_c h2 (pa_c h3 (pa_c h4 (pa_c h5 (pa_c h6 (pa_c h7 (pa_c h8 pa_nil s8) s7) s6) s5) s4) s3) s2) s1)
theorem pa9 {X : Cx} {e1 e2 e3 e4 e5 e6 e7 e8 e9 : Expr} {t1 t2 t3 t4 t5 t6 t7 t8 t9 : TE} (h1 : PE X e1 t1) (h2 : PE X e2 t2) (h3 : PE X e3 t3) (h4 : PE X e4 t4) (h5 : PE X e5 t5) (h6 : PE X e6 t6) (h7 : PE X e7 t7) (h8 : PE X e8 t8) (h9 : PE X e9 t9) (s1 : NoStar e1 := by exact fun _ _ => rfl) (s2 : NoStar e2 := by exact fun _ _ => rfl) (s3 : NoStar e3 := by exact fun _ _ => rfl) (s4 : NoStar e4 := by exact fun _ _ => rfl) (s5 : NoStar e5 := by exact fun _ _ => rfl) (s6 : NoStar e6 := by exact fun _ _ => rfl) (s7 : NoStar e7 := by exact fun _ _ => rfl) (s8 : NoStar e8 := by exact fun _ _ => rfl) (s9 : NoStar e9 := by exact fun _ _ => rfl) : PA X [e1, e2, e3, e4, e5, e6, e7, e8, e9] (tCons t1 (tCons t2 (tCons t3 (tCons t4 (tCons t5 (tCons t6 (tCons t7 (tCons t8 (tCons t9 tNil))))))))) := (pa_c h1 (pa_c h2 (pa_c h3 (pa_c h4 (pa_c h5 (pa_c h6 (pa_c h7 (pa_c h8 (pa_c h9 pa_nil s9) s8) s7) s6) s5) s4) s3) s2) s1)
theorem pa10 {X : Cx} {e1 e2 e3 e4 e5 e6 e7 e8 e9 e10 : Expr} {t1 t2 t3 t4 t5 t6 t7 t8 t9 t10 : TE} (h1 : PE X e1 t1) (h2 : PE X e2 t2) (h3 : PE X e3 t3) (h4 : PE X e4 t4) (h5 : PE X e5 t5) (h6 : PE X e6 t6) (h7 : PE X e7 t7) (h8 : PE X e8 t8) (h9 : PE X e9 t9) (h10 : PE X e10 t10) (s1 : NoStar e1 := by exact fun _ _ => rfl) (s2 : NoStar e2 := by exact fun _ _ => rfl) (s3 : NoStar e3 := by exact fun _ _ => rfl) (s4 : NoStar e4 := by exact fun _ _ => rfl) (s5 : NoStar e5 := by exact fun _ _ => rfl) (s6 : NoStar e6 := by exact fun _ _ => rfl) (s7 : NoStar e7 := by exact fun _ _ => rfl) (s8 : NoStar e8 := by exact fun _ _ => rfl) (s9 : NoStar e9 := by exact fun _ _ => rfl) (s10 : NoStar e10 := by exact fun _ _ => rfl) : PA X [e1, e2, e3, e4, e5, e6, e7, e8, e9, e10] (tCons t1 (tCons t2 (tCons t3 (tCons t4 (tCons t5 (tCons t6 (tCons t7 (tCons t8 (tCons t9 (tCons t10 tNil)))))))))) := (pa_c h1 (pa_c h2 (pa_c h3 (pa_c h4 (pa_c h5 (pa_c h6 (pa_c h7 (pa_c h8 (pa_c h9 (pa_c h10 pa_nil s10) s9) s8) s7) s6) s5) s4) s3) s2) s1)
theorem pa11 {X : Cx} {e1 e2 e3 e4 e5 e6 e7 e8 e9 e10 e11 : Expr} {t1 t2 t3 t4 t5 t6 t7 t8 t9 t10 t11 : TE} (h1 : PE X e1 t1) (h2 : PE X e2 t2) (h3 : PE X e3 t3) (h4 : PE X e4 t4) (h5 : PE X e5 t5) (h6 : PE X e6 t6) (h7 : PE X e7 t7) (h8 : PE X e8 t8) (h9 : PE X e9 t9) (h10 : PE X e10 t10) (h11 : PE X e11 t11) (s1 : NoStar e1 := by exact fun _ _ => rfl) (s2 : NoStar e2 := by exact fun _ _ => rfl) (s3 : NoStar e3 := by exact fun _ _ => rfl) (s4 : NoStar e4 := by exact fun _ _ => rfl) (s5 : NoStar e5 := by exact fun _ _ => rfl) (s6 : NoStar e6 := by exact fun _ _ => rfl) (s7 : NoStar e7 := by exact fun _ _ => rfl) (s8 : NoStar e8 := by exact fun _ _ => rfl) (s9 : NoStar e9 := by exact fun _ _ => rfl) (s10 : NoStar e10 := by exact fun _ _ => rfl) (s11 : NoStar e11 := by exact fun _ _ => rfl) : PA X [e1, e2, e3, e4, e5, e6, e7, e8, e9, e10, e11] (tCons t1 (tCons t2 (tCons t3 (tCons t4 (tCons t5 (tCons t6 (tCons t7 (tCons t8 (tCons t9 (tCons t10 (tCons t11 tNil))))))))))) := (pa_c h1 (pa_c h2 (pa_c h3 (pa_c h4 (pa_c h5 (pa_c h6 (pa_c h7 (pa_c h8 (pa_c h9 (pa_c h10 (pa_c h11 pa_nil s11) s10) s9) s8) s7) s6) s5) s4) s3) s2) s1)
theorem pa12 {X : Cx} {e1 e2 e3 e4 e5 e6 e7 e8 e9 e10 e11 e12 : Expr} {t1 t2 t3 t4 t5 t6 t7 t8 t9 t10 t11 t12 : TE} (h1 : PE X e1 t1) (h2 : PE X e2 t2) (h3 : PE X e3 t3) (h4 : PE X e4 t4) (h5 : PE X e5 t5) (h6 : PE X e6 t6) (h7 : PE X e7 t7) (h8 : PE X e8 t8) (h9 : PE X e9 t9) (h10 : PE X e10 t10) (h11 : PE X e11 t11) (h12 : PE X e12 t12) (s1 : NoStar e1 := by exact fun _ _ => rfl) (s2 : NoStar e2 := by exact fun _ _ => rfl) (s3 : NoStar e3 := by exact fun _ _ => rfl) (s4 : NoStar e4 := by exact fun _ _ => rfl) (s5 : NoStar e5 := by exact fun _ _ => rfl) (s6 : NoStar e6 := by exact fun _ _ => rfl) (s7 : NoStar e7 := by exact fun _ _ => rfl) (s8 : NoStar e8 := by exact fun _ _ => rfl) (s9 : NoStar e9 := by exact fun _ _ => rfl) (s10 : NoStar e10 := by exact fun _ _ => rfl) (s11 : NoStar e11 := by exact fun _ _ => rfl) (s12 : NoStar e12 := by exact fun _ _ => rfl) : PA X [e1, e2, e3, e4, e5, e6, e7, e8, e9, e10, e11, e12] (tCons t1 (tCons t2 (tCons t3 (tCons t4 (tCons t5 (tCons t6 (tCons t7 (tCons t8 (tCons t9 (tCons t10 (tCons t11 (tCons t12 tNil)))))))))))) := (pa_c h1 (pa_c h2 (pa_c h3 (pa_c h4 (pa_c h5 (pa_c h6 (pa_c h7 (pa_c h8 (pa_c h9 (pa_c h10 (pa_c h11 (pa_c h12 pa_nil s12) s11) s10) s9) s8) s7) s6) s5) s4) s3) s2) s1)

/-! ### {} -/
def tD0 : TE := fun _ H Q => ∀ p, H p = none → Q (.ref p) (upd H p (.dK []))
theorem pe_d0 {X : Cx} {pos : Pos} : PE X (.Dict [] [] pos) tD0 := fun pins s σ H Q I h => by
  have big : mainGlobals < s.heap.objs.size := (I.mod.glob.keeps I.bk).lt
  have far : sysModules < s.heap.objs.size := Nat.lt_trans (by decide) big
  exact wpAny_Dict_empty ⟨.ref s.heap.objs.size, _, I.laid (a := s.heap.objs.size) (o := .dK []) (t' := s.toks) (fun _ _ q => Heap.get?_push_of_some _ q) (Nat.le_refl _)
    ⟨Nat.zero_le _, beq_eq_false_iff_ne.mpr (Ne.symm (Nat.ne_of_lt far)), [], .nil, Heap.DictOf.new s.heap⟩, rfl, h _ (I.hok.fresh (Nat.le_refl _))⟩

/-! ### defs that raise -/
def DefX (P : Program) (w : World) (K : PySem.W.Frag) (mg : Str → Option Value) (base : Heap) (x : Str) (k : Nat) (ps : List Str) (sp : Sp) : Prop :=
  ∃ (f : Addr) (fd : FuncData), mg x = some (.ref f) ∧ PySem.W.keepIn K (.ref f) = true ∧ Binds K fd ps [] ∧ FnOk P w K mg base (CX1 P w) k f fd ps sp
section
variable {P : Program} {w : World} {K : PySem.W.Frag} {mg : Str → Option Value} {base : Heap} {x : Str} {k : Nat} {ps : List Str} {sp : Sp} {st : Stmt}
theorem At.defX (A : At K mg x st ps) (h : ∀ f fd, Fun K x x st f fd → FnOk P w K mg base (CX1 P w) k f fd ps sp) : DefX P w K mg base x k ps sp := by
  obtain ⟨f, fd, hm, F, hb⟩ := A
  exact ⟨f, fd, hm, F.kp, hb, h f fd F⟩
theorem DefX.imp {sp' : Sp} (D : DefX P w K mg base x k ps sp) (h : ∀ vs H Q E, sp' vs H Q E → sp vs H Q E) : DefX P w K mg base x k ps sp' := by
  obtain ⟨f, fd, hm, hk, hb, F⟩ := D
  exact ⟨f, fd, hm, hk, hb, F.imp h⟩
theorem DefX.mono {j : Nat} (D : DefX P w K mg base x j ps sp) (h : j ≤ k) : DefX P w K mg base x k ps sp := by
  obtain ⟨f, fd, hm, hk, hb, F⟩ := D
  exact ⟨f, fd, hm, hk, hb, F.mono h⟩
end
section
variable {X : Cx} {x : Str} {k : Nat} {ps : List Str} {sp : Sp} {p pos : Pos} {e : Expr} {es : List Expr} {t : TA} {E : XK}
/-- its exceptions go on to the caller -/
theorem pe_defX (G : DefX X.prog X.w X.K X.mg X.base x k ps sp) (hr : Room k X.A) (hx : Passes (CX1 X.prog X.w) X E) (ha : PA X (e :: es) t) (hg : Gl X x := by rfl)
    (hdb : (x == ("__debug__" : Str)) = false := by decide) (he : starEach (e :: es) X.env = (false, eval e X.env) :: starEach es X.env := by rfl) (hpl : (backTo pos (starEach es X.env)).any (·.1) = false := by rfl) :
    PE X (.Call (.Name x p) (e :: es) [] pos) (tCall sp [] E t) := by
  obtain ⟨f, fd, hm, hk, hb, F⟩ := G
  exact pe_call F hr hg hm hk hb .nil hx ha hdb he hpl
/-- within a try -/
theorem pex_def (G : DefX X.prog X.w X.K X.mg X.base x k ps sp) (hr : Room k X.A) (ha : PA X.nox (e :: es) t) (hg : Gl X x := by rfl)
    (hdb : (x == ("__debug__" : Str)) = false := by decide) (he : starEach (e :: es) X.env = (false, eval e X.env) :: starEach es X.env := by rfl) (hpl : (backTo pos (starEach es X.env)).any (·.1) = false := by rfl) :
    PEX X (.Call (.Name x p) (e :: es) [] pos) (tCallX sp [] t) := by
  obtain ⟨f, fd, hm, hk, hb, F⟩ := G
  exact pex_call F hr hg hm hk hb .nil ha hdb he hpl
end

/-! ### what is asked of an exception's class -/
theorem ask_ref {K : PySem.W.Frag} {C D : Addr} {b : Bool} (hc : PySem.W.isClsIn K D = true) (ht : PySem.W.typeIn K (.ref D) = some (.type "type")) (hs : PySem.W.subIn K (.ref C) (.ref D) = some b) (hb : b = true ∨ (Value.ref C == Value.ref D) = false) :
    PySem.W.kitOne K (.ref C) (.ref D) = some b := by
  have hk : PySem.W.kitCls K (.ref C) (.ref D) = some b := by
    unfold PySem.W.kitCls
    have : ((PySem.W.clsIn K D).isSome && PySem.W.typeIn K (.ref D) == some (.type "type")) = true := by
      rw [show (PySem.W.clsIn K D).isSome = true from hc, ht]
      rfl
    simp only [this, if_true]
    exact hs
  unfold PySem.W.kitOne
  by_cases q : (Value.ref C == Value.ref D) = true
  · rw [if_pos q]
    rcases hb with z | z
    · rw [z]
    · rw [z] at q
      cases q
  · rw [if_neg q]
    exact hk
theorem ask_ty {K : PySem.W.Frag} {C : Addr} {T : String} {b : Bool} (hm : PySem.W.kitMeta T = true) (hs : PySem.W.subIn K (.ref C) (.type T) = some b) : PySem.W.kitOne K (.ref C) (.type T) = some b := by
  unfold PySem.W.kitOne
  rw [if_neg (by intro z; cases beq_iff_eq.mp z)]
  unfold PySem.W.kitCls
  simp only [hm, if_true]
  exact hs
theorem exm_ref {K : PySem.W.Frag} {C D : Addr} (hb : PySem.W.subIn K (.ref D) (.type "BaseException") = some true) (hc : PySem.W.isClsIn K D = true) (ht : PySem.W.typeIn K (.ref D) = some (.type "type")) (hs : PySem.W.subIn K (.ref C) (.ref D) = some true) :
    PySem.W.exmOne K (.ref C) (.ref D) = some true := by
  unfold PySem.W.exmOne
  rw [if_pos (by rw [hb]; rfl)]
  unfold PySem.W.kitCls
  have : ((PySem.W.clsIn K D).isSome && PySem.W.typeIn K (.ref D) == some (.type "type")) = true := by
    rw [show (PySem.W.clsIn K D).isSome = true from hc, ht]
    rfl
  simp only [this, if_true]
  exact hs
theorem meta_VE : PySem.W.kitMeta "ValueError" = true := by decide +kernel
theorem boot_tVE : bootBuiltins "ValueError" = some (.type "ValueError") := by decide +kernel
theorem errC_mk {K : PySem.W.Frag} {C : Addr} (x : PySem.W.excIn K C mroV "ValueError.__new__" = true) (p : PySem.W.findIn K (.ref C) "__getattribute__" = some (some (.builtin "BaseException.__getattribute__"))) (q : PySem.W.findIn K (.ref C) "__getattr__" = some none)
    (r : PySem.W.findIn K (.ref C) "__class__" = some (some (.builtin "object.__class__"))) (s : PySem.W.subIn K (.ref C) (.type "BaseException") = some true) (t : PySem.W.subIn K (.ref C) (.type "object") = some true) (u : PySem.W.isClsIn K C = true) : ErrC K C :=
  ⟨⟨p, q, r, s, t, u⟩, x⟩
end L2

/-! Plans in plain Lean: words, how a plan is walked, what it costs, the plan of a laying, and that none costs less. -/
namespace Fs
/-- a word of a plan -/
inductive Wd where
  | d | p | t
  deriving DecidableEq
def wstep (n h : Int) : Wd → Int
  | .d => h + h
  | .p => h + n
  | .t => h - n
/-- what one has, walking a plan with a number -/
def walk (n : Int) : Int → List Wd → Int
  | h, [] => h
  | h, x :: r => walk n (wstep n h x) r
/-- how many puts and takes -/
def spent (ws : List Wd) : Nat := (ws.filter fun x => !decide (x = .d)).length
theorem walk_append (n : Int) : ∀ (h : Int) (a b : List Wd), walk n h (a ++ b) = walk n (walk n h a) b
  | _, [], _ => rfl
  | h, x :: r, b => walk_append n (wstep n h x) r b
theorem walk_snoc (n h : Int) (a : List Wd) (x : Wd) : walk n h (a ++ [x]) = wstep n (walk n h a) x := walk_append n h a [x]
theorem walk_take {n h : Int} {ws : List Wd} {i : Nat} {x : Wd} (hx : ws[i]? = some x) : walk n h (ws.take (i + 1)) = wstep n (walk n h (ws.take i)) x := by
  rw [List.take_add_one, hx]
  exact walk_snoc n h _ x
theorem spent_append (a b : List Wd) : spent (a ++ b) = spent a + spent b := by unfold spent; rw [List.filter_append, List.length_append]
theorem spent_cons (x : Wd) (r : List Wd) : spent (x :: r) = (if x = .d then 0 else 1) + spent r := by
  unfold spent
  rw [List.filter_cons]
  by_cases c : x = .d
  · rw [if_pos c, c]; simp
  · rw [if_neg c, decide_eq_false c]; simp; omega
theorem spent_le (ws : List Wd) : spent ws ≤ ws.length := List.length_filter_le _ _
theorem walk_mul (n : Int) : ∀ (k : Int) (ws : List Wd), walk n (k * n) ws = walk 1 k ws * n
  | _, [] => rfl
  | k, x :: r => by
    have e : wstep n (k * n) x = wstep 1 k x * n := by
      cases x
      · exact (Int.add_mul k k n).symm
      · show k * n + n = (k + 1) * n
        rw [Int.add_mul, Int.one_mul]
      · show k * n - n = (k - 1) * n
        rw [Int.sub_mul, Int.one_mul]
    rw [walk, walk, e]
    exact walk_mul n (wstep 1 k x) r
theorem walk_mul0 (n : Int) (ws : List Wd) : walk n 0 ws = walk 1 0 ws * n := by
  have := walk_mul n 0 ws
  rwa [Int.zero_mul] at this
/-! ### the plan of a laying -/
/-- what is done for a thing -/
def mark (x : Int) : List Wd := if x = 1 then [.p] else if x = -1 then [.t] else []
/-- the plan along a laying, from its end to its begin -/
def planOf : List Int → List Wd
  | [] => []
  | x :: r => planOf r ++ ((if r = [] then [] else [.d]) ++ mark x)
theorem walk_mark {n h x : Int} (hx : triB x = true) : walk n h (mark x) = h + x * n := by
  rcases tri_cases hx with e | e | e <;> subst e
  · show h - n = _; omega
  · show h = _; omega
  · show h + n = _; omega
theorem planOf_walk (n : Int) : ∀ {xs : List Int}, xs.all triB = true → walk n 0 (planOf xs) = load xs * n
  | [], _ => by show (0 : Int) = 0 * n; omega
  | x :: r, h => by
    rw [List.all_cons, Bool.and_eq_true] at h
    have ih := planOf_walk n h.2
    rw [planOf, walk_append, ih, walk_append, walk_mark h.1, load]
    by_cases c : r = []
    · subst c
      simp only [if_true, walk, load, Int.zero_mul, Int.mul_zero, Int.add_zero, Int.zero_add]
    · rw [if_neg c]
      show load r * n + load r * n + x * n = _
      rw [Int.add_mul, Int.mul_assoc]
      omega
theorem spent_mark {x : Int} (hx : triB x = true) : spent (mark x) = if x = 0 then 0 else 1 := by
  rcases tri_cases hx with e | e | e <;> subst e <;> decide
theorem count_cons (x : Int) (r : List Int) : count (x :: r) = (if x = 0 then 0 else 1) + count r := by
  unfold count
  rw [List.filter_cons]
  by_cases c : x = 0
  · rw [if_pos c, c]; simp
  · rw [if_neg c, decide_eq_false c]; simp; omega
theorem planOf_spent : ∀ {xs : List Int}, xs.all triB = true → spent (planOf xs) = count xs
  | [], _ => rfl
  | x :: r, h => by
    rw [List.all_cons, Bool.and_eq_true] at h
    rw [planOf, spent_append, spent_append, planOf_spent h.2, spent_mark h.1, count_cons]
    by_cases c : r = []
    · rw [if_pos c, show spent [] = 0 from rfl]; omega
    · rw [if_neg c, show spent [.d] = 0 from rfl]; omega
theorem planOf_len : ∀ xs : List Int, (planOf xs).length ≤ 2 * xs.length
  | [] => Nat.le_refl _
  | x :: r => by
    have ih := planOf_len r
    have hm : (mark x).length ≤ 1 := by unfold mark; split; · exact Nat.le_refl _
                                        · split; · exact Nat.le_refl _
                                          · exact Nat.zero_le _
    rw [planOf, List.length_append, List.length_append, List.length_cons]
    split
    · simp only [List.length_nil]; omega
    · simp only [List.length_cons, List.length_nil]; omega
/-- the plan along a laying, an upper part's plan first -/
theorem planOf_append : ∀ {xs ys : List Int}, ys ≠ [] → planOf (xs ++ ys) = planOf ys ++ (xs.reverse.map fun x => Wd.d :: mark x).flatten
  | [], ys, _ => by simp
  | x :: r, ys, h => by
    have ih := planOf_append (xs := r) h
    rw [List.cons_append, planOf, ih, if_neg (by simp [h]), List.reverse_cons, List.map_append, List.flatten_append, List.append_assoc]
    simp
/-! ### two doubles at least between two others -/
/-- how many doubles since the last put or take -/
def run : Nat → List Wd → Nat
  | c, [] => c
  | c, .d :: r => run (c + 1) r
  | _, _ :: r => run 0 r
def sparseB : Nat → List Wd → Bool
  | _, [] => true
  | c, .d :: r => sparseB (c + 1) r
  | c, _ :: r => decide (2 ≤ c) && sparseB 0 r
theorem run_append : ∀ (c : Nat) (a b : List Wd), run c (a ++ b) = run (run c a) b
  | _, [], _ => rfl
  | c, .d :: r, b => run_append (c + 1) r b
  | _, .p :: r, b => run_append 0 r b
  | _, .t :: r, b => run_append 0 r b
theorem sparse_append : ∀ (c : Nat) (a b : List Wd), sparseB c (a ++ b) = (sparseB c a && sparseB (run c a) b)
  | _, [], _ => rfl
  | c, .d :: r, b => sparse_append (c + 1) r b
  | c, .p :: r, b => by
    show (decide (2 ≤ c) && sparseB 0 (r ++ b)) = (decide (2 ≤ c) && sparseB 0 r && sparseB (run 0 r) b)
    rw [sparse_append 0 r b, Bool.and_assoc]
  | c, .t :: r, b => by
    show (decide (2 ≤ c) && sparseB 0 (r ++ b)) = (decide (2 ≤ c) && sparseB 0 r && sparseB (run 0 r) b)
    rw [sparse_append 0 r b, Bool.and_assoc]
theorem run_mark {c : Nat} {x : Int} (hx : triB x = true) : run c (mark x) = if x = 0 then c else 0 := by
  rcases tri_cases hx with e | e | e <;> subst e <;> rfl
theorem sparse_mark {c : Nat} {x : Int} (hx : triB x = true) (h : x = 0 ∨ 2 ≤ c) : sparseB c (mark x) = true := by
  rcases tri_cases hx with e | e | e <;> subst e
  · show (decide (2 ≤ c) && true) = true
    rw [decide_eq_true (h.resolve_left (by omega))]; rfl
  · rfl
  · show (decide (2 ≤ c) && true) = true
    rw [decide_eq_true (h.resolve_left (by omega))]; rfl
theorem planOf_run {x : Int} {r : List Int} (hx : triB x = true) (hr : r ≠ []) : run 2 (planOf (x :: r)) = if x = 0 then run 2 (planOf r) + 1 else 0 := by
  rw [planOf, if_neg hr, run_append, run_append, run_mark hx]
  rfl
theorem neat_tail {x : Int} {r : List Int} (h : neatB (x :: r) = true) : neatB r = true := by
  unfold neatB at h ⊢
  rw [Bool.and_eq_true, Bool.and_eq_true, List.all_cons, Bool.and_eq_true, decide_eq_true_iff] at h
  obtain ⟨⟨_, hr⟩, ha, he⟩ := h
  have c : ¬ (x = 0 ∧ ended r = []) := fun c => by rw [ended, if_pos c] at he; cases he
  have er : ended r = r := by rw [ended, if_neg c] at he; exact (List.cons.inj he).2
  have ar : apartB r = true := by
    cases r with
    | nil => rfl
    | cons y q => rw [apartB, Bool.and_eq_true] at ha; exact ha.2
  rw [hr, ar, er]
  simp
theorem neat_head {x : Int} {r : List Int} (h : neatB (x :: r) = true) : triB x = true := by
  have := neat_all h
  rw [List.all_cons, Bool.and_eq_true] at this
  exact this.1
theorem neat_last {x : Int} (h : neatB [x] = true) : x ≠ 0 := by
  rintro rfl
  exact absurd h (by decide)
theorem planOf_sparse : ∀ {xs : List Int}, neatB xs = true → sparseB 2 (planOf xs) = true
  | [], _ => rfl
  | [x], h => by
    rw [planOf, if_pos rfl]
    exact sparse_mark (neat_head h) (.inr (Nat.le_refl _))
  | x :: y :: r, h => by
    have ht := neat_tail h
    have ih := planOf_sparse ht
    rw [planOf, if_neg (by simp), sparse_append, sparse_append, ih]
    show sparseB (run 2 (planOf (y :: r)) + 1) (mark x) = true
    refine sparse_mark (neat_head h) ?_
    by_cases c : x = 0
    · exact .inl c
    · have hy : y = 0 := by
        have ha : apartB (x :: y :: r) = true := by
          unfold neatB at h
          rw [Bool.and_eq_true, Bool.and_eq_true] at h
          exact h.2.1
        exact (apart_get (k := 0) ha rfl rfl).resolve_left c
      have hr : r ≠ [] := by
        rintro rfl
        exact neat_last ht hy
      rw [planOf_run (neat_head ht) hr, if_pos hy]
      right
      omega
theorem planOf_head : ∀ {xs : List Int}, neatB xs = true → (planOf xs)[0]? ≠ some .d
  | [], _ => by simp [planOf]
  | [x], h => by
    have nx := neat_last h
    rcases tri_cases (neat_head h) with e | e | e
    · subst e; decide
    · exact absurd e nx
    · subst e; decide
  | x :: y :: r, h => by
    have ih := planOf_head (neat_tail h)
    rw [planOf]
    have ne : planOf (y :: r) ≠ [] := by
      intro z
      have w := planOf_walk 1 (neat_all (neat_tail h))
      rw [z] at w
      have l0 : load (y :: r) = 0 := by
        have w' : (0 : Int) = load (y :: r) * 1 := w
        omega
      have q := neat_only (neat_tail h)
      rw [l0, laid_zero] at q
      cases q
    cases hp : planOf (y :: r) with
    | nil => exact absurd hp ne
    | cons a b =>
      rw [hp] at ih
      simpa using ih
/-! ### none costs less -/
/-- how many stones the neat laying of a load uses -/
def wt (n : Int) : Nat := count (laid n)
theorem wt_zero : wt 0 = 0 := by unfold wt; rw [laid_zero]; rfl
theorem wt_step {n : Int} (h : n ≠ 0) : wt n = (if low n = 0 then 0 else 1) + wt ((n - low n) / 2) := by
  unfold wt
  rw [laid_step h, count_cons]
theorem wt_two (n : Int) : wt (2 * n) = wt n := by
  by_cases h : n = 0
  · subst h; rfl
  · have e : low (2 * n) = 0 := by unfold low; rw [if_pos (by omega)]
    rw [wt_step (by omega), e, if_pos rfl, Nat.zero_add]
    congr 1
    omega
theorem wt_one (m : Int) : wt (4 * m + 1) = 1 + wt m := by
  have e : low (4 * m + 1) = 1 := by unfold low; rw [if_neg (by omega)]; omega
  rw [wt_step (by omega), e, if_neg (by decide), show (4 * m + 1 - 1) / 2 = 2 * m by omega, wt_two]
theorem wt_three (m : Int) : wt (4 * m + 3) = 1 + wt (m + 1) := by
  have e : low (4 * m + 3) = -1 := by unfold low; rw [if_neg (by omega)]; omega
  rw [wt_step (by omega), e, if_neg (by decide), show (4 * m + 3 - -1) / 2 = 2 * (m + 1) by omega, wt_two]
theorem wt_odd (m : Int) : (wt (2 * m + 1) = 1 + wt m) ∨ (wt (2 * m + 1) = 1 + wt (m + 1)) := by
  by_cases c : m % 2 = 0
  · left
    obtain ⟨k, rfl⟩ : ∃ k, m = 2 * k := ⟨m / 2, by omega⟩
    rw [show 2 * (2 * k) + 1 = 4 * k + 1 by omega, wt_one, wt_two]
  · right
    obtain ⟨k, rfl⟩ : ∃ k, m = 2 * k + 1 := ⟨m / 2, by omega⟩
    rw [show 2 * (2 * k + 1) + 1 = 4 * k + 3 by omega, wt_three, show 2 * k + 1 + 1 = 2 * (k + 1) by omega, wt_two]
theorem wt_near (n : Int) : wt (n + 1) ≤ wt n + 1 ∧ wt n ≤ wt (n + 1) + 1 := by
  obtain ⟨m, hm⟩ : ∃ m, m = n / 4 := ⟨_, rfl⟩
  rcases (by omega : n % 4 = 0 ∨ n % 4 = 1 ∨ n % 4 = 2 ∨ n % 4 = 3) with c | c | c | c
  · have e : n = 4 * m := by omega
    rw [e, wt_one, show 4 * m = 2 * (2 * m) by omega, wt_two, wt_two]
    omega
  · have e : n = 4 * m + 1 := by omega
    have ih := wt_near m
    have o := wt_odd m
    rw [e, wt_one, show 4 * m + 1 + 1 = 2 * (2 * m + 1) by omega, wt_two]
    omega
  · have e : n = 4 * m + 2 := by omega
    have ih := wt_near m
    have o := wt_odd m
    rw [e, show 4 * m + 2 + 1 = 4 * m + 3 by omega, wt_three, show 4 * m + 2 = 2 * (2 * m + 1) by omega, wt_two]
    omega
  · have e : n = 4 * m + 3 := by omega
    rw [e, wt_three, show 4 * m + 3 + 1 = 2 * (2 * (m + 1)) by omega, wt_two, wt_two]
    omega
termination_by n.natAbs
decreasing_by all_goals omega
/-- no laying of the same load uses fewer stones -/
theorem least_laying : ∀ {xs : List Int}, xs.all triB = true → count (laid (load xs)) ≤ count xs
  | [], _ => by show wt 0 ≤ _; rw [wt_zero]; exact Nat.zero_le _
  | x :: r, h => by
    rw [List.all_cons, Bool.and_eq_true] at h
    have ih : wt (load r) ≤ count r := least_laying h.2
    show wt (load (x :: r)) ≤ count (x :: r)
    rw [count_cons, load]
    have e2 := wt_two (load r)
    rcases tri_cases h.1 with e | e | e <;> subst e
    · have q := wt_near (-1 + 2 * load r)
      rw [show -1 + 2 * load r + 1 = 2 * load r by omega] at q
      rw [if_neg (by decide)]
      omega
    · rw [if_pos rfl, Int.zero_add]
      omega
    · have q := wt_near (2 * load r)
      rw [Int.add_comm 1, if_neg (by decide)]
      omega
theorem least_walk : ∀ (ws : List Wd) (h : Int) (k : Nat), wt h ≤ k → wt (walk 1 h ws) ≤ k + spent ws
  | [], h, k, hk => hk
  | x :: r, h, k, hk => by
    rw [spent_cons]
    cases x with
    | d =>
      have := least_walk r (h + h) k (by rw [show h + h = 2 * h by omega, wt_two]; exact hk)
      rw [if_pos rfl]
      show wt (walk 1 (h + h) r) ≤ _
      omega
    | p =>
      have := least_walk r (h + 1) (k + 1) (by have := wt_near h; omega)
      rw [if_neg (by decide)]
      show wt (walk 1 (h + 1) r) ≤ _
      omega
    | t =>
      have := least_walk r (h - 1) (k + 1) (by have := wt_near (h - 1); rw [show h - 1 + 1 = h by omega] at this; omega)
      rw [if_neg (by decide)]
      show wt (walk 1 (h - 1) r) ≤ _
      omega
/-- no plan that comes to the same load costs less than its neat laying has stones -/
theorem least_plan (ws : List Wd) : count (laid (walk 1 0 ws)) ≤ spent ws := by
  have := least_walk ws 0 0 (by rw [wt_zero]; exact Nat.le_refl _)
  rw [Nat.zero_add] at this
  exact this
theorem least_of_plan (ws : List Wd) : spent (planOf (laid (walk 1 0 ws))) ≤ spent ws := by
  rw [planOf_spent (laid_all _)]
  exact least_plan ws
/-- how far a plan comes -/
theorem walk_bound : ∀ (ws : List Wd) (h : Int) (k : Nat), h.natAbs ≤ 2 ^ k - 1 → (walk 1 h ws).natAbs ≤ 2 ^ (k + ws.length) - 1
  | [], h, k, hk => hk
  | x :: r, h, k, hk => by
    rw [List.length_cons, show k + (r.length + 1) = (k + 1) + r.length by omega]
    refine walk_bound r (wstep 1 h x) (k + 1) ?_
    have e : 2 ^ (k + 1) = 2 * 2 ^ k := by rw [Nat.pow_succ, Nat.mul_comm]
    have hp : 0 < 2 ^ k := Nat.pow_pos (by decide)
    rw [e]
    cases x <;> simp only [wstep] <;> omega
theorem walk_abs (ws : List Wd) : (walk 1 0 ws).natAbs ≤ 2 ^ ws.length := by
  have := walk_bound ws 0 0 (by decide)
  rw [Nat.zero_add] at this
  exact Nat.le_trans this (Nat.sub_le _ _)
end Fs

/-! Defs with one default; the words of a plan as texts. -/
namespace L2
open PySem PySem.Spec PyProof.Rows

/-! ### a def with a default -/
structure FunD (K : PySem.W.Frag) (x qual : Str) (st : Stmt) (T : Addr) (f : Addr) (fd : FuncData) : Prop where
  ex : ∃ (oc : Value) (od : Option Addr) (kV doc pm : Value) (an : Option Addr) (cdv ct : Value) (osl : Array (Option Value)),
    fd = PySem.W.fnOf x qual (defArgs st) (defBody st) (defScope st) (.ref T) kV doc pm an cdv ct ∧ K.lookup f = some ⟨oc, od, .func fd, osl⟩ ∧ PySem.W.codeIn K cdv qual = true
  kp : PySem.W.keepIn K (.ref f) = true
section
variable {P : Program} {w : World} {K : PySem.W.Frag} {mg : Str → Option Value} {base : Heap} {T : Addr}
theorem FunD.ok {x qual : Str} {st : Stmt} {f : Addr} {fd : FuncData} {N ps : List Str} {k : Nat} {sp : Sp} (F : FunD K x qual st T f fd) (S : FnScope N ps (defScope st)) (len : ∀ vs H Q E, sp vs H Q E → vs.length = ps.length)
    (hbody : ∀ (cdv : Value) (A : Around) (outer : List Env) (s : Shared) (H : Hp) (vs : List V) (Q : VK) (E : XK), Room k (A.deeper (envOfC qual (defScope st) s.heap.objs.size f cdv)) → sp vs H Q E →
      ∃ t, PSs (cxOf CX0 P w K mg base N qual (defScope st) f cdv A outer s H E).nox (defBody st) t ∧ t { nx := fun _ H' => Q .non H', rt := Q } (start N vs) H) : FnOk P w K mg base CX0 (k + 1) f fd ps sp := by
  obtain ⟨oc, od, kV, doc, pm, an, cdv, ct, osl, rfl, lk, hcd⟩ := F.ex
  refine fn_of lk hcd S len fun A outer s H vs Q E hr hsp => ?_
  obtain ⟨t, h, q⟩ := hbody cdv A outer s H vs Q E hr hsp
  exact ⟨t, h.nox, q⟩
theorem FunD.okX {x qual : Str} {st : Stmt} {f : Addr} {fd : FuncData} {N ps : List Str} {k : Nat} {sp : Sp} (F : FunD K x qual st T f fd) (S : FnScope N ps (defScope st)) (len : ∀ vs H Q E, sp vs H Q E → vs.length = ps.length)
    (hbody : ∀ (cdv : Value) (A : Around) (outer : List Env) (s : Shared) (H : Hp) (vs : List V) (Q : VK) (E : XK), Room k (A.deeper (envOfC qual (defScope st) s.heap.objs.size f cdv)) → sp vs H Q E →
      ∃ t, PSs (cxOf (CX1 P w) P w K mg base N qual (defScope st) f cdv A outer s H E) (defBody st) t ∧ t { nx := fun _ H' => Q .non H', rt := Q } (start N vs) H) : FnOk P w K mg base (CX1 P w) (k + 1) f fd ps sp := by
  obtain ⟨oc, od, kV, doc, pm, an, cdv, ct, osl, rfl, lk, hcd⟩ := F.ex
  exact fn_of lk hcd S len fun A outer s H vs Q E hr hsp => hbody cdv A outer s H vs Q E hr hsp
theorem funD_mk {x qual : Str} {st : Stmt} {f : Addr} {oc : Value} {od an : Option Addr} {osl : Array (Option Value)} {kV doc pm cdv ct : Value} (l : K.lookup f = some ⟨oc, od, .func (PySem.W.fnOf x qual (defArgs st) (defBody st) (defScope st) (.ref T) kV doc pm an cdv ct), osl⟩)
    (c : PySem.W.codeIn K cdv qual = true) (k : PySem.W.keepIn K (.ref f) = true) : FunD K x qual st T f (PySem.W.fnOf x qual (defArgs st) (defBody st) (defScope st) (.ref T) kV doc pm an cdv ct) := ⟨⟨oc, od, kV, doc, pm, an, cdv, ct, osl, rfl, l, c⟩, k⟩
end
/-- the global x is the def st of the text, its last parameter with the default dv -/
def AtD (K : PySem.W.Frag) (mg : Str → Option Value) (x : Str) (st : Stmt) (ps : List Str) (dv : V) : Prop :=
  ∃ (f : Addr) (fd : FuncData) (T : Addr) (d : Value), mg x = some (.ref f) ∧ FunD K x x st T f fd ∧ Binds K fd ps [] ∧ RelV dv d ∧ Binds K fd ps [d]
/-- a def with a default that keeps sp, its exceptions told by CX -/
def DefD (CX : CXT) (P : Program) (w : World) (K : PySem.W.Frag) (mg : Str → Option Value) (base : Heap) (x : Str) (k : Nat) (ps : List Str) (dv : V) (sp : Sp) : Prop :=
  ∃ (f : Addr) (fd : FuncData) (d : Value), mg x = some (.ref f) ∧ PySem.W.keepIn K (.ref f) = true ∧ Binds K fd ps [] ∧ RelV dv d ∧ Binds K fd ps [d] ∧ FnOk P w K mg base CX k f fd ps sp
section
variable {CX : CXT} {P : Program} {w : World} {K : PySem.W.Frag} {mg : Str → Option Value} {base : Heap} {x : Str} {k : Nat} {ps : List Str} {dv : V} {sp sp' : Sp} {st : Stmt}
theorem AtD.def (A : AtD K mg x st ps dv) (h : ∀ T f fd, FunD K x x st T f fd → FnOk P w K mg base CX k f fd ps sp) : DefD CX P w K mg base x k ps dv sp := by
  obtain ⟨f, fd, T, d, hm, F, hb, r, hb2⟩ := A
  exact ⟨f, fd, d, hm, F.kp, hb, r, hb2, h T f fd F⟩
theorem DefD.imp (D : DefD CX P w K mg base x k ps dv sp) (h : ∀ vs H Q E, sp' vs H Q E → sp vs H Q E) : DefD CX P w K mg base x k ps dv sp' := by
  obtain ⟨f, fd, d, hm, hk, hb, r, hb2, F⟩ := D
  exact ⟨f, fd, d, hm, hk, hb, r, hb2, F.imp h⟩
theorem DefD.mono {j : Nat} (D : DefD CX P w K mg base x j ps dv sp) (h : j ≤ k) : DefD CX P w K mg base x k ps dv sp := by
  obtain ⟨f, fd, d, hm, hk, hb, r, hb2, F⟩ := D
  exact ⟨f, fd, d, hm, hk, hb, r, hb2, F.mono h⟩
end
section
variable {X : Cx} {x : Str} {k : Nat} {ps : List Str} {dv : V} {sp : Sp} {p pos : Pos} {e : Expr} {es : List Expr} {t : TA}
/-- all given -/
theorem pe_def2 (G : DefD CX0 X.prog X.w X.K X.mg X.base x k ps dv sp) (hr : Room k X.A) (ha : PA X (e :: es) t) (hg : Gl X x := by rfl)
    (hdb : (x == ("__debug__" : Str)) = false := by decide) (he : starEach (e :: es) X.env = (false, eval e X.env) :: starEach es X.env := by rfl) (hpl : (backTo pos (starEach es X.env)).any (·.1) = false := by rfl) :
    PE X (.Call (.Name x p) (e :: es) [] pos) (tCall sp [] E0 t) := by
  obtain ⟨f, fd, d, hm, hk, hb, r, hb2, F⟩ := G
  exact pe_call F hr hg hm hk hb .nil pass0 ha hdb he hpl
/-- the default used -/
theorem pe_def2d (G : DefD CX0 X.prog X.w X.K X.mg X.base x k ps dv sp) (hr : Room k X.A) (ha : PA X (e :: es) t) (hg : Gl X x := by rfl)
    (hdb : (x == ("__debug__" : Str)) = false := by decide) (he : starEach (e :: es) X.env = (false, eval e X.env) :: starEach es X.env := by rfl) (hpl : (backTo pos (starEach es X.env)).any (·.1) = false := by rfl) :
    PE X (.Call (.Name x p) (e :: es) [] pos) (tCall sp [dv] E0 t) := by
  obtain ⟨f, fd, d, hm, hk, hb, r, hb2, F⟩ := G
  exact pe_call F hr hg hm hk hb2 (.cons r .nil) pass0 ha hdb he hpl
theorem pex_def2 (G : DefD (CX1 X.prog X.w) X.prog X.w X.K X.mg X.base x k ps dv sp) (hr : Room k X.A) (ha : PA X.nox (e :: es) t) (hg : Gl X x := by rfl)
    (hdb : (x == ("__debug__" : Str)) = false := by decide) (he : starEach (e :: es) X.env = (false, eval e X.env) :: starEach es X.env := by rfl) (hpl : (backTo pos (starEach es X.env)).any (·.1) = false := by rfl) :
    PEX X (.Call (.Name x p) (e :: es) [] pos) (tCallX sp [] t) := by
  obtain ⟨f, fd, d, hm, hk, hb, r, hb2, F⟩ := G
  exact pex_call F hr hg hm hk hb .nil ha hdb he hpl
theorem pex_def2d (G : DefD (CX1 X.prog X.w) X.prog X.w X.K X.mg X.base x k ps dv sp) (hr : Room k X.A) (ha : PA X.nox (e :: es) t) (hg : Gl X x := by rfl)
    (hdb : (x == ("__debug__" : Str)) = false := by decide) (he : starEach (e :: es) X.env = (false, eval e X.env) :: starEach es X.env := by rfl) (hpl : (backTo pos (starEach es X.env)).any (·.1) = false := by rfl) :
    PEX X (.Call (.Name x p) (e :: es) [] pos) (tCallX sp [dv] t) := by
  obtain ⟨f, fd, d, hm, hk, hb, r, hb2, F⟩ := G
  exact pex_call F hr hg hm hk hb2 (.cons r .nil) ha hdb he hpl
end

/-! ### words -/
open Fs (Wd)
def tx : Wd → Str
  | .d => "double"
  | .p => "put"
  | .t => "take"
def wv (x : Wd) : V := .str (tx x)
theorem tx_inj {a b : Wd} (h : tx a = tx b) : a = b := by
  cases a <;> cases b <;> first | rfl | exact absurd h (by decide +kernel)
theorem wv_inj {a b : Wd} (h : wv a = wv b) : a = b := tx_inj (V.str.inj h)
theorem wv_dec (a b : Wd) : decide (wv a = wv b) = decide (a = b) := by
  by_cases h : a = b
  · rw [h, decide_eq_true rfl, decide_eq_true rfl]
  · rw [decide_eq_false h, decide_eq_false fun z => h (wv_inj z)]
theorem flat_w : Flat wv (fun x => PyData.str (tx x)) .str :=
  ⟨fun a => by cases a <;> decide +kernel, fun _ => rfl, fun a b => by
    simp only [PySem.Spec.same]
    by_cases h : a = b
    · rw [h]; simp
    · rw [decide_eq_false h]
      have : tx a ≠ tx b := fun z => h (tx_inj z)
      simp [this], fun _ => rfl, rfl, fun a u r => by obtain ⟨t, rfl⟩ := r; exact .str _ t⟩
/-- a plan stands at a -/
def WdAt (H : Hp) (a : Addr) (ws : List Wd) : Prop := Rd H a (.lst (ws.map wv)) ∧ ws.length ≤ 1000
theorem WdAt.same {H H' : Hp} {a : Addr} {ws : List Wd} (h : WdAt H a ws) (s : Same H H') : WdAt H' a ws := ⟨s.rd h.1, h.2⟩
theorem WdAt.sq {K : PySem.W.Frag} {H : Hp} {a : Addr} {ws : List Wd} (h : WdAt H a ws) : SqL K H a (ws.map wv) := h.1.sq
theorem get_w {ws : List Wd} {i : Nat} {y : V} (h : (ws.map wv)[i]? = some y) : ∃ z, ws[i]? = some z ∧ y = wv z := by
  rw [List.getElem?_map] at h
  cases e : ws[i]? with
  | none => rw [e] at h; cases h
  | some z => rw [e] at h; exact ⟨z, rfl, (Option.some.inj h).symm⟩
theorem at_w {ws : List Wd} {k : Nat} {x : Wd} (h : ws[k]? = some x) : atI (ws.map wv) (k : Int) = some (wv x) := atI_nat (by rw [List.getElem?_map, h] <;> rfl)
theorem kinds_w {K : PySem.W.Frag} {H : Hp} {ws : List Wd} : ∀ x ∈ ws.map wv, ∃ n, Kind K H x n := fun x hx => by
  obtain ⟨i, _, rfl⟩ := List.mem_map.mp hx
  exact ⟨_, .str _⟩
/-- one of the three words -/
def wordV : V → Bool
  | .str x => decide (x = "double" ∨ x = "put" ∨ x = "take")
  | _ => false
theorem word_w (x : Wd) : wordV (wv x) = true := by cases x <;> decide +kernel
theorem words_w (ws : List Wd) : (ws.map wv).all wordV = true := List.all_eq_true.mpr fun x hx => by
  obtain ⟨i, _, rfl⟩ := List.mem_map.mp hx
  exact word_w i
theorem inV_words (x : Str) : inV (.str x) [.str "double", .str "put", .str "take"] = wordV (.str x) := by
  unfold inV wordV
  rw [Bool.eq_iff_iff, decide_eq_true_iff]
  simp only [List.any_cons, List.any_nil, Bool.or_false, Bool.or_eq_true, eqV, decide_eq_true_iff, beq_iff_eq]
  constructor
  · rintro (h | h | h)
    · exact .inl h.symm
    · exact .inr (.inl h.symm)
    · exact .inr (.inr h.symm)
  · rintro (h | h | h)
    · exact .inl h.symm
    · exact .inr (.inl h.symm)
    · exact .inr (.inr h.symm)
theorem kit_str {K : PySem.W.Frag} {H : Hp} {v : V} {n : String} (h : Kind K H v n) : PySem.W.kitOne K (.type n) (.type "str") = some (decide (n = "str")) := by
  unfold Kind at h
  generalize e : Value.type n = t at h ⊢
  cases h with
  | non => cases e; kernel_rfl
  | bl x => cases e; kernel_rfl
  | int i => cases e; kernel_rfl
  | str x => cases e; kernel_rfl
  | flt x => cases e; kernel_rfl
  | lst h => cases e; kernel_rfl
  | frz h => cases e; kernel_rfl
  | tup h => cases e; kernel_rfl
  | dK h => cases e; kernel_rfl
  | dT h => cases e; kernel_rfl
  | ins h cl ha hn htk hm => cases e
theorem kind_str {K : PySem.W.Frag} {H : Hp} {v : V} {n : String} (h : Kind K H v n) (e : n = "str") : ∃ x, v = .str x := by
  unfold Kind at h
  generalize e' : Value.type n = t at h
  subst e
  cases h with
  | str x => exact ⟨x, rfl⟩
  | ins h cl ha hn htk hm => cases e'
  | _ => exact absurd (Value.type.inj e') (by decide)
theorem kind_nostr {K : PySem.W.Frag} {H : Hp} {v : V} {n : String} (h : Kind K H v n) (e : n ≠ "str") : wordV v = false := by
  cases v with
  | str x =>
    unfold Kind at h
    generalize e' : Value.type n = t at h
    cases h with
    | str x => cases e'; exact absurd rfl e
  | _ => rfl
theorem boot_tstr : bootBuiltins "str" = some (.type "str") := by decide +kernel
theorem ifW_eq {A B : Prop} (x : Wd) (h : A) : if decide (wv x = wv x) = true then A else B := by
  rw [if_pos (decide_eq_true rfl)]
  exact h
theorem ifW_ne {A B : Prop} {x y : Wd} (n : x ≠ y) (h : B) : if decide (wv x = wv y) = true then A else B := by
  rw [if_neg (by rw [decide_eq_false fun z => n (wv_inj z)]; exact Bool.false_ne_true)]
  exact h
/-! ### {"put": 1} -/
def tD1 (x : Str) (i : Int) : TE := fun _ H Q => ∀ p, H p = none → Q (.ref p) (upd H p (.dK [(.inr x, .int i)]))
theorem pe_d1 {X : Cx} {x : Str} {i : Int} {j1 j2 : Nat} {p1 p2 pos : Pos} : PE X (.Dict [some (.Constant (.str x) j1 p1)] [.Constant (.int i) j2 p2] pos) (tD1 x i) := fun pins s σ H Q I h => by
  have big : mainGlobals < s.heap.objs.size := (I.mod.glob.keeps I.bk).lt
  have far : sysModules < s.heap.objs.size := Nat.lt_trans (by decide) big
  have ne : (s.heap.objs.size == sysModules) = false := beq_eq_false_iff_ne.mpr (Ne.symm (Nat.ne_of_lt far))
  refine wpAny_Dict_pairs (knd := mixKind X.prog X.w) (pairs := [(eval (.Constant (.str x) j1 p1) X.env, do let v ← eval (.Constant (.int i) j2 p2) X.env; standAt pos; pure v)]) rfl (by simp) (by show 1 ≤ 15; decide) ?_
  refine evalPairs_cons (Calls.Constant_str (wpAny_bind (wpAny_Constant_int (wpAny_bind (wpAny_standAt (wpAny_pure (evalPairs_nil ?_)))))))
  refine ⟨[(.inr x, .int i _)], ⟨mixKind_str _ _ x _, rfl, trivial⟩, Heap.DictOf.new s.heap, fun h' dd hs => ⟨.ref s.heap.objs.size, _, I.laid (a := s.heap.objs.size) (o := .dK [(.inr x, .int i)]) (h' := h') (fun b o e => ?_) (Nat.le_refl _) ⟨by show 1 ≤ sizeLine; decide, ne, _, .cons ⟨rfl, _, rfl⟩ .nil, dd⟩, rfl, h _ (I.hok.fresh (Nat.le_refl _))⟩⟩
  exact (hs.2 b (Nat.ne_of_lt (Heap.lt_size e))).trans (Heap.get?_push_of_some _ e)
/-! ### what the program's plans are to do -/
/-- no plan -/
def BadP (K : PySem.W.Frag) (H : Hp) (v : V) : Prop := (∃ (a : Addr) (xs : List V), v = .ref a ∧ Rd H a (.lst xs) ∧ xs.length ≤ 1000 ∧ (∀ x ∈ xs, ∃ n, Kind K H x n) ∧ xs.all wordV = false) ∨ (∃ n, Kind K H v n ∧ n ≠ "list")
theorem BadP.same {K : PySem.W.Frag} {H H' : Hp} {v : V} (s : Same H H') (h : BadP K H v) : BadP K H' v := by
  rcases h with ⟨a, xs, e, r, z, k, b⟩ | ⟨n, k, b⟩
  · exact .inl ⟨a, xs, e, s.rd r, z, fun x hx => let ⟨n, h⟩ := k x hx; ⟨n, h.same s⟩, b⟩
  · exact .inr ⟨n, k.same s, b⟩
def spWalked : Sp := fun vs H Q _ => ∃ (a : Addr) (ws : List Wd) (n : Int), vs = [.ref a, .int n] ∧ WdAt H a ws ∧ n.natAbs ≤ 2 ^ 400 ∧ ∀ H', Same H H' → Q (.int (Fs.walk n 0 ws)) H'
def spWalkedX (K : PySem.W.Frag) (C : Addr) : Sp := fun vs H _ E => ∃ v n : V, vs = [v, n] ∧ BadP K H v ∧ ∀ H', Same H H' → E (.ref C) none H'
def spCost : Sp := fun vs H Q _ => ∃ (a : Addr) (ws : List Wd), vs = [.ref a] ∧ WdAt H a ws ∧ ∀ H', Same H H' → Q (.int (Fs.spent ws)) H'
def spCostX (K : PySem.W.Frag) (C : Addr) : Sp := fun vs H _ E => ∃ v : V, vs = [v] ∧ BadP K H v ∧ ∀ H', Same H H' → E (.ref C) none H'
def spPlanOf : Sp := fun vs H Q _ => ∃ n : Int, vs = [.int n] ∧ (Fs.laid n).length ≤ 450 ∧ ∀ p H', H p = none → Same H H' → H' p = some (.lst ((Fs.planOf (Fs.laid n)).map wv)) → Q (.ref p) H'
def spPlanOfX (K : PySem.W.Frag) (C : Addr) : Sp := fun vs H _ E => ∃ (v : V) (n : String), vs = [v] ∧ Kind K H v n ∧ wholeV v = false ∧ ∀ H', Same H H' → E (.ref C) none H'
theorem plan_walk (n : Int) : Fs.walk 1 0 (Fs.planOf (Fs.laid n)) = n := by
  rw [Fs.planOf_walk 1 (Fs.laid_all n), Fs.laid_load, Int.mul_one]
theorem flat_words : ([V.str "double", .str "put", .str "take"].all flatV) = true := by decide +kernel
/-- a slice of all from a place on -/
theorem cut_mid (xs : List V) (a b : Nat) (h : xs.length ≤ b) : cutV xs (some (a : Int)) (some (b : Int)) = xs.drop a := by
  unfold cutV
  rw [HT.sIx_nat, HT.sIx_nat, Nat.min_eq_right h]
  by_cases c : a ≤ xs.length
  · rw [Nat.min_eq_left c, List.take_of_length_le (by rw [List.length_drop]; exact Nat.le_refl _)]
  · rw [Nat.min_eq_right (by omega), List.drop_length, List.drop_eq_nil_of_le (by omega), List.take_nil]
theorem Same.over {H H' : Hp} {p : Addr} (s : Same H H') (h : H p = none) (o : HO) : Same H (upd H' p o) := fun b u q => by rw [upd_ne (ne_of_none q h)]; exact s _ _ q
/-- the word by a cell -/
def wd3 (c : Int) : Wd := if c % 3 = 0 then .d else if c % 3 = 1 then .p else .t
def wd3V : V → V
  | .int c => wv (wd3 c)
  | v => v
theorem at_wd3 (c : Int) : atI [V.str "double", .str "put", .str "take"] (c % 3) = some (wv (wd3 c)) := by
  have : c % 3 = 0 ∨ c % 3 = 1 ∨ c % 3 = 2 := by omega
  unfold wd3
  rcases this with e | e | e <;> rw [e] <;> rfl
/-! ### xs[::-1] -/
def tRsl (K : PySem.W.Frag) (te : TE) : TE := fun σ H Q => te σ H fun x H1 => ∃ a xs, x = .ref a ∧ SqL K H1 a xs ∧ ∀ p, H1 p = none → Q (.ref p) (upd H1 p (.lst xs.reverse))
theorem pe_rsl {X : Cx} {e : Expr} {te : TE} {j : Nat} {p1 p2 p3 pos : Pos} (he : PE X e te) : PE X (.Subscript e (.Slice none none (some (.UnaryOp .USub (.Constant (.int 1) j p1) p3)) p2) pos) (tRsl X.K te) := by
  intro pins s σ H Q I h
  refine Subscript_ (thn (he pins s σ H _ I h) fun v s1 ⟨x, H1, I1, r1, q1⟩ => ?_)
  obtain ⟨a, xs, rfl, hq, q⟩ := q1
  cases r1
  refine wpAny_Slice ?_
  rw [evalPart_none]
  refine wpAny_pure (wpAny_pure ?_)
  refine thn (po_some (pe_un un_neg pe_int) pins s1 σ H1 (fun o H2 => o = some (-1) ∧ H2 = H1) I1 ⟨_, rfl, _, rfl, rfl, rfl⟩) fun vk s3 ⟨o, H3, I3, pk, e1, e2⟩ => ?_
  subst e1 e2
  have I4 : Inv X pins σ H3 { s3 with heap := s3.heap.push { cls := .type "slice", data := .fields #[.none, .none, vk] } } := I3.kept (t' := s3.toks) fun b ob q => Heap.get?_push_of_some _ q
  obtain ⟨its, r, ht, hz⟩ := I4.list hq
  have hlen := r.length
  show wpAny (model X.prog X.w) X.A (subscriptTail e (.Slice none none (some (.UnaryOp .USub (.Constant (.int 1) j p1) p3)) p2) (.ref a) (.ref s3.heap.objs.size)) (EP X pins σ Q) X.xe { s3 with heap := s3.heap.push { cls := .type "slice", data := .fields #[.none, .none, vk] } }
  refine tail_any (ops := [.ref a, .ref s3.heap.objs.size]) ht.isList.typeIs slot_list_getitem.lookup ?_ (by with_unfolding_all rfl)
  refine wpAny_getItem_list_slice ht.isList (Heap.IsSliceOf.new ..) .none .none pk (by decide) ?_ (by rw [List.size_toArray] <;> omega)
  rw [PySem.W.krv_pick]
  refine ⟨.ref _, _, I4.laid (t' := s3.toks) (o := .lst xs.reverse) (fun b ob q => Heap.get?_push_of_some _ q) (Nat.le_refl _) ?_, rfl, q _ (I4.hok.fresh (Nat.le_refl _))⟩
  exact ⟨by rw [List.length_reverse]; exact hz, _, 0, r.reverse, Heap.get?_push_size _ rfl⟩
theorem get_rev {ns : List Int} {i : Nat} {y : V} (h : ((ns.map V.int).reverse)[i]? = some y) : ∃ z, ns[ns.length - 1 - i]? = some z ∧ y = .int z ∧ i < ns.length := by
  have hi : i < ns.length := by
    have := (List.getElem?_eq_some_iff.mp h).1
    simpa using this
  rw [List.getElem?_reverse (by simpa using hi), List.length_map] at h
  obtain ⟨z, h1, h2⟩ := get_int h
  exact ⟨z, h1, h2, hi⟩
/-! ### rows, again and again -/
theorem map_rep {α β : Type} (f : α → β) (xs : List α) : ∀ k : Nat, (List.replicate k (xs.map f)).flatten = ((List.replicate k xs).flatten).map f
  | 0 => rfl
  | k + 1 => by rw [List.replicate_succ, List.flatten_cons, map_rep f xs k, List.replicate_succ, List.flatten_cons, List.map_append]
theorem rep_all {p : Int → Bool} {xs : List Int} (h : xs.all p = true) (k : Nat) : ((List.replicate k xs).flatten).all p = true := List.all_eq_true.mpr fun x hx => by
  obtain ⟨l, hl, hx⟩ := List.mem_flatten.mp hx
  exact List.all_eq_true.mp h x ((List.mem_replicate.mp hl).2 ▸ hx)
/-- one of 1, 0, -1 in a written tuple -/
theorem in_tri {z : Int} (h : Fs.triB z = true) : inV (.int z) [.int 1, .int 0, .int (-1)] = true := by
  rcases Fs.tri_cases h with e | e | e <;> subst e <;> decide
theorem flat_tri : ([V.int 1, .int 0, .int (-1)].all flatV) = true := by decide
/-! ### with the class of K said: within a comprehension -/
section
variable {X : Cx}
theorem op_in_seqK (K : PySem.W.Frag) (hK : X.K = K := by rfl) : OpR X (compareOp .In) (rIn K false) := hK ▸ op_in_seq
theorem op_notIn_seqK (K : PySem.W.Frag) (hK : X.K = K := by rfl) : OpR X (compareOp .NotIn) (rIn K true) := hK ▸ op_notIn_seq
theorem ix_listK (K : PySem.W.Frag) (hK : X.K = K := by rfl) : IxR X (rIxL K) := hK ▸ ix_list
def rIsinst (K : PySem.W.Frag) : List V → Hp → VK → Prop := fun xs H Q => ∃ x y t c b, xs = [x, y] ∧ clsV y = some c ∧ TyOf K H x t ∧ PySem.W.kitOne K t c = some b ∧ Q (.bl b) H
theorem call_isinstK (K : PySem.W.Frag) (hK : X.K = K := by rfl) : CallR X (.builtin "isinstance") (rIsinst K) := hK ▸ call_isinst
end
theorem one_of {us : List Value} {d : Value} (h : (us ++ [d]).length = 2) : ∃ u, us = [u] := by
  rw [List.length_append, List.length_singleton] at h
  exact List.length_eq_one_iff.mp (by omega)
theorem two_of {us : List Value} (h : (us ++ []).length = 2) : ∃ u v, us = [u, v] := by
  rw [List.append_nil] at h
  match us, h with
  | [u, v], _ => exact ⟨u, v, rfl⟩
end L2

/-! Texts: walked sign by sign, cut, joined, stripped, looked through. -/
namespace L2
open PySem PySem.Spec PyProof.Rows

/-! ### for c in a text -/
def Its (x : Str) : It := ⟨fun i _ => i < x.cps.size, fun i H v H' => H' = H ∧ ∃ c, x.cps[i]? = some c ∧ v = .str ⟨#[c]⟩, fun i _ => x.cps.size ≤ i⟩
theorem turn_str {P : Program} {w : World} {K : PySem.W.Frag} {tg : Expr} (x : Str) (t : Tok) (it : Addr) (ty : String) (hty : ty = "str_ascii_iterator" ∨ ty = "str_iterator") : Turn P w K tg (Its x) [it] it (fun i h => h.IsStrIter it ty x t i) where
  mem := by simp
  obj := fun i h st b hb => by
    have e : b = it := by simpa using hb
    subst e
    obtain ⟨o, e, c, d⟩ := st
    exact ⟨o, e, fun v z => by rw [d] at z; cases z⟩
  keep := fun i h h' st k => let ⟨o, e, r⟩ := st; ⟨o, k it (by simp) o e, r⟩
  item := by
    intro X hP hw hK hc i pins s σ H E I hf st hg
    subst hP hw hK
    have hi : i < x.cps.size := hg
    have hx : x.cps[i]? = some x.cps[i] := by simp [hi]
    obtain ⟨f0, f1, f2, f3, f4, f5⟩ := hf it (by simp)
    have fin : ∀ h' : Heap, h'.IsStrIter it ty x t (i + 1) → Heap.SameBut it s.heap h' →
        ∃ u, some (Value.str ⟨#[x.cps[i]]⟩ s.toks) = some u ∧ wpAny (model X.prog X.w) X.A (letOwnedTupleGo tg (.ref it) u) (fun _ s2 => ∃ y H', Inv X pins σ H' s2 ∧ RelV y u ∧ (Its x).yld i H y H' ∧ s2.heap.IsStrIter it ty x t (i + 1) ∧ ∀ b ∈ [it], H' b = none) E { s with heap := h', toks := s.toks + 1 } := fun h' st' sb => by
      have I1 : Inv X pins σ H { s with heap := h', toks := s.toks + 1 } := I.turned (t' := s.toks + 1) (fun b o hb e => (sb.2 b hb).trans e) f0 f1 f3 f4 f5
      obtain ⟨o, e', c, d⟩ := id st'
      exact ⟨_, rfl, go_of (s := { s with heap := h', toks := s.toks + 1 }) e' c d (by rcases hty with z | z <;> rw [z] <;> decide) ⟨.str ⟨#[x.cps[i]]⟩, H, I1, ⟨_, rfl⟩, ⟨rfl, _, hx, rfl⟩, st', fun b hb => (hf b hb).1⟩⟩
    rcases hty with z | z
    · subst z
      exact wpAny_pyNext_ascii_item st hx fun h' st' sb => fin h' st' sb
    · subst z
      exact wpAny_pyNext_wide_item st hx fun h' st' sb => fin h' st' sb
  done := by
    intro X hP hw hK hc i pins s σ H E I hf st hg
    subst hP hw hK
    have hi : x.cps.size ≤ i := hg
    have hx : x.cps[i]? = none := by simp [hi]
    obtain ⟨f0, f1, f2, f3, f4, f5⟩ := hf it (by simp)
    rcases hty with z | z
    · subst z
      exact wpAny_pyNext_ascii_end (I.ok.hd hc) st hx fun h' eb => ⟨rfl, I.turned (t' := s.toks) (fun b o hb e => eb b o hb e) f0 f1 f3 f4 f5⟩
    · subst z
      exact wpAny_pyNext_wide_end (I.ok.hd hc) st hx fun h' eb => ⟨rfl, I.turned (t' := s.toks) (fun b o hb e => eb b o hb e) f0 f1 f3 f4 f5⟩
  self := fun _ _ _ _ _ st h => by
    rcases hty with z | z
    · subst z; exact wpAny_pyIter_striter_ascii st h
    · subst z; exact wpAny_pyIter_striter_wide st h
def iStr (te : TE) : TI := fun σ H R => te σ H fun v H1 => ∃ x, v = .str x ∧ R (Its x) H1
theorem pi_str {X : Cx} {tg e : Expr} {te : TE} (he : PE X e te) : PI X tg e (iStr te) := by
  intro pins s σ H R I h
  refine thn (he pins s σ H _ I h) fun v s1 ⟨y, H1, I1, r1, x, e, q⟩ => ?_
  subst e
  obtain ⟨t, rfl⟩ := r1
  have fin : ∀ ty, (ty = "str_ascii_iterator" ∨ ty = "str_iterator") → PIE X pins σ tg R (.ref s1.heap.objs.size) { s1 with heap := s1.heap.push { cls := .type ty, data := .fields #[.str x t, .int 0 0] } } := fun ty hty =>
    ⟨s1.heap.objs.size, [s1.heap.objs.size], _, Its x, H1, rfl, I1.kept (t' := s1.toks) fun b o e => Heap.get?_push_of_some _ e, turn_str x t _ ty hty, ⟨_, Heap.get?_push_size _ rfl, rfl, rfl⟩, fun b hb => by
      have e : b = s1.heap.objs.size := by simpa using hb
      subst e
      exact I1.fpOk (Nat.le_refl _) (I1.hok.fresh (Nat.le_refl _)), q⟩
  cases ha : x.cps.all (· < 128)
  · exact wpAny_pyIter_wide ha (fin _ (.inr rfl))
  · exact wpAny_pyIter_ascii ha (fin _ (.inl rfl))
theorem for_str {x : Str} {g : TG} {tb : TS} {D : Ends} {σ : St} {H : Hp} (Pv : Nat → St → Hp → Prop) (h0 : Pv 0 σ H)
    (hs : ∀ i c σ H, x.cps[i]? = some c → Pv i σ H → g (.str ⟨#[c]⟩) σ H fun σ2 H2 => tb { D with nx := Pv (i + 1), ct := Pv (i + 1), bk := D.nx } σ2 H2) (hd : ∀ σ H, Pv x.cps.size σ H → D.nx σ H) :
    ∃ W : Nat → Nat → St → Hp → Prop, (∃ m, W 0 m σ H) ∧ ∀ i m σ H, W i m σ H →
      ((Its x).stop i H ∧ D.nx σ H) ∨ ((Its x).go i H ∧ ∃ N : St → Hp → Prop, (∀ σ' H', N σ' H' → ∃ m', m' < m ∧ W (i + 1) m' σ' H') ∧ ∀ v H', (Its x).yld i H v H' → g v σ H' fun σ2 H2 => tb { D with nx := N, ct := N, bk := D.nx } σ2 H2) := by
  refine ⟨fun i m σ H => m = x.cps.size - i ∧ i ≤ x.cps.size ∧ Pv i σ H, ⟨x.cps.size, by simp, Nat.zero_le _, h0⟩, ?_⟩
  rintro i m σ H ⟨rfl, hi, p⟩
  by_cases hlt : i < x.cps.size
  · refine .inr ⟨hlt, Pv (i + 1), fun σ' H' p' => ⟨x.cps.size - (i + 1), by omega, rfl, hlt, p'⟩, fun v H' y => ?_⟩
    obtain ⟨e, c, hc, rfl⟩ := y
    subst e
    exact hs i c σ _ hc p
  · have e : i = x.cps.size := by omega
    subst e
    exact .inl ⟨Nat.le_refl _, hd σ H p⟩
/-- a comprehension over a text -/
theorem comp_str {x : Str} {js : List Nat} {tt : TT} {te : TE} {σ : St} {Q : VK} {H1 : Hp} (g : Nat → V) (hz : x.cps.size ≤ 1000)
    (ht : ∀ c ∈ x.cps.toList, ∀ H', Same H1 H' → ∀ Q' : Bool → Hp → Prop, (∀ H'', Same H' H'' → Q' true H'') → tt (subS js σ (some (.str ⟨#[c]⟩))) H' Q')
    (he : ∀ c ∈ x.cps.toList, ∀ H', Same H1 H' → ∀ Q' : VK, (∀ H'', Same H' H'' → Q' (g c) H'') → te (subS js σ (some (.str ⟨#[c]⟩))) H' Q')
    (hq : ∀ p H', H1 p = none → Same H1 H' → H' p = some (.lst (x.cps.toList.map g)) → Q (.ref p) H') : compW js tt te σ Q (Its x) H1 := by
  intro p hp
  have hl : x.cps.toList.length = x.cps.size := Array.length_toList
  refine ⟨fun i m H => m = x.cps.size - i ∧ i ≤ x.cps.size ∧ Same H1 H ∧ H p = some (.lst ((x.cps.toList.take i).map g)), ⟨x.cps.size, by simp, Nat.zero_le _, Same.new hp _, upd_same⟩, ?_⟩
  rintro i m H ⟨rfl, hi, sm, hH⟩
  by_cases hlt : i < x.cps.size
  · refine .inr ⟨hlt, fun v H' y => ?_⟩
    obtain ⟨e, c, hc, rfl⟩ := y
    subst e
    have hc' : x.cps.toList[i]? = some c := by rw [Array.getElem?_toList]; exact hc
    have hm : c ∈ x.cps.toList := List.mem_of_getElem? hc'
    refine ht c hm _ sm _ fun H2 s2 => ?_
    rw [if_pos rfl]
    refine he c hm _ (sm.trans s2) _ fun H3 s3 => ?_
    refine ⟨_, s3 _ _ (s2 _ _ hH), ?_, x.cps.size - (i + 1), by omega, rfl, hlt, ?_, ?_⟩
    · rw [List.length_map, List.length_take]
      exact small1000 (by omega)
    · intro b u hb
      rw [upd_ne (ne_of_none hb hp)]
      exact s3 _ _ (s2 _ _ (sm _ _ hb))
    · rw [upd_same, List.take_add_one, hc', List.map_append]
      rfl
  · have e : i = x.cps.size := by omega
    subst e
    rw [← hl, List.take_length] at hH
    exact .inl ⟨Nat.le_refl _, hq p H hp sm hH⟩

/-! ### methods -/
section
variable {X : Cx}
def rFind : V → List V → Hp → VK → Prop := fun x vs H Q => ∃ a b, x = .str a ∧ vs = [.str b] ∧ Q (.int (Txt.find a b)) H
theorem mt_find : MtM X "str.find" rFind := by
  intro pins s σ H x vs v us Q I rx rv h
  obtain ⟨a, b, rfl, rfl, q⟩ := h
  obtain ⟨t, rfl⟩ := rx
  obtain ⟨u, rfl, ru⟩ := rv.one
  obtain ⟨t', rfl⟩ := ru
  exact SC.find ⟨.int _, H, I.tok _, ⟨_, rfl⟩, q⟩
def rLstrip : V → List V → Hp → VK → Prop := fun x vs H Q => ∃ a b, x = .str a ∧ vs = [.str b] ∧ a.length ≤ sizeLine ∧ Q (.str (Txt.lstripChars a b)) H
theorem mt_lstrip : MtM X "str.lstrip" rLstrip := by
  intro pins s σ H x vs v us Q I rx rv h
  obtain ⟨a, b, rfl, rfl, hz, q⟩ := h
  obtain ⟨t, rfl⟩ := rx
  obtain ⟨u, rfl, ru⟩ := rv.one
  obtain ⟨t', rfl⟩ := ru
  exact SC.lstripChars (fun t' k => ⟨.str _, H, I.tok _, ⟨_, rfl⟩, q⟩) hz
theorem strs_of : ∀ {xs : List Str} {us : List Value}, Vals (xs.map V.str) us → ∃ l : List (Str × Tok), us = strValues l ∧ l.map (·.1) = xs
  | [], _, r => by rw [List.map_nil] at r; cases r; exact ⟨[], rfl, rfl⟩
  | x :: xs, _, r => by
    rw [List.map_cons] at r
    cases r with
    | cons r1 r2 =>
      obtain ⟨t, rfl⟩ := r1
      obtain ⟨l, rfl, e⟩ := strs_of r2
      exact ⟨(x, t) :: l, rfl, by rw [List.map_cons, e]⟩
def rJoin (K : PySem.W.Frag) : V → List V → Hp → VK → Prop := fun x vs H Q => ∃ a D xs, x = .str a ∧ vs = [.ref D] ∧ SqL K H D (xs.map V.str) ∧ JoinOk a xs = true ∧ Q (.str (Txt.join a xs)) H
theorem mt_join : MtM X "str.join" (rJoin X.K) := by
  intro pins s σ H x vs v us Q I rx rv h
  obtain ⟨a, D, xs, rfl, rfl, hq, ok, q⟩ := h
  obtain ⟨t, rfl⟩ := rx
  obtain ⟨u, rfl, ru⟩ := rv.one
  cases ru
  obtain ⟨its, r, pl, _⟩ := I.list hq
  obtain ⟨l, rfl, e⟩ := strs_of r
  exact SC.join pl.isList e ok fun t' k => ⟨.str _, H, I.tok _, ⟨_, rfl⟩, q⟩
theorem fold_size (c : Array Nat) : ∀ (k : Nat) (acc : Array Nat), ((List.replicate k c).foldl (· ++ ·) acc).size = acc.size + c.size * k
  | 0, acc => by simp
  | k + 1, acc => by
    rw [List.replicate_succ, List.foldl_cons, fold_size c k, Array.size_append, Nat.mul_succ]
    omega
/-- a text some times; its length -/
theorem op_mulS : OpR X (binaryOp .Mult) (fun x y H Q => ∃ z k, x = .str z ∧ y = .int k ∧ 1 ≤ k ∧ k ≤ 1000 ∧ z.length ≤ 1000 ∧ ∀ u : Str, u.length ≤ z.length * k.toNat → Q (.str u) H) := by
  intro pins s σ H x y v u Q I rx ry h
  obtain ⟨z, k, rfl, rfl, h1, h2, hz, q⟩ := h
  obtain ⟨t, rfl⟩ := rx
  obtain ⟨t', rfl⟩ := ry
  have hk : k.toNat ≤ 1000 := by omega
  have hm : z.length * k.toNat ≤ 1000000 := Nat.le_trans (Nat.mul_le_mul hz hk) (by decide)
  have hfit : z.length * k.toNat ≤ sizeLine := Nat.le_trans hm (by decide)
  have hmi : (z.length : Int) * k ≤ 1000000 := by
    have : ((z.length * k.toNat : Nat) : Int) ≤ 1000000 := by omega
    rw [Int.natCast_mul, Int.toNat_of_nonneg (by omega)] at this
    exact this
  refine P.mul_str (by rw [decide_eq_false (by omega), decide_eq_false (by omega)]; rfl) (fun _ _ => ?_) (fun _ _ => ?_) ?_
  · have := Int.le_ediv_of_mul_le (show (0 : Int) < k by omega) (show (z.length : Int) * k ≤ 2 ^ 63 - 1 by omega)
    omega
  · unfold Builtin.Str.tooLong
    exact decide_eq_false (by omega)
  · rw [if_neg (by omega)]
    by_cases c : (k == 1 || z.length == 0) = true
    · rw [if_pos c]
      refine ⟨.str z, H, I, ⟨_, rfl⟩, q z ?_⟩
      exact Nat.le_mul_of_pos_right _ (by omega)
    · rw [if_neg c]
      have e : (Str.mk ((List.replicate k.toNat z.cps).foldl (· ++ ·) #[])).length = z.length * k.toNat := by
        show ((List.replicate k.toNat z.cps).foldl (· ++ ·) #[]).size = z.cps.size * k.toNat
        rw [fold_size]
        simp
      exact ⟨by rw [e]; exact hfit, .str _, H, I.tok _, ⟨_, rfl⟩, q _ (by rw [e]; exact Nat.le_refl _)⟩
/-- a slice of a text; its length -/
theorem sl_strL : SlR X (fun x lo hi H Q => ∃ z, x = .str z ∧ z.length ≤ sizeLine ∧ ∀ u : Str, u.length ≤ z.length → Q (.str u) H) := by
  intro pins s σ H x v vl vu lo hi sl Q I rx hs pl pu h
  obtain ⟨z, rfl, hz, q⟩ := h
  obtain ⟨t, rfl⟩ := rx
  obtain ⟨l, e1⟩ : ∃ l, vl = partValue l := by
    cases pl with
    | none => exact ⟨none, rfl⟩
    | int i t => exact ⟨some (i, t), rfl⟩
  obtain ⟨u, e2⟩ : ∃ u, vu = partValue u := by
    cases pu with
    | none => exact ⟨none, rfl⟩
    | int i t => exact ⟨some (i, t), rfl⟩
  subst e1 e2
  refine ⟨"str", _, F.slot_str_getitem.lookup, typeIs_str _ _ _, ?_⟩
  refine wpAny_getItem_str_slice (l := l) (u := u) (st := none) hs rfl ?_
  unfold sliceMade
  split
  · exact ⟨.str z, H, I, ⟨_, rfl⟩, q z (Nat.le_refl _)⟩
  · have e : (Str.mk ((slicePicked z l u none).filterMap (z.cps[·]?)).toArray).length ≤ z.length := by
      show ((slicePicked z l u none).filterMap (z.cps[·]?)).toArray.size ≤ z.length
      rw [List.size_toArray]
      exact Nat.le_trans (List.length_filterMap_le _ _) (sliceIndicesBy_le _ _ _ (by decide) z.length)
    exact ⟨Nat.le_trans e hz, .str _, H, I.tok _, ⟨_, rfl⟩, q _ e⟩
theorem lstrip_len (x y : Str) : (Txt.lstripChars x y).length ≤ x.length := PyProof.Rows.len_lstripChars x y
theorem join1_ok (a : Str) (xs : List Str) (h : (xs.map (·.length)).sum + xs.length * a.length ≤ 100000) : JoinOk a xs = true := by
  unfold JoinOk
  rw [StrLaws.joinTotal]
  unfold Builtin.Str.tooLong
  rw [decide_eq_false (by have : (100000 : Nat) ≤ sizeLine := by decide
                          omega)]
  rfl
theorem join_len (a : Str) (xs : List Str) : (Txt.join a xs).length ≤ (xs.map (·.length)).sum + xs.length * a.length := by
  show (Builtin.Str.glued a xs).length ≤ _
  rw [StrLaws.glued_eq_join]
  exact StrLaws.join_length_le a xs
end
/-! ### the three signs -/
/-- one of the three signs -/
def signB (c : Nat) : Bool := decide (c = 45 ∨ c = 48 ∨ c = 43)
/-- its thing -/
def csg (c : Nat) : Int := if c = 43 then 1 else if c = 45 then -1 else 0
/-- the sign of a thing -/
def sgc (x : Int) : Nat := if x = 1 then 43 else if x = -1 then 45 else 48
theorem in3 (c : Nat) : (!(Builtin.Str.occurrences "-0+" ⟨#[c]⟩ 0 (Str.length "-0+") 1).isEmpty) = signB c := by
  rw [StrLaws.found_one]
  unfold signB
  congr 1
  show (c ∈ [45, 48, 43]) = _
  simp
theorem find3 {c : Nat} (h : signB c = true) : Txt.find "-0+" ⟨#[c]⟩ = csg c + 1 := by
  unfold signB at h
  rcases of_decide_eq_true h with e | e | e <;> subst e <;> decide +kernel
theorem at3 {x : Int} (h : Fs.triB x = true) : atI (Str.cps "-0+").toList (x + 1) = some (sgc x) := by
  rcases Fs.tri_cases h with e | e | e <;> subst e <;> decide +kernel
theorem csg_sgc {x : Int} (h : Fs.triB x = true) : csg (sgc x) = x := by
  rcases Fs.tri_cases h with e | e | e <;> subst e <;> decide
theorem signB_sgc (x : Int) : signB (sgc x) = true := by
  unfold sgc
  split
  · decide
  · split
    · decide
    · decide
theorem csg_tri (c : Nat) : Fs.triB (csg c) = true := by
  unfold csg
  split
  · decide
  · split
    · decide
    · decide
/-! ### a laying shown, a text read -/
def txt (l : List Nat) : Str := ⟨l.toArray⟩
theorem txt_list (l : List Nat) : (txt l).cps.toList = l := rfl
theorem txt_of (x : Str) : x = txt x.cps.toList := by cases x; rfl
theorem txt_inj {a b : List Nat} (h : txt a = txt b) : a = b := congrArg (fun x : Str => x.cps.toList) h
def shownL (ns : List Int) : List Nat := if Fs.ended ns = [] then [48] else (Fs.ended ns).reverse.map sgc
def readL (l : List Nat) : Option (List Int) :=
  if l = [48] then some [] else if l = [] ∨ l.head? = some 48 then none else if l.all signB = true then some (l.reverse.map csg) else none
theorem ended_last : ∀ {xs : List Int}, Fs.ended xs ≠ [] → ∃ r z, Fs.ended xs = r ++ [z] ∧ z ≠ 0 := fun {xs} h => by
  rcases Fs.nil_or_snoc (Fs.ended xs) with e | ⟨r, z, e⟩
  · exact absurd e h
  · exact ⟨r, z, e, (Fs.ended_snoc_iff r z).mp (by rw [← e]; exact Fs.ended_ended xs)⟩
/-- what is shown is read as the same laying, ended -/
theorem read_shown {ns : List Int} (h : ns.all Fs.triB = true) : readL (shownL ns) = some (Fs.ended ns) := by
  unfold shownL
  by_cases c : Fs.ended ns = []
  · rw [if_pos c, c]; rfl
  · rw [if_neg c]
    obtain ⟨r, z, e, nz⟩ := ended_last c
    have ha := Fs.ended_all h
    have tz : Fs.triB z = true := List.all_eq_true.mp ha z (by rw [e]; simp)
    have hz : sgc z ≠ 48 := by
      rcases Fs.tri_cases tz with q | q | q
      · subst q; decide
      · exact absurd q nz
      · subst q; decide
    have hrev : (Fs.ended ns).reverse.map sgc = sgc z :: r.reverse.map sgc := by rw [e, List.reverse_append]; rfl
    unfold readL
    have n1 : ¬ (Fs.ended ns).reverse.map sgc = [48] := by
      rw [hrev]
      intro w
      exact hz (List.cons.inj w).1
    have n2 : ¬ ((Fs.ended ns).reverse.map sgc = [] ∨ ((Fs.ended ns).reverse.map sgc).head? = some 48) := by
      rw [hrev]
      intro w
      rcases w with w | w
      · cases w
      · exact hz (Option.some.inj w)
    rw [if_neg n1, if_neg n2, if_pos]
    · congr 1
      rw [← List.map_reverse, List.reverse_reverse, List.map_map]
      have : ∀ x ∈ Fs.ended ns, (csg ∘ sgc) x = x := fun x hx => csg_sgc (List.all_eq_true.mp ha x hx)
      exact (List.map_congr_left this).trans (List.map_id _)
    · rw [List.all_map]
      exact List.all_eq_true.mpr fun x _ => signB_sgc x
/-- noughts ahead are left out -/
theorem drop_noughts' : ∀ (k : Nat) {ns : List Int}, ns.length = k → ns.all Fs.triB = true → (ns.reverse.map sgc).dropWhile (fun c => c == 48) = (Fs.ended ns).reverse.map sgc
  | 0, ns, hk, _ => by rw [List.length_eq_zero_iff.mp hk]; rfl
  | k + 1, ns, hk, h => by
    rcases Fs.nil_or_snoc ns with e | ⟨r, z, e⟩
    · rw [e] at hk; cases hk
    · subst e
      have hr : r.length = k := by rw [List.length_append, List.length_singleton] at hk; omega
      rw [List.all_append, Bool.and_eq_true] at h
      have tz : Fs.triB z = true := by simpa using h.2
      rw [List.reverse_append, List.reverse_singleton, List.singleton_append, List.map_cons, List.dropWhile_cons]
      by_cases c : z = 0
      · subst c
        rw [Fs.ended_snoc0, if_pos (by decide)]
        exact drop_noughts' k hr h.1
      · rw [Fs.ended_snoc c, List.reverse_append, List.reverse_singleton, List.singleton_append, List.map_cons, if_neg]
        rcases Fs.tri_cases tz with q | q | q
        · subst q; decide
        · exact absurd q c
        · subst q; decide
theorem drop_noughts {ns : List Int} (h : ns.all Fs.triB = true) : (ns.reverse.map sgc).dropWhile (fun c => c == 48) = (Fs.ended ns).reverse.map sgc := drop_noughts' _ rfl h
theorem take_drop_while (p : Nat → Bool) : ∀ l : List Nat, l.drop (l.takeWhile p).length = l.dropWhile p
  | [] => rfl
  | x :: r => by
    rw [List.takeWhile_cons, List.dropWhile_cons]
    cases p x
    · rfl
    · exact take_drop_while p r
theorem lstrip0 (l : List Nat) : Txt.lstripChars (txt l) "0" = txt (l.dropWhile (fun c => c == 48)) := by
  show Txt.stripBy _ true false (txt l) = _
  rw [PyProof.Rows.stripBy_eq, PyProof.Rows.strSub_mk]
  have hg : (Str.cps "0").contains = fun c => c == 48 := by
    funext c
    show ([48] : List Nat).toArray.contains c = _
    rw [List.contains_toArray]
    cases h : c == 48 <;> simp [List.contains, List.elem, h]
  rw [hg]
  have hlo : stripLo (fun c => c == 48) true (txt l) = (l.takeWhile (fun c => c == 48)).length := rfl
  have hhi : ∀ n, stripHi (fun c => c == 48) false (txt l) n = l.length := fun _ => by
    show (txt l).length = _
    exact List.size_toArray
  rw [hhi, hlo, txt_list, take_drop_while, List.take_of_length_le]
  · rfl
  · rw [← take_drop_while, List.length_drop]
    exact Nat.le_refl _
theorem txt_cons (c : Nat) (l : List Nat) : (⟨#[c]⟩ : Str) ++ txt l = txt (c :: l) := by
  show Str.mk (#[c] ++ l.toArray) = Str.mk (c :: l).toArray
  simp
theorem txt_len (l : List Nat) : (txt l).length = l.length := List.size_toArray
theorem len_one (c : Nat) : (⟨#[c]⟩ : Str).length = 1 := rfl
theorem len_app (x y : Str) : (x ++ y).length = x.length + y.length := Str.length_append ..
theorem eq_empty {x : Str} : x = "" ↔ x.cps.toList = [] := ⟨fun h => by rw [h]; rfl, fun h => by rw [txt_of x, h]; rfl⟩
theorem eq_nought {x : Str} : x = "0" ↔ x.cps.toList = [48] := ⟨fun h => by rw [h]; decide +kernel, fun h => by rw [txt_of x, h]; decide +kernel⟩
/-! ### what the program's texts are to do -/
/-- no text of a laying -/
def BadT (K : PySem.W.Frag) (H : Hp) (v : V) : Prop := (∃ x, v = .str x ∧ x.length ≤ 1000 ∧ readL x.cps.toList = none) ∨ (∃ n, Kind K H v n ∧ n ≠ "str")
theorem BadT.same {K : PySem.W.Frag} {H H' : Hp} {v : V} (s : Same H H') (h : BadT K H v) : BadT K H' v := by
  rcases h with h | ⟨n, k, b⟩
  · exact .inl h
  · exact .inr ⟨n, k.same s, b⟩
def spRead : Sp := fun vs H Q _ => ∃ (x : Str) (ns : List Int), vs = [.str x] ∧ x.length ≤ 1000 ∧ readL x.cps.toList = some ns ∧ ∀ p H', H p = none → Same H H' → H' p = some (.lst (ns.map V.int)) → Q (.ref p) H'
def spReadX (K : PySem.W.Frag) (C : Addr) : Sp := fun vs H _ E => ∃ v : V, vs = [v] ∧ BadT K H v ∧ ∀ H', Same H H' → E (.ref C) none H'
/-- a read laying is no longer than its text, and a laying -/
theorem readL_len {l : List Nat} {ns : List Int} (h : readL l = some ns) : ns.length ≤ l.length ∧ ns.all Fs.triB = true := by
  unfold readL at h
  split at h
  · cases h; exact ⟨Nat.zero_le _, rfl⟩
  · split at h
    · cases h
    · split at h
      · cases h
        refine ⟨by rw [List.length_map, List.length_reverse]; exact Nat.le_refl _, List.all_eq_true.mpr fun x hx => ?_⟩
        obtain ⟨c, _, rfl⟩ := List.mem_map.mp hx
        exact csg_tri c
      · cases h
theorem shownL_len {ns : List Int} (h : ns.length ≤ 900) : (shownL ns).length ≤ 900 := by
  unfold shownL
  split
  · decide
  · rw [List.length_map, List.length_reverse]
    exact Nat.le_trans (Fs.ended_len ns) h
/-- a comprehension over reversed(a list) -/
theorem comp_rev {K : PySem.W.Frag} {a : Addr} {xs : List V} {js : List Nat} {tt : TT} {te : TE} {σ : St} {Q : VK} {H1 : Hp} (g : V → V) (hl : SqL K H1 a xs) (hz : xs.length ≤ 1000)
    (ht : ∀ x ∈ xs, ∀ H', Same H1 H' → ∀ Q' : Bool → Hp → Prop, (∀ H'', Same H' H'' → Q' true H'') → tt (subS js σ (some x)) H' Q')
    (he : ∀ x ∈ xs, ∀ H', Same H1 H' → ∀ Q' : VK, (∀ H'', Same H' H'' → Q' (g x) H'') → te (subS js σ (some x)) H' Q')
    (hq : ∀ p H', H1 p = none → Same H1 H' → H' p = some (.lst (xs.reverse.map g)) → Q (.ref p) H') : compW js tt te σ Q (Itv K a xs.length) H1 := by
  intro p hp
  refine ⟨fun i m H => m = xs.length - i ∧ i ≤ xs.length ∧ Same H1 H ∧ H p = some (.lst ((xs.reverse.take i).map g)), ⟨xs.length, by simp, Nat.zero_le _, Same.new hp _, upd_same⟩, ?_⟩
  rintro i m H ⟨rfl, hi, sm, hH⟩
  have q := sm.seq hl
  by_cases hlt : i < xs.length
  · refine .inr ⟨⟨xs, xs[xs.length - 1 - i], q, rfl, hlt, List.getElem?_eq_getElem (by omega)⟩, fun x H' y => ?_⟩
    obtain ⟨e, y⟩ := y
    subst e
    have hx := y xs q
    have hm : x ∈ xs := List.mem_of_getElem? hx
    have hr : xs.reverse[i]? = some x := by rw [List.getElem?_reverse hlt]; exact hx
    refine ht x hm _ sm _ fun H2 s2 => ?_
    rw [if_pos rfl]
    refine he x hm _ (sm.trans s2) _ fun H3 s3 => ?_
    refine ⟨_, s3 _ _ (s2 _ _ hH), ?_, xs.length - (i + 1), by omega, rfl, hlt, ?_, ?_⟩
    · rw [List.length_map, List.length_take]
      exact small1000 (by omega)
    · intro b u hb
      rw [upd_ne (ne_of_none hb hp)]
      exact s3 _ _ (s2 _ _ (sm _ _ hb))
    · rw [upd_same, List.take_add_one, hr, List.map_append]
      rfl
  · have e : i = xs.length := by omega
    subst e
    rw [← List.length_reverse, List.take_length] at hH
    exact .inl ⟨Nat.le_refl _, hq p H hp sm hH⟩
/-- single signs joined -/
theorem join_ones : ∀ l : List Nat, Txt.join "" (l.map fun c => (⟨#[c]⟩ : Str)) = txt l := by
  intro l
  show Builtin.Str.glued "" _ = _
  rw [StrLaws.glued_eq_join]
  induction l with
  | nil => rfl
  | cons c r ih =>
    cases r with
    | nil => rfl
    | cons d r =>
      have e : Str.join "" ((c :: d :: r).map fun c => (⟨#[c]⟩ : Str)) = (⟨#[c]⟩ : Str) ++ "" ++ Str.join "" ((d :: r).map fun c => (⟨#[c]⟩ : Str)) := rfl
      rw [e, ih, show (⟨#[c]⟩ : Str) ++ "" = ⟨#[c]⟩ from rfl, txt_cons]
theorem ones_len (l : List Nat) : ((l.map fun c => (⟨#[c]⟩ : Str)).map (·.length)).sum = l.length := by
  induction l with
  | nil => rfl
  | cons c r ih =>
    rw [List.map_cons, List.map_cons, List.sum_cons, ih, List.length_cons, len_one]
    omega
/-- a method of a builtin's value, K said: within a comprehension -/
theorem pe_bmK (K : PySem.W.Frag) {X : Cx} {T : String} {o e : Expr} {es : List Expr} {to : TE} {t : TA} {name : Str} {apos cpos : Pos} {id : String} {r : V → List V → Hp → VK → Prop} (pa : PlainAttrs T) (slot : Slot T name id) (hty : typeOf (.builtin id) = pure (.type "method_descriptor")) (hm : MtR X id r) (ho : PE X o to) (ha : PA X (e :: es) t)
    (hbase : attributeBase o name X.env (eval o X.env) = eval o X.env := by rfl)
    (hfew : ((backTo cpos (starEach (e :: es) X.env)).all (fun x => !x.1) && (backToKw cpos (keywordEach [] X.env)).all (fun x => x.1.isSome)
      && decide ((e :: es).length + ([] : List Keyword).length + (if ([] : List Keyword).isEmpty then 0 else 1) < 30)) = true := by rfl)
    (hline : (apos.endLine == cpos.line) = true := by rfl) (hs : starEach (e :: es) X.env = (false, eval e X.env) :: starEach es X.env := by rfl) (hplain : (backTo cpos (starEach es X.env)).any (·.1) = false := by rfl) (hK : X.K = K := by rfl) :
    PE X (.Call (.Attribute o name apos) (e :: es) [] cpos) (tBM K T r to t) := by
  subst hK
  exact pe_bm pa slot hty hm ho ha hbase hfew hline hs hplain
end L2

/-! Objects of own classes by promises; sum; frames. -/
namespace L2
open PySem PySem.Spec PyProof.Rows
section
variable {X : Cx}
theorem boot_tsum : bootBuiltins "sum" = some (.builtin "sum") := by decide +kernel
theorem boot_tmax : bootBuiltins "max" = some (.builtin "max") := by decide +kernel
/-- sum(a list of ints) -/
theorem call_sum (hc : X.calm = true) : CallR X (.builtin "sum") (fun xs H Q => ∃ (a : Addr) (ns : List Int), xs = [.ref a] ∧ SqL X.K H a (ns.map V.int) ∧ Q (.int ns.sum) H) := by
  intro pins s σ H xs us Q I r h
  obtain ⟨a, ns, rfl, hq, q⟩ := h
  obtain ⟨u, rfl, ru⟩ := vals1 r
  cases ru
  obtain ⟨its, rv, p, hz⟩ := I.list hq
  have hi := intsAre_of rv
  obtain ⟨ys, e⟩ := hi.allInts.items
  have hl := p.isList
  rw [e] at hl
  have en : (ys.toList.map (·.1)) = ns := by
    have h1 := nums_intItems ys
    rw [← e, show its.toArray.toList = its from rfl, hi.numsOf] at h1
    exact h1.symm
  refine sum_intListG (I.ok.hd hc) hl fun h' tk t' hk => ?_
  rw [preSum_eq, List.take_of_length_le (by simp), en]
  exact ⟨.int ns.sum, H, I.kept (t' := tk) hk, ⟨_, rfl⟩, q⟩
end
/-! ### methods by promises -/
def MAt (K : PySem.W.Frag) (C : Addr) (m qual : Str) (st : Stmt) (ps : List Str) : Prop :=
  ∃ (f : Addr) (fd : FuncData), Meth K C m f ∧ Fun K m qual st f fd ∧ Binds K fd ps []
def MDef (CX : CXT) (P : Program) (w : World) (K : PySem.W.Frag) (mg : Str → Option Value) (base : Heap) (C : Addr) (m : Str) (k : Nat) (ps : List Str) (sp : Sp) : Prop :=
  ∃ (f : Addr) (fd : FuncData), Meth K C m f ∧ Binds K fd ps [] ∧ FnOk P w K mg base CX k f fd ps sp
theorem MAt.def {CX : CXT} {P : Program} {w : World} {K : PySem.W.Frag} {mg : Str → Option Value} {base : Heap} {C : Addr} {m qual : Str} {st : Stmt} {k : Nat} {ps : List Str} {sp : Sp} (A : MAt K C m qual st ps)
    (h : ∀ f fd, Fun K m qual st f fd → FnOk P w K mg base CX k f fd ps sp) : MDef CX P w K mg base C m k ps sp := by
  obtain ⟨f, fd, hm, F, hb⟩ := A
  exact ⟨f, fd, hm, hb, h f fd F⟩
section
variable {X : Cx} {C : Addr} {m : Str} {k : Nat} {ps : List Str} {sp : Sp} {pos apos : Pos} {o e : Expr} {es : List Expr} {ta : TE} {t : TA} {E : XK} {CX : CXT}
theorem pe_mdef {pl : Sem Bool} (G : MDef CX X.prog X.w X.K X.mg X.base C m k ps sp) (c : Cls X.K C) (hr : Room k X.A) (hx : Passes CX X E) (he : PE X o ta) (ha : PA X (e :: es) t)
    (hst : starEach (e :: es) X.env = (false, eval e X.env) :: starEach es X.env := by rfl) (hpl : (backTo pos (starEach es X.env)).any (·.1) = false := by rfl)
    (ht : eval (.Call (.Attribute o m apos) (e :: es) [] pos) X.env = (do
      let ov ← eval o X.env
      standAt apos.atName
      let (f, first) ← holding [ov] (getMethod ov m pl)
      callWith pos f first (backTo pos (starEach (e :: es) X.env)) (backToKw pos (keywordEach [] X.env))) := by rfl) :
    PE X (.Call (.Attribute o m apos) (e :: es) [] pos) (tMeth C m sp [] E ta t) := by
  obtain ⟨f, fd, hm, hb, F⟩ := G
  exact pe_meth he c hm F hr hb .nil hx ha hst hpl ht
theorem pe_mdef0 {pl : Sem Bool} (G : MDef CX X.prog X.w X.K X.mg X.base C m k ps sp) (c : Cls X.K C) (hr : Room k X.A) (hx : Passes CX X E) (he : PE X o ta)
    (ht : eval (.Call (.Attribute o m apos) [] [] pos) X.env = (do
      let ov ← eval o X.env
      standAt apos.atName
      let (f, first) ← holding [ov] (getMethod ov m pl)
      callWith pos f first (backTo pos (starEach [] X.env)) (backToKw pos (keywordEach [] X.env))) := by rfl) :
    PE X (.Call (.Attribute o m apos) [] [] pos) (tMeth C m sp [] E ta tNil) := by
  obtain ⟨f, fd, hm, hb, F⟩ := G
  exact pe_meth0 he c hm F hr hb .nil hx ht
/-- within a try -/
def tMethX (C : Addr) (m : Str) (sp : Sp) (ta : TE) (t : TA) : TEX := fun σ H Q E => ta σ H fun x H1 => ∃ a dx fs, x = .ref a ∧ H1 a = some (.ins C dx fs) ∧ fs.lookup m = none ∧ t σ H1 fun vs H2 => sp (x :: (vs ++ [])) H2 Q E
theorem pex_mdef {pl : Sem Bool} (G : MDef (CX1 X.prog X.w) X.prog X.w X.K X.mg X.base C m k ps sp) (c : Cls X.K C) (hr : Room k X.A) (he : PE X.nox o ta) (ha : PA X.nox (e :: es) t)
    (hst : starEach (e :: es) X.env = (false, eval e X.env) :: starEach es X.env := by rfl) (hpl : (backTo pos (starEach es X.env)).any (·.1) = false := by rfl)
    (ht : eval (.Call (.Attribute o m apos) (e :: es) [] pos) X.env = (do
      let ov ← eval o X.env
      standAt apos.atName
      let (f, first) ← holding [ov] (getMethod ov m pl)
      callWith pos f first (backTo pos (starEach (e :: es) X.env)) (backToKw pos (keywordEach [] X.env))) := by rfl) :
    PEX X (.Call (.Attribute o m apos) (e :: es) [] pos) (tMethX C m sp ta t) := by
  obtain ⟨f, fd, hm, hb, F⟩ := G
  intro pins s σ H Q E I h
  refine PySem.W.methodCall_KW (pl := pl) (wpAny_mono (he pins s σ H _ (I.wish _) h) (fun u s1 ⟨x, H1, I1, rx, a, dx, fs, ex, ea, l, q⟩ => ?_) fun _ _ z => False.elim z) ht
  subst ex
  obtain rfl : u = Value.ref a := rx
  refine getmeth_ok I1.unwish ea c hm l ?_
  refine PySem.W.callWith_K (first := [.ref a]) (h₀ := X.base) I.ok.mod.kin hm.kp (wpAny_mono (ha pos pins s1 σ H1 _ I1 q) (fun us s2 ⟨vs, H2, I2, r, q2⟩ => ⟨I2.unwish.kIn, ?_⟩) fun _ _ z => False.elim z) hst hpl
  exact run_fnX (us := .ref a :: us) (vs := .ref a :: vs) F hr hb .nil I2.unwish (.cons rfl r) q2
theorem pex_mdef0 {pl : Sem Bool} (G : MDef (CX1 X.prog X.w) X.prog X.w X.K X.mg X.base C m k ps sp) (c : Cls X.K C) (hr : Room k X.A) (he : PE X.nox o ta)
    (ht : eval (.Call (.Attribute o m apos) [] [] pos) X.env = (do
      let ov ← eval o X.env
      standAt apos.atName
      let (f, first) ← holding [ov] (getMethod ov m pl)
      callWith pos f first (backTo pos (starEach [] X.env)) (backToKw pos (keywordEach [] X.env))) := by rfl) :
    PEX X (.Call (.Attribute o m apos) [] [] pos) (tMethX C m sp ta tNil) := by
  obtain ⟨f, fd, hm, hb, F⟩ := G
  intro pins s σ H Q E I h
  refine PySem.W.methodCall_KW (pl := pl) (wpAny_mono (he pins s σ H _ (I.wish _) h) (fun u s1 ⟨x, H1, I1, rx, a, dx, fs, ex, ea, l, q⟩ => ?_) fun _ _ z => False.elim z) ht
  subst ex
  obtain rfl : u = Value.ref a := rx
  refine getmeth_ok I1.unwish ea c hm l ?_
  exact PySem.W.callWith_K0 (first := [.ref a]) I1.unwish.kIn hm.kp (run_fnX (us := [.ref a]) (vs := [.ref a]) F hr hb .nil I1.unwish (.cons rfl .nil) q)
end
def IAt (K : PySem.W.Frag) (C : Addr) (qual : Str) (st : Stmt) (ps : List Str) : Prop :=
  ∃ (f : Addr) (fd : FuncData), Mk K C f ∧ Fun K "__init__" qual st f fd ∧ Binds K fd ps []
def IDef (P : Program) (w : World) (K : PySem.W.Frag) (mg : Str → Option Value) (base : Heap) (C : Addr) (k : Nat) (ps : List Str) (sp : Sp) : Prop :=
  ∃ (f : Addr) (fd : FuncData), Mk K C f ∧ Binds K fd ps [] ∧ FnOk P w K mg base CX0 k f fd ps sp
theorem IAt.def {P : Program} {w : World} {K : PySem.W.Frag} {mg : Str → Option Value} {base : Heap} {C : Addr} {qual : Str} {st : Stmt} {k : Nat} {ps : List Str} {sp : Sp} (A : IAt K C qual st ps)
    (h : ∀ f fd, Fun K "__init__" qual st f fd → FnOk P w K mg base CX0 k f fd ps sp) : IDef P w K mg base C k ps sp := by
  obtain ⟨f, fd, hm, F, hb⟩ := A
  exact ⟨f, fd, hm, hb, h f fd F⟩
theorem pe_mk0 {X : Cx} {C : Addr} {k : Nat} {ps : List Str} {sp : Sp} {x : Str} {p pos : Pos} (G : IDef X.prog X.w X.K X.mg X.base C k ps sp) (hr : Room (k + 1) X.A) (hm : X.mg x = some (.ref C)) (hg : Gl X x := by rfl)
    (hdb : (x == ("__debug__" : Str)) = false := by decide) : PE X (.Call (.Name x p) [] [] pos) (tMake C sp [] E0 tNil) := by
  obtain ⟨f, fd, M, hb, F⟩ := G
  exact pe_make0 M F hr hg hm hb .nil pass0 hdb
/-! ### frames -/
/-- what lies outside of F stays, and nothing goes -/
structure Keep (F : List Addr) (H H' : Hp) : Prop where
  st : ∀ b o, b ∉ F → H b = some o → H' b = some o
  fr : ∀ b, H' b = none → H b = none
instance {F : List Addr} {H H' : Hp} : CoeFun (Keep F H H') fun _ => ∀ b o, b ∉ F → H b = some o → H' b = some o := ⟨Keep.st⟩
/-- F' has nothing old that F has not -/
def Grow (H : Hp) (F F' : List Addr) : Prop := ∀ b ∈ F', b ∈ F ∨ H b = none
theorem Keep.refl (F : List Addr) (H : Hp) : Keep F H H := ⟨fun _ _ _ h => h, fun _ h => h⟩
theorem Same.keep {H H' : Hp} (s : Same H H') (F : List Addr) : Keep F H H' := ⟨fun b o _ h => s b o h, fun _ h => s.free h⟩
theorem Keep.step {F F' : List Addr} {H H1 H2 : Hp} (k : Keep F H H1) (g : Grow H F F') (k2 : Keep F' H1 H2) : Keep F H H2 := ⟨fun b o nb h => k2.st b o (fun hb => by
  rcases g b hb with z | z
  · exact nb z
  · rw [z] at h; cases h) (k.st b o nb h), fun b h => k.fr b (k2.fr b h)⟩
theorem Keep.trans {F : List Addr} {H H1 H2 : Hp} (k : Keep F H H1) (k2 : Keep F H1 H2) : Keep F H H2 := ⟨fun b o nb h => k2.st b o nb (k.st b o nb h), fun b h => k.fr b (k2.fr b h)⟩
theorem Keep.mono {F F' : List Addr} {H H' : Hp} (k : Keep F H H') (h : ∀ b ∈ F, b ∈ F') : Keep F' H H' := ⟨fun b o nb e => k.st b o (fun z => nb (h b z)) e, k.fr⟩
theorem Grow.refl (H : Hp) (F : List Addr) : Grow H F F := fun _ h => .inl h
theorem Grow.trans {F F1 F2 : List Addr} {H H1 : Hp} (g : Grow H F F1) (k : Keep F H H1) (g2 : Grow H1 F1 F2) : Grow H F F2 := fun b hb => by
  rcases g2 b hb with z | z
  · exact g b z
  · exact .inr (k.fr b z)
theorem upd_free {H : Hp} {a b : Addr} {o u : HO} (h : H a = some u) (e : L2.upd H a o b = none) : H b = none := by
  by_cases z : b = a
  · subst z
    rw [upd_same] at e
    cases e
  · rw [upd_ne z] at e
    exact e
theorem Keep.upd {F : List Addr} {H : Hp} {a : Addr} {u : HO} (h : a ∈ F) (t : H a = some u) (o : HO) : Keep F H (L2.upd H a o) := ⟨fun b u nb e => by
  rw [upd_ne (fun z : b = a => nb (by rw [z]; exact h))]
  exact e, fun b e => upd_free t e⟩
/-- an address that is taken and lies outside of F lies outside of what grew of F -/
theorem Grow.out {F F' : List Addr} {H : Hp} {b : Addr} {o : HO} (g : Grow H F F') (h : H b = some o) (n : b ∉ F) : b ∉ F' := fun z => by
  rcases g b z with w | w
  · exact n w
  · rw [w] at h; cases h
/-! ### scales -/
abbrev SC := Hp → Addr → List Addr → List Int → Prop
/-- in how many places two layings differ -/
def movedN (a b : List Int) : Nat := ((List.range (max a.length b.length)).filter fun k => !decide (a.getD k 0 = b.getD k 0)).length
theorem movedN_self (a : List Int) : movedN a a = 0 := by
  unfold movedN
  rw [List.length_eq_zero_iff, List.filter_eq_nil_iff]
  intro k _
  simp
/-- loads that are not too many nor too great -/
def OkS (S : List Int) : Prop := S.length ≤ 63 ∧ ∀ n ∈ S, n.natAbs ≤ 2 ^ 330
theorem sum_bound : ∀ {S : List Int} {m : Nat}, (∀ n ∈ S, n.natAbs ≤ m) → S.sum.natAbs ≤ S.length * m
  | [], m, _ => by simp
  | n :: r, m, h => by
    have h1 := h n List.mem_cons_self
    have h2 := sum_bound fun k hk => h k (List.mem_cons_of_mem _ hk)
    rw [List.sum_cons, List.length_cons, Nat.succ_mul]
    omega
theorem OkS.sum {S : List Int} (h : OkS S) : S.sum.natAbs ≤ 2 ^ 336 := by
  have h1 := sum_bound h.2
  have h2 : S.length * 2 ^ 330 ≤ 64 * 2 ^ 330 := Nat.mul_le_mul (by have := h.1; omega) (Nat.le_refl _)
  have h3 : 64 * 2 ^ 330 = 2 ^ 336 := by decide +kernel
  omega
theorem OkS.laid {S : List Int} (h : OkS S) : (Fs.laid S.sum).length ≤ 337 := Fs.laid_len _ 336 h.sum
theorem OkS.front {S : List Int} {n : Int} (h : OkS (S ++ [n])) : OkS S := ⟨by have := h.1; rw [List.length_append] at this; omega, fun k hk => h.2 k (List.mem_append_left _ hk)⟩
theorem OkS.nil : OkS [] := ⟨by decide, fun n h => by cases h⟩
theorem OkS.more {S : List Int} {n : Int} (h : OkS S) (hl : S.length < 63) (hn : n.natAbs ≤ 2 ^ 330) : OkS (S ++ [n]) :=
  ⟨by rw [List.length_append, List.length_singleton]; omega, fun k hk => by
    rcases List.mem_append.mp hk with z | z
    · exact h.2 k z
    · rw [List.mem_singleton.mp z]; exact hn⟩
def spScLay (Sc : SC) : Sp := fun vs H Q _ => ∃ p F S n, vs = [.ref p, .int n] ∧ Sc H p F S ∧ OkS (S ++ [n]) ∧ ∀ H' F', Keep F H H' → Grow H F F' → Sc H' p F' (S ++ [n]) → Q (.int (movedN (Fs.laid S.sum) (Fs.laid (S ++ [n]).sum))) H'
def spScBack (Sc : SC) : Sp := fun vs H Q _ => ∃ p F S n, vs = [.ref p] ∧ Sc H p F (S ++ [n]) ∧ OkS (S ++ [n]) ∧ ∀ H' F', Keep F H H' → Grow H F F' → Sc H' p F' S → Q (.int (movedN (Fs.laid (S ++ [n]).sum) (Fs.laid S.sum))) H'
def spScPans (Sc : SC) : Sp := fun vs H Q _ => ∃ p F S, vs = [.ref p] ∧ Sc H p F S ∧ OkS S ∧ ∀ q H' F', H q = none → q ∉ F' → Keep F H H' → Grow H F F' → Sc H' p F' S → H' q = some (.lst ((Fs.laid S.sum).map V.int)) → Q (.ref q) H'
def spScWeighs (Sc : SC) : Sp := fun vs H Q _ => ∃ p F S, vs = [.ref p] ∧ Sc H p F S ∧ OkS S ∧ ∀ H' F', Keep F H H' → Grow H F F' → Sc H' p F' S → Q (.int S.sum) H'
def spScLayX (Sc : SC) (K : PySem.W.Frag) (C : Addr) : Sp := fun vs H _ E => ∃ p F S v n, vs = [.ref p, v] ∧ Sc H p F S ∧ OkS S ∧ Kind K H v n ∧ wholeV v = false ∧ ∀ H' F', Keep F H H' → Grow H F F' → Sc H' p F' S → E (.ref C) none H'
def spScBackX (Sc : SC) (C : Addr) : Sp := fun vs H _ E => ∃ p F, vs = [.ref p] ∧ Sc H p F [] ∧ ∀ H' F', Keep F H H' → Grow H F F' → Sc H' p F' [] → E (.ref C) none H'
def spScInit (Sc : SC) (C : Addr) : Sp := fun vs H Q _ => ∃ p dx, vs = [.ref p] ∧ H p = some (.ins C dx []) ∧ ∀ H' F', Keep [p] H H' → Grow H [p] F' → Sc H' p F' [] → Q .non H'
/-- what every way of keeping a scale has -/
structure ScOk (Sc : SC) (C : Addr) : Prop where
  ob : ∀ {H p F S}, Sc H p F S → ∃ dx fs, H p = some (.ins C dx fs) ∧ fs.lookup ("lay" : Str) = none ∧ fs.lookup ("back" : Str) = none ∧ fs.lookup ("pans" : Str) = none ∧ fs.lookup ("weighs" : Str) = none
  mem : ∀ {H p F S}, Sc H p F S → p ∈ F
  stay : ∀ {H H' p F S}, Sc H p F S → (∀ b ∈ F, ∀ o, H b = some o → H' b = some o) → Sc H' p F S
  has : ∀ {H p F S}, Sc H p F S → ∀ b ∈ F, ∃ o, H b = some o
theorem ScOk.keep {Sc : SC} {C : Addr} (ok : ScOk Sc C) {H H' : Hp} {p : Addr} {F G : List Addr} {S : List Int} (h : Sc H p F S) (k : Keep G H H') (d : ∀ b ∈ F, b ∉ G) : Sc H' p F S := ok.stay h fun b hb o e => k.st b o (d b hb) e
theorem ScOk.same {Sc : SC} {C : Addr} (ok : ScOk Sc C) {H H' : Hp} {p : Addr} {F : List Addr} {S : List Int} (h : Sc H p F S) (s : Same H H') : Sc H' p F S := ok.stay h fun b _ o e => s b o e
/-! ### a, b = a list of two -/
section
variable {X : Cx} {pos : Pos}
theorem draw_list {prog : Program} {w : World} {A : Around} {E : Value → Shared → Prop} {it t : Addr} {items : Array Value} (hne : t ≠ it) : ∀ (n i : Nat) (s : Shared) (Q : List Value → Shared → Prop), s.heap.IsListIter it t i → s.heap.IsList t items → i + n ≤ items.size →
    (∀ h', h'.IsListIter it t (i + n) → Heap.SameBut it s.heap h' → Q ((items.toList.drop i).take n) { s with heap := h' }) → wpAny (model prog w) A (draw (.ref it) n) Q E s
  | 0, i, s, Q, hit, _, _, hQ => by
    show wpAny _ _ (pure []) Q E s
    exact wpAny_pure (by simpa using hQ s.heap hit (Heap.SameBut.refl ..))
  | n + 1, i, s, Q, hit, ht, hle, hQ => by
    have hlt : i < items.size := by omega
    show wpAny _ _ (pyNext (.ref it) >>= _) Q E s
    refine wpAny_bind (wpAny_pyNext_list_item hit ht (x := items[i]) (by simp [hlt]) fun h₁ hit₁ hs₁ => ?_)
    refine wpAny_bind (wpAny_holding (draw_list hne n (i + 1) _ _ hit₁ (ht.extBut hs₁.extBut hne) (by omega) fun h₂ hit₂ hs₂ => wpAny_pure ?_))
    have hd : items.toList.drop i = items[i] :: items.toList.drop (i + 1) := by simp [List.drop_eq_getElem_cons, hlt]
    have := hQ h₂ (by rw [show i + (n + 1) = i + 1 + n by omega]; exact hit₂) (hs₁.trans hs₂)
    rw [hd, List.take_succ_cons] at this
    exact this
theorem unpackItems_list {prog : Program} {w : World} {A : Around} {E : Value → Shared → Prop} {s : Shared} {t : Addr} {items : Array Value} {Q : List Value → Shared → Prop} (hh : A.handled = none) (ht : s.heap.IsList t items)
    (hQ : ∀ h', Heap.ExtBut s.heap.objs.size s.heap h' → Q items.toList { s with heap := h' }) : wpAny (model prog w) A (unpackItems (.ref t) items.size none) Q E s := by
  have hlt : t ≠ s.heap.objs.size := by obtain ⟨o, ho, _⟩ := ht; exact Nat.ne_of_lt (Heap.lt_size ho)
  unfold unpackItems
  refine wpAny_bind ?_
  unfold notIterableAtAll
  refine wpAny_bind (wpAny_specialOf ht.typeIs PySem.slot_list_iter.lookup ?_)
  refine wpAny_pure ?_
  simp only [Bool.false_eq_true, if_false]
  refine wpAny_bind (wpAny_holding (wpAny_pyIter_list ht ?_))
  refine wpAny_bind (wpAny_holding (draw_list hlt items.size 0 _ _ ⟨_, Heap.get?_push_size _ rfl, rfl, rfl⟩ (ht.push _) (by omega) fun h₁ hit₁ hs₁ => ?_))
  have hall : List.take items.size (List.drop 0 items.toList) = items.toList := by
    rw [List.drop_zero]; exact List.take_of_length_le (by simp)
  rw [hall]
  rw [if_neg (by simp)]
  have ht₁ : h₁.IsList t items := (ht.push _).extBut hs₁.extBut hlt
  refine wpAny_bind (wpAny_holding (wpAny_pyNext_list_end hh hit₁ ht₁ (by simp) fun h₂ he₂ => ?_))
  simp only [Option.isSome_none, Bool.false_eq_true, if_false]
  refine wpAny_pure (hQ h₂ fun b o hb e => he₂ b o hb (hs₁.extBut b o hb (Heap.get?_push_of_some _ e)))
def gLst (K : PySem.W.Frag) (n : Nat) (t : TGs) : TG := fun v σ H Q => ∃ a xs, v = .ref a ∧ SqL K H a xs ∧ xs.length = n ∧ t xs σ H Q
theorem pg_lst {es : List Expr} {k : Nat} {t : TGs} {n : Nat} (hc : X.calm = true) (h : PGs X es t)
    (hn : (assignEach es X.env).length = n := by rfl) (hst : (assignEach es X.env).findIdx? (·.1) = none := by rfl) : PG X (.Tuple es k pos) (gLst X.K n t) := by
  intro pins s σ H v u Q I r hw
  obtain ⟨a, xs, e1, hq, hl, hw⟩ := hw
  subst e1
  cases r
  obtain ⟨its, rv, ht, hz⟩ := I.list hq
  rw [assign_Tuple]
  refine wpAny_bind (wpAny_standAt ?_)
  unfold unpack
  rw [hst, show (assignEach es X.env).length = its.toArray.size by rw [hn, ← hl, rv.length]; simp]
  refine wpAny_bind (wpAny_holding (unpackItems_list (I.ok.hd hc) ht.isList fun h' hx => ?_))
  have I1 : Inv X pins σ H { s with heap := h' } := I.kept (t' := s.toks) fun b o e => hx b o (Nat.ne_of_lt (Heap.lt_size e)) e
  exact h pins _ σ H xs _ Q I1 (by simpa using rv) hw
end
/-! ### a laying made longer by noughts -/
def padTo (a : List Int) (m : Nat) : List Int := a ++ List.replicate (m - a.length) 0
theorem flat_zeros : ∀ j : Nat, (List.replicate j [V.int 0]).flatten = (List.replicate j (0 : Int)).map V.int
  | 0 => rfl
  | j + 1 => by rw [List.replicate_succ, List.flatten_cons, flat_zeros j, List.replicate_succ, List.map_cons]; rfl
theorem pad_get {a : List Int} {m k : Nat} (hk : k < m) : (padTo a m)[k]? = some (a.getD k 0) := by
  unfold padTo
  by_cases h : k < a.length
  · rw [List.getElem?_append_left h, List.getD_eq_getElem?_getD, List.getElem?_eq_getElem h]
    rfl
  · rw [List.getElem?_append_right (by omega), List.getElem?_replicate, if_pos (by omega), List.getD_eq_getElem?_getD, List.getElem?_eq_none (by omega)]
    rfl
theorem ne_dec (x y : Int) : (!decide (V.int x = V.int y)) = !decide (x = y) := by
  by_cases h : x = y
  · rw [h, decide_eq_true rfl, decide_eq_true rfl]
  · rw [decide_eq_false h, decide_eq_false fun z => h (V.int.inj z)]
/-! ### deeds -/
/-- a deed on a scale with the loads S: its word, its load, whether it is done -/
def Deed (K : PySem.W.Frag) (H : Hp) (wrd : Str) (v : V) (ok : Bool) (S : List Int) : Prop :=
  (wrd = "lay" ∧ ok = false ∧ (∃ n, Kind K H v n) ∧ wholeV v = false) ∨ (wrd = "back" ∧ v = .non ∧ ok = !decide (S = [])) ∨ (∃ n : Int, wrd = "lay" ∧ v = .int n ∧ ok = true ∧ n.natAbs ≤ 2 ^ 330)
/-- the loads behind it -/
def afterD (v : V) (ok : Bool) (S : List Int) : List Int := if ok = true then (match v with | .int n => S ++ [n] | _ => S.dropLast) else S
theorem Deed.same {K : PySem.W.Frag} {H H' : Hp} {wrd : Str} {v : V} {ok : Bool} {S : List Int} (h : Deed K H wrd v ok S) (s : Same H H') : Deed K H' wrd v ok S := by
  rcases h with ⟨a, b, ⟨n, k⟩, c⟩ | h | h
  · exact .inl ⟨a, b, ⟨n, k.same s⟩, c⟩
  · exact .inr (.inl h)
  · exact .inr (.inr h)
theorem kind_keep {K : PySem.W.Frag} {H H' : Hp} {v : V} {n : String} (h : Kind K H v n) (k : ∀ a o, v = .ref a → H a = some o → H' a = some o) : Kind K H' v n := by
  unfold Kind at h ⊢
  generalize e : Value.type n = t at h
  cases h with
  | non => exact .non
  | bl x => exact .bl x
  | int i => exact .int i
  | str x => exact .str x
  | flt x => exact .flt x
  | lst h => exact .lst (k _ _ rfl h)
  | frz h => exact .frz (k _ _ rfl h)
  | tup h => exact .tup (k _ _ rfl h)
  | dK h => exact .dK (k _ _ rfl h)
  | dT h => exact .dT (k _ _ rfl h)
  | ins h cl ha hn htk hm => cases e
theorem Deed.keep {K : PySem.W.Frag} {H H' : Hp} {F : List Addr} {wrd : Str} {v : V} {ok : Bool} {S : List Int} (h : Deed K H wrd v ok S) (k : Keep F H H') (nv : ∀ a, v = .ref a → a ∉ F) : Deed K H' wrd v ok S := by
  rcases h with ⟨a, b, ⟨n, kd⟩, c⟩ | h | h
  · exact .inl ⟨a, b, ⟨n, kind_keep kd fun a o e h => k.st a o (nv a e) h⟩, c⟩
  · exact .inr (.inl h)
  · exact .inr (.inr h)
theorem dropLast_snoc {S : List Int} (h : ¬ S = []) : ∃ T n, S = T ++ [n] ∧ S.dropLast = T := by
  rcases Fs.nil_or_snoc S with e | ⟨T, n, e⟩
  · exact absurd e h
  · exact ⟨T, n, e, by rw [e]; simp⟩
/-! ### rows, sides, the world of three scales -/
abbrev RowT := Addr × Addr × Addr × List Int
def RowsOk (H : Hp) (R : List RowT) : Prop := ∀ q ∈ R, H q.1 = some (.lst [.ref q.2.1, .ref q.2.2.1]) ∧ H q.2.1 = some (.lst (q.2.2.2.map V.int)) ∧ H q.2.2.1 = some (.lst (q.2.2.2.map V.int))
def rowA (R : List RowT) : List Addr := R.flatMap fun q => [q.1, q.2.1, q.2.2.1]
theorem rowA_mem {R : List RowT} {b : Addr} : b ∈ rowA R ↔ ∃ q ∈ R, b = q.1 ∨ b = q.2.1 ∨ b = q.2.2.1 := by
  unfold rowA
  rw [List.mem_flatMap]
  simp
theorem rowA_snoc (R : List RowT) (q : RowT) (b : Addr) : b ∈ rowA (R ++ [q]) ↔ b ∈ rowA R ∨ b = q.1 ∨ b = q.2.1 ∨ b = q.2.2.1 := by
  unfold rowA
  rw [List.flatMap_append, List.mem_append]
  simp
theorem RowsOk.has {H : Hp} {R : List RowT} (h : RowsOk H R) {b : Addr} (hb : b ∈ rowA R) : ∃ o, H b = some o := by
  obtain ⟨q, hq, e⟩ := rowA_mem.mp hb
  obtain ⟨h1, h2, h3⟩ := h q hq
  rcases e with rfl | rfl | rfl
  · exact ⟨_, h1⟩
  · exact ⟨_, h2⟩
  · exact ⟨_, h3⟩
theorem RowsOk.stay {H H' : Hp} {R : List RowT} (h : RowsOk H R) (k : ∀ b ∈ rowA R, ∀ o, H b = some o → H' b = some o) : RowsOk H' R := fun q hq => by
  obtain ⟨h1, h2, h3⟩ := h q hq
  exact ⟨k _ (rowA_mem.mpr ⟨q, hq, .inl rfl⟩) _ h1, k _ (rowA_mem.mpr ⟨q, hq, .inr (.inl rfl)⟩) _ h2, k _ (rowA_mem.mpr ⟨q, hq, .inr (.inr rfl)⟩) _ h3⟩
def ownS (l r : Addr) (F : List Addr) (R : List RowT) : List Addr := l :: r :: (rowA R ++ F)
theorem own_mem {l r b : Addr} {F : List Addr} {R : List RowT} : b ∈ ownS l r F R ↔ b = l ∨ b = r ∨ b ∈ rowA R ∨ b ∈ F := by
  unfold ownS
  rw [List.mem_cons, List.mem_cons, List.mem_append]
/-- a scale, its loads' list and its rows -/
structure Side (Sc : SC) (H : Hp) (p l r : Addr) (F : List Addr) (S SL : List Int) (R : List RowT) : Prop where
  sc : Sc H p F S
  hl : H l = some (.lst (SL.map V.int))
  hr : H r = some (.lst (R.map fun q => V.ref q.1))
  rows : RowsOk H R
  lF : l ∉ F
  rF : r ∉ F
  aF : ∀ b ∈ rowA R, b ∉ F
  lr : l ≠ r
  lA : l ∉ rowA R
  rA : r ∉ rowA R
section
variable {Sc : SC} {C : Addr} {H H' H0 : Hp} {p l r : Addr} {F : List Addr} {S SL : List Int} {R : List RowT}
theorem Side.stay (ok : ScOk Sc C) (h : Side Sc H p l r F S SL R) (k : ∀ b ∈ ownS l r F R, ∀ o, H b = some o → H' b = some o) : Side Sc H' p l r F S SL R :=
  ⟨ok.stay h.sc fun b hb o e => k b (own_mem.mpr (.inr (.inr (.inr hb)))) o e, k _ (own_mem.mpr (.inl rfl)) _ h.hl, k _ (own_mem.mpr (.inr (.inl rfl))) _ h.hr, h.rows.stay fun b hb o e => k b (own_mem.mpr (.inr (.inr (.inl hb)))) o e, h.lF, h.rF, h.aF, h.lr, h.lA, h.rA⟩
theorem Side.same (ok : ScOk Sc C) (h : Side Sc H p l r F S SL R) (s : Same H H') : Side Sc H' p l r F S SL R := h.stay ok fun b _ o e => s b o e
theorem Side.has (ok : ScOk Sc C) (h : Side Sc H p l r F S SL R) {b : Addr} (hb : b ∈ ownS l r F R) : ∃ o, H b = some o := by
  rcases own_mem.mp hb with rfl | rfl | hb | hb
  · exact ⟨_, h.hl⟩
  · exact ⟨_, h.hr⟩
  · exact h.rows.has hb
  · exact ok.has h.sc b hb
/-- an address that was free is none of a side's -/
theorem Side.out (ok : ScOk Sc C) (h : Side Sc H p l r F S SL R) {b : Addr} (e : H b = none) : b ∉ ownS l r F R := fun z => by
  obtain ⟨o, e'⟩ := h.has ok z
  rw [e] at e'
  cases e'
/-- the scale alone has changed -/
theorem Side.scale (ok : ScOk Sc C) (h : Side Sc H p l r F S SL R) {F' : List Addr} {S' : List Int} (k : Keep F H H') (g : Grow H F F') (hs : Sc H' p F' S') : Side Sc H' p l r F' S' SL R :=
  ⟨hs, k _ _ h.lF h.hl, k _ _ h.rF h.hr, h.rows.stay fun b hb o e => k b o (h.aF b hb) e, g.out h.hl h.lF, g.out h.hr h.rF, fun b hb => by obtain ⟨o, e⟩ := h.rows.has hb; exact g.out e (h.aF b hb), h.lr, h.lA, h.rA⟩
theorem grow_own {F' : List Addr} (g : Grow H F F') (l r : Addr) (R : List RowT) : Grow H (ownS l r F R) (ownS l r F' R) := fun b hb => by
  rcases own_mem.mp hb with e | e | e | e
  · exact .inl (own_mem.mpr (.inl e))
  · exact .inl (own_mem.mpr (.inr (.inl e)))
  · exact .inl (own_mem.mpr (.inr (.inr (.inl e))))
  · rcases g b e with z | z
    · exact .inl (own_mem.mpr (.inr (.inr (.inr z))))
    · exact .inr z
theorem keep_own (k : Keep F H H') (l r : Addr) (R : List RowT) : Keep (ownS l r F R) H H' := k.mono fun b hb => own_mem.mpr (.inr (.inr (.inr hb)))
/-- the loads' list has changed -/
theorem Side.loads (ok : ScOk Sc C) (h : Side Sc H p l r F S SL R) (SL' : List Int) : Side Sc (L2.upd H l (.lst (SL'.map V.int))) p l r F S SL' R :=
  ⟨ok.stay h.sc fun b hb o e => by rw [upd_ne (fun z : b = l => h.lF (z ▸ hb))]; exact e, upd_same, by rw [upd_ne h.lr.symm]; exact h.hr, h.rows.stay fun b hb o e => by rw [upd_ne (fun z : b = l => h.lA (z ▸ hb))]; exact e, h.lF, h.rF, h.aF, h.lr, h.lA, h.rA⟩
end
/-- two sides and a quiet scale with the loads T -/
structure Scene (Sc : SC) (H0 H : Hp) (pr ld rw p2 : Addr) (p l r : Nat → Addr) (F : Nat → List Addr) (S : Nat → List Int) (R : Nat → List RowT) (F2 : List Addr) (T : List Int) : Prop where
  same : Same H0 H
  hpr : H pr = some (.lst [.ref (p 0), .ref (p 1)])
  hld : H ld = some (.lst [.ref (l 0), .ref (l 1)])
  hrw : H rw = some (.lst [.ref (r 0), .ref (r 1)])
  side : ∀ k, k < 2 → Side Sc H (p k) (l k) (r k) (F k) (S k) (S k) (R k)
  quiet : Sc H p2 F2 T
  last : ∀ k, k < 2 → ∃ R' it x y, R k = R' ++ [(it, x, y, Fs.laid (S k).sum)]
  ok : ∀ k, k < 2 → OkS (S k)
  okT : OkS T
  new : ∀ k, k < 2 → ∀ b ∈ ownS (l k) (r k) (F k) (R k), H0 b = none
  new2 : ∀ b ∈ F2, H0 b = none
  newU : ∀ b, (b = pr ∨ b = ld ∨ b = rw) → H0 b = none
  d01 : ∀ j k, j < 2 → k < 2 → j ≠ k → ∀ b ∈ ownS (l j) (r j) (F j) (R j), b ∉ ownS (l k) (r k) (F k) (R k)
  d2 : ∀ k, k < 2 → ∀ b ∈ ownS (l k) (r k) (F k) (R k), b ∉ F2
  dU : ∀ b, (b = pr ∨ b = ld ∨ b = rw) → b ∉ F2 ∧ ∀ k, k < 2 → b ∉ ownS (l k) (r k) (F k) (R k)
def upN {α : Type} (f : Nat → α) (k : Nat) (v : α) : Nat → α := fun j => if j = k then v else f j
theorem upN_same {α : Type} (f : Nat → α) (k : Nat) (v : α) : upN f k v k = v := if_pos rfl
theorem upN_ne {α : Type} {f : Nat → α} {k j : Nat} {v : α} (h : j ≠ k) : upN f k v j = f j := if_neg h
section
variable {Sc : SC} {C : Addr} {H0 H H' : Hp} {pr ld rw p2 : Addr} {p l r : Nat → Addr} {F : Nat → List Addr} {S : Nat → List Int} {R : Nat → List RowT} {F2 : List Addr} {T : List Int}
theorem Scene.keep0 (W : Scene Sc H0 H pr ld rw p2 p l r F S R F2 T) {G : List Addr} (k : Keep G H H') (n : ∀ b ∈ G, H0 b = none) : Same H0 H' := fun b o e => k b o (fun z => by rw [n b z] at e; cases e) (W.same b o e)
theorem Scene.grow (W : Scene Sc H0 H pr ld rw p2 p l r F S R F2 T) (ok : ScOk Sc C) (s : Same H H') : Scene Sc H0 H' pr ld rw p2 p l r F S R F2 T :=
  ⟨W.same.trans s, s _ _ W.hpr, s _ _ W.hld, s _ _ W.hrw, fun k hk => (W.side k hk).same ok s, ok.same W.quiet s, W.last, W.ok, W.okT, W.new, W.new2, W.newU, W.d01, W.d2, W.dU⟩
/-- the quiet scale has changed -/
theorem Scene.quiet_upd (W : Scene Sc H0 H pr ld rw p2 p l r F S R F2 T) (ok : ScOk Sc C) {F2' : List Addr} {T' : List Int} (k : Keep F2 H H') (g : Grow H F2 F2') (hs : Sc H' p2 F2' T') (oT : OkS T') : Scene Sc H0 H' pr ld rw p2 p l r F S R F2' T' := by
  refine ⟨W.keep0 k W.new2, k _ _ (W.dU pr (.inl rfl)).1 W.hpr, k _ _ (W.dU ld (.inr (.inl rfl))).1 W.hld, k _ _ (W.dU rw (.inr (.inr rfl))).1 W.hrw, fun j hj => (W.side j hj).stay ok fun b hb o e => k b o (W.d2 j hj b hb) e, hs, W.last, W.ok, oT, W.new, fun b hb => ?_, W.newU, W.d01, fun j hj b hb => ?_, fun b hb => ⟨?_, (W.dU b hb).2⟩⟩
  · rcases g b hb with z | z
    · exact W.new2 b z
    · exact W.same.free z
  · obtain ⟨o, e⟩ := (W.side j hj).has ok hb
    exact g.out e (W.d2 j hj b hb)
  · have e : ∃ o, H b = some o := by
      rcases hb with rfl | rfl | rfl
      · exact ⟨_, W.hpr⟩
      · exact ⟨_, W.hld⟩
      · exact ⟨_, W.hrw⟩
    obtain ⟨o, e⟩ := e
    exact g.out e (W.dU b hb).1
/-- a side has changed -/
theorem Scene.side_upd (W : Scene Sc H0 H pr ld rw p2 p l r F S R F2 T) (ok : ScOk Sc C) {k : Nat} (hk : k < 2) {F' : List Addr} {S' : List Int} {R' : List RowT} (kp : Keep (ownS (l k) (r k) (F k) (R k)) H H')
    (sd : Side Sc H' (p k) (l k) (r k) F' S' S' R') (g : Grow H (ownS (l k) (r k) (F k) (R k)) (ownS (l k) (r k) F' R')) (la : ∃ Q it x y, R' = Q ++ [(it, x, y, Fs.laid S'.sum)]) (oS : OkS S') :
    Scene Sc H0 H' pr ld rw p2 p l r (upN F k F') (upN S k S') (upN R k R') F2 T := by
  have al : ∀ b, (b = pr ∨ b = ld ∨ b = rw) → ∃ o, H b = some o := fun b hb => by
    rcases hb with rfl | rfl | rfl
    · exact ⟨_, W.hpr⟩
    · exact ⟨_, W.hld⟩
    · exact ⟨_, W.hrw⟩
  refine ⟨W.keep0 kp (W.new k hk), kp _ _ ((W.dU pr (.inl rfl)).2 k hk) W.hpr, kp _ _ ((W.dU ld (.inr (.inl rfl))).2 k hk) W.hld, kp _ _ ((W.dU rw (.inr (.inr rfl))).2 k hk) W.hrw, fun j hj => ?_, ok.stay W.quiet fun b hb o e => kp b o (fun z => W.d2 k hk b z hb) e, fun j hj => ?_, fun j hj => ?_, W.okT, fun j hj b hb => ?_, W.new2, W.newU, fun i j hi hj hij b hb => ?_, fun j hj b hb => ?_, fun b hb => ⟨(W.dU b hb).1, fun j hj => ?_⟩⟩
  · by_cases e : j = k
    · subst e; rw [upN_same, upN_same, upN_same]; exact sd
    · rw [upN_ne e, upN_ne e, upN_ne e]
      exact (W.side j hj).stay ok fun b hb o e' => kp b o (W.d01 j k hj hk e b hb) e'
  · by_cases e : j = k
    · subst e; rw [upN_same, upN_same]; exact la
    · rw [upN_ne e, upN_ne e]; exact W.last j hj
  · by_cases e : j = k
    · subst e; rw [upN_same]; exact oS
    · rw [upN_ne e]; exact W.ok j hj
  · by_cases e : j = k
    · subst e
      rw [upN_same, upN_same] at hb
      rcases g b hb with z | z
      · exact W.new j hj b z
      · exact W.same.free z
    · rw [upN_ne e, upN_ne e] at hb
      exact W.new j hj b hb
  · by_cases e1 : i = k
    · subst e1
      have e2 : j ≠ i := fun z => hij z.symm
      rw [upN_same, upN_same] at hb
      rw [upN_ne e2, upN_ne e2]
      rcases g b hb with z | z
      · exact W.d01 i j hi hj hij b z
      · exact (W.side j hj).out ok z
    · rw [upN_ne e1, upN_ne e1] at hb
      by_cases e2 : j = k
      · subst e2
        rw [upN_same, upN_same]
        obtain ⟨o, e⟩ := (W.side i hi).has ok hb
        exact g.out e (W.d01 i j hi hj hij b hb)
      · rw [upN_ne e2, upN_ne e2]
        exact W.d01 i j hi hj hij b hb
  · by_cases e : j = k
    · subst e
      rw [upN_same, upN_same] at hb
      rcases g b hb with z | z
      · exact W.d2 j hj b z
      · intro w
        obtain ⟨o, e'⟩ := ok.has W.quiet b w
        rw [z] at e'; cases e'
    · rw [upN_ne e, upN_ne e] at hb
      exact W.d2 j hj b hb
  · by_cases e : j = k
    · subst e
      rw [upN_same, upN_same]
      obtain ⟨o, e'⟩ := al b hb
      exact g.out e' ((W.dU b hb).2 j hj)
    · rw [upN_ne e, upN_ne e]
      exact (W.dU b hb).2 j hj
end
theorem at_two {a b : V} {k : Nat} (hk : k < 2) (f : Nat → Addr) (ha : a = .ref (f 0)) (hb : b = .ref (f 1)) : atI [a, b] (k : Int) = some (.ref (f k)) := by
  have : k = 0 ∨ k = 1 := by omega
  rcases this with rfl | rfl
  · subst ha; rfl
  · subst hb; rfl
/-- a row more -/
theorem Side.row {Sc : SC} {H H' : Hp} {p l r : Addr} {F F' : List Addr} {S SL : List Int} {R : List RowT} {it a b : Addr} {ns : List Int} (h : Side Sc H p l r F S SL R) (ni : H it = none) (na : H a = none) (nb : H b = none) (k : Keep (r :: F) H H') (g : Grow H F F') (hs : Sc H' p F' S)
    (er : H' r = some (.lst (R.map (fun q => V.ref q.1) ++ [.ref it]))) (ei : H' it = some (.lst [.ref a, .ref b])) (ea : H' a = some (.lst (ns.map V.int))) (eb : H' b = some (.lst (ns.map V.int))) (fi : it ∉ F') (fa : a ∉ F') (fb : b ∉ F') :
    Side Sc H' p l r F' S SL (R ++ [(it, a, b, ns)]) ∧ Keep (ownS l r F R) H H' ∧ Grow H (ownS l r F R) (ownS l r F' (R ++ [(it, a, b, ns)])) := by
  have out : ∀ c, c ≠ r → c ∉ F → c ∉ r :: F := fun c h1 h2 z => by
    rcases List.mem_cons.mp z with w | w
    · exact h1 w
    · exact h2 w
  have ar : ∀ c ∈ rowA R, c ≠ r := fun c hc z => h.rA (z ▸ hc)
  have tk : ∀ c o, H c = some o → c ≠ it ∧ c ≠ a ∧ c ≠ b := fun c o e => ⟨ne_of_none e ni, ne_of_none e na, ne_of_none e nb⟩
  refine ⟨⟨hs, k _ _ (out _ h.lr h.lF) h.hl, ?_, fun q hq => ?_, g.out h.hl h.lF, g.out h.hr h.rF, fun c hc => ?_, h.lr, fun z => ?_, fun z => ?_⟩, k.mono fun c hc => ?_, fun c hc => ?_⟩
  · rw [er, List.map_append]; rfl
  · rcases List.mem_append.mp hq with w | w
    · have hR := h.rows.stay (H' := H') (fun c hc o e => k c o (out _ (ar c hc) (h.aF c hc)) e)
      exact hR q w
    · rw [List.mem_singleton.mp w]
      exact ⟨ei, ea, eb⟩
  · rcases (rowA_snoc R _ c).mp hc with w | w | w | w
    · obtain ⟨o, e⟩ := h.rows.has w
      exact g.out e (h.aF c w)
    · rw [w]; exact fi
    · rw [w]; exact fa
    · rw [w]; exact fb
  · obtain ⟨t1, t2, t3⟩ := tk _ _ h.hl
    rcases (rowA_snoc R _ l).mp z with w | w | w | w
    · exact h.lA w
    · exact t1 w
    · exact t2 w
    · exact t3 w
  · obtain ⟨t1, t2, t3⟩ := tk _ _ h.hr
    rcases (rowA_snoc R _ r).mp z with w | w | w | w
    · exact h.rA w
    · exact t1 w
    · exact t2 w
    · exact t3 w
  · rcases List.mem_cons.mp hc with w | w
    · exact own_mem.mpr (.inr (.inl w))
    · exact own_mem.mpr (.inr (.inr (.inr w)))
  · rcases own_mem.mp hc with w | w | w | w
    · exact .inl (own_mem.mpr (.inl w))
    · exact .inl (own_mem.mpr (.inr (.inl w)))
    · rcases (rowA_snoc R _ c).mp w with w | w | w | w
      · exact .inl (own_mem.mpr (.inr (.inr (.inl w))))
      · exact .inr (w ▸ ni)
      · exact .inr (w ▸ na)
      · exact .inr (w ▸ nb)
    · rcases g c w with w | w
      · exact .inl (own_mem.mpr (.inr (.inr (.inr w))))
      · exact .inr w
theorem deed_ok {K : PySem.W.Frag} {H : Hp} {wrd : Str} {v : V} {ok : Bool} {S : List Int} (h : Deed K H wrd v ok S) (o : OkS S) (hl : S.length < 63) : OkS (afterD v ok S) ∧ (afterD v ok S).length ≤ S.length + 1 := by
  rcases h with ⟨_, rfl, _, _⟩ | ⟨_, rfl, rfl⟩ | ⟨n, _, rfl, rfl, hn⟩
  · exact ⟨o, Nat.le_succ _⟩
  · by_cases c : S = []
    · subst c; exact ⟨o, Nat.le_succ _⟩
    · obtain ⟨T, n, rfl, e⟩ := dropLast_snoc c
      have : afterD .non (!decide (T ++ [n] = [])) (T ++ [n]) = T := by
        unfold afterD
        rw [decide_eq_false c]
        exact e
      rw [this]
      exact ⟨o.front, by rw [List.length_append]; omega⟩
  · exact ⟨o.more hl hn, by show (S ++ [n]).length ≤ _; rw [List.length_append]; exact Nat.le_refl _⟩
/-! ### all taken back -/
/-- the numbers told when all loads are taken back, one by one -/
def backsN (S : List Int) : List Int := (List.range S.length).map fun i => ((movedN (Fs.laid (S.take (S.length - i)).sum) (Fs.laid (S.take (S.length - (i + 1))).sum) : Nat) : Int)
theorem backsN_len (S : List Int) : (backsN S).length = S.length := by unfold backsN; rw [List.length_map, List.length_range]
theorem backsN_get {S : List Int} {i : Nat} (h : i < S.length) : (backsN S)[i]? = some ((movedN (Fs.laid (S.take (S.length - i)).sum) (Fs.laid (S.take (S.length - (i + 1))).sum) : Nat) : Int) := by
  unfold backsN
  rw [List.getElem?_map, List.getElem?_range h]
  rfl
theorem backsN_take {S : List Int} {i : Nat} (h : i < S.length) : (backsN S).take (i + 1) = (backsN S).take i ++ [((movedN (Fs.laid (S.take (S.length - i)).sum) (Fs.laid (S.take (S.length - (i + 1))).sum) : Nat) : Int)] := by
  rw [List.take_add_one, backsN_get h]
  rfl
theorem take_back {S : List Int} {i : Nat} (h : i < S.length) : ∃ n, S.take (S.length - i) = S.take (S.length - (i + 1)) ++ [n] := by
  refine ⟨S[S.length - (i + 1)]'(by omega), ?_⟩
  have e : S.length - i = (S.length - (i + 1)) + 1 := by omega
  rw [e, List.take_add_one, List.getElem?_eq_getElem (by omega)]
  rfl
theorem OkS.take {S : List Int} (h : OkS S) (k : Nat) : OkS (S.take k) := ⟨Nat.le_trans (by rw [List.length_take]; omega) h.1, fun n hn => h.2 n (List.mem_of_mem_take hn)⟩
/-- the last row of a side -/
theorem Side.lastR {Sc : SC} {H : Hp} {p l r : Addr} {F : List Addr} {S SL : List Int} {R R0 : List RowT} {it x y : Addr} {ns : List Int} (h : Side Sc H p l r F S SL R) (e : R = R0 ++ [(it, x, y, ns)]) :
    H r = some (.lst (R0.map (fun q => V.ref q.1) ++ [.ref it])) ∧ H it = some (.lst [.ref x, .ref y]) ∧ it ∉ F ∧ H y = some (.lst (ns.map V.int)) ∧ y ∉ F ∧ it ∈ rowA R ∧ y ∈ rowA R := by
  have hm : (it, x, y, ns) ∈ R := by rw [e]; simp
  obtain ⟨h1, h2, h3⟩ := h.rows _ hm
  have iA : it ∈ rowA R := rowA_mem.mpr ⟨_, hm, .inl rfl⟩
  have yA : y ∈ rowA R := rowA_mem.mpr ⟨_, hm, .inr (.inr rfl)⟩
  refine ⟨?_, h1, h.aF it iA, h3, h.aF y yA, iA, yA⟩
  rw [h.hr, e, List.map_append]
  rfl
/-! ### how it all begins -/
theorem made_new {C : Addr} {Ha Hc : Hp} {x dx : Addr} {F' : List Addr} (nx : Ha x = none) (ndx : Ha dx = none) (k : Keep [x] (upd (upd Ha dx (.own x)) x (.ins C dx [])) Hc) (g : Grow (upd (upd Ha dx (.own x)) x (.ins C dx [])) [x] F') : Same Ha Hc ∧ ∀ b ∈ F', Ha b = none := by
  have s : Same Ha (upd (upd Ha dx (.own x)) x (.ins C dx [])) := fun b o e => by
    rw [upd_ne (ne_of_none e nx), upd_ne (ne_of_none e ndx)]
    exact e
  refine ⟨fun b o e => k b o (fun z => ?_) (s b o e), fun b hb => ?_⟩
  · rw [List.mem_singleton.mp z, nx] at e; cases e
  · rcases g b hb with z | z
    · rw [List.mem_singleton.mp z]; exact nx
    · exact s.free z
/-- single new addresses D and new footprints G -/
structure Fresh (H0 H : Hp) (D G : List Addr) : Prop where
  same : Same H0 H
  nd : D.Nodup
  al : ∀ b ∈ D ++ G, ∃ o, H b = some o
  dg : ∀ b ∈ D, b ∉ G
  new : ∀ b ∈ D ++ G, H0 b = none
theorem Fresh.nil (H : Hp) : Fresh H H [] [] := ⟨Same.refl _, List.nodup_nil, fun b h => absurd h (by simp), fun b h => absurd h (by simp), fun b h => absurd h (by simp)⟩
theorem Fresh.out {H0 H : Hp} {D G : List Addr} (f : Fresh H0 H D G) {a : Addr} (n : H a = none) : a ∉ D ++ G := fun z => by
  obtain ⟨o, e⟩ := f.al a z
  rw [n] at e; cases e
theorem Fresh.add {H0 H : Hp} {D G : List Addr} (f : Fresh H0 H D G) {a : Addr} (n : H a = none) (o : HO) : Fresh H0 (upd H a o) (a :: D) G := by
  have out := f.out n
  refine ⟨f.same.trans (Same.new n o), List.nodup_cons.mpr ⟨fun z => out (List.mem_append_left _ z), f.nd⟩, fun b hb => ?_, fun b hb => ?_, fun b hb => ?_⟩
  · rcases List.mem_cons.mp hb with z | z
    · exact ⟨o, by rw [z]; exact upd_same⟩
    · obtain ⟨u, e⟩ := f.al b z
      exact ⟨u, Same.new n o _ _ e⟩
  · rcases List.mem_cons.mp hb with z | z
    · rw [z]; exact fun w => out (List.mem_append_right _ w)
    · exact f.dg b z
  · rcases List.mem_cons.mp hb with z | z
    · rw [z]; exact f.same.free n
    · exact f.new b z
theorem Fresh.foot {H0 H H' : Hp} {D G F : List Addr} (f : Fresh H0 H D G) (s : Same H H') (hF : ∀ b ∈ F, H b = none) (hF' : ∀ b ∈ F, ∃ o, H' b = some o) : Fresh H0 H' D (F ++ G) ∧ ∀ b ∈ F, b ∉ G := by
  have out : ∀ b ∈ F, b ∉ D ++ G := fun b hb => f.out (hF b hb)
  refine ⟨⟨f.same.trans s, f.nd, fun b hb => ?_, fun b hb z => ?_, fun b hb => ?_⟩, fun b hb z => out b hb (List.mem_append_right _ z)⟩
  · rcases List.mem_append.mp hb with z | z
    · obtain ⟨u, e⟩ := f.al b (List.mem_append_left _ z)
      exact ⟨u, s _ _ e⟩
    · rcases List.mem_append.mp z with z | z
      · exact hF' b z
      · obtain ⟨u, e⟩ := f.al b (List.mem_append_right _ z)
        exact ⟨u, s _ _ e⟩
  · rcases List.mem_append.mp z with w | w
    · exact out b w (List.mem_append_left _ hb)
    · exact f.dg b hb w
  · rcases List.mem_append.mp hb with z | z
    · exact f.new b (List.mem_append_left _ z)
    · rcases List.mem_append.mp z with z | z
      · exact f.same.free (hF b z)
      · exact f.new b (List.mem_append_right _ z)
def sel {α : Type} (a b : α) : Nat → α := fun k => if k = 0 then a else b
theorem own1_mem {l r i x y b : Addr} {F : List Addr} {ns : List Int} : b ∈ ownS l r F [(i, x, y, ns)] ↔ (b = l ∨ b = r ∨ b = i ∨ b = x ∨ b = y) ∨ b ∈ F := by
  rw [own_mem]
  have : b ∈ rowA [(i, x, y, ns)] ↔ b = i ∨ b = x ∨ b = y := by
    unfold rowA
    simp
  rw [this]
  constructor
  · rintro (h | h | (h | h | h) | h)
    · exact .inl (.inl h)
    · exact .inl (.inr (.inl h))
    · exact .inl (.inr (.inr (.inl h)))
    · exact .inl (.inr (.inr (.inr (.inl h))))
    · exact .inl (.inr (.inr (.inr (.inr h))))
    · exact .inr h
  · rintro ((h | h | h | h | h) | h)
    · exact .inl h
    · exact .inr (.inl h)
    · exact .inr (.inr (.inl (.inl h)))
    · exact .inr (.inr (.inl (.inr (.inl h))))
    · exact .inr (.inr (.inl (.inr (.inr h))))
    · exact .inr (.inr (.inr h))
theorem Side.first {Sc : SC} {H : Hp} {p l r i x y : Addr} {F : List Addr} (hs : Sc H p F []) (hl : H l = some (.lst [])) (hr : H r = some (.lst [.ref i])) (hi : H i = some (.lst [.ref x, .ref y])) (hx : H x = some (.lst [])) (hy : H y = some (.lst []))
    (nF : ∀ b, (b = l ∨ b = r ∨ b = i ∨ b = x ∨ b = y) → b ∉ F) (lr : l ≠ r) (li : l ≠ i) (lx : l ≠ x) (ly : l ≠ y) (ri : r ≠ i) (rx : r ≠ x) (ry : r ≠ y) : Side Sc H p l r F [] [] [(i, x, y, [])] := by
  have ra : ∀ b, b ∈ rowA [(i, x, y, ([] : List Int))] → b = i ∨ b = x ∨ b = y := fun b hb => by
    unfold rowA at hb
    simpa using hb
  refine ⟨hs, hl, hr, fun q hq => ?_, nF l (.inl rfl), nF r (.inr (.inl rfl)), fun b hb => nF b ?_, lr, fun z => ?_, fun z => ?_⟩
  · rw [List.mem_singleton.mp hq]
    exact ⟨hi, hx, hy⟩
  · rcases ra b hb with z | z | z
    · exact .inr (.inr (.inl z))
    · exact .inr (.inr (.inr (.inl z)))
    · exact .inr (.inr (.inr (.inr z)))
  · rcases ra l z with w | w | w
    · exact li w
    · exact lx w
    · exact ly w
  · rcases ra r z with w | w | w
    · exact ri w
    · exact rx w
    · exact ry w
theorem nix {α : Type} : ∀ {L : List α} {i j : Nat} {a : α}, L.Nodup → L[i]? = some a → L[j]? = some a → i = j
  | [], _, _, _, _, h, _ => by simp at h
  | x :: r, 0, 0, _, _, _, _ => rfl
  | x :: r, 0, j + 1, a, n, h, h' => by
    have e : x = a := by simpa using h
    have m : a ∈ r := List.mem_of_getElem? (by simpa using h')
    exact absurd (e ▸ m) (List.nodup_cons.mp n).1
  | x :: r, i + 1, 0, a, n, h, h' => by
    have e : x = a := by simpa using h'
    have m : a ∈ r := List.mem_of_getElem? (by simpa using h)
    exact absurd (e ▸ m) (List.nodup_cons.mp n).1
  | x :: r, i + 1, j + 1, a, n, h, h' => congrArg Nat.succ (nix (L := r) (List.nodup_cons.mp n).2 (by simpa using h) (by simpa using h'))
theorem nne {α : Type} {L : List α} (n : L.Nodup) (i j : Nat) {a b : α} (h : L[i]? = some a) (h' : L[j]? = some b) (ne : i ≠ j) : a ≠ b := fun e => ne (nix n h (e ▸ h'))
theorem Scene.start {Sc : SC} {C : Addr} (ok : ScOk Sc C) {H0 H : Hp} {pr ld rw p0 p1 p2 l0 l1 r0 r1 i0 x0 y0 i1 x1 y1 : Addr} {F0 F1 F2 : List Addr} (f : Fresh H0 H [rw, r1, i1, y1, x1, r0, i0, y0, x0, ld, l1, l0, pr] (F2 ++ (F1 ++ (F0 ++ []))))
    (f01 : ∀ b ∈ F1, b ∉ F0 ++ []) (f2 : ∀ b ∈ F2, b ∉ F1 ++ (F0 ++ []))
    (hpr : H pr = some (.lst [.ref p0, .ref p1])) (hld : H ld = some (.lst [.ref l0, .ref l1])) (hrw : H rw = some (.lst [.ref r0, .ref r1])) (s0 : Sc H p0 F0 []) (s1 : Sc H p1 F1 []) (s2 : Sc H p2 F2 [])
    (hl0 : H l0 = some (.lst [])) (hl1 : H l1 = some (.lst [])) (hr0 : H r0 = some (.lst [.ref i0])) (hr1 : H r1 = some (.lst [.ref i1])) (hi0 : H i0 = some (.lst [.ref x0, .ref y0])) (hi1 : H i1 = some (.lst [.ref x1, .ref y1]))
    (hx0 : H x0 = some (.lst [])) (hy0 : H y0 = some (.lst [])) (hx1 : H x1 = some (.lst [])) (hy1 : H y1 = some (.lst [])) :
    Scene Sc H0 H pr ld rw p2 (sel p0 p1) (sel l0 l1) (sel r0 r1) (sel F0 F1) (fun _ => []) (sel [(i0, x0, y0, [])] [(i1, x1, y1, [])]) F2 [] := by
  have nd := f.nd
  have dg := f.dg
  have I0 : ∀ b, (b = l0 ∨ b = r0 ∨ b = i0 ∨ b = x0 ∨ b = y0) → ∃ i, (i = 11 ∨ i = 5 ∨ i = 6 ∨ i = 8 ∨ i = 7) ∧ [rw, r1, i1, y1, x1, r0, i0, y0, x0, ld, l1, l0, pr][i]? = some b := fun b hb => by
    rcases hb with rfl | rfl | rfl | rfl | rfl
    · exact ⟨11, by omega, rfl⟩
    · exact ⟨5, by omega, rfl⟩
    · exact ⟨6, by omega, rfl⟩
    · exact ⟨8, by omega, rfl⟩
    · exact ⟨7, by omega, rfl⟩
  have I1 : ∀ b, (b = l1 ∨ b = r1 ∨ b = i1 ∨ b = x1 ∨ b = y1) → ∃ i, (i = 10 ∨ i = 1 ∨ i = 2 ∨ i = 4 ∨ i = 3) ∧ [rw, r1, i1, y1, x1, r0, i0, y0, x0, ld, l1, l0, pr][i]? = some b := fun b hb => by
    rcases hb with rfl | rfl | rfl | rfl | rfl
    · exact ⟨10, by omega, rfl⟩
    · exact ⟨1, by omega, rfl⟩
    · exact ⟨2, by omega, rfl⟩
    · exact ⟨4, by omega, rfl⟩
    · exact ⟨3, by omega, rfl⟩
  have IU : ∀ b, (b = pr ∨ b = ld ∨ b = rw) → ∃ i, (i = 12 ∨ i = 9 ∨ i = 0) ∧ [rw, r1, i1, y1, x1, r0, i0, y0, x0, ld, l1, l0, pr][i]? = some b := fun b hb => by
    rcases hb with rfl | rfl | rfl
    · exact ⟨12, by omega, rfl⟩
    · exact ⟨9, by omega, rfl⟩
    · exact ⟨0, by omega, rfl⟩
  have inD : ∀ {b : Addr}, b ∈ [rw, r1, i1, y1, x1, r0, i0, y0, x0, ld, l1, l0, pr] → b ∉ F0 ∧ b ∉ F1 ∧ b ∉ F2 := fun {b} hb => by
    have := dg b hb
    simp only [List.mem_append, List.not_mem_nil, or_false, not_or] at this
    exact ⟨this.2.2, this.2.1, this.1⟩
  have A0 : ∀ b, (b = l0 ∨ b = r0 ∨ b = i0 ∨ b = x0 ∨ b = y0) → b ∈ [rw, r1, i1, y1, x1, r0, i0, y0, x0, ld, l1, l0, pr] := fun b hb => by
    rcases hb with rfl | rfl | rfl | rfl | rfl <;> simp
  have A1 : ∀ b, (b = l1 ∨ b = r1 ∨ b = i1 ∨ b = x1 ∨ b = y1) → b ∈ [rw, r1, i1, y1, x1, r0, i0, y0, x0, ld, l1, l0, pr] := fun b hb => by
    rcases hb with rfl | rfl | rfl | rfl | rfl <;> simp
  have AU : ∀ b, (b = pr ∨ b = ld ∨ b = rw) → b ∈ [rw, r1, i1, y1, x1, r0, i0, y0, x0, ld, l1, l0, pr] := fun b hb => by
    rcases hb with rfl | rfl | rfl <;> simp
  have f10 : ∀ b ∈ F0, b ∉ F1 := fun b hb z => f01 b z (List.mem_append_left _ hb)
  have f20 : ∀ b ∈ F0, b ∉ F2 := fun b hb z => f2 b z (List.mem_append_right _ (List.mem_append_left _ hb))
  have f21 : ∀ b ∈ F1, b ∉ F2 := fun b hb z => f2 b z (List.mem_append_left _ hb)
  have d01 : ∀ b, b ∈ ownS l0 r0 F0 [(i0, x0, y0, ([] : List Int))] → b ∉ ownS l1 r1 F1 [(i1, x1, y1, ([] : List Int))] := fun b h0 h1 => by
    rcases own1_mem.mp h0 with a | a
    · rcases own1_mem.mp h1 with c | c
      · obtain ⟨i, hi, ei⟩ := I0 b a
        obtain ⟨j, hj, ej⟩ := I1 b c
        have := nix nd ei ej
        omega
      · exact (inD (A0 b a)).2.1 c
    · rcases own1_mem.mp h1 with c | c
      · exact (inD (A1 b c)).1 a
      · exact f10 b a c
  have k01 : ∀ k, k < 2 → k = 0 ∨ k = 1 := fun k h => by omega
  have new : ∀ b, (b ∈ [rw, r1, i1, y1, x1, r0, i0, y0, x0, ld, l1, l0, pr] ∨ b ∈ F0 ∨ b ∈ F1 ∨ b ∈ F2) → H0 b = none := fun b hb => by
    refine f.new b ?_
    rcases hb with h | h | h | h
    · exact List.mem_append_left _ h
    · exact List.mem_append_right _ (List.mem_append_right _ (List.mem_append_right _ (List.mem_append_left _ h)))
    · exact List.mem_append_right _ (List.mem_append_right _ (List.mem_append_left _ h))
    · exact List.mem_append_right _ (List.mem_append_left _ h)
  refine ⟨f.same, hpr, hld, hrw, fun k hk => ?_, s2, fun k hk => ?_, fun k hk => OkS.nil, OkS.nil, fun k hk b hb => ?_, fun b hb => new b (.inr (.inr (.inr hb))), fun b hb => new b (.inl (AU b hb)), fun j k hj hk hjk b hb => ?_, fun k hk b hb => ?_, fun b hb => ⟨(inD (AU b hb)).2.2, fun k hk z => ?_⟩⟩
  · rcases k01 k hk with rfl | rfl
    · exact Side.first s0 hl0 hr0 hi0 hx0 hy0 (fun b hb => (inD (A0 b hb)).1) (nne nd 11 5 rfl rfl (by decide)) (nne nd 11 6 rfl rfl (by decide)) (nne nd 11 8 rfl rfl (by decide)) (nne nd 11 7 rfl rfl (by decide)) (nne nd 5 6 rfl rfl (by decide)) (nne nd 5 8 rfl rfl (by decide)) (nne nd 5 7 rfl rfl (by decide))
    · exact Side.first s1 hl1 hr1 hi1 hx1 hy1 (fun b hb => (inD (A1 b hb)).2.1) (nne nd 10 1 rfl rfl (by decide)) (nne nd 10 2 rfl rfl (by decide)) (nne nd 10 4 rfl rfl (by decide)) (nne nd 10 3 rfl rfl (by decide)) (nne nd 1 2 rfl rfl (by decide)) (nne nd 1 4 rfl rfl (by decide)) (nne nd 1 3 rfl rfl (by decide))
  · have e : Fs.laid ([] : List Int).sum = [] := Fs.laid_zero
    rcases k01 k hk with rfl | rfl
    · exact ⟨[], i0, x0, y0, by rw [e]; rfl⟩
    · exact ⟨[], i1, x1, y1, by rw [e]; rfl⟩
  · rcases k01 k hk with rfl | rfl
    · rcases own1_mem.mp hb with a | a
      · exact new b (.inl (A0 b a))
      · exact new b (.inr (.inl a))
    · rcases own1_mem.mp hb with a | a
      · exact new b (.inl (A1 b a))
      · exact new b (.inr (.inr (.inl a)))
  · rcases k01 j hj with rfl | rfl <;> rcases k01 k hk with rfl | rfl
    · exact absurd rfl hjk
    · exact d01 b hb
    · exact fun z => d01 b z hb
    · exact absurd rfl hjk
  · rcases k01 k hk with rfl | rfl
    · rcases own1_mem.mp hb with a | a
      · exact (inD (A0 b a)).2.2
      · exact f20 b a
    · rcases own1_mem.mp hb with a | a
      · exact (inD (A1 b a)).2.2
      · exact f21 b a
  · rcases k01 k hk with rfl | rfl
    · rcases own1_mem.mp z with a | a
      · obtain ⟨i, hi, ei⟩ := I0 b a
        obtain ⟨j, hj, ej⟩ := IU b hb
        have := nix nd ei ej
        omega
      · exact (inD (AU b hb)).1 a
    · rcases own1_mem.mp z with a | a
      · obtain ⟨i, hi, ei⟩ := I1 b a
        obtain ⟨j, hj, ej⟩ := IU b hb
        have := nix nd ei ej
        omega
      · exact (inD (AU b hb)).2.1 a
theorem upN_self {α : Type} (f : Nat → α) (k : Nat) : upN f k (f k) = f := by
  funext j
  by_cases e : j = k
  · subst e; rw [upN_same]
  · rw [upN_ne e]
/-- the scale of a side alone has changed -/
theorem Scene.scale {Sc : SC} {C : Addr} {H0 H H' : Hp} {pr ld rw p2 : Addr} {p l r : Nat → Addr} {F : Nat → List Addr} {S : Nat → List Int} {R : Nat → List RowT} {F2 : List Addr} {T : List Int} (W : Scene Sc H0 H pr ld rw p2 p l r F S R F2 T) (ok : ScOk Sc C) {k : Nat} (hk : k < 2) {F' : List Addr} (kp : Keep (F k) H H') (g : Grow H (F k) F') (hs : Sc H' (p k) F' (S k)) :
    Scene Sc H0 H' pr ld rw p2 p l r (upN F k F') S R F2 T := by
  have W' := W.side_upd ok hk (keep_own kp _ _ _) ((W.side k hk).scale ok kp g hs) (grow_own g _ _ _) (W.last k hk) (W.ok k hk)
  rw [upN_self, upN_self] at W'
  exact W'
/-- a new object that is none of the scene's -/
theorem Scene.beside {Sc : SC} {C : Addr} {H0 H : Hp} {pr ld rw p2 : Addr} {p l r : Nat → Addr} {F : Nat → List Addr} {S : Nat → List Int} {R : Nat → List RowT} {F2 : List Addr} {T : List Int} (W : Scene Sc H0 H pr ld rw p2 p l r F S R F2 T) (ok : ScOk Sc C) {g : Addr} (ng : H g = none) (o : HO) :
    Scene Sc (upd H0 g o) (upd H g o) pr ld rw p2 p l r F S R F2 T := by
  have W' := W.grow ok (Same.new ng o)
  refine ⟨fun b u e => ?_, W'.hpr, W'.hld, W'.hrw, W'.side, W'.quiet, W'.last, W'.ok, W'.okT, fun k hk b hb => ?_, fun b hb => ?_, fun b hb => ?_, W'.d01, W'.d2, W'.dU⟩
  · by_cases z : b = g
    · subst z
      rw [upd_same] at e ⊢
      exact e
    · rw [upd_ne z] at e ⊢
      exact W.same b u e
  · have : b ≠ g := fun z => by obtain ⟨u, e⟩ := (W.side k hk).has ok hb; rw [z, ng] at e; cases e
    rw [upd_ne this]
    exact W.new k hk b hb
  · have : b ≠ g := fun z => by obtain ⟨u, e⟩ := ok.has W.quiet b hb; rw [z, ng] at e; cases e
    rw [upd_ne this]
    exact W.new2 b hb
  · have : b ≠ g := fun z => by
      rcases hb with w | w | w
      · rw [← z, w, W.hpr] at ng; cases ng
      · rw [← z, w, W.hld] at ng; cases ng
      · rw [← z, w, W.hrw] at ng; cases ng
    rw [upd_ne this]
    exact W.newU b hb
end L2

namespace K09
open PySem L2
def top (i : Nat) : Stmt := PySem.Challenge.pw_fewstones_k09_whole_scale.main.body.getD i (.Pass ⟨0, 0, 0, 0⟩)
abbrev s_is_whole : Stmt := top 8
abbrev s_check_load : Stmt := top 9
abbrev s_lowest_thing : Stmt := top 10
abbrev s_laid : Stmt := top 11
abbrev s_thing_at : Stmt := top 13
abbrev s_moved : Stmt := top 14
abbrev s_Scale_init : Stmt := inClass (top 15) 0
abbrev s_Scale_lay : Stmt := inClass (top 15) 1
abbrev s_Scale_back : Stmt := inClass (top 15) 2
abbrev s_Scale_pans : Stmt := inClass (top 15) 3
abbrev s_Scale_weighs : Stmt := inClass (top 15) 4
abbrev s_law_cell_at : Stmt := top 17
abbrev s_law_whole : Stmt := top 18
abbrev s_law_weight : Stmt := top 19
abbrev s_law_load_by : Stmt := top 20
abbrev s_law_sum : Stmt := top 21
abbrev s_law_neat : Stmt := top 22
abbrev s_law_apart : Stmt := top 23
abbrev s_law_looked : Stmt := top 24
abbrev s_law_refused : Stmt := top 25
abbrev s_law_deed_by : Stmt := top 26
abbrev s_law_done : Stmt := top 27
abbrev s_law_step : Stmt := top 28
abbrev s_law_all_back : Stmt := top 29
abbrev s_law_quiet : Stmt := top 30
abbrev s_law : Stmt := top 31
/-- the built-in names that stand for themselves -/
structure Txt (mg : Str → Option Value) : Prop where
  b_isinstance : mg "isinstance" = none
  b_int : mg "int" = none
  b_bool : mg "bool" = none
  b_list : mg "list" = none
  b_len : mg "len" = none
  b_range : mg "range" = none
  b_sum : mg "sum" = none
  b_ValueError : mg "ValueError" = none
  b_max : mg "max" = none
/-- the classes of the refusals -/
structure Errs (K : PySem.W.Frag) (mg : Str → Option Value) (cStoneError cNoLaying cNoLoad cNoPlan cNoText cNoDeed : Addr) : Prop where
  m_StoneError : mg "StoneError" = some (.ref cStoneError)
  e_StoneError : ErrC K cStoneError
  m_NoLaying : mg "NoLaying" = some (.ref cNoLaying)
  e_NoLaying : ErrC K cNoLaying
  m_NoLoad : mg "NoLoad" = some (.ref cNoLoad)
  e_NoLoad : ErrC K cNoLoad
  m_NoPlan : mg "NoPlan" = some (.ref cNoPlan)
  e_NoPlan : ErrC K cNoPlan
  m_NoText : mg "NoText" = some (.ref cNoText)
  e_NoText : ErrC K cNoText
  m_NoDeed : mg "NoDeed" = some (.ref cNoDeed)
  e_NoDeed : ErrC K cNoDeed
  v_NoLoad : PySem.W.kitOne K (.ref cNoLoad) (.type "ValueError") = some true
  x_NoLoad : PySem.W.exmOne K (.ref cNoLoad) (.ref cStoneError) = some true
  k_NoLoad_StoneError : PySem.W.kitOne K (.ref cNoLoad) (.ref cStoneError) = some true
  k_NoLoad_NoLaying : PySem.W.kitOne K (.ref cNoLoad) (.ref cNoLaying) = some false
  k_NoLoad_NoLoad : PySem.W.kitOne K (.ref cNoLoad) (.ref cNoLoad) = some true
  k_NoLoad_NoPlan : PySem.W.kitOne K (.ref cNoLoad) (.ref cNoPlan) = some false
  k_NoLoad_NoText : PySem.W.kitOne K (.ref cNoLoad) (.ref cNoText) = some false
  k_NoLoad_NoDeed : PySem.W.kitOne K (.ref cNoLoad) (.ref cNoDeed) = some false
  v_NoDeed : PySem.W.kitOne K (.ref cNoDeed) (.type "ValueError") = some true
  x_NoDeed : PySem.W.exmOne K (.ref cNoDeed) (.ref cStoneError) = some true
  k_NoDeed_StoneError : PySem.W.kitOne K (.ref cNoDeed) (.ref cStoneError) = some true
  k_NoDeed_NoLaying : PySem.W.kitOne K (.ref cNoDeed) (.ref cNoLaying) = some false
  k_NoDeed_NoLoad : PySem.W.kitOne K (.ref cNoDeed) (.ref cNoLoad) = some false
  k_NoDeed_NoPlan : PySem.W.kitOne K (.ref cNoDeed) (.ref cNoPlan) = some false
  k_NoDeed_NoText : PySem.W.kitOne K (.ref cNoDeed) (.ref cNoText) = some false
  k_NoDeed_NoDeed : PySem.W.kitOne K (.ref cNoDeed) (.ref cNoDeed) = some true
/-- the class Scale as the top has made it -/
structure Own_Scale (K : PySem.W.Frag) (mg : Str → Option Value) (C : Addr) : Prop where
  cl : Cls K C
  mgC : mg "Scale" = some (.ref C)
  n_loads : NoAttr K C "loads"
section
variable {cScale : Addr}
variable {cStoneError cNoLaying cNoLoad cNoPlan cNoText cNoDeed : Addr}
variable {P : Program} {w : World} {K : PySem.W.Frag} {mg : Str → Option Value} {base : Heap}
/-! is_whole -/
def spWhole (K : PySem.W.Frag) : Sp := fun vs H Q _ => ∃ (v : V) (n : String), vs = [v] ∧ Kind K H v n ∧ Q (.bl (wholeV v)) H
theorem sc_is_whole : FnScope ["thing"] ["thing"] (defScope s_is_whole) := ⟨rfl, rfl, rfl, by decide +kernel, rfl, by decide +kernel, by decide +kernel⟩
theorem ok_is_whole (A : At K mg "is_whole" s_is_whole ["thing"]) (B : Txt mg) : Def P w K mg base "is_whole" 1 ["thing"] (spWhole K) := A.def fun f fd F => by
  refine F.ok sc_is_whole (fun vs H Q E h => ?_) (fun cdv A outer s H vs Q E hr h => ?_)
  · obtain ⟨v, n, rfl, _⟩ := h
    rfl
  obtain ⟨v, n, rfl, hk, q⟩ := h
  refine ⟨_, @pss_one _ _ _ (@ps_ret _ _ _ _ (pe_and (pe_callB call_isinst rfl B.b_isinstance boot_isinstance (@pa_cons _ _ _ _ _ (pv 0) (@pa_cons _ _ _ _ _ (pe_ty B.b_int boot_tint) pa_nil (by rfl)) (by rfl)))
    (pe_one (pe_not (pe_callB call_isinst rfl B.b_isinstance boot_isinstance (@pa_cons _ _ _ _ _ (pv 0) (@pa_cons _ _ _ _ _ (pe_ty B.b_bool boot_tbool) pa_nil (by rfl)) (by rfl))))))), ?_⟩
  refine ⟨_, rfl, v, .ty "int", .type n, .type "int", _, rfl, rfl, hk, kit_int hk, _, rfl, ?_⟩
  cases v with
  | int i =>
    refine iteT ⟨_, rfl, _, .ty "bool", .type n, .type "bool", _, rfl, rfl, hk, kit_bool hk, _, rfl, ?_⟩
    exact q
  | bl b =>
    refine iteT ⟨_, rfl, _, .ty "bool", .type n, .type "bool", _, rfl, rfl, hk, kit_bool hk, _, rfl, ?_⟩
    exact q
  | _ => exact iteF q
/-! check_load, of a whole number -/
def spCheckLoad : Sp := fun vs H Q _ => ∃ n : Int, vs = [.int n] ∧ Q .non H
theorem sc_check_load : FnScope ["thing"] ["thing"] (defScope s_check_load) := ⟨rfl, rfl, rfl, by decide +kernel, rfl, by decide +kernel, by decide +kernel⟩
theorem ok_check_load (A : At K mg "check_load" s_check_load ["thing"]) (GW : Def P w K mg base "is_whole" 1 ["thing"] (spWhole K)) : Def P w K mg base "check_load" 2 ["thing"] spCheckLoad := A.def fun f fd F => by
  refine F.ok sc_check_load (fun vs H Q E h => ?_) (fun cdv A outer s H vs Q E hr h => ?_)
  · obtain ⟨n, rfl, _⟩ := h
    rfl
  obtain ⟨n, rfl, q⟩ := h
  refine ⟨_, @pss_one _ _ _ (@ps_if _ _ _ _ _ _ _ _ (pt_not (pt_val (pe_def GW hr (@pa_cons _ _ _ _ _ (pv 0) pa_nil (by rfl))))) pss_never pss_nil), ?_⟩
  refine ⟨_, rfl, _, _, rfl, .int n, _, rfl, ?_⟩
  exact iteF q
/-! check_load, of what is no whole number -/
def spLaidX (K : PySem.W.Frag) (C : Addr) : Sp := fun vs H _ E => ∃ (v : V) (n : String), vs = [v] ∧ Kind K H v n ∧ wholeV v = false ∧ E (.ref C) none H
theorem ok_check_load_x (A : At K mg "check_load" s_check_load ["thing"]) (R : Errs K mg cStoneError cNoLaying cNoLoad cNoPlan cNoText cNoDeed) (GW : Def P w K mg base "is_whole" 1 ["thing"] (spWhole K)) : DefX P w K mg base "check_load" 2 ["thing"] (spLaidX K cNoLoad) := A.defX fun f fd F => by
  refine F.okX sc_check_load (fun vs H Q E h => ?_) (fun cdv A outer s H vs Q E hr h => ?_)
  · obtain ⟨v, n, rfl, _⟩ := h
    rfl
  obtain ⟨v, n, rfl, hk, hw, q⟩ := h
  refine ⟨_, @pss_one _ _ _ (@ps_if _ _ _ _ _ _ _ _ (pt_not (pt_val (pe_def GW hr (@pa_cons _ _ _ _ _ (pv 0) pa_nil (by rfl))))) (@pss_one _ _ _ (ps_raise R.e_NoLoad rfl R.m_NoLoad (@pa_cons _ _ _ _ _ pe_str pa_nil (by rfl)))) pss_nil), ?_⟩
  refine ⟨_, rfl, v, n, rfl, hk, _, rfl, ?_⟩
  rw [hw]
  exact iteT ⟨by decide, q⟩
/-! lowest_thing -/
def spLow : Sp := fun vs H Q _ => ∃ n : Int, vs = [.int n] ∧ Q (.int (Fs.low n)) H
theorem sc_lowest_thing : FnScope ["load"] ["load"] (defScope s_lowest_thing) := ⟨rfl, rfl, rfl, by decide +kernel, rfl, by decide +kernel, by decide +kernel⟩
theorem ok_lowest_thing (A : At K mg "lowest_thing" s_lowest_thing ["load"]) : Def P w K mg base "lowest_thing" 1 ["load"] spLow := A.def fun f fd F => by
  refine F.ok sc_lowest_thing (fun vs H Q E h => ?_) (fun cdv A outer s H vs Q E hr h => ?_)
  · obtain ⟨n, rfl, _⟩ := h
    rfl
  obtain ⟨n, rfl, q⟩ := h
  refine ⟨_, @pss_cons _ _ _ _ _ (@ps_if _ _ _ _ _ _ _ _ (pt_cmpR op_eq (@pe_op _ _ _ _ _ _ _ _ op_mod (pv 0) pe_int) pe_int (nomark _)) (@pss_one _ _ _ (@ps_ret _ _ _ _ pe_int)) pss_nil) (@pss_one _ _ _ (@ps_ret _ _ _ _ (@pe_op _ _ _ _ _ _ _ _ op_sub pe_int (@pe_op _ _ _ _ _ _ _ _ op_mod (pv 0) pe_int)))), ?_⟩
  refine ⟨_, rfl, _, _, rfl, rfl, (by show (0 : Int) < 2; decide), rfl, _, rfl, ?_⟩
  unfold Fs.low at q
  refine ite2 (fun c => ?_) (fun c => ?_)
  · have c' : n % 2 = 0 := V.int.inj (of_decide_eq_true c)
    rw [if_pos c'] at q
    exact q
  · have c' : ¬ n % 2 = 0 := fun z => c (decide_eq_true (show V.int (n % 2) = V.int 0 by rw [z]))
    rw [if_neg c'] at q
    exact ⟨_, rfl, _, _, rfl, rfl, (by show (0 : Int) < 4; decide), _, _, rfl, rfl, q⟩
/-! laid, of a whole number -/
def spLaid : Sp := fun vs H Q _ => ∃ n : Int, vs = [.int n] ∧ (Fs.laid n).length ≤ 1000 ∧ ∀ p H', H p = none → Same H H' → H' p = some (.lst ((Fs.laid n).map V.int)) → Q (.ref p) H'
theorem sc_laid : FnScope ["load", "laying", "rest", "thing"] ["load"] (defScope s_laid) := ⟨rfl, rfl, rfl, by decide +kernel, rfl, by decide +kernel, by decide +kernel⟩
theorem ok_laid (A : At K mg "laid" s_laid ["load"]) (GC : Def P w K mg base "check_load" 2 ["thing"] spCheckLoad) (GL : Def P w K mg base "lowest_thing" 1 ["load"] spLow) : Def P w K mg base "laid" 3 ["load"] spLaid := A.def fun f fd F => by
  refine F.ok sc_laid (fun vs H Q E h => ?_) (fun cdv A outer s H vs Q E hr h => ?_)
  · obtain ⟨n, rfl, _⟩ := h
    rfl
  obtain ⟨n, rfl, hz, q⟩ := h
  have h1 : Room 1 _ := hr.mono (by decide)
  refine ⟨_, @pss_cons _ _ _ _ _ (ps_expr (pe_def GC hr (@pa_cons _ _ _ _ _ (pv 0) pa_nil (by rfl)))) (@pss_cons _ _ _ _ _ (@ps_set _ _ 1 _ _ _ _ sc_laid.nd rfl (Or.inl rfl) (@pe_lst _ _ _ _ pa_nil) (by rfl) (by first | exact .inl rfl | exact .inr rfl | assumption)) (@pss_cons _ _ _ _ _ (@ps_set _ _ 2 _ _ _ _ sc_laid.nd rfl (Or.inl rfl) (pv 0) (by rfl) (by first | exact .inl rfl | exact .inr rfl | assumption)) (@pss_cons _ _ _ _ _ (ps_while PassesOwn.never (pt_cmpR op_ne (pv 2) pe_int (nomark _))
      (@pss_cons _ _ _ _ _ (@ps_set _ _ 3 _ _ _ _ sc_laid.nd rfl (Or.inl rfl) (pe_def GL h1 (@pa_cons _ _ _ _ _ (pv 2) pa_nil (by rfl))) (by rfl) (by first | exact .inl rfl | exact .inr rfl | assumption)) (@pss_cons _ _ _ _ _ (ps_expr (pe_bm PySem.F.plainAttrs_list PySem.F.slot_list_append PySem.F.type_list_append mt_append (pv 1) (@pa_cons _ _ _ _ _ (pv 3) pa_nil (by rfl)))) (@pss_one _ _ _ (@ps_set _ _ 2 _ _ _ _ sc_laid.nd rfl (Or.inl rfl) (@pe_op _ _ _ _ _ _ _ _ op_fdiv (@pe_op _ _ _ _ _ _ _ _ op_sub (pv 2) (pv 3)) pe_int) (by rfl) (by first | exact .inl rfl | exact .inr rfl | assumption)))))) (@pss_one _ _ _ (@ps_ret _ _ _ _ (pv 1)))))), ?_⟩
  refine ⟨_, rfl, n, rfl, ⟨(by show 0 ≤ sizeLine; decide), fun p hp => ?_⟩⟩
  refine ⟨_, rfl, ?_⟩
  refine ⟨fun m σ H' => ∃ (r : Int) (done : List Int) (o : Option V), m = r.natAbs ∧ σ = [some (.int n), some (.ref p), some (.int r), o] ∧ Same H H' ∧ H' p = some (.lst (done.map V.int)) ∧ done ++ Fs.laid r = Fs.laid n,
    ⟨n.natAbs, n, [], none, rfl, rfl, Same.new hp _, upd_same, rfl⟩, ?_⟩
  rintro m σ H' ⟨r, done, o, rfl, rfl, sm, hH, hd⟩
  refine ⟨_, rfl, rfl, _, rfl, ?_⟩
  refine ite2 (fun c => ?_) (fun c => ?_)
  · have c' : ¬ r = 0 := fun z => by rw [z] at c; exact absurd c (by decide)
    have e := Fs.laid_step c'
    rw [e] at hd
    have hl : done.length < 1000 := by
      have := congrArg List.length hd
      rw [List.length_append, List.length_cons] at this
      omega
    refine ⟨fun σ' H'' => ∃ (r' : Int) (done' : List Int) (o' : Option V), σ' = [some (.int n), some (.ref p), some (.int r'), o'] ∧ r'.natAbs < r.natAbs ∧ Same H H'' ∧ H'' p = some (.lst (done'.map V.int)) ∧ done' ++ Fs.laid r' = Fs.laid n, ?_, ?_⟩
    · rintro σ' H'' ⟨r', done', o', rfl, hlt, sm', hH', hd'⟩
      exact ⟨r'.natAbs, hlt, r', done', o', rfl, rfl, sm', hH', hd'⟩
    · refine ⟨_, rfl, r, rfl, ?_⟩
      refine ⟨_, rfl, .inl ⟨rfl, _, SqL.of hH⟩, _, rfl, p, _, _, rfl, rfl, hH, (by rw [List.length_map]; exact small1000 (by omega)), ?_⟩
      refine ⟨_, rfl, _, rfl, _, _, rfl, rfl, _, _, rfl, rfl, ⟨by decide, by decide⟩, ?_⟩
      refine ⟨_, done ++ [Fs.low r], _, rfl, Fs.low_less c', fun b u hb => ?_, ?_, ?_⟩
      · rw [upd_ne (ne_of_none hb hp)]
        exact sm _ _ hb
      · rw [upd_same, List.map_append]
        rfl
      · rw [List.append_assoc, ← hd]
        rfl
  · have c' : r = 0 := by
      by_cases z : r = 0
      · exact z
      · exact absurd (by simp [z]) c
    subst c'
    rw [Fs.laid_zero, List.append_nil] at hd
    subst hd
    exact ⟨_, rfl, q p H' hp sm hH⟩
/-! laid, of what is no whole number -/
theorem ok_laid_x (A : At K mg "laid" s_laid ["load"]) (G : DefX P w K mg base "check_load" 2 ["thing"] (spLaidX K cNoLoad)) : DefX P w K mg base "laid" 3 ["load"] (spLaidX K cNoLoad) := A.defX fun f fd F => by
  refine F.okX sc_laid (fun vs H Q E h => ?_) (fun cdv A outer s H vs Q E hr h => ?_)
  · obtain ⟨v, n, rfl, _⟩ := h
    rfl
  obtain ⟨v, n, rfl, hk, hw, q⟩ := h
  refine ⟨_, @pss_cons _ _ _ _ _ (ps_expr (pe_defX G hr passX (@pa_cons _ _ _ _ _ (pv 0) pa_nil (by rfl)))) pss_never, ?_⟩
  exact ⟨_, rfl, v, n, rfl, hk, hw, q⟩
/-! thing_at: what lies at a place, nothing beyond the end -/
def spThingAt : Sp := fun vs H Q _ => ∃ (a : Addr) (ns : List Int) (k : Nat), vs = [.ref a, .int (k : Int)] ∧ H a = some (.lst (ns.map V.int)) ∧ Q (.int (ns.getD k 0)) H
theorem sc_thing_at : FnScope ["laying", "place"] ["laying", "place"] (defScope s_thing_at) := ⟨rfl, rfl, rfl, by decide +kernel, rfl, by decide +kernel, by decide +kernel⟩
theorem ok_thing_at (A : At K mg "thing_at" s_thing_at ["laying", "place"]) (B : Txt mg) : Def P w K mg base "thing_at" 1 ["laying", "place"] spThingAt := A.def fun f fd F => by
  refine F.ok sc_thing_at (fun vs H Q E h => ?_) (fun cdv A outer s H vs Q E hr h => ?_)
  · obtain ⟨a, ns, k, rfl, _⟩ := h
    rfl
  obtain ⟨a, ns, k, rfl, ha, q⟩ := h
  refine ⟨_, @pss_one _ _ _ (@ps_ret _ _ _ _ (pe_ifExp (pt_cmpR op_lt (pv 1) (pe_callB call_len_seq rfl B.b_len PySem.boot_len (@pa_cons _ _ _ _ _ (pv 0) pa_nil (by rfl))) (nomark _)) (@pe_ix _ _ _ _ _ _ _ ix_list (pv 0) (pv 1) (fun _ _ => rfl)) pe_int)), ?_⟩
  refine ⟨_, rfl, _, rfl, a, _, rfl, .inl (SqL.of ha), _, _, rfl, rfl, _, rfl, ?_⟩
  rw [List.length_map]
  refine ite2 (fun c => ?_) fun c => ?_
  · have hk : k < ns.length := by have := of_decide_eq_true c; omega
    rw [List.getD_eq_getElem?_getD, List.getElem?_eq_getElem hk] at q
    exact ⟨_, rfl, _, rfl, a, _, _, _, rfl, rfl, SqL.of ha, at_int (List.getElem?_eq_getElem hk), q⟩
  · have hk : ¬ (k : Int) < ((ns.length : Nat) : Int) := fun z => c (decide_eq_true z)
    rw [List.getD_eq_getElem?_getD, List.getElem?_eq_none (by omega)] at q
    exact q
/-! moved: in how many places two layings differ -/
def spMoved : Sp := fun vs H Q _ => ∃ (a b : Addr) (ns ms : List Int), vs = [.ref a, .ref b] ∧ H a = some (.lst (ns.map V.int)) ∧ H b = some (.lst (ms.map V.int)) ∧ ns.length ≤ 450 ∧ ms.length ≤ 450 ∧ ∀ H', Same H H' → Q (.int (movedN ns ms)) H'
theorem sc_moved : FnScope ["before", "behind", "length"] ["before", "behind"] (defScope s_moved) := ⟨rfl, rfl, rfl, by decide +kernel, rfl, by decide +kernel, by decide +kernel⟩
theorem ok_moved (A : At K mg "moved" s_moved ["before", "behind"]) (B : Txt mg) (GT : Def P w K mg base "thing_at" 1 ["laying", "place"] spThingAt) : Def P w K mg base "moved" 2 ["before", "behind"] spMoved := A.def fun f fd F => by
  refine F.ok sc_moved (fun vs H Q E h => ?_) (fun cdv A outer s H vs Q E hr h => ?_)
  · obtain ⟨a, b, ns, ms, rfl, _⟩ := h
    rfl
  obtain ⟨a, b, ns, ms, rfl, ha, hb, la, lb, q⟩ := h
  refine ⟨_, @pss_cons _ _ _ _ _ (@ps_set _ _ 2 _ _ _ _ sc_moved.nd rfl (Or.inl rfl) (pe_callB (call_max2 rfl) rfl B.b_max boot_tmax (@pa2 _ _ _ _ _ (pe_callB call_len_seq rfl B.b_len PySem.boot_len (@pa_cons _ _ _ _ _ (pv 0) pa_nil (by rfl))) (pe_callB call_len_seq rfl B.b_len PySem.boot_len (@pa_cons _ _ _ _ _ (pv 1) pa_nil (by rfl))) (by exact fun _ _ => rfl) (by exact fun _ _ => rfl))) (by rfl) (by first | exact .inl rfl | exact .inr rfl | assumption)) (@pss_one _ _ _ (@ps_ret _ _ _ _ (pe_callB call_len_seq rfl B.b_len PySem.boot_len (@pa_cons _ _ _ _ _ (pe_comp (cl := [("behind", s.heap.objs.size + 2), ("before", s.heap.objs.size + 1)]) (fr := ["before", "behind"]) (js := [0, 1]) ⟨rfl, by decide +kernel, by decide +kernel, rfl, rfl, fun y c h => h, fun y h => ?has, by decide +kernel, rfl, fun i y j h1 h2 => ?slots⟩ rfl
      (pi_range1 rfl B.b_range (@pa_cons _ _ _ _ _ (pv 2) pa_nil (by rfl)))
      (fun _ _ _ _ => pifs_one (pt_cmpR op_ne (pe_def GT hr (@pa2 _ _ _ _ _ (pv 1) (pv 0) (by exact fun _ _ => rfl) (by exact fun _ _ => rfl))) (pe_def GT hr (@pa2 _ _ _ _ _ (pv 2) (pv 0) (by exact fun _ _ => rfl) (by exact fun _ _ => rfl))) (nomark _))) (fun _ _ _ _ => pv 0)) pa_nil (by rfl))))), ?_⟩
  case has =>
    have two : ∀ (y : Str) (k : NameKind), k ≠ .local → k ≠ .globalImplicit → (y, k) ∈ ([((".0" : Str), NameKind.local), (("place" : Str), NameKind.local), (("thing_at" : Str), NameKind.globalImplicit), (("before" : Str), NameKind.cell), (("behind" : Str), NameKind.cell)] : List (Str × NameKind)) → y = "before" ∨ y = "behind" := fun y k hk hk2 hm => by
      rcases List.mem_cons.mp hm with e | hm
      · exact absurd (Prod.mk.inj e).2 hk
      rcases List.mem_cons.mp hm with e | hm
      · exact absurd (Prod.mk.inj e).2 hk
      rcases List.mem_cons.mp hm with e | hm
      · exact absurd (Prod.mk.inj e).2 hk2
      rcases List.mem_cons.mp hm with e | hm
      · exact .inl (Prod.mk.inj e).1
      rcases List.mem_cons.mp hm with e | hm
      · exact .inr (Prod.mk.inj e).1
      cases hm
    rcases h with h | h
    · rcases two y .cell (by decide) (by decide) (PySem.mem_of_lookup h) with e | e <;> subst e <;> exact ⟨_, rfl⟩
    · rcases two y .free (by decide) (by decide) (PySem.mem_of_lookup h) with e | e <;> subst e <;> exact ⟨_, rfl⟩
  case slots =>
    cases i with
    | zero =>
      obtain rfl : "before" = y := Option.some.inj h1
      obtain rfl : 0 = j := Option.some.inj h2
      exact ⟨rfl, .inl rfl, .inl rfl⟩
    | succ i =>
      cases i with
      | zero =>
        obtain rfl : "behind" = y := Option.some.inj h1
        obtain rfl : 1 = j := Option.some.inj h2
        exact ⟨rfl, .inl rfl, .inl rfl⟩
      | succ i => simp at h1
  have l1 : (ns.map V.int).length = ns.length := List.length_map _
  have l2 : (ms.map V.int).length = ms.length := List.length_map _
  refine ⟨_, rfl, a, _, rfl, .inl (SqL.of ha), _, rfl, b, _, rfl, .inl (SqL.of hb), _, _, rfl, ?_⟩
  rw [l1, l2]
  obtain ⟨m, em⟩ : ∃ m : Nat, (if ((ms.length : Nat) : Int) > ((ns.length : Nat) : Int) then ((ms.length : Nat) : Int) else ((ns.length : Nat) : Int)) = (m : Int) ∧ m = max ns.length ms.length := by
    refine ⟨max ns.length ms.length, ?_, rfl⟩
    split <;> omega
  obtain ⟨em, em2⟩ := em
  rw [em]
  refine ⟨_, rfl, (m : Int), rfl, by omega, by omega, ?_⟩
  rw [Int.toNat_natCast]
  refine comp_range (fun k => !decide (ns.getD k 0 = ms.getD k 0)) (by omega) (fun k hk H' s' Q' h' => ?_) (fun k hk _ H' s' Q' h' => ?_) fun u H7 nu s7 eu => ?_
  · refine ⟨_, rfl, _, rfl, a, ns, k, rfl, s' _ _ ha, _, rfl, _, rfl, b, ms, k, rfl, s' _ _ hb, rfl, _, rfl, ?_⟩
    rw [ne_dec]
    exact h'
  · exact ⟨_, rfl, h'⟩
  · refine ⟨u, _, rfl, .inl (SqL.of eu), ?_⟩
    rw [List.length_map]
    have := q H7 s7
    unfold movedN at this
    rw [← em2] at this
    exact this
/-! Scale(): how a scale is kept: the whole load behind each deed, the empty scale's first -/
def pre (S : List Int) : List Int := (List.range (S.length + 1)).map fun i => (S.take i).sum
theorem pre_nil : pre [] = [0] := rfl
theorem pre_len (S : List Int) : (pre S).length = S.length + 1 := by unfold pre; rw [List.length_map, List.length_range]
theorem pre_last (S : List Int) : ∃ r, pre S = r ++ [S.sum] := by
  refine ⟨(List.range S.length).map fun i => (S.take i).sum, ?_⟩
  unfold pre
  rw [List.range_succ, List.map_append, List.map_singleton, List.take_length]
theorem pre_snoc (S : List Int) (n : Int) : pre (S ++ [n]) = pre S ++ [S.sum + n] := by
  unfold pre
  rw [List.length_append, List.length_singleton, List.range_succ, List.map_append, List.map_singleton]
  congr 1
  · refine List.map_congr_left fun i hi => ?_
    have := List.mem_range.mp hi
    rw [List.take_append_of_le_length (by omega)]
  · rw [List.take_of_length_le (by rw [List.length_append, List.length_singleton]; exact Nat.le_refl _), List.sum_append, List.sum_singleton]
def fldsS (l : Addr) : List (Str × V) := putF "loads" (.ref l) []
theorem fldsS_loads (l : Addr) : (fldsS l).lookup ("loads" : Str) = some (.ref l) := by
  unfold fldsS
  rw [lookup_putF, if_pos rfl]
theorem fldsS_no (l : Addr) {m : Str} (h : ¬ m = "loads") : (fldsS l).lookup m = none := by
  unfold fldsS
  rw [lookup_putF, if_neg h]
  all_goals rfl
/-- a scale stands at p with the loads S on it -/
def Sc (C : Addr) : SC := fun H p F S => ∃ dx l, F = [p, l] ∧ p ≠ l ∧ H p = some (.ins C dx (fldsS l)) ∧ H l = some (.lst ((pre S).map V.int))
theorem sc_ok (C : Addr) : ScOk (Sc C) C where
  ob := fun ⟨dx, l, _, _, h, _⟩ => ⟨dx, _, h, fldsS_no _ (by decide +kernel), fldsS_no _ (by decide +kernel), fldsS_no _ (by decide +kernel), fldsS_no _ (by decide +kernel)⟩
  mem := fun ⟨dx, l, e, _⟩ => by rw [e]; simp
  stay := fun ⟨dx, l, e, n, h1, h2⟩ k => ⟨dx, l, e, n, k _ (by rw [e]; simp) _ h1, k _ (by rw [e]; simp) _ h2⟩
  has := fun ⟨dx, l, e, n, h1, h2⟩ b hb => by
    rw [e] at hb
    rcases List.mem_cons.mp hb with z | z
    · exact ⟨_, z ▸ h1⟩
    · exact ⟨_, List.mem_singleton.mp z ▸ h2⟩
theorem mdef_imp {CX : CXT} {C : Addr} {m : Str} {k : Nat} {ps : List Str} {sp sp' : Sp} (G : MDef CX P w K mg base C m k ps sp) (h : ∀ vs H Q E, sp' vs H Q E → sp vs H Q E) : MDef CX P w K mg base C m k ps sp' := by
  obtain ⟨f, fd, hm, hb, F⟩ := G
  exact ⟨f, fd, hm, hb, F.imp h⟩
def spWeighsS (C : Addr) : Sp := fun vs H Q _ => ∃ p F S, vs = [.ref p] ∧ Sc C H p F S ∧ Q (.int S.sum) H
theorem sc_Scale_weighs : FnScope ["self"] ["self"] (defScope s_Scale_weighs) := ⟨rfl, rfl, rfl, by decide +kernel, rfl, by decide +kernel, by decide +kernel⟩
theorem ok_Scale_weighsS (A : MAt K cScale "weighs" "Scale.weighs" s_Scale_weighs ["self"]) (O : Own_Scale K mg cScale) : MDef CX0 P w K mg base cScale "weighs" 1 ["self"] (spWeighsS cScale) := A.def fun f fd F => by
  refine F.ok sc_Scale_weighs (fun vs H Q E h => ?_) (fun cdv A outer s H vs Q E hr h => ?_)
  · obtain ⟨p, F, S, rfl, _⟩ := h
    rfl
  obtain ⟨p, F, S, rfl, ⟨dx, l, rfl, npl, hp, hl⟩, q⟩ := h
  refine ⟨_, @pss_one _ _ _ (@ps_ret _ _ _ _ (@pe_ix _ _ _ _ _ _ _ ix_list (pe_fld (pv 0) rfl) (pe_un un_neg pe_int) (fun _ _ => rfl))), ?_⟩
  obtain ⟨r, er⟩ := pre_last S
  refine ⟨_, rfl, p, cScale, dx, _, _, rfl, hp, O.cl, O.n_loads, fldsS_loads _, _, rfl, l, _, _, _, rfl, rfl, SqL.of hl, ?_, q⟩
  rw [er, List.map_append]
  exact atI_last _ _
def spPansS (C : Addr) : Sp := fun vs H Q _ => ∃ p F S, vs = [.ref p] ∧ Sc C H p F S ∧ OkS S ∧ ∀ d H', H d = none → Same H H' → H' d = some (.lst ((Fs.laid S.sum).map V.int)) → Q (.ref d) H'
theorem sc_Scale_pans : FnScope ["self"] ["self"] (defScope s_Scale_pans) := ⟨rfl, rfl, rfl, by decide +kernel, rfl, by decide +kernel, by decide +kernel⟩
theorem ok_Scale_pansS (A : MAt K cScale "pans" "Scale.pans" s_Scale_pans ["self"]) (O : Own_Scale K mg cScale) (GA : Def P w K mg base "laid" 3 ["load"] spLaid) (AW : MAt K cScale "weighs" "Scale.weighs" s_Scale_weighs ["self"]) : MDef CX0 P w K mg base cScale "pans" 4 ["self"] (spPansS cScale) := A.def fun f fd F => by
  have GW : MDef CX0 P w K mg base cScale "weighs" 1 ["self"] (spWeighsS cScale) := ok_Scale_weighsS AW O
  refine F.ok sc_Scale_pans (fun vs H Q E h => ?_) (fun cdv A outer s H vs Q E hr h => ?_)
  · obtain ⟨p, F, S, rfl, _⟩ := h
    rfl
  obtain ⟨p, F, S, rfl, hs, ok, q⟩ := h
  have h1 : Room 1 _ := hr.mono (by decide)
  refine ⟨_, @pss_one _ _ _ (@ps_ret _ _ _ _ (pe_def GA hr (@pa_cons _ _ _ _ _ (pe_mdef0 GW O.cl h1 pass0 (pv 0)) pa_nil (by rfl)))), ?_⟩
  have lS := ok.laid
  obtain ⟨dx, fs, hp, _, _, _, hw⟩ := (sc_ok cScale).ob hs
  exact ⟨_, rfl, p, dx, _, rfl, hp, hw, p, F, S, rfl, hs, S.sum, rfl, by omega, fun d H1 nd s1 e1 => q d H1 nd s1 e1⟩
theorem sc_Scale_init : FnScope ["self"] ["self"] (defScope s_Scale_init) := ⟨rfl, rfl, rfl, by decide +kernel, rfl, by decide +kernel, by decide +kernel⟩
theorem ok_Scale_init (A : IAt K cScale "Scale.__init__" s_Scale_init ["self"]) (O : Own_Scale K mg cScale) : IDef P w K mg base cScale 1 ["self"] (spScInit (Sc cScale) cScale) := A.def fun f fd F => by
  refine F.ok sc_Scale_init (fun vs H Q E h => ?_) (fun cdv A outer s H vs Q E hr h => ?_)
  · obtain ⟨p, dx, rfl, _⟩ := h
    rfl
  obtain ⟨p, dx, rfl, hp, q⟩ := h
  refine ⟨_, @pss_one _ _ _ (ps_fld (pv 0) (@pe_lst _ _ _ _ (@pa_cons _ _ _ _ _ pe_int pa_nil (by rfl))) rfl), ?_⟩
  refine ⟨by decide, fun l hl => ?_⟩
  have npl : p ≠ l := ne_of_none hp hl
  refine ⟨_, rfl, p, cScale, dx, [], rfl, (by rw [upd_ne npl]; exact hp), O.cl, O.n_loads, (by show 0 < 1000; decide), ?_⟩
  refine q _ [p, l] ⟨fun b o nb e => ?_, fun b e => ?_⟩ (fun b hb => ?_) ⟨dx, l, rfl, npl, upd_same, ?_⟩
  · have hb : b ≠ p := fun z => nb (by rw [z]; simp)
    rw [upd_ne hb, upd_ne (ne_of_none e hl)]
    exact e
  · have e2 := upd_free (u := .ins cScale dx []) (by rw [upd_ne npl]; exact hp) e
    exact (Same.new hl _).free e2
  · rcases List.mem_cons.mp hb with z | z
    · exact .inl (by rw [z]; simp)
    · exact .inr (by rw [List.mem_singleton.mp z]; exact hl)
  · rw [upd_ne npl.symm, upd_same]
    rfl
/-! Scale.lay -/
theorem sc_Scale_lay : FnScope ["self", "load", "before"] ["self", "load"] (defScope s_Scale_lay) := ⟨rfl, rfl, rfl, by decide +kernel, rfl, by decide +kernel, by decide +kernel⟩
theorem ok_Scale_lay (A : MAt K cScale "lay" "Scale.lay" s_Scale_lay ["self", "load"]) (O : Own_Scale K mg cScale) (GC : Def P w K mg base "check_load" 2 ["thing"] spCheckLoad) (GA : Def P w K mg base "laid" 3 ["load"] spLaid) (GM : Def P w K mg base "moved" 2 ["before", "behind"] spMoved)
    (AW : MAt K cScale "weighs" "Scale.weighs" s_Scale_weighs ["self"]) (AP : MAt K cScale "pans" "Scale.pans" s_Scale_pans ["self"]) : MDef CX0 P w K mg base cScale "lay" 5 ["self", "load"] (spScLay (Sc cScale)) := A.def fun f fd F => by
  have GW : MDef CX0 P w K mg base cScale "weighs" 1 ["self"] (spWeighsS cScale) := ok_Scale_weighsS AW O
  have GP : MDef CX0 P w K mg base cScale "pans" 4 ["self"] (spPansS cScale) := ok_Scale_pansS AP O GA AW
  refine F.ok sc_Scale_lay (fun vs H Q E h => ?_) (fun cdv A outer s H vs Q E hr h => ?_)
  · obtain ⟨p, F, S, n, rfl, _⟩ := h
    rfl
  obtain ⟨p, F, S, n, rfl, ⟨dx, l, rfl, npl, hp, hl⟩, ok, q⟩ := h
  have h1 : Room 1 _ := hr.mono (by decide)
  have h2 : Room 2 _ := hr.mono (by decide)
  refine ⟨_, @pss_cons _ _ _ _ _ (ps_expr (pe_def GC h2 (@pa_cons _ _ _ _ _ (pv 1) pa_nil (by rfl)))) (@pss_cons _ _ _ _ _ (@ps_set _ _ 2 _ _ _ _ sc_Scale_lay.nd rfl (Or.inl rfl) (pe_mdef0 GP O.cl hr pass0 (pv 0)) (by rfl) (by first | exact .inl rfl | exact .inr rfl | assumption)) (@pss_cons _ _ _ _ _ (ps_expr (pe_bm PySem.F.plainAttrs_list PySem.F.slot_list_append PySem.F.type_list_append mt_append (pe_fld (pv 0) rfl) (@pa_cons _ _ _ _ _ (@pe_op _ _ _ _ _ _ _ _ op_add (pe_mdef0 GW O.cl h1 pass0 (pv 0)) (pv 1)) pa_nil (by rfl)))) (@pss_one _ _ _ (@ps_ret _ _ _ _ (pe_def GM h2 (@pa2 _ _ _ _ _ (pv 2) (pe_mdef0 GP O.cl hr pass0 (pv 0)) (by exact fun _ _ => rfl) (by exact fun _ _ => rfl))))))), ?_⟩
  have lS := ok.front.laid
  have lT := ok.laid
  have hSl := ok.1
  rw [List.length_append, List.length_singleton] at hSl
  refine ⟨_, rfl, n, rfl, ?_⟩
  refine ⟨_, rfl, p, dx, _, rfl, hp, fldsS_no _ (by decide +kernel), p, [p, l], S, rfl, ⟨dx, l, rfl, npl, hp, hl⟩, ok.front, fun d1 H1 nd1 s1 e1 => ?_⟩
  have hp1 := s1 _ _ hp
  have hl1 := s1 _ _ hl
  have d1p : d1 ≠ p := fun z => by rw [z, hp] at nd1; cases nd1
  have d1l : d1 ≠ l := fun z => by rw [z, hl] at nd1; cases nd1
  refine ⟨_, rfl, p, cScale, dx, _, _, rfl, hp1, O.cl, O.n_loads, fldsS_loads _, .inl ⟨rfl, _, SqL.of hl1⟩, _, rfl, p, dx, _, rfl, hp1, fldsS_no _ (by decide +kernel), p, [p, l], S, rfl, ⟨dx, l, rfl, npl, hp1, hl1⟩, _, rfl, _, _, rfl, rfl, l, _, _, rfl, rfl, hl1, (by rw [List.length_map, pre_len]; exact small1000 (by omega)), ?_⟩
  have e0 : (pre S).map V.int ++ [.int (S.sum + n)] = (pre (S ++ [n])).map V.int := by rw [pre_snoc, List.map_append]; rfl
  have hp3 : upd H1 l (.lst ((pre S).map V.int ++ [.int (S.sum + n)])) p = some (.ins cScale dx (fldsS l)) := by rw [upd_ne npl]; exact hp1
  have hl3 : upd H1 l (.lst ((pre S).map V.int ++ [.int (S.sum + n)])) l = some (.lst ((pre (S ++ [n])).map V.int)) := by rw [upd_same, e0]
  have e3 : upd H1 l (.lst ((pre S).map V.int ++ [.int (S.sum + n)])) d1 = some (.lst ((Fs.laid S.sum).map V.int)) := by rw [upd_ne d1l]; exact e1
  have k3 : Keep [p, l] H (upd H1 l (.lst ((pre S).map V.int ++ [.int (S.sum + n)]))) := (s1.keep _).trans (Keep.upd (by simp) hl1 _)
  generalize upd H1 l (.lst ((pre S).map V.int ++ [.int (S.sum + n)])) = H3 at hp3 hl3 e3 k3 ⊢
  refine ⟨_, rfl, _, rfl, p, dx, _, rfl, hp3, fldsS_no _ (by decide +kernel), p, [p, l], S ++ [n], rfl, ⟨dx, l, rfl, npl, hp3, hl3⟩, ok, fun d5 H5 nd5 s5 e5 => ?_⟩
  refine ⟨d1, d5, _, _, rfl, s5 _ _ e3, e5, by omega, by omega, fun H6 s6 => ?_⟩
  exact q H6 [p, l] (k3.trans ((s5.trans s6).keep _)) (Grow.refl _ _) ⟨dx, l, rfl, npl, (s5.trans s6) _ _ hp3, (s5.trans s6) _ _ hl3⟩
/-! Scale.lay, of what is no load -/
theorem ok_Scale_lay_x (A : MAt K cScale "lay" "Scale.lay" s_Scale_lay ["self", "load"]) (G : DefX P w K mg base "check_load" 2 ["thing"] (spLaidX K cNoLoad)) : MDef (CX1 P w) P w K mg base cScale "lay" 5 ["self", "load"] (spScLayX (Sc cScale) K cNoLoad) := A.def fun f fd F => by
  refine F.okX sc_Scale_lay (fun vs H Q E h => ?_) (fun cdv A outer s H vs Q E hr h => ?_)
  · obtain ⟨p, F, S, v, n, rfl, _⟩ := h
    rfl
  obtain ⟨p, F, S, v, n, rfl, hs, ok, hk, hw, q⟩ := h
  have h2 : Room 2 _ := hr.mono (by decide)
  refine ⟨_, @pss_cons _ _ _ _ _ (ps_expr (pe_defX G h2 passX (@pa_cons _ _ _ _ _ (pv 1) pa_nil (by rfl)))) pss_never, ?_⟩
  exact ⟨_, rfl, v, n, rfl, hk, hw, q H F (Keep.refl _ _) (Grow.refl _ _) hs⟩
/-! Scale.back -/
theorem sc_Scale_back : FnScope ["self", "before"] ["self"] (defScope s_Scale_back) := ⟨rfl, rfl, rfl, by decide +kernel, rfl, by decide +kernel, by decide +kernel⟩
theorem ok_Scale_back (A : MAt K cScale "back" "Scale.back" s_Scale_back ["self"]) (B : Txt mg) (O : Own_Scale K mg cScale) (GA : Def P w K mg base "laid" 3 ["load"] spLaid) (GM : Def P w K mg base "moved" 2 ["before", "behind"] spMoved)
    (AW : MAt K cScale "weighs" "Scale.weighs" s_Scale_weighs ["self"]) (AP : MAt K cScale "pans" "Scale.pans" s_Scale_pans ["self"]) : MDef CX0 P w K mg base cScale "back" 5 ["self"] (spScBack (Sc cScale)) := A.def fun f fd F => by
  have GP : MDef CX0 P w K mg base cScale "pans" 4 ["self"] (spPansS cScale) := ok_Scale_pansS AP O GA AW
  refine F.ok sc_Scale_back (fun vs H Q E h => ?_) (fun cdv A outer s H vs Q E hr h => ?_)
  · obtain ⟨p, F, S, n, rfl, _⟩ := h
    rfl
  obtain ⟨p, F, S, n, rfl, ⟨dx, l, rfl, npl, hp, hl⟩, ok, q⟩ := h
  have h2 : Room 2 _ := hr.mono (by decide)
  refine ⟨_, @pss_cons _ _ _ _ _ (@ps_if _ _ _ _ _ _ _ _ (pt_cmpR op_eq (pe_callB call_len_seq rfl B.b_len PySem.boot_len (@pa_cons _ _ _ _ _ (pe_fld (pv 0) rfl) pa_nil (by rfl))) pe_int (nomark _)) pss_never pss_nil) (@pss_cons _ _ _ _ _ (@ps_set _ _ 1 _ _ _ _ sc_Scale_back.nd rfl (Or.inl rfl) (pe_mdef0 GP O.cl hr pass0 (pv 0)) (by rfl) (by first | exact .inl rfl | exact .inr rfl | assumption)) (@pss_cons _ _ _ _ _ (ps_expr (pe_bm0 PySem.F.plainAttrs_list PySem.F.slot_list_pop PySem.F.type_list_pop mt_pop (pe_fld (pv 0) rfl))) (@pss_one _ _ _ (@ps_ret _ _ _ _ (pe_def GM h2 (@pa2 _ _ _ _ _ (pv 1) (pe_mdef0 GP O.cl hr pass0 (pv 0)) (by exact fun _ _ => rfl) (by exact fun _ _ => rfl))))))), ?_⟩
  have lS := ok.front.laid
  have lT := ok.laid
  have e0 : (pre (S ++ [n])).map V.int = (pre S).map V.int ++ [.int (S.sum + n)] := by rw [pre_snoc, List.map_append]; rfl
  refine ⟨_, rfl, p, cScale, dx, _, _, rfl, hp, O.cl, O.n_loads, fldsS_loads _, l, _, rfl, .inl (SqL.of hl), rfl, _, rfl, ?_⟩
  rw [List.length_map, pre_len, List.length_append, List.length_singleton, decide_eq_false (fun z => by have := V.int.inj z; omega)]
  refine iteF ?_
  refine ⟨_, rfl, p, dx, _, rfl, hp, fldsS_no _ (by decide +kernel), p, [p, l], S ++ [n], rfl, ⟨dx, l, rfl, npl, hp, hl⟩, ok, fun d1 H1 nd1 s1 e1 => ?_⟩
  have hp1 := s1 _ _ hp
  have hl1 := s1 _ _ hl
  rw [e0] at hl1
  have d1l : d1 ≠ l := fun z => by rw [z, hl] at nd1; cases nd1
  have hlast : ((pre S).map V.int ++ [V.int (S.sum + n)])[((pre S).map V.int ++ [V.int (S.sum + n)]).length - 1]? = some (.int (S.sum + n)) := by
    rw [List.length_append, List.length_singleton, Nat.add_sub_cancel, List.getElem?_append_right (Nat.le_refl _), Nat.sub_self]
    rfl
  refine ⟨_, rfl, p, cScale, dx, _, _, rfl, hp1, O.cl, O.n_loads, fldsS_loads _, .inl ⟨rfl, _, SqL.of hl1⟩, l, _, _, rfl, rfl, hl1, hlast, ?_⟩
  have ed : ((pre S).map V.int ++ [V.int (S.sum + n)]).dropLast = (pre S).map V.int := by simp
  rw [ed]
  have hp3 : upd H1 l (.lst ((pre S).map V.int)) p = some (.ins cScale dx (fldsS l)) := by rw [upd_ne npl]; exact hp1
  have hl3 : upd H1 l (.lst ((pre S).map V.int)) l = some (.lst ((pre S).map V.int)) := upd_same
  have e3 : upd H1 l (.lst ((pre S).map V.int)) d1 = some (.lst ((Fs.laid (S ++ [n]).sum).map V.int)) := by rw [upd_ne d1l]; exact e1
  have k3 : Keep [p, l] H (upd H1 l (.lst ((pre S).map V.int))) := (s1.keep _).trans (Keep.upd (by simp) hl1 _)
  generalize upd H1 l (.lst ((pre S).map V.int)) = H3 at hp3 hl3 e3 k3 ⊢
  refine ⟨_, rfl, _, rfl, p, dx, _, rfl, hp3, fldsS_no _ (by decide +kernel), p, [p, l], S, rfl, ⟨dx, l, rfl, npl, hp3, hl3⟩, ok.front, fun d5 H5 nd5 s5 e5 => ?_⟩
  refine ⟨d1, d5, _, _, rfl, s5 _ _ e3, e5, by omega, by omega, fun H6 s6 => ?_⟩
  exact q H6 [p, l] (k3.trans ((s5.trans s6).keep _)) (Grow.refl _ _) ⟨dx, l, rfl, npl, (s5.trans s6) _ _ hp3, (s5.trans s6) _ _ hl3⟩
/-! Scale.back, of an empty scale -/
theorem ok_Scale_back_x (A : MAt K cScale "back" "Scale.back" s_Scale_back ["self"]) (B : Txt mg) (O : Own_Scale K mg cScale) (R : Errs K mg cStoneError cNoLaying cNoLoad cNoPlan cNoText cNoDeed) : MDef (CX1 P w) P w K mg base cScale "back" 5 ["self"] (spScBackX (Sc cScale) cNoDeed) := A.def fun f fd F => by
  refine F.okX sc_Scale_back (fun vs H Q E h => ?_) (fun cdv A outer s H vs Q E hr h => ?_)
  · obtain ⟨p, F, rfl, _⟩ := h
    rfl
  obtain ⟨p, F, rfl, ⟨dx, l, rfl, npl, hp, hl⟩, q⟩ := h
  refine ⟨_, @pss_cons _ _ _ _ _ (@ps_if _ _ _ _ _ _ _ _ (pt_cmpR op_eq (pe_callB call_len_seq rfl B.b_len PySem.boot_len (@pa_cons _ _ _ _ _ (pe_fld (pv 0) rfl) pa_nil (by rfl))) pe_int (nomark _)) (@pss_one _ _ _ (ps_raise R.e_NoDeed rfl R.m_NoDeed (@pa_cons _ _ _ _ _ pe_str pa_nil (by rfl)))) pss_nil) pss_never, ?_⟩
  refine ⟨_, rfl, p, cScale, dx, _, _, rfl, hp, O.cl, O.n_loads, fldsS_loads _, l, _, rfl, .inl (SqL.of hl), rfl, _, rfl, ?_⟩
  exact iteT ⟨by decide +kernel, q _ [p, l] (Keep.refl _ _) (Grow.refl _ _) ⟨dx, l, rfl, npl, hp, hl⟩⟩
/-! Scale.pans -/
theorem ok_Scale_pans (A : MAt K cScale "pans" "Scale.pans" s_Scale_pans ["self"]) (O : Own_Scale K mg cScale) (GA : Def P w K mg base "laid" 3 ["load"] spLaid) (AW : MAt K cScale "weighs" "Scale.weighs" s_Scale_weighs ["self"]) : MDef CX0 P w K mg base cScale "pans" 4 ["self"] (spScPans (Sc cScale)) := mdef_imp (ok_Scale_pansS A O GA AW) fun vs H Q E h => by
  obtain ⟨p, F, S, e, hs, ok, q⟩ := h
  refine ⟨p, F, S, e, hs, ok, fun d H' nd s' e' => q d H' F nd (fun z => ?_) (s'.keep _) (Grow.refl _ _) ((sc_ok cScale).same hs s') e'⟩
  obtain ⟨o, ho⟩ := (sc_ok cScale).has hs d z
  rw [ho] at nd
  cases nd
/-! Scale.weighs -/
theorem ok_Scale_weighs (A : MAt K cScale "weighs" "Scale.weighs" s_Scale_weighs ["self"]) (O : Own_Scale K mg cScale) : MDef CX0 P w K mg base cScale "weighs" 1 ["self"] (spScWeighs (Sc cScale)) := mdef_imp (ok_Scale_weighsS A O) fun vs H Q E h => by
  obtain ⟨p, F, S, e, hs, ok, q⟩ := h
  exact ⟨p, F, S, e, hs, q H F (Keep.refl _ _) (Grow.refl _ _) hs⟩
/-! _law_cell_at -/
def spCell (K : PySem.W.Frag) : Sp := fun vs H Q _ => ∃ (a : Addr) (ns : List Int) (k : Nat), vs = [.ref a, .int k] ∧ SqL K H a (ns.map V.int) ∧ Q (.int (ns.getD k 0)) H
theorem sc_law_cell_at : FnScope ["_law_script", "_law_k"] ["_law_script", "_law_k"] (defScope s_law_cell_at) := ⟨rfl, rfl, rfl, by decide +kernel, rfl, by decide +kernel, by decide +kernel⟩
theorem ok_law_cell_at (A : At K mg "_law_cell_at" s_law_cell_at ["_law_script", "_law_k"]) (B : Txt mg) : Def P w K mg base "_law_cell_at" 1 ["_law_script", "_law_k"] (spCell K) := A.def fun f fd F => by
  refine F.ok sc_law_cell_at (fun vs H Q E h => ?_) (fun cdv A outer s H vs Q E hr h => ?_)
  · obtain ⟨a, ns, k, rfl, _⟩ := h
    rfl
  obtain ⟨a, ns, k, rfl, hS, q⟩ := h
  refine ⟨_, @pss_cons _ _ _ _ _ (@ps_if _ _ _ _ _ _ _ _ (pt_cmpR op_lt (pv 1) (pe_callB call_len_seq rfl B.b_len PySem.boot_len (@pa_cons _ _ _ _ _ (pv 0) pa_nil (by rfl))) (nomark _)) (@pss_one _ _ _ (@ps_ret _ _ _ _ (@pe_ix _ _ _ _ _ _ _ ix_list (pv 0) (pv 1) (fun _ _ => rfl)))) pss_nil) (@pss_one _ _ _ (@ps_ret _ _ _ _ pe_int)), ?_⟩
  refine ⟨_, rfl, _, rfl, a, _, rfl, .inl hS, _, _, rfl, rfl, _, rfl, ?_⟩
  refine ite2 (fun c => ?_) (fun c => ?_)
  · have c' : (k : Int) < (((ns.map V.int).length : Nat) : Int) := of_decide_eq_true c
    rw [List.length_map] at c'
    have hk : k < ns.length := by omega
    have hx : ns[k]? = some ns[k] := List.getElem?_eq_getElem hk
    refine ⟨_, rfl, _, rfl, a, _, _, _, rfl, rfl, hS, at_int hx, ?_⟩
    have e : ns.getD k 0 = ns[k] := by rw [List.getD_eq_getElem?_getD, hx]; rfl
    rw [e] at q
    exact q
  · have c' : ¬ (k : Int) < (((ns.map V.int).length : Nat) : Int) := of_decide_eq_false (Bool.eq_false_iff.mpr c)
    rw [List.length_map] at c'
    have e : ns.getD k 0 = 0 := by rw [List.getD_eq_getElem?_getD, List.getElem?_eq_none (by omega)]; rfl
    rw [e] at q
    exact q
/-! _law_whole -/
theorem sc_law_whole : FnScope ["_law_found"] ["_law_found"] (defScope s_law_whole) := ⟨rfl, rfl, rfl, by decide +kernel, rfl, by decide +kernel, by decide +kernel⟩
theorem ok_law_whole (A : At K mg "_law_whole" s_law_whole ["_law_found"]) (B : Txt mg) : Def P w K mg base "_law_whole" 1 ["_law_found"] (spWhole K) := A.def fun f fd F => by
  refine F.ok sc_law_whole (fun vs H Q E h => ?_) (fun cdv A outer s H vs Q E hr h => ?_)
  · obtain ⟨v, n, rfl, _⟩ := h
    rfl
  obtain ⟨v, n, rfl, hk, q⟩ := h
  refine ⟨_, @pss_one _ _ _ (@ps_ret _ _ _ _ (pe_and (pe_callB call_isinst rfl B.b_isinstance boot_isinstance (@pa_cons _ _ _ _ _ (pv 0) (@pa_cons _ _ _ _ _ (pe_ty B.b_int boot_tint) pa_nil (by rfl)) (by rfl)))
    (pe_one (pe_not (pe_callB call_isinst rfl B.b_isinstance boot_isinstance (@pa_cons _ _ _ _ _ (pv 0) (@pa_cons _ _ _ _ _ (pe_ty B.b_bool boot_tbool) pa_nil (by rfl)) (by rfl))))))), ?_⟩
  refine ⟨_, rfl, v, .ty "int", .type n, .type "int", _, rfl, rfl, hk, kit_int hk, _, rfl, ?_⟩
  cases v with
  | int i =>
    refine iteT ⟨_, rfl, _, .ty "bool", .type n, .type "bool", _, rfl, rfl, hk, kit_bool hk, _, rfl, ?_⟩
    exact q
  | bl b =>
    refine iteT ⟨_, rfl, _, .ty "bool", .type n, .type "bool", _, rfl, rfl, hk, kit_bool hk, _, rfl, ?_⟩
    exact q
  | _ => exact iteF q
/-! _law_weight -/
def spWeight : Sp := fun vs H Q _ => ∃ k : Nat, vs = [.int k] ∧ k ≤ 1000 ∧ Q (.int (2 ^ k)) H
theorem sc_law_weight : FnScope ["_law_many", "_law_found", "_law_k"] ["_law_many"] (defScope s_law_weight) := ⟨rfl, rfl, rfl, by decide +kernel, rfl, by decide +kernel, by decide +kernel⟩
theorem ok_law_weight (A : At K mg "_law_weight" s_law_weight ["_law_many"]) (B : Txt mg) : Def P w K mg base "_law_weight" 1 ["_law_many"] spWeight := A.def fun f fd F => by
  refine F.ok sc_law_weight (fun vs H Q E h => ?_) (fun cdv A outer s H vs Q E hr h => ?_)
  · obtain ⟨k, rfl, _⟩ := h
    rfl
  obtain ⟨k, rfl, hk, q⟩ := h
  refine ⟨_, @pss_cons _ _ _ _ _ (@ps_set _ _ 1 _ _ _ _ sc_law_weight.nd rfl (Or.inl rfl) pe_int (by rfl) (by first | exact .inl rfl | exact .inr rfl | assumption)) (@pss_cons _ _ _ _ _ (ps_for PassesOwn.never rfl (pi_range1 rfl B.b_range (@pa_cons _ _ _ _ _ (pv 0) pa_nil (by rfl))) (pg_name (i := 2) sc_law_weight.nd rfl (Or.inl rfl))
      (@pss_one _ _ _ (@ps_set _ _ 1 _ _ _ _ sc_law_weight.nd rfl (Or.inl rfl) (@pe_op _ _ _ _ _ _ _ _ op_add (pv 1) (pv 1)) (by rfl) (by first | exact .inl rfl | exact .inr rfl | assumption)))) (@pss_one _ _ _ (@ps_ret _ _ _ _ (pv 1)))), ?_⟩
  refine ⟨_, rfl, (k : Int), rfl, by omega, by omega, ?_⟩
  rw [Int.toNat_natCast]
  refine for_range (n := k) (fun i σ H2 => ∃ o : Option V, σ = [some (.int (k : Int)), some (.int (2 ^ i)), o] ∧ H2 = H) ⟨none, rfl, rfl⟩ ?_ ?_
  · rintro i σ H2 hi ⟨o, rfl, rfl⟩
    refine ⟨_, rfl, _, rfl, _, _, rfl, rfl, ⟨some (.int (0 + (i : Int))), ?_, rfl⟩⟩
    rw [show (2 : Int) ^ (i + 1) = 2 ^ i + 2 ^ i by rw [Int.pow_succ]; omega]
    rfl
  · rintro σ H2 ⟨o, rfl, rfl⟩
    exact ⟨_, rfl, q⟩
/-! _law_load_by -/
def spLoadBy : Sp := fun vs H Q _ => ∃ c y m : Int, vs = [.int c, .int y, .int m] ∧ 0 < m ∧ m ≤ 2 ^ 328 ∧ ∀ (n : Int) (H' : Hp), Same H H' → n.natAbs ≤ 2 ^ 330 → Q (.int n) H'
theorem pow_le {k : Nat} (h : k ≤ 300) : 0 < (2 : Int) ^ k ∧ (2 : Int) ^ k ≤ 2 ^ 300 := by
  refine ⟨Fs.two_pow_pos k, ?_⟩
  have := Fs.pow_mono h
  rw [← Fs.cast_two_pow k, ← Fs.cast_two_pow 300]
  exact Int.ofNat_le.mpr this
theorem parts_of {z : Int} (h : 0 ≤ z ∧ z < 2) : ∃ d : Int, atI [V.int 1, .int 3] z = some (.int d) ∧ 0 < d ∧ d < 16 := by
  have : z = 0 ∨ z = 1 := by omega
  rcases this with rfl | rfl
  · exact ⟨1, rfl, by decide, by decide⟩
  · exact ⟨3, rfl, by decide, by decide⟩
theorem div_near {t d : Int} (ht : 0 < t) (hd : 0 < d) : 0 ≤ t / d ∧ t / d ≤ t := ⟨Int.ediv_nonneg (Int.le_of_lt ht) (Int.le_of_lt hd), Int.ediv_le_self _ (Int.le_of_lt ht)⟩
theorem sc_law_load_by : FnScope ["_law_cell", "_law_way", "_law_most", "_law_found"] ["_law_cell", "_law_way", "_law_most"] (defScope s_law_load_by) := ⟨rfl, rfl, rfl, by decide +kernel, rfl, by decide +kernel, by decide +kernel⟩
theorem ok_law_load_by (A : At K mg "_law_load_by" s_law_load_by ["_law_cell", "_law_way", "_law_most"]) (GW : Def P w K mg base "_law_weight" 1 ["_law_many"] spWeight) :
    Def P w K mg base "_law_load_by" 2 ["_law_cell", "_law_way", "_law_most"] spLoadBy := A.def fun f fd F => by
  refine F.ok sc_law_load_by (fun vs H Q E h => ?_) (fun cdv A outer s H vs Q E hr h => ?_)
  · obtain ⟨c, y, m, rfl, _⟩ := h
    rfl
  obtain ⟨c, y, m, rfl, m0, m1, q⟩ := h
  refine ⟨_, @pss_cons _ _ _ _ _ (@ps_if _ _ _ _ _ _ _ _ (pt_cmpR op_eq (pv 1) pe_int (nomark _)) (@pss_one _ _ _ (@ps_ret _ _ _ _ (@pe_op _ _ _ _ _ _ _ _ op_sub (@pe_op _ _ _ _ _ _ _ _ op_mod (pv 0) (@pe_op _ _ _ _ _ _ _ _ op_add (@pe_op _ _ _ _ _ _ _ _ op_mul pe_int (pv 2)) pe_int)) (pv 2)))) pss_nil) (@pss_cons _ _ _ _ _ (@ps_if _ _ _ _ _ _ _ _ (pt_cmpR op_lt (pv 1) pe_int (nomark _)) (@pss_one _ _ _ (@ps_ret _ _ _ _ (@pe_op _ _ _ _ _ _ _ _ op_sub (@pe_op _ _ _ _ _ _ _ _ op_mod (pv 0) (@pe_op _ _ _ _ _ _ _ _ op_add (@pe_op _ _ _ _ _ _ _ _ op_mul pe_int (@pe_op _ _ _ _ _ _ _ _ op_pow pe_int pe_int)) pe_int)) (@pe_op _ _ _ _ _ _ _ _ op_pow pe_int pe_int)))) pss_nil) (@pss_cons _ _ _ _ _ (@ps_if _ _ _ _ _ _ _ _ (pt_cmpR op_eq (pv 1) pe_int (nomark _)) (@pss_one _ _ _ (@ps_ret _ _ _ _ (@pe_op _ _ _ _ _ _ _ _ op_sub (@pe_op _ _ _ _ _ _ _ _ op_mod (pv 0) pe_int) pe_int))) pss_nil) (@pss_cons _ _ _ _ _ (@ps_set _ _ 3 _ _ _ _ sc_law_load_by.nd rfl (Or.inl rfl) (@pe_op _ _ _ _ _ _ _ _ op_sub (@pe_op _ _ _ _ _ _ _ _ op_add (@pe_op _ _ _ _ _ _ _ _ op_fdiv (pe_def GW hr (@pa_cons _ _ _ _ _ (@pe_op _ _ _ _ _ _ _ _ op_mod (pv 0) pe_int) pa_nil (by rfl))) (@pe_ix _ _ _ _ _ _ _ ix_list (@pe_lst _ _ _ _ (@pa2 _ _ _ _ _ pe_int pe_int (by exact fun _ _ => rfl) (by exact fun _ _ => rfl))) (@pe_op _ _ _ _ _ _ _ _ op_mod (@pe_op _ _ _ _ _ _ _ _ op_fdiv (pv 0) pe_int) pe_int) (fun _ _ => rfl))) (@pe_op _ _ _ _ _ _ _ _ op_mod (@pe_op _ _ _ _ _ _ _ _ op_fdiv (pv 0) pe_int) pe_int)) pe_int) (by rfl) (by first | exact .inl rfl | exact .inr rfl | assumption)) (@pss_cons _ _ _ _ _ (@ps_if _ _ _ _ _ _ _ _ (pt_cmpR op_eq (@pe_op _ _ _ _ _ _ _ _ op_mod (@pe_op _ _ _ _ _ _ _ _ op_fdiv (pv 0) pe_int) pe_int) pe_int (nomark _)) (@pss_one _ _ _ (@ps_ret _ _ _ _ (@pe_op _ _ _ _ _ _ _ _ op_sub pe_int (pv 3)))) pss_nil) (@pss_one _ _ _ (@ps_ret _ _ _ _ (pv 3))))))), ?_⟩
  have p1 : CPow 10 18 := ⟨by decide, by decide, by decide⟩
  have e18 : (10 : Int) ^ (18 : Int).toNat = 1000000000000000000 := by decide +kernel
  refine ⟨_, rfl, rfl, _, rfl, ?_⟩
  refine ite2 (fun _ => ?_) (fun _ => ?_)
  · have b3 : (0 : Int) < 2 * m + 1 := by omega
    refine ⟨_, rfl, _, rfl, _, _, rfl, rfl, .inl ⟨by decide, by decide⟩, _, _, rfl, rfl, _, _, rfl, rfl, b3, _, rfl, _, _, rfl, rfl, q _ _ (Same.refl _) ?_⟩
    have := Int.emod_nonneg c (Int.ne_of_gt b3)
    have := Int.emod_lt_of_pos c b3
    generalize c % (2 * m + 1) = z at *
    omega
  refine ⟨_, rfl, _, _, rfl, rfl, _, rfl, ?_⟩
  refine ite2 (fun _ => ?_) (fun _ => ?_)
  · refine ⟨_, rfl, _, _, rfl, rfl, p1, _, _, rfl, rfl, .inl ⟨by decide, by decide⟩, _, _, rfl, rfl, _, _, rfl, rfl, (show (0 : Int) < 2 * 10 ^ (18 : Int).toNat + 1 by decide +kernel), _, _, rfl, rfl, p1, _, _, rfl, rfl, q _ _ (Same.refl _) ?_⟩
    rw [e18]
    omega
  refine ⟨_, rfl, rfl, _, rfl, ?_⟩
  refine ite2 (fun _ => ⟨_, rfl, _, _, rfl, rfl, (by show (0 : Int) < 9; decide), _, _, rfl, rfl, q _ _ (Same.refl _) (by omega)⟩) (fun _ => ?_)
  obtain ⟨k, ek, hk⟩ : ∃ k : Nat, c % 60 = (k : Int) ∧ k ≤ 300 := ⟨(c % 60).toNat, by omega, by omega⟩
  obtain ⟨w1, w2⟩ := pow_le hk
  refine ⟨_, rfl, _, _, rfl, rfl, (by show (0 : Int) < 60; decide), k, congrArg (fun z => [V.int z]) ek, by omega, ?_⟩
  obtain ⟨d, hd, d1, d2⟩ := parts_of (z := c / 60 % 2) (by omega)
  refine ⟨by decide, fun l hl => ?_⟩
  have s1 := Same.new hl (.lst [V.int 1, .int 3])
  refine ⟨_, rfl, _, _, rfl, rfl, ⟨by decide, by decide⟩, _, _, rfl, rfl, (by show (0 : Int) < 2; decide), l, _, _, _, rfl, rfl, SqL.of upd_same, hd, ?_⟩
  refine ⟨_, _, rfl, rfl, ⟨d1, by omega⟩, ?_⟩
  refine ⟨_, rfl, _, _, rfl, rfl, ⟨by decide, by decide⟩, _, _, rfl, rfl, (by show (0 : Int) < 3; decide), _, _, rfl, rfl, _, _, rfl, rfl, ?_⟩
  obtain ⟨v1, v2⟩ := div_near w1 d1
  generalize (2 : Int) ^ k = t at w1 w2 v1 v2 ⊢
  dsimp only
  generalize t / d = u at v1 v2 ⊢
  refine ⟨_, rfl, _, _, rfl, rfl, ⟨by decide, by decide⟩, _, _, rfl, rfl, (by show (0 : Int) < 2; decide), rfl, _, rfl, ?_⟩
  refine ite2 (fun _ => ⟨_, rfl, _, _, rfl, rfl, q _ _ s1 (by omega)⟩) (fun _ => ⟨_, rfl, q _ _ s1 (by omega)⟩)
/-! _law_sum -/
def spLawSum (K : PySem.W.Frag) : Sp := fun vs H Q _ => ∃ (a : Addr) (ns : List Int), vs = [.ref a] ∧ SqL K H a (ns.map V.int) ∧ ∀ H', Same H H' → Q (.int (Fs.load ns)) H'
theorem sc_law_sum : FnScope ["_law_things", "_law_found", "_law_thing"] ["_law_things"] (defScope s_law_sum) := ⟨rfl, rfl, rfl, by decide +kernel, rfl, by decide +kernel, by decide +kernel⟩
theorem ok_law_sum (A : At K mg "_law_sum" s_law_sum ["_law_things"]) : Def P w K mg base "_law_sum" 1 ["_law_things"] (spLawSum K) := A.def fun f fd F => by
  refine F.ok sc_law_sum (fun vs H Q E h => ?_) (fun cdv A outer s H vs Q E hr h => ?_)
  · obtain ⟨a, ns, rfl, _⟩ := h
    rfl
  obtain ⟨a, ns, rfl, hS, q⟩ := h
  refine ⟨_, @pss_cons _ _ _ _ _ (@ps_set _ _ 1 _ _ _ _ sc_law_sum.nd rfl (Or.inl rfl) pe_int (by rfl) (by first | exact .inl rfl | exact .inr rfl | assumption)) (@pss_cons _ _ _ _ _ (ps_for PassesOwn.never rfl (pi_list (pe_rsl (pv 0))) (pg_name (i := 2) sc_law_sum.nd rfl (Or.inl rfl))
      (@pss_one _ _ _ (@ps_set _ _ 1 _ _ _ _ sc_law_sum.nd rfl (Or.inl rfl) (@pe_op _ _ _ _ _ _ _ _ op_add (@pe_op _ _ _ _ _ _ _ _ op_add (pv 1) (pv 1)) (pv 2)) (by rfl) (by first | exact .inl rfl | exact .inr rfl | assumption)))) (@pss_one _ _ _ (@ps_ret _ _ _ _ (pv 1)))), ?_⟩
  refine ⟨_, rfl, a, _, rfl, hS, fun p hp => ?_⟩
  have s1 := Same.new hp (.lst (ns.map V.int).reverse)
  have ep : upd H p (.lst (ns.map V.int).reverse) p = some (.lst (ns.map V.int).reverse) := upd_same
  generalize upd H p (.lst (ns.map V.int).reverse) = H1 at s1 ep ⊢
  refine ⟨p, rfl, ⟨_, SqL.of ep⟩, for_list (K := K) (a := p) (xs := (ns.map V.int).reverse) (fun i σ H2 => ∃ o : Option V, σ = [some (.ref a), some (.int (Fs.load (ns.drop (ns.length - i)))), o] ∧ H2 = H1) ?_ ?_ ?_ ?_⟩
  · refine ⟨none, ?_, rfl⟩
    rw [Nat.sub_zero, List.drop_length]
    rfl
  · rintro i σ H2 _ ⟨o, _, rfl⟩
    exact SqL.of ep
  · rintro i y σ H2 hy ⟨o, rfl, rfl⟩
    obtain ⟨z, hz, rfl, hi⟩ := get_rev hy
    refine ⟨_, rfl, _, rfl, _, _, rfl, rfl, _, rfl, _, _, rfl, rfl, ⟨some (.int z), ?_, rfl⟩⟩
    have e := Fs.load_drop hz
    rw [show ns.length - 1 - i + 1 = ns.length - i by omega] at e
    rw [show ns.length - (i + 1) = ns.length - 1 - i by omega, e, show z + 2 * Fs.load (ns.drop (ns.length - i)) = Fs.load (ns.drop (ns.length - i)) + Fs.load (ns.drop (ns.length - i)) + z by omega]
    rfl
  · rintro σ H2 ⟨o, rfl, rfl⟩
    refine ⟨_, rfl, ?_⟩
    rw [List.length_reverse, List.length_map, Nat.sub_self, List.drop_zero]
    exact q _ s1
/-! _law_neat, of a neat laying -/
def spLawNeat : Sp := fun vs H Q _ => ∃ (a : Addr) (ns : List Int), vs = [.ref a] ∧ Rd H a (.lst (ns.map V.int)) ∧ ns.length ≤ 1000 ∧ Fs.neatB ns = true ∧ ∀ H', Same H H' → Q (.bl true) H'
theorem at_last (r : List Int) (z : Int) : atI ((r ++ [z]).map V.int) (-1) = some (.int z) := by
  rw [List.map_append]
  exact atI_last _ _
theorem sc_law_neat : FnScope ["_law_things", "_law_k"] ["_law_things"] (defScope s_law_neat) := ⟨rfl, rfl, rfl, by decide +kernel, rfl, by decide +kernel, by decide +kernel⟩
theorem ok_law_neat (A : At K mg "_law_neat" s_law_neat ["_law_things"]) (B : Txt mg) (G : Def P w K mg base "_law_whole" 1 ["_law_found"] (spWhole K)) : Def P w K mg base "_law_neat" 2 ["_law_things"] spLawNeat := A.def fun f fd F => by
  refine F.ok sc_law_neat (fun vs H Q E h => ?_) (fun cdv A outer s H vs Q E hr h => ?_)
  · obtain ⟨a, ns, rfl, _⟩ := h
    rfl
  obtain ⟨a, ns, rfl, hR, hz, hN, q⟩ := h
  refine ⟨_, @pss_cons _ _ _ _ _ (@ps_if _ _ _ _ _ _ _ _ (pt_not (pt_val (pe_callB call_isinst rfl B.b_isinstance boot_isinstance (@pa_cons _ _ _ _ _ (pv 0) (@pa_cons _ _ _ _ _ (pe_ty B.b_list boot_tlist) pa_nil (by rfl)) (by rfl))))) (@pss_one _ _ _ (@ps_ret _ _ _ _ pe_bl)) pss_nil) (@pss_cons _ _ _ _ _ (ps_for PassesOwn.never rfl (pi_range1 rfl B.b_range (@pa_cons _ _ _ _ _ (pe_callB call_len_seq rfl B.b_len PySem.boot_len (@pa_cons _ _ _ _ _ (pv 0) pa_nil (by rfl))) pa_nil (by rfl))) (pg_name (i := 1) sc_law_neat.nd rfl (Or.inl rfl))
      (@pss_cons _ _ _ _ _ (@ps_if _ _ _ _ _ _ _ _ (PW.pt (pw_or (pt_not (pt_val (pe_def G hr (@pa_cons _ _ _ _ _ (@pe_ix _ _ _ _ _ _ _ ix_list (pv 0) (pv 1) (fun _ _ => rfl)) pa_nil (by rfl))))) (pw_or1 (pt_cmpR op_notIn_seq (@pe_ix _ _ _ _ _ _ _ ix_list (pv 0) (pv 1) (fun _ _ => rfl)) (@pe_tup _ _ _ _ _ (@pa3 _ _ _ _ _ _ _ pe_int pe_int (pe_un un_neg pe_int) (by exact fun _ _ => rfl) (by exact fun _ _ => rfl) (by exact fun _ _ => rfl))) rfl)))) (@pss_one _ _ _ (@ps_ret _ _ _ _ pe_bl)) pss_nil) (@pss_one _ _ _ (@ps_if _ _ _ _ _ _ _ _ (PW.pt (pw_and (pt_cmpR op_gt (pv 1) pe_int (nomark _)) (pw_and (pt_cmpR op_ne (@pe_ix _ _ _ _ _ _ _ ix_list (pv 0) (@pe_op _ _ _ _ _ _ _ _ op_sub (pv 1) pe_int) (fun _ _ => rfl)) pe_int (nomark _)) (pw_and1 (pt_cmpR op_ne (@pe_ix _ _ _ _ _ _ _ ix_list (pv 0) (pv 1) (fun _ _ => rfl)) pe_int (nomark _)))))) (@pss_one _ _ _ (@ps_ret _ _ _ _ pe_bl)) pss_nil)))) (@pss_one _ _ _ (@ps_ret _ _ _ _ (pe_or (pe_cmpR op_eq (pe_callB call_len_seq rfl B.b_len PySem.boot_len (@pa_cons _ _ _ _ _ (pv 0) pa_nil (by rfl))) pe_int (nomark _)) (pe_one (pe_cmpR op_ne (@pe_ix _ _ _ _ _ _ _ ix_list (pv 0) (pe_un un_neg pe_int) (fun _ _ => rfl)) pe_int (nomark _))))))), ?_⟩
  have hl : (ns.map V.int).length = ns.length := List.length_map _
  have ha := Fs.neat_all hN
  obtain ⟨hap, hen⟩ : Fs.apartB ns = true ∧ Fs.ended ns = ns := by
    unfold Fs.neatB at hN
    rw [Bool.and_eq_true, Bool.and_eq_true, decide_eq_true_iff] at hN
    exact hN.2
  refine ⟨_, rfl, _, .ty "list", .type "list", .type "list", _, rfl, rfl, hR.kind, kit_list hR.kind, _, rfl, ?_⟩
  refine iteF ⟨_, rfl, a, _, rfl, .inl hR.sq, ((ns.map V.int).length : Int), rfl, by omega, by omega, ?_⟩
  rw [hl, Int.toNat_natCast]
  refine for_range (n := ns.length) (fun i σ H2 => ∃ o : Option V, σ = [some (.ref a), o] ∧ Same H H2) ⟨none, rfl, Same.refl _⟩ ?_ ?_
  · rintro i σ H2 hi ⟨o, rfl, s2⟩
    have hS2 : SqL K H2 a (ns.map V.int) := (s2.rd hR).sq
    have hx : ns[i]? = some ns[i] := List.getElem?_eq_getElem hi
    have hzt : Fs.triB ns[i] = true := List.all_eq_true.mp ha _ (List.getElem_mem hi)
    rw [Int.zero_add]
    refine ⟨_, rfl, _, rfl, a, _, _, _, rfl, rfl, hS2, at_int hx, _, _, rfl, .int _, _, rfl, ?_⟩
    refine iteF ⟨_, rfl, _, rfl, a, _, _, _, rfl, rfl, hS2, at_int hx, _, rfl, (by show 3 ≤ sizeLine; decide), fun t ht => ?_⟩
    refine ⟨t, _, rfl, .inr (SqT.of upd_same), rfl, flat_tri, _, rfl, ?_⟩
    rw [if_pos rfl, in_tri hzt]
    have s3 := s2.trans (Same.new ht (.tup [.int 1, .int 0, .int (-1)]))
    refine iteF ?_
    have hS3 : SqL K (upd H2 t (.tup [.int 1, .int 0, .int (-1)])) a (ns.map V.int) := (s3.rd hR).sq
    refine ⟨_, rfl, _, _, rfl, rfl, _, rfl, ?_⟩
    refine ite2 (fun c => ?_) fun _ => iteF ⟨_, rfl, s3⟩
    have i0 : 0 < i := by have := of_decide_eq_true c; omega
    have hy : ns[i - 1]? = some (ns[i - 1]'(by omega)) := List.getElem?_eq_getElem (by omega)
    refine ⟨_, rfl, _, rfl, _, _, rfl, rfl, a, _, _, _, rfl, rfl, hS3, (by rw [show ((i : Nat) : Int) - 1 = ((i - 1 : Nat) : Int) by omega]; exact at_int hy), rfl, _, rfl, ?_⟩
    refine ite2 (fun c1 => ?_) fun _ => iteF ⟨_, rfl, s3⟩
    refine ⟨_, rfl, _, rfl, a, _, _, _, rfl, rfl, hS3, at_int hx, rfl, _, rfl, ?_⟩
    refine ite2 (fun c2 => ?_) fun _ => ⟨_, rfl, s3⟩
    exfalso
    rcases Fs.apart_get (k := i - 1) hap hy (by rw [show i - 1 + 1 = i by omega]; exact hx) with z | z
    · rw [z] at c1; exact absurd c1 (by decide)
    · rw [z] at c2; exact absurd c2 (by decide)
  · rintro σ H2 ⟨o, rfl, s2⟩
    have hS2 : SqL K H2 a (ns.map V.int) := (s2.rd hR).sq
    refine ⟨_, rfl, a, _, rfl, .inl hS2, rfl, _, rfl, ?_⟩
    rcases Fs.nil_or_snoc ns with e | ⟨r, z, e⟩
    · subst e
      exact iteT (q _ s2)
    · refine ite2 (fun _ => q _ s2) fun _ => ?_
      subst e
      have nz := (Fs.ended_snoc_iff r z).mp hen
      refine ⟨_, rfl, _, rfl, a, _, _, _, rfl, rfl, hS2, at_last r z, rfl, ?_⟩
      rw [decide_eq_false fun c => nz (V.int.inj c)]
      exact q _ s2
/-! _law_apart: in how many places two layings differ -/
def spApart : Sp := fun vs H Q _ => ∃ (a b : Addr) (ns ms : List Int), vs = [.ref a, .ref b] ∧ H a = some (.lst (ns.map V.int)) ∧ H b = some (.lst (ms.map V.int)) ∧ ns.length ≤ 450 ∧ ms.length ≤ 450 ∧ ∀ H', Same H H' → Q (.int (movedN ns ms)) H'
theorem sc_law_apart : FnScope ["_law_one", "_law_other", "_law_most", "_law_left", "_law_right"] ["_law_one", "_law_other"] (defScope s_law_apart) := ⟨rfl, rfl, rfl, by decide +kernel, rfl, by decide +kernel, by decide +kernel⟩
theorem ok_law_apart (A : At K mg "_law_apart" s_law_apart ["_law_one", "_law_other"]) (B : Txt mg) : Def P w K mg base "_law_apart" 1 ["_law_one", "_law_other"] spApart := A.def fun f fd F => by
  refine F.ok sc_law_apart (fun vs H Q E h => ?_) (fun cdv A outer s H vs Q E hr h => ?_)
  · obtain ⟨a, b, ns, ms, rfl, _⟩ := h
    rfl
  obtain ⟨a, b, ns, ms, rfl, ha, hb, la, lb, q⟩ := h
  refine ⟨_, @pss_cons _ _ _ _ _ (@ps_set _ _ 2 _ _ _ _ sc_law_apart.nd rfl (Or.inl rfl) (pe_callB (call_max2 rfl) rfl B.b_max boot_tmax (@pa2 _ _ _ _ _ (pe_callB call_len_seq rfl B.b_len PySem.boot_len (@pa_cons _ _ _ _ _ (pv 0) pa_nil (by rfl))) (pe_callB call_len_seq rfl B.b_len PySem.boot_len (@pa_cons _ _ _ _ _ (pv 1) pa_nil (by rfl))) (by exact fun _ _ => rfl) (by exact fun _ _ => rfl))) (by rfl) (by first | exact .inl rfl | exact .inr rfl | assumption)) (@pss_cons _ _ _ _ _ (@ps_set _ _ 3 _ _ _ _ sc_law_apart.nd rfl (Or.inr rfl) (@pe_op _ _ _ _ _ _ _ _ op_cat (pv 0) (@pe_op _ _ _ _ _ _ _ _ op_rep (@pe_lst _ _ _ _ (@pa_cons _ _ _ _ _ pe_int pa_nil (by rfl))) (@pe_op _ _ _ _ _ _ _ _ op_sub (pv 2) (pe_callB call_len_seq rfl B.b_len PySem.boot_len (@pa_cons _ _ _ _ _ (pv 0) pa_nil (by rfl)))))) (by rfl) (by first | exact .inl rfl | exact .inr rfl | assumption)) (@pss_cons _ _ _ _ _ (@ps_set _ _ 4 _ _ _ _ sc_law_apart.nd rfl (Or.inr rfl) (@pe_op _ _ _ _ _ _ _ _ op_cat (pv 1) (@pe_op _ _ _ _ _ _ _ _ op_rep (@pe_lst _ _ _ _ (@pa_cons _ _ _ _ _ pe_int pa_nil (by rfl))) (@pe_op _ _ _ _ _ _ _ _ op_sub (pv 2) (pe_callB call_len_seq rfl B.b_len PySem.boot_len (@pa_cons _ _ _ _ _ (pv 1) pa_nil (by rfl)))))) (by rfl) (by first | exact .inl rfl | exact .inr rfl | assumption)) (@pss_one _ _ _ (@ps_ret _ _ _ _ (pe_callB call_len_seq rfl B.b_len PySem.boot_len (@pa_cons _ _ _ _ _ (pe_comp (cl := [("_law_right", s.heap.objs.size + 2), ("_law_left", s.heap.objs.size + 1)]) (fr := ["_law_left", "_law_right"]) (js := [3, 4]) ⟨rfl, by decide +kernel, by decide +kernel, rfl, rfl, fun y c h => h, fun y h => ?has, by decide +kernel, rfl, fun i y j h1 h2 => ?slots⟩ rfl
      (pi_range1 rfl B.b_range (@pa_cons _ _ _ _ _ (pv 2) pa_nil (by rfl)))
      (fun _ _ _ _ => pifs_one (pt_cmpR op_ne (@pe_ix _ _ _ _ _ _ _ (ix_listK K) (pv 1) (pv 0) (fun _ _ => rfl)) (@pe_ix _ _ _ _ _ _ _ (ix_listK K) (pv 2) (pv 0) (fun _ _ => rfl)) (nomark _))) (fun _ _ _ _ => pv 0)) pa_nil (by rfl))))))), ?_⟩
  case has =>
    have two : ∀ (y : Str) (k : NameKind), k ≠ .local → (y, k) ∈ ([((".0" : Str), NameKind.local), (("_law_k" : Str), NameKind.local), (("_law_left" : Str), NameKind.cell), (("_law_right" : Str), NameKind.cell)] : List (Str × NameKind)) → y = "_law_left" ∨ y = "_law_right" := fun y k hk hm => by
      rcases List.mem_cons.mp hm with e | hm
      · exact absurd (Prod.mk.inj e).2 hk
      rcases List.mem_cons.mp hm with e | hm
      · exact absurd (Prod.mk.inj e).2 hk
      rcases List.mem_cons.mp hm with e | hm
      · exact .inl (Prod.mk.inj e).1
      rcases List.mem_cons.mp hm with e | hm
      · exact .inr (Prod.mk.inj e).1
      cases hm
    rcases h with h | h
    · rcases two y .cell (by decide) (PySem.mem_of_lookup h) with e | e <;> subst e <;> exact ⟨_, rfl⟩
    · rcases two y .free (by decide) (PySem.mem_of_lookup h) with e | e <;> subst e <;> exact ⟨_, rfl⟩
  case slots =>
    cases i with
    | zero =>
      obtain rfl : "_law_left" = y := Option.some.inj h1
      obtain rfl : 3 = j := Option.some.inj h2
      exact ⟨rfl, .inl rfl, .inl rfl⟩
    | succ i =>
      cases i with
      | zero =>
        obtain rfl : "_law_right" = y := Option.some.inj h1
        obtain rfl : 4 = j := Option.some.inj h2
        exact ⟨rfl, .inl rfl, .inl rfl⟩
      | succ i => simp at h1
  have l1 : (ns.map V.int).length = ns.length := List.length_map _
  have l2 : (ms.map V.int).length = ms.length := List.length_map _
  refine ⟨_, rfl, a, _, rfl, .inl (SqL.of ha), _, rfl, b, _, rfl, .inl (SqL.of hb), _, _, rfl, ?_⟩
  rw [l1, l2]
  obtain ⟨m, em⟩ : ∃ m : Nat, (if ((ms.length : Nat) : Int) > ((ns.length : Nat) : Int) then ((ms.length : Nat) : Int) else ((ns.length : Nat) : Int)) = (m : Int) ∧ m = max ns.length ms.length := by
    refine ⟨max ns.length ms.length, ?_, rfl⟩
    split <;> omega
  obtain ⟨em, em2⟩ := em
  rw [em]
  have m1 : ns.length ≤ m := by omega
  have m2 : ms.length ≤ m := by omega
  have m3 : m ≤ 450 := by omega
  refine ⟨_, rfl, by decide, fun z1 n1 => ?_⟩
  have s1 := Same.new n1 (.lst [.int 0])
  have e1 : upd H z1 (.lst [.int 0]) z1 = some (.lst [.int 0]) := upd_same
  generalize upd H z1 (.lst [.int 0]) = H1 at s1 e1 ⊢
  refine ⟨_, rfl, _, rfl, a, _, rfl, .inl (SqL.of (s1 _ _ ha)), _, _, rfl, rfl, z1, ((m - ns.length : Nat) : Int), _, rfl, (by rw [l1]; exact congrArg V.int (by omega)), e1, by omega, by omega, (by rw [Int.toNat_natCast, List.length_singleton]; exact small (by omega)), fun z2 n2 => ?_⟩
  rw [Int.toNat_natCast, flat_zeros]
  have s2 := Same.new n2 (.lst ((List.replicate (m - ns.length) (0 : Int)).map V.int))
  have e2 : upd H1 z2 (.lst ((List.replicate (m - ns.length) (0 : Int)).map V.int)) z2 = some (.lst ((List.replicate (m - ns.length) (0 : Int)).map V.int)) := upd_same
  generalize upd H1 z2 (.lst ((List.replicate (m - ns.length) (0 : Int)).map V.int)) = H2 at s2 e2 ⊢
  refine ⟨a, z2, _, _, rfl, rfl, s2 _ _ (s1 _ _ ha), e2, (by rw [List.length_map, List.length_map, List.length_replicate]; exact small (by omega)), fun zl nl => ?_⟩
  rw [← List.map_append]
  show tSeq _ _ _ _ (upd H2 zl (.lst ((padTo ns m).map V.int)))
  have s3 := Same.new nl (.lst ((padTo ns m).map V.int))
  have e3 : upd H2 zl (.lst ((padTo ns m).map V.int)) zl = some (.lst ((padTo ns m).map V.int)) := upd_same
  generalize upd H2 zl (.lst ((padTo ns m).map V.int)) = H3 at s3 e3 ⊢
  have t3 := s1.trans (s2.trans s3)
  refine ⟨_, rfl, by decide, fun z4 n4 => ?_⟩
  have s4 := Same.new n4 (.lst [.int 0])
  have e4 : upd H3 z4 (.lst [.int 0]) z4 = some (.lst [.int 0]) := upd_same
  generalize upd H3 z4 (.lst [.int 0]) = H4 at s4 e4 ⊢
  refine ⟨_, rfl, _, rfl, b, _, rfl, .inl (SqL.of (s4 _ _ (t3 _ _ hb))), _, _, rfl, rfl, z4, ((m - ms.length : Nat) : Int), _, rfl, (by rw [l2]; exact congrArg V.int (by omega)), e4, by omega, by omega, (by rw [Int.toNat_natCast, List.length_singleton]; exact small (by omega)), fun z5 n5 => ?_⟩
  rw [Int.toNat_natCast, flat_zeros]
  have s5 := Same.new n5 (.lst ((List.replicate (m - ms.length) (0 : Int)).map V.int))
  have e5 : upd H4 z5 (.lst ((List.replicate (m - ms.length) (0 : Int)).map V.int)) z5 = some (.lst ((List.replicate (m - ms.length) (0 : Int)).map V.int)) := upd_same
  generalize upd H4 z5 (.lst ((List.replicate (m - ms.length) (0 : Int)).map V.int)) = H5 at s5 e5 ⊢
  refine ⟨b, z5, _, _, rfl, rfl, s5 _ _ (s4 _ _ (t3 _ _ hb)), e5, (by rw [List.length_map, List.length_map, List.length_replicate]; exact small (by omega)), fun zr nr => ?_⟩
  rw [← List.map_append]
  have s6 := Same.new nr (.lst ((padTo ms m).map V.int))
  have e6 : upd H5 zr (.lst ((padTo ms m).map V.int)) zr = some (.lst ((padTo ms m).map V.int)) := upd_same
  rw [show ms ++ List.replicate (m - ms.length) 0 = padTo ms m from rfl]
  generalize upd H5 zr (.lst ((padTo ms m).map V.int)) = H6 at s6 e6 ⊢
  have e36 := s6 _ _ (s5 _ _ (s4 _ _ e3))
  refine ⟨_, rfl, (m : Int), rfl, by omega, by omega, ?_⟩
  rw [Int.toNat_natCast]
  refine comp_range (fun k => !decide (ns.getD k 0 = ms.getD k 0)) (by omega) (fun k hk H' s' Q' h' => ?_) (fun k hk _ H' s' Q' h' => ?_) fun u H7 nu s7 eu => ?_
  · refine ⟨_, rfl, _, rfl, zl, _, _, _, rfl, rfl, SqL.of (s' _ _ e36), at_int (pad_get hk), _, rfl, _, rfl, zr, _, _, _, rfl, rfl, SqL.of (s' _ _ e6), at_int (pad_get hk), rfl, _, rfl, ?_⟩
    rw [ne_dec]
    exact h'
  · exact ⟨_, rfl, h'⟩
  · refine ⟨u, _, rfl, .inl (SqL.of eu), ?_⟩
    rw [List.length_map]
    have := q H7 (t3.trans (s4.trans (s5.trans (s6.trans s7))))
    unfold movedN at this
    rw [← em2] at this
    exact this
/-! _law_looked -/
def spLooked (Sc : SC) : Sp := fun vs H Q _ => ∃ (p lo ro it x y : Addr) (F : List Addr) (S prev : List Int) (its : List V) (m : Nat), vs = [.ref p, .ref lo, .ref ro, .int m] ∧ Sc H p F S ∧ OkS S ∧ H lo = some (.lst (S.map V.int)) ∧ lo ∉ F ∧ H ro = some (.lst (its ++ [.ref it])) ∧ ro ∉ F ∧ its.length ≤ 500 ∧
  H it = some (.lst [.ref x, .ref y]) ∧ it ∉ F ∧ H y = some (.lst (prev.map V.int)) ∧ y ∉ F ∧ prev.length ≤ 450 ∧ m = movedN prev (Fs.laid S.sum) ∧
  ∀ (H' : Hp) (F' : List Addr) (it' a b : Addr), H it' = none → H a = none → H b = none → it' ≠ a → it' ≠ b → a ≠ b → Keep (ro :: F) H H' → Grow H F F' → Sc H' p F' S → H' ro = some (.lst (its ++ [.ref it] ++ [.ref it'])) → H' it' = some (.lst [.ref a, .ref b]) →
    H' a = some (.lst ((Fs.laid S.sum).map V.int)) → H' b = some (.lst ((Fs.laid S.sum).map V.int)) → it' ∉ F' → a ∉ F' → b ∉ F' → Q (.bl true) H'
theorem sc_law_looked : FnScope ["_law_scale", "_law_loads", "_law_row", "_law_many", "_law_now", "_law_whole_here"] ["_law_scale", "_law_loads", "_law_row", "_law_many"] (defScope s_law_looked) := ⟨rfl, rfl, rfl, by decide +kernel, rfl, by decide +kernel, by decide +kernel⟩
theorem ok_law_looked (A : At K mg "_law_looked" s_law_looked ["_law_scale", "_law_loads", "_law_row", "_law_many"]) (B : Txt mg) (O : Own_Scale K mg cScale) (GP : MDef CX0 P w K mg base cScale "pans" 4 ["self"] (spScPans (Sc cScale))) (GW : MDef CX0 P w K mg base cScale "weighs" 1 ["self"] (spScWeighs (Sc cScale)))
    (GI : Def P w K mg base "_law_whole" 1 ["_law_found"] (spWhole K)) (GN : Def P w K mg base "_law_neat" 2 ["_law_things"] spLawNeat) (GS : Def P w K mg base "_law_sum" 1 ["_law_things"] (spLawSum K)) (GA : Def P w K mg base "_law_apart" 1 ["_law_one", "_law_other"] spApart) :
    Def P w K mg base "_law_looked" 6 ["_law_scale", "_law_loads", "_law_row", "_law_many"] (spLooked (Sc cScale)) := A.def fun f fd F => by
  refine F.ok sc_law_looked (fun vs H Q E h => ?_) (fun cdv A outer s H vs Q E hr h => ?_)
  · obtain ⟨p, lo, ro, it, x, y, F, S, prev, its, m, rfl, _⟩ := h
    rfl
  obtain ⟨p, lo, ro, it, x, y, F, S, prev, its, m, rfl, hs, ok, hlo, nlo, hro, nro, hil, hit, nit, hy, ny, hpl, em, q⟩ := h
  have h1 : Room 1 _ := hr.mono (by decide)
  have h2 : Room 2 _ := hr.mono (by decide)
  have h4 : Room 4 _ := hr.mono (by decide)
  have SO := sc_ok cScale
  refine ⟨_, @pss_cons _ _ _ _ _ (@ps_set _ _ 4 _ _ _ _ sc_law_looked.nd rfl (Or.inl rfl) (pe_mdef0 GP O.cl h4 pass0 (pv 0)) (by rfl) (by first | exact .inl rfl | exact .inr rfl | assumption)) (@pss_cons _ _ _ _ _ (@ps_set _ _ 5 _ _ _ _ sc_law_looked.nd rfl (Or.inl rfl) (pe_mdef0 GW O.cl h1 pass0 (pv 0)) (by rfl) (by first | exact .inl rfl | exact .inr rfl | assumption)) (@pss_cons _ _ _ _ _ (@ps_if _ _ _ _ _ _ _ _ (PW.pt (pw_or (pt_not (pt_val (pe_def GI h1 (@pa_cons _ _ _ _ _ (pv 5) pa_nil (by rfl))))) (pw_or (pt_cmpR op_ne (pv 5) (pe_callB (call_sum rfl) rfl B.b_sum boot_tsum (@pa_cons _ _ _ _ _ (pv 1) pa_nil (by rfl))) (nomark _)) (pw_or (pt_not (pt_val (pe_def GN h2 (@pa_cons _ _ _ _ _ (pv 4) pa_nil (by rfl))))) (pw_or1 (pt_cmpR op_ne (pe_def GS h1 (@pa_cons _ _ _ _ _ (pv 4) pa_nil (by rfl))) (pv 5) (nomark _))))))) (@pss_one _ _ _ (@ps_ret _ _ _ _ pe_bl)) pss_nil) (@pss_cons _ _ _ _ _ (@ps_if _ _ _ _ _ _ _ _ (PW.pt (pw_or (pt_not (pt_val (pe_def GI h1 (@pa_cons _ _ _ _ _ (pv 3) pa_nil (by rfl))))) (pw_or1 (pt_cmpR op_ne (pv 3) (pe_def GA h1 (@pa2 _ _ _ _ _ (@pe_ix _ _ _ _ _ _ _ ix_list (@pe_ix _ _ _ _ _ _ _ ix_list (pv 2) (pe_un un_neg pe_int) (fun _ _ => rfl)) pe_int (fun _ _ => rfl)) (pv 4) (by exact fun _ _ => rfl) (by exact fun _ _ => rfl))) (nomark _))))) (@pss_one _ _ _ (@ps_ret _ _ _ _ pe_bl)) pss_nil) (@pss_cons _ _ _ _ _ (ps_expr (pe_bm PySem.F.plainAttrs_list PySem.F.slot_list_append PySem.F.type_list_append mt_append (pv 2) (@pa_cons _ _ _ _ _ (@pe_lst _ _ _ _ (@pa2 _ _ _ _ _ (pv 4) (pe_callTy call_list_of rfl B.b_list boot_tlist (@pa_cons _ _ _ _ _ (pv 4) pa_nil (by rfl))) (by exact fun _ _ => rfl) (by exact fun _ _ => rfl))) pa_nil (by rfl)))) (@pss_one _ _ _ (@ps_ret _ _ _ _ pe_bl)))))), ?_⟩
  have lS := ok.laid
  obtain ⟨dx, fs, hp, _, _, f3, _⟩ := SO.ob hs
  refine ⟨_, rfl, p, dx, fs, rfl, hp, f3, p, F, S, rfl, hs, ok, fun now H1 F1 nnow outn k1 g1 hs1 en => ?_⟩
  obtain ⟨dx1, fs1, hp1, _, _, _, f4⟩ := SO.ob hs1
  refine ⟨_, rfl, p, dx1, fs1, rfl, hp1, f4, p, F1, S, rfl, hs1, ok, fun H2 F2 k2 g2 hs2 => ?_⟩
  have kk := k1.step g1 k2
  have gg := g1.trans k1 g2
  have en2 := k2 _ _ outn en
  have outn2 : now ∉ F2 := g2.out en outn
  have hlo2 := kk _ _ nlo hlo
  have hro2 := kk _ _ nro hro
  have hit2 := kk _ _ nit hit
  have hy2 := kk _ _ ny hy
  refine ⟨_, rfl, _, _, rfl, .int _, _, rfl, iteF ?_⟩
  refine ⟨_, rfl, _, rfl, lo, S, rfl, SqL.of hlo2, rfl, _, rfl, ?_⟩
  refine iteNS rfl ?_
  refine ⟨_, rfl, now, Fs.laid S.sum, rfl, .inl en2, by omega, Fs.laid_neat _, fun H3 s3 => ⟨_, rfl, iteF ?_⟩⟩
  refine ⟨_, rfl, now, _, rfl, SqL.of (s3 _ _ en2), fun H4 s4 => ⟨_, rfl, rfl, _, rfl, ?_⟩⟩
  rw [Fs.laid_load]
  refine iteNS rfl ?_
  have t4 := s3.trans s4
  refine ⟨_, rfl, _, _, rfl, .int _, _, rfl, iteF ?_⟩
  refine ⟨_, rfl, _, rfl, _, rfl, ro, _, _, _, rfl, rfl, SqL.of (t4 _ _ hro2), atI_last _ _, it, _, 1, _, rfl, rfl, SqL.of (t4 _ _ hit2), rfl, _, rfl, y, now, prev, Fs.laid S.sum, rfl, t4 _ _ hy2, t4 _ _ en2, hpl, by omega, fun H5 s5 => ⟨rfl, _, rfl, ?_⟩⟩
  rw [← em]
  refine iteNS rfl ?_
  have t5 := t4.trans s5
  refine ⟨_, rfl, .inl ⟨rfl, _, SqL.of (t5 _ _ hro2)⟩, _, rfl, _, rfl, now, _, rfl, .inl (SqL.of (t5 _ _ en2)), fun b nb => ?_⟩
  have s6 := Same.new nb (.lst ((Fs.laid S.sum).map V.int))
  have eb : upd H5 b (.lst ((Fs.laid S.sum).map V.int)) b = some (.lst ((Fs.laid S.sum).map V.int)) := upd_same
  generalize upd H5 b (.lst ((Fs.laid S.sum).map V.int)) = H6 at s6 eb ⊢
  refine ⟨(by show 2 ≤ sizeLine; decide), fun it' nit' => ?_⟩
  have s7 := Same.new nit' (.lst [.ref now, .ref b])
  have ei : upd H6 it' (.lst [.ref now, .ref b]) it' = some (.lst [.ref now, .ref b]) := upd_same
  generalize upd H6 it' (.lst [.ref now, .ref b]) = H7 at s7 ei ⊢
  have t7 := t5.trans (s6.trans s7)
  refine ⟨ro, _, _, rfl, rfl, t7 _ _ hro2, (by rw [List.length_append, List.length_singleton]; exact small1000 (by omega)), ?_⟩
  -- addresses
  have nb2 : H2 b = none := t5.free nb
  have ni2 : H2 it' = none := (t5.trans s6).free nit'
  have bF : b ∉ F2 := fun z => by obtain ⟨o, e⟩ := SO.has hs2 b z; rw [nb2] at e; cases e
  have iF : it' ∉ F2 := fun z => by obtain ⟨o, e⟩ := SO.has hs2 it' z; rw [ni2] at e; cases e
  have bH : H b = none := kk.fr b nb2
  have iH : H it' = none := kk.fr it' ni2
  have bn : now ≠ b := fun z => by rw [← z, en2] at nb2; cases nb2
  have inn : it' ≠ now := fun z => by rw [z, en2] at ni2; cases ni2
  have ib : it' ≠ b := fun z => by rw [z, eb] at nit'; cases nit'
  have rn : now ≠ ro := fun z => by rw [z, hro] at nnow; cases nnow
  have rb : b ≠ ro := fun z => by rw [z, hro] at bH; cases bH
  have ri : it' ≠ ro := fun z => by rw [z, hro] at iH; cases iH
  have hro7 := t7 _ _ hro2
  have rF : ro ∉ F2 := gg.out hro nro
  refine q _ F2 it' now b iH nnow bH inn ib bn ?_ gg ?_ ?_ ?_ ?_ ?_ iF outn2 bF
  · exact ((kk.mono fun b h => List.mem_cons_of_mem _ h).trans (t7.keep _)).trans (Keep.upd List.mem_cons_self hro7 _)
  · exact SO.stay (SO.same hs2 t7) fun c hc o e => by rw [upd_ne (fun z : c = ro => rF (z ▸ hc))]; exact e
  · rw [upd_same]
  · rw [upd_ne ri]; exact ei
  · rw [upd_ne rn]; exact t7 _ _ en2
  · rw [upd_ne rb]; exact s7 _ _ eb
/-! _law_refused -/
def spRefused (CL CD : Addr) : Sp := fun vs H Q _ => ∃ (x E : Addr) (wrd : Str), vs = [.ref x, .str wrd] ∧ H x = some (excO x E) ∧ ((wrd = "lay" ∧ E = CL) ∨ (wrd = "back" ∧ E = CD)) ∧ Q (.bl true) H
theorem sc_law_refused : FnScope ["_law_caught", "_law_word"] ["_law_caught", "_law_word"] (defScope s_law_refused) := ⟨rfl, rfl, rfl, by decide +kernel, rfl, by decide +kernel, by decide +kernel⟩
theorem ok_law_refused (A : At K mg "_law_refused" s_law_refused ["_law_caught", "_law_word"]) (B : Txt mg) (R : Errs K mg cStoneError cNoLaying cNoLoad cNoPlan cNoText cNoDeed) : Def P w K mg base "_law_refused" 1 ["_law_caught", "_law_word"] (spRefused cNoLoad cNoDeed) := A.def fun f fd F => by
  refine F.ok sc_law_refused (fun vs H Q E h => ?_) (fun cdv A outer s H vs Q E hr h => ?_)
  · obtain ⟨x, E, wrd, rfl, _⟩ := h
    rfl
  obtain ⟨x, E, wrd, rfl, ex, hE, q⟩ := h
  refine ⟨_, @pss_cons _ _ _ _ _ (@ps_if _ _ _ _ _ _ _ _ (PW.pt (pw_or (pt_val (pe_callB (call_isx (K := K)) rfl B.b_isinstance boot_isinstance (@pa2 _ _ _ _ _ (pv 0) (pe_glob (v := .ref cNoLaying) rfl R.m_NoLaying rfl) (by exact fun _ _ => rfl) (by exact fun _ _ => rfl))))
      (pw_or (pt_val (pe_callB (call_isx (K := K)) rfl B.b_isinstance boot_isinstance (@pa2 _ _ _ _ _ (pv 0) (pe_glob (v := .ref cNoPlan) rfl R.m_NoPlan rfl) (by exact fun _ _ => rfl) (by exact fun _ _ => rfl))))
      (pw_or1 (pt_val (pe_callB (call_isx (K := K)) rfl B.b_isinstance boot_isinstance (@pa2 _ _ _ _ _ (pv 0) (pe_glob (v := .ref cNoText) rfl R.m_NoText rfl) (by exact fun _ _ => rfl) (by exact fun _ _ => rfl)))))))) (@pss_one _ _ _ (@ps_ret _ _ _ _ pe_bl)) pss_nil) (@pss_cons _ _ _ _ _ (@ps_if _ _ _ _ _ _ _ _ (pt_not (pt_val (pe_callB (call_isx (K := K)) rfl B.b_isinstance boot_isinstance (@pa2 _ _ _ _ _ (pv 0) (pe_ty B.b_ValueError boot_tVE) (by exact fun _ _ => rfl) (by exact fun _ _ => rfl))))) (@pss_one _ _ _ (@ps_ret _ _ _ _ pe_bl)) pss_nil) (@pss_cons _ _ _ _ _ (@ps_if _ _ _ _ _ _ _ _ (pt_cmpR op_eq (pv 1) pe_str (nomark _)) (@pss_one _ _ _ (@ps_ret _ _ _ _ (pe_and (pe_callB (call_isx (K := K)) rfl B.b_isinstance boot_isinstance (@pa2 _ _ _ _ _ (pv 0) (pe_glob (v := .ref cNoLoad) rfl R.m_NoLoad rfl) (by exact fun _ _ => rfl) (by exact fun _ _ => rfl)))
      (pe_one (pe_not (pe_callB (call_isx (K := K)) rfl B.b_isinstance boot_isinstance (@pa2 _ _ _ _ _ (pv 0) (pe_glob (v := .ref cNoDeed) rfl R.m_NoDeed rfl) (by exact fun _ _ => rfl) (by exact fun _ _ => rfl)))))))) pss_nil) (@pss_one _ _ _ (@ps_ret _ _ _ _ (pe_and (pe_callB (call_isx (K := K)) rfl B.b_isinstance boot_isinstance (@pa2 _ _ _ _ _ (pv 0) (pe_glob (v := .ref cNoDeed) rfl R.m_NoDeed rfl) (by exact fun _ _ => rfl) (by exact fun _ _ => rfl)))
      (pe_one (pe_not (pe_callB (call_isx (K := K)) rfl B.b_isinstance boot_isinstance (@pa2 _ _ _ _ _ (pv 0) (pe_glob (v := .ref cNoLoad) rfl R.m_NoLoad rfl) (by exact fun _ _ => rfl) (by exact fun _ _ => rfl)))))))))), ?_⟩
  rcases hE with ⟨rfl, rfl⟩ | ⟨rfl, rfl⟩
  · have XC := R.e_NoLoad.toXCls
    refine ⟨_, rfl, x, _, _, _, _, rfl, rfl, ex, XC, R.k_NoLoad_NoLaying, _, rfl, iteF ⟨_, rfl, x, _, _, _, _, rfl, rfl, ex, XC, R.k_NoLoad_NoPlan, _, rfl, iteF ⟨_, rfl, x, _, _, _, _, rfl, rfl, ex, XC, R.k_NoLoad_NoText, _, rfl, iteF ?_⟩⟩⟩
    refine ⟨_, rfl, x, _, _, _, _, rfl, rfl, ex, XC, R.v_NoLoad, _, rfl, iteF ?_⟩
    refine ⟨_, rfl, rfl, _, rfl, ?_⟩
    refine ite2 (fun _ => ?_) fun c => absurd (decide_eq_true rfl) c
    exact ⟨_, rfl, x, _, _, _, _, rfl, rfl, ex, XC, R.k_NoLoad_NoLoad, _, rfl, iteT ⟨_, rfl, x, _, _, _, _, rfl, rfl, ex, XC, R.k_NoLoad_NoDeed, _, rfl, q⟩⟩
  · have XC := R.e_NoDeed.toXCls
    refine ⟨_, rfl, x, _, _, _, _, rfl, rfl, ex, XC, R.k_NoDeed_NoLaying, _, rfl, iteF ⟨_, rfl, x, _, _, _, _, rfl, rfl, ex, XC, R.k_NoDeed_NoPlan, _, rfl, iteF ⟨_, rfl, x, _, _, _, _, rfl, rfl, ex, XC, R.k_NoDeed_NoText, _, rfl, iteF ?_⟩⟩⟩
    refine ⟨_, rfl, x, _, _, _, _, rfl, rfl, ex, XC, R.v_NoDeed, _, rfl, iteF ?_⟩
    refine ⟨_, rfl, rfl, _, rfl, ?_⟩
    refine ite2 (fun c => absurd (V.str.inj (of_decide_eq_true c)) (by decide +kernel)) fun _ => ?_
    exact ⟨_, rfl, x, _, _, _, _, rfl, rfl, ex, XC, R.k_NoDeed_NoDeed, _, rfl, iteT ⟨_, rfl, x, _, _, _, _, rfl, rfl, ex, XC, R.k_NoDeed_NoLoad, _, rfl, q⟩⟩
/-! _law_deed_by -/
def spDeedBy (K : PySem.W.Frag) : Sp := fun vs H Q _ => ∃ (c m : Int) (l : Addr) (S : List Int), vs = [.int c, .ref l, .int m] ∧ SqL K H l (S.map V.int) ∧ 0 < m ∧ m ≤ 2 ^ 328 ∧
  ∀ (t : Addr) (wrd : Str) (v : V) (ok : Bool) (H' : Hp), H t = none → Same H H' → H' t = some (.tup [.str wrd, v, .bl ok]) → Deed K H' wrd v ok S → (∀ a, v = .ref a → H a = none) → Q (.ref t) H'
abbrev odd9 (l t d : Addr) : List V := [.non, .bl true, .bl false, .str "7", .str "", .ref l, .ref t, .ref d]
theorem odd9_mem {H : Hp} {l t d : Addr} (hl : H l = some (.lst [.int 3])) (ht : H t = some (.tup [.int 3])) (hd : H d = some (.dK [])) {y : V} (h : y ∈ odd9 l t d) : (∃ n, Kind K H y n) ∧ wholeV y = false ∧ ∀ a, y = .ref a → a = l ∨ a = t ∨ a = d := by
  simp only [odd9, List.mem_cons, List.not_mem_nil, or_false] at h
  rcases h with h | h | h | h | h | h | h | h <;> subst h
  · exact ⟨⟨_, .non⟩, rfl, fun a e => by cases e⟩
  · exact ⟨⟨_, .bl _⟩, rfl, fun a e => by cases e⟩
  · exact ⟨⟨_, .bl _⟩, rfl, fun a e => by cases e⟩
  · exact ⟨⟨_, .str _⟩, rfl, fun a e => by cases e⟩
  · exact ⟨⟨_, .str _⟩, rfl, fun a e => by cases e⟩
  · exact ⟨⟨_, .lst hl⟩, rfl, fun a e => by cases e; exact .inl rfl⟩
  · exact ⟨⟨_, .tup ht⟩, rfl, fun a e => by cases e; exact .inr (.inl rfl)⟩
  · exact ⟨⟨_, .dK hd⟩, rfl, fun a e => by cases e; exact .inr (.inr rfl)⟩
theorem sc_law_deed_by : FnScope ["_law_cell", "_law_loads", "_law_most", "_law_way"] ["_law_cell", "_law_loads", "_law_most"] (defScope s_law_deed_by) := ⟨rfl, rfl, rfl, by decide +kernel, rfl, by decide +kernel, by decide +kernel⟩
theorem ok_law_deed_by (A : At K mg "_law_deed_by" s_law_deed_by ["_law_cell", "_law_loads", "_law_most"]) (GL : Def P w K mg base "_law_load_by" 2 ["_law_cell", "_law_way", "_law_most"] spLoadBy) :
    Def P w K mg base "_law_deed_by" 3 ["_law_cell", "_law_loads", "_law_most"] (spDeedBy K) := A.def fun f fd F => by
  refine F.ok sc_law_deed_by (fun vs H Q E h => ?_) (fun cdv A outer s H vs Q E hr h => ?_)
  · obtain ⟨c, m, l, S, rfl, _⟩ := h
    rfl
  obtain ⟨c, m, l, S, rfl, hS, m0, m1, q⟩ := h
  refine ⟨_, @pss_cons _ _ _ _ _ (@ps_set _ _ 3 _ _ _ _ sc_law_deed_by.nd rfl (Or.inl rfl) (@pe_op _ _ _ _ _ _ _ _ op_mod (pv 0) pe_int) (by rfl) (by first | exact .inl rfl | exact .inr rfl | assumption)) (@pss_cons _ _ _ _ _ (@ps_if _ _ _ _ _ _ _ _ (pt_cmpR op_eq (pv 3) pe_int (nomark _)) (@pss_one _ _ _ (@ps_ret _ _ _ _ (@pe_tup _ _ _ _ _ (@pa3 _ _ _ _ _ _ _ pe_str (@pe_ix _ _ _ _ _ _ _ ix_list (@pe_lst _ _ _ _ (@pa8 _ _ _ _ _ _ _ _ _ _ _ _ _ _ _ _ _ pe_non pe_bl pe_bl pe_str pe_str (@pe_lst _ _ _ _ (@pa_cons _ _ _ _ _ pe_int pa_nil (by rfl))) (@pe_tup _ _ _ _ _ (@pa_cons _ _ _ _ _ pe_int pa_nil (by rfl))) pe_d0 (by exact fun _ _ => rfl) (by exact fun _ _ => rfl) (by exact fun _ _ => rfl) (by exact fun _ _ => rfl) (by exact fun _ _ => rfl) (by exact fun _ _ => rfl) (by exact fun _ _ => rfl) (by exact fun _ _ => rfl))) (@pe_op _ _ _ _ _ _ _ _ op_mod (@pe_op _ _ _ _ _ _ _ _ op_fdiv (pv 0) pe_int) pe_int) (fun _ _ => rfl)) pe_bl (by exact fun _ _ => rfl) (by exact fun _ _ => rfl) (by exact fun _ _ => rfl))))) pss_nil) (@pss_cons _ _ _ _ _ (@ps_if _ _ _ _ _ _ _ _ (pt_cmpR op_gt (pv 3) pe_int (nomark _)) (@pss_one _ _ _ (@ps_ret _ _ _ _ (@pe_tup _ _ _ _ _ (@pa3 _ _ _ _ _ _ _ pe_str pe_non (pe_cmpR (op_neL hr.units) (pv 1) (@pe_lst _ _ _ _ pa_nil) (nomark _)) (by exact fun _ _ => rfl) (by exact fun _ _ => rfl) (by exact fun _ _ => rfl))))) pss_nil) (@pss_one _ _ _ (@ps_ret _ _ _ _ (@pe_tup _ _ _ _ _ (@pa3 _ _ _ _ _ _ _ pe_str (pe_def GL hr (@pa3 _ _ _ _ _ _ _ (@pe_op _ _ _ _ _ _ _ _ op_fdiv (pv 0) pe_int) (pv 3) (pv 2) (by exact fun _ _ => rfl) (by exact fun _ _ => rfl) (by exact fun _ _ => rfl))) pe_bl (by exact fun _ _ => rfl) (by exact fun _ _ => rfl) (by exact fun _ _ => rfl))))))), ?_⟩
  refine ⟨_, rfl, _, _, rfl, rfl, (by show (0 : Int) < 8; decide), ?_⟩
  dsimp only
  refine ⟨_, rfl, rfl, _, rfl, ?_⟩
  refine ite2 (fun _ => ?_) fun _ => ?_
  · refine ⟨by decide, fun a1 n1 => ?_⟩
    have u1 := Same.new n1 (.lst [.int 3])
    have e1 : upd H a1 (.lst [.int 3]) a1 = some (.lst [.int 3]) := upd_same
    generalize upd H a1 (.lst [.int 3]) = H1 at u1 e1 ⊢
    refine ⟨by decide, fun a2 n2 => ?_⟩
    have u2 := Same.new n2 (.tup [.int 3])
    have e2 : upd H1 a2 (.tup [.int 3]) a2 = some (.tup [.int 3]) := upd_same
    generalize upd H1 a2 (.tup [.int 3]) = H2 at u2 e2 ⊢
    intro a3 n3
    have u3 := Same.new n3 (.dK [])
    have e3 : upd H2 a3 (.dK []) a3 = some (.dK []) := upd_same
    generalize upd H2 a3 (.dK []) = H3 at u3 e3 ⊢
    refine ⟨(by show 8 ≤ sizeLine; decide), fun z nz => ?_⟩
    have u4 := Same.new nz (.lst (odd9 a1 a2 a3))
    have ez : upd H3 z (.lst (odd9 a1 a2 a3)) z = some (.lst (odd9 a1 a2 a3)) := upd_same
    have e14 := u4 _ _ (u3 _ _ (u2 _ _ e1))
    have e24 := u4 _ _ (u3 _ _ e2)
    have e34 := u4 _ _ e3
    generalize upd H3 z (.lst (odd9 a1 a2 a3)) = H4 at u4 ez e14 e24 e34 ⊢
    obtain ⟨k, ek, hk⟩ : ∃ k : Nat, c / 8 % 8 = (k : Int) ∧ k < 8 := ⟨(c / 8 % 8).toNat, by omega, by omega⟩
    have hg : (odd9 a1 a2 a3)[k]? = some ((odd9 a1 a2 a3)[k]'hk) := List.getElem?_eq_getElem hk
    refine ⟨_, rfl, _, _, rfl, rfl, ⟨by decide, by decide⟩, _, _, rfl, rfl, (by show (0 : Int) < 8; decide), z, odd9 a1 a2 a3, _, _, rfl, rfl, SqL.of ez, (by rw [ek]; exact atI_nat hg), ?_⟩
    obtain ⟨⟨kn, hkd⟩, hw, hrf⟩ := odd9_mem (K := K) e14 e24 e34 (List.mem_of_getElem? hg)
    generalize (odd9 a1 a2 a3)[k]'hk = y at hkd hw hrf ⊢
    refine ⟨(by show 3 ≤ sizeLine; decide), fun t nt => ?_⟩
    have u14 := u1.trans (u2.trans (u3.trans u4))
    have u5 := Same.new nt (.tup [.str "lay", y, .bl false])
    refine q t "lay" y false _ (u14.free nt) (u14.trans u5) upd_same (.inl ⟨rfl, rfl, ⟨kn, hkd.same u5⟩, hw⟩) fun a e => ?_
    rcases hrf a e with z | z | z <;> subst z
    · exact n1
    · exact u1.free n2
    · exact (u1.trans u2).free n3
  refine ⟨_, rfl, _, _, rfl, rfl, _, rfl, ?_⟩
  refine ite2 (fun _ => ?_) fun _ => ?_
  · refine ⟨_, rfl, by decide, fun e ne => ?_⟩
    have u1 := Same.new ne (.lst [])
    refine ⟨l, e, S, [], rfl, rfl, u1.seq hS, SqL.of upd_same, (by show 3 ≤ sizeLine; decide), fun t nt => ?_⟩
    have u5 := Same.new nt (.tup [.str "back", .non, .bl (!decide (S = []))])
    exact q t "back" .non _ _ (u1.free nt) (u1.trans u5) upd_same (.inr (.inl ⟨rfl, rfl, rfl⟩)) fun a e => by cases e
  · refine ⟨_, rfl, _, _, rfl, rfl, ⟨by decide, by decide⟩, _, rfl, _, rfl, _, _, m, rfl, m0, m1, fun n H1 s1 hn => ?_⟩
    refine ⟨(by show 3 ≤ sizeLine; decide), fun t nt => ?_⟩
    have u5 := Same.new nt (.tup [.str "lay", .int n, .bl true])
    exact q t "lay" (.int n) true _ (s1.free nt) (s1.trans u5) upd_same (.inr (.inr ⟨n, rfl, rfl, rfl, hn⟩)) fun a e => by cases e
/-! _law_done -/
def spDone (Sc : SC) (K : PySem.W.Frag) : Sp := fun vs H Q _ => ∃ (p t : Addr) (F : List Addr) (S : List Int) (wrd : Str) (v : V) (ok : Bool), vs = [.ref p, .ref t] ∧ Sc H p F S ∧ H t = some (.tup [.str wrd, v, .bl ok]) ∧ t ∉ F ∧ Deed K H wrd v ok S ∧ OkS S ∧ OkS (afterD v ok S) ∧
  ∀ H' F', Keep F H H' → Grow H F F' → Sc H' p F' (afterD v ok S) → Q (.int (movedN (Fs.laid S.sum) (Fs.laid (afterD v ok S).sum))) H'
theorem sc_law_done : FnScope ["_law_scale", "_law_deed", "_law_caught", "_law_many", "e"] ["_law_scale", "_law_deed"] (defScope s_law_done) := ⟨rfl, rfl, rfl, by decide +kernel, rfl, by decide +kernel, by decide +kernel⟩
theorem ok_law_done (A : At K mg "_law_done" s_law_done ["_law_scale", "_law_deed"]) (R : Errs K mg cStoneError cNoLaying cNoLoad cNoPlan cNoText cNoDeed) (O : Own_Scale K mg cScale) (GR : Def P w K mg base "_law_refused" 1 ["_law_caught", "_law_word"] (spRefused cNoLoad cNoDeed))
    (GL : MDef CX0 P w K mg base cScale "lay" 5 ["self", "load"] (spScLay (Sc cScale))) (GB : MDef CX0 P w K mg base cScale "back" 5 ["self"] (spScBack (Sc cScale)))
    (XL : MDef (CX1 P w) P w K mg base cScale "lay" 5 ["self", "load"] (spScLayX (Sc cScale) K cNoLoad)) (XB : MDef (CX1 P w) P w K mg base cScale "back" 5 ["self"] (spScBackX (Sc cScale) cNoDeed)) :
    Def P w K mg base "_law_done" 6 ["_law_scale", "_law_deed"] (spDone (Sc cScale) K) := A.def fun f fd F => by
  refine F.ok sc_law_done (fun vs H Q E h => ?_) (fun cdv A outer s H vs Q E hr h => ?_)
  · obtain ⟨p, t, F, S, wrd, v, ok, rfl, _⟩ := h
    rfl
  obtain ⟨p, t, F, S, wrd, v, ok, rfl, hs, ht, nt, hd, okS, okA, q⟩ := h
  have h1 : Room 1 _ := hr.mono (by decide)
  have SO := sc_ok cScale
  obtain ⟨dx, fs, hp, f1, f2, _, _⟩ := SO.ob hs
  have lb : ¬ (("back" : Str) = "lay") := by decide +kernel
  rcases hd with ⟨rfl, rfl, ⟨kn, hk⟩, hw⟩ | ⟨rfl, rfl, rfl⟩ | ⟨n, rfl, rfl, rfl, hn⟩
  · -- no load
    refine ⟨_, @pss_cons _ _ _ _ _ (@ps_set _ _ 2 _ _ _ _ sc_law_done.nd rfl (Or.inl rfl) pe_non (by rfl) (by first | exact .inl rfl | exact .inr rfl | assumption)) (@pss_cons _ _ _ _ _ (@ps_set _ _ 3 _ _ _ _ sc_law_done.nd rfl (Or.inl rfl) pe_int (by rfl) (by first | exact .inl rfl | exact .inr rfl | assumption)) (@pss_cons _ _ _ _ _ (ps_try (j := 4) sc_law_done.nd rfl rfl rfl R.m_StoneError (pssx_one (psx_if (pt_cmpR op_eq (@pe_ix _ _ _ _ _ _ _ ix_tup (pv 1) pe_int (fun _ _ => rfl)) pe_str (nomark _)) (pssx_one (psx_set (i := 3) sc_law_done.nd rfl (Or.inl rfl) (pex_mdef XL O.cl hr (pv 0) (@pa_cons _ _ _ _ _ (@pe_ix _ _ _ _ _ _ _ ix_tup (pv 1) pe_int (fun _ _ => rfl)) pa_nil (by rfl))))) pssx_never))
        (fun x => @pss_one _ _ _ (@ps_set _ _ 2 _ _ _ _ sc_law_done.nd rfl (Or.inl rfl) (pv 4) (by rfl) (by first | exact .inl rfl | exact .inr rfl | assumption)))) (@pss_cons _ _ _ _ _ (@ps_if _ _ _ _ _ _ _ _ (PW.pt (pw_or (PW.pt (pw_and (pt_val (@pe_ix _ _ _ _ _ _ _ ix_tup (pv 1) pe_int (fun _ _ => rfl))) (pw_and1 (pt_cmpR op_isN (pv 2) pe_non (nomark _))))) (pw_or1 (PW.pt (pw_and (pt_not (pt_val (@pe_ix _ _ _ _ _ _ _ ix_tup (pv 1) pe_int (fun _ _ => rfl)))) (pw_and1 (pt_val (pe_def GR h1 (@pa2 _ _ _ _ _ (pv 2) (@pe_ix _ _ _ _ _ _ _ ix_tup (pv 1) pe_int (fun _ _ => rfl)) (by exact fun _ _ => rfl) (by exact fun _ _ => rfl))))))))) ) (@pss_one _ _ _ (@ps_ret _ _ _ _ (pv 3))) pss_nil) (@pss_one _ _ _ (@ps_ret _ _ _ _ pe_non))))), ?_⟩
    refine ⟨_, rfl, t, _, 0, _, rfl, rfl, SqT.of ht, rfl, rfl, _, rfl, ?_⟩
    refine ite2 (fun _ => ?_) fun c => absurd (decide_eq_true rfl) c
    refine ⟨_, rfl, p, dx, fs, rfl, hp, f1, _, rfl, t, _, 1, _, rfl, rfl, SqT.of ht, rfl, p, F, S, v, kn, rfl, hs, okS, hk, hw, fun H1 F1 k1 g1 hs1 => ⟨cNoLoad, rfl, R.x_NoLoad, fun x hx => ?_⟩⟩
    have s2 := Same.new hx (excO x cNoLoad)
    have ex : upd H1 x (excO x cNoLoad) x = some (excO x cNoLoad) := upd_same
    have ht2 := s2 _ _ (k1 _ _ nt ht)
    have hs2 := SO.same hs1 s2
    generalize upd H1 x (excO x cNoLoad) = H2 at s2 ex ht2 hs2 ⊢
    refine ⟨_, rfl, ?_⟩
    refine ⟨_, rfl, t, _, 2, _, rfl, rfl, SqT.of ht2, rfl, _, rfl, iteF ?_⟩
    refine iteF ⟨_, rfl, t, _, 2, _, rfl, rfl, SqT.of ht2, rfl, _, rfl, iteT ⟨_, rfl, _, rfl, t, _, 0, _, rfl, rfl, SqT.of ht2, rfl, x, cNoLoad, "lay", rfl, ex, .inl ⟨rfl, rfl⟩, _, rfl, iteT ⟨_, rfl, ?_⟩⟩⟩
    have := q H2 F1 (k1.trans (s2.keep _)) g1 hs2
    unfold afterD at this
    rw [if_neg Bool.false_ne_true, movedN_self] at this
    exact this
  · by_cases c : S = []
    · -- none left
      subst c
      refine ⟨_, @pss_cons _ _ _ _ _ (@ps_set _ _ 2 _ _ _ _ sc_law_done.nd rfl (Or.inl rfl) pe_non (by rfl) (by first | exact .inl rfl | exact .inr rfl | assumption)) (@pss_cons _ _ _ _ _ (@ps_set _ _ 3 _ _ _ _ sc_law_done.nd rfl (Or.inl rfl) pe_int (by rfl) (by first | exact .inl rfl | exact .inr rfl | assumption)) (@pss_cons _ _ _ _ _ (ps_try (j := 4) sc_law_done.nd rfl rfl rfl R.m_StoneError (pssx_one (psx_if (pt_cmpR op_eq (@pe_ix _ _ _ _ _ _ _ ix_tup (pv 1) pe_int (fun _ _ => rfl)) pe_str (nomark _)) pssx_never (pssx_one (psx_set (i := 3) sc_law_done.nd rfl (Or.inl rfl) (pex_mdef0 XB O.cl hr (pv 0))))))
          (fun x => @pss_one _ _ _ (@ps_set _ _ 2 _ _ _ _ sc_law_done.nd rfl (Or.inl rfl) (pv 4) (by rfl) (by first | exact .inl rfl | exact .inr rfl | assumption)))) (@pss_cons _ _ _ _ _ (@ps_if _ _ _ _ _ _ _ _ (PW.pt (pw_or (PW.pt (pw_and (pt_val (@pe_ix _ _ _ _ _ _ _ ix_tup (pv 1) pe_int (fun _ _ => rfl))) (pw_and1 (pt_cmpR op_isN (pv 2) pe_non (nomark _))))) (pw_or1 (PW.pt (pw_and (pt_not (pt_val (@pe_ix _ _ _ _ _ _ _ ix_tup (pv 1) pe_int (fun _ _ => rfl)))) (pw_and1 (pt_val (pe_def GR h1 (@pa2 _ _ _ _ _ (pv 2) (@pe_ix _ _ _ _ _ _ _ ix_tup (pv 1) pe_int (fun _ _ => rfl)) (by exact fun _ _ => rfl) (by exact fun _ _ => rfl))))))))) ) (@pss_one _ _ _ (@ps_ret _ _ _ _ (pv 3))) pss_nil) (@pss_one _ _ _ (@ps_ret _ _ _ _ pe_non))))), ?_⟩
      refine ⟨_, rfl, t, _, 0, _, rfl, rfl, SqT.of ht, rfl, rfl, _, rfl, ?_⟩
      refine ite2 (fun z => absurd (V.str.inj (of_decide_eq_true z)) lb) fun _ => ?_
      refine ⟨_, rfl, p, dx, fs, rfl, hp, f2, p, F, rfl, hs, fun H1 F1 k1 g1 hs1 => ⟨cNoDeed, rfl, R.x_NoDeed, fun x hx => ?_⟩⟩
      have s2 := Same.new hx (excO x cNoDeed)
      have ex : upd H1 x (excO x cNoDeed) x = some (excO x cNoDeed) := upd_same
      have ht2 := s2 _ _ (k1 _ _ nt ht)
      have hs2 := SO.same hs1 s2
      generalize upd H1 x (excO x cNoDeed) = H2 at s2 ex ht2 hs2 ⊢
      refine ⟨_, rfl, ?_⟩
      refine ⟨_, rfl, t, _, 2, _, rfl, rfl, SqT.of ht2, rfl, _, rfl, iteF ?_⟩
      refine iteF ⟨_, rfl, t, _, 2, _, rfl, rfl, SqT.of ht2, rfl, _, rfl, iteT ⟨_, rfl, _, rfl, t, _, 0, _, rfl, rfl, SqT.of ht2, rfl, x, cNoDeed, "back", rfl, ex, .inr ⟨rfl, rfl⟩, _, rfl, iteT ⟨_, rfl, ?_⟩⟩⟩
      have := q H2 F1 (k1.trans (s2.keep _)) g1 hs2
      unfold afterD at this
      rw [if_neg (by decide), movedN_self] at this
      exact this
    · -- the last one back
      obtain ⟨T, n, rfl, eT⟩ := dropLast_snoc c
      have e1 : (!decide (T ++ [n] = [])) = true := by rw [decide_eq_false c]; rfl
      have ea : afterD .non (!decide (T ++ [n] = [])) (T ++ [n]) = T := by
        unfold afterD
        rw [if_pos e1]
        exact eT
      rw [ea] at q okA
      rw [e1] at ht
      refine ⟨_, @pss_cons _ _ _ _ _ (@ps_set _ _ 2 _ _ _ _ sc_law_done.nd rfl (Or.inl rfl) pe_non (by rfl) (by first | exact .inl rfl | exact .inr rfl | assumption)) (@pss_cons _ _ _ _ _ (@ps_set _ _ 3 _ _ _ _ sc_law_done.nd rfl (Or.inl rfl) pe_int (by rfl) (by first | exact .inl rfl | exact .inr rfl | assumption)) (@pss_cons _ _ _ _ _ (ps_try (j := 4) sc_law_done.nd rfl rfl rfl R.m_StoneError (pssx_one (psx_if (pt_cmpR op_eq (@pe_ix _ _ _ _ _ _ _ ix_tup (pv 1) pe_int (fun _ _ => rfl)) pe_str (nomark _)) pssx_never (pssx_one (psx_set (i := 3) sc_law_done.nd rfl (Or.inl rfl) (pex_of (pe_mdef0 GB O.cl hr pass0 (pv 0)))))))
          (fun x => @pss_one _ _ _ (@ps_set _ _ 2 _ _ _ _ sc_law_done.nd rfl (Or.inl rfl) (pv 4) (by rfl) (by first | exact .inl rfl | exact .inr rfl | assumption)))) (@pss_cons _ _ _ _ _ (@ps_if _ _ _ _ _ _ _ _ (PW.pt (pw_or (PW.pt (pw_and (pt_val (@pe_ix _ _ _ _ _ _ _ ix_tup (pv 1) pe_int (fun _ _ => rfl))) (pw_and1 (pt_cmpR op_isN (pv 2) pe_non (nomark _))))) (pw_or1 (PW.pt (pw_and (pt_not (pt_val (@pe_ix _ _ _ _ _ _ _ ix_tup (pv 1) pe_int (fun _ _ => rfl)))) (pw_and1 (pt_val (pe_def GR h1 (@pa2 _ _ _ _ _ (pv 2) (@pe_ix _ _ _ _ _ _ _ ix_tup (pv 1) pe_int (fun _ _ => rfl)) (by exact fun _ _ => rfl) (by exact fun _ _ => rfl))))))))) ) (@pss_one _ _ _ (@ps_ret _ _ _ _ (pv 3))) pss_nil) (@pss_one _ _ _ (@ps_ret _ _ _ _ pe_non))))), ?_⟩
      refine ⟨_, rfl, t, _, 0, _, rfl, rfl, SqT.of ht, rfl, rfl, _, rfl, ?_⟩
      refine ite2 (fun z => absurd (V.str.inj (of_decide_eq_true z)) lb) fun _ => ?_
      refine ⟨_, rfl, p, dx, fs, rfl, hp, f2, p, F, T, n, rfl, hs, okS, fun H1 F1 k1 g1 hs1 => ?_⟩
      have ht1 := k1 _ _ nt ht
      refine ⟨_, rfl, t, _, 2, _, rfl, rfl, SqT.of ht1, rfl, _, rfl, iteT ⟨_, rfl, rfl, _, rfl, ?_⟩⟩
      exact iteT (iteT ⟨_, rfl, q H1 F1 k1 g1 hs1⟩)
  · -- a load laid on
    have ea : afterD (.int n) true S = S ++ [n] := rfl
    rw [ea] at q okA
    refine ⟨_, @pss_cons _ _ _ _ _ (@ps_set _ _ 2 _ _ _ _ sc_law_done.nd rfl (Or.inl rfl) pe_non (by rfl) (by first | exact .inl rfl | exact .inr rfl | assumption)) (@pss_cons _ _ _ _ _ (@ps_set _ _ 3 _ _ _ _ sc_law_done.nd rfl (Or.inl rfl) pe_int (by rfl) (by first | exact .inl rfl | exact .inr rfl | assumption)) (@pss_cons _ _ _ _ _ (ps_try (j := 4) sc_law_done.nd rfl rfl rfl R.m_StoneError (pssx_one (psx_if (pt_cmpR op_eq (@pe_ix _ _ _ _ _ _ _ ix_tup (pv 1) pe_int (fun _ _ => rfl)) pe_str (nomark _)) (pssx_one (psx_set (i := 3) sc_law_done.nd rfl (Or.inl rfl) (pex_of (pe_mdef GL O.cl hr pass0 (pv 0) (@pa_cons _ _ _ _ _ (@pe_ix _ _ _ _ _ _ _ ix_tup (pv 1) pe_int (fun _ _ => rfl)) pa_nil (by rfl)))))) pssx_never))
        (fun x => @pss_one _ _ _ (@ps_set _ _ 2 _ _ _ _ sc_law_done.nd rfl (Or.inl rfl) (pv 4) (by rfl) (by first | exact .inl rfl | exact .inr rfl | assumption)))) (@pss_cons _ _ _ _ _ (@ps_if _ _ _ _ _ _ _ _ (PW.pt (pw_or (PW.pt (pw_and (pt_val (@pe_ix _ _ _ _ _ _ _ ix_tup (pv 1) pe_int (fun _ _ => rfl))) (pw_and1 (pt_cmpR op_isN (pv 2) pe_non (nomark _))))) (pw_or1 (PW.pt (pw_and (pt_not (pt_val (@pe_ix _ _ _ _ _ _ _ ix_tup (pv 1) pe_int (fun _ _ => rfl)))) (pw_and1 (pt_val (pe_def GR h1 (@pa2 _ _ _ _ _ (pv 2) (@pe_ix _ _ _ _ _ _ _ ix_tup (pv 1) pe_int (fun _ _ => rfl)) (by exact fun _ _ => rfl) (by exact fun _ _ => rfl))))))))) ) (@pss_one _ _ _ (@ps_ret _ _ _ _ (pv 3))) pss_nil) (@pss_one _ _ _ (@ps_ret _ _ _ _ pe_non))))), ?_⟩
    refine ⟨_, rfl, t, _, 0, _, rfl, rfl, SqT.of ht, rfl, rfl, _, rfl, ?_⟩
    refine ite2 (fun _ => ?_) fun c => absurd (decide_eq_true rfl) c
    refine ⟨_, rfl, p, dx, fs, rfl, hp, f1, _, rfl, t, _, 1, _, rfl, rfl, SqT.of ht, rfl, p, F, S, n, rfl, hs, okA, fun H1 F1 k1 g1 hs1 => ?_⟩
    have ht1 := k1 _ _ nt ht
    refine ⟨_, rfl, t, _, 2, _, rfl, rfl, SqT.of ht1, rfl, _, rfl, iteT ⟨_, rfl, rfl, _, rfl, ?_⟩⟩
    exact iteT (iteT ⟨_, rfl, q H1 F1 k1 g1 hs1⟩)
/-! _law_step -/
def spStep (Sc : SC) : Sp := fun vs H Q _ => ∃ (H0 : Hp) (pr ld rw p2 : Addr) (p l r : Nat → Addr) (F : Nat → List Addr) (S : Nat → List Int) (R : Nat → List RowT) (F2 : List Addr) (c m : Int) (i : Nat), vs = [.ref pr, .ref p2, .ref ld, .ref rw, .int c, .int m] ∧
  Scene Sc H0 H pr ld rw p2 p l r F S R F2 (S 0) ∧ 0 < m ∧ m ≤ 2 ^ 328 ∧ i < 60 ∧ (∀ k, k < 2 → (S k).length ≤ i ∧ (R k).length ≤ i + 1) ∧
  ∀ (H' : Hp) (F' : Nat → List Addr) (S' : Nat → List Int) (R' : Nat → List RowT) (F2' : List Addr), Scene Sc H0 H' pr ld rw p2 p l r F' S' R' F2' (S' 0) → (∀ k, k < 2 → (S' k).length ≤ i + 1 ∧ (R' k).length ≤ i + 2) → Q (.bl true) H'
theorem sc_law_step : FnScope ["_law_pair", "_law_quiet_here", "_law_loads", "_law_rows", "_law_cell", "_law_most", "_law_k", "_law_deed", "_law_many", "_law_told"] ["_law_pair", "_law_quiet_here", "_law_loads", "_law_rows", "_law_cell", "_law_most"] (defScope s_law_step) := ⟨rfl, rfl, rfl, by decide +kernel, rfl, by decide +kernel, by decide +kernel⟩
theorem ok_law_step (A : At K mg "_law_step" s_law_step ["_law_pair", "_law_quiet_here", "_law_loads", "_law_rows", "_law_cell", "_law_most"]) (O : Own_Scale K mg cScale) (GD : Def P w K mg base "_law_deed_by" 3 ["_law_cell", "_law_loads", "_law_most"] (spDeedBy K)) (GX : Def P w K mg base "_law_done" 6 ["_law_scale", "_law_deed"] (spDone (Sc cScale) K))
    (GL : Def P w K mg base "_law_looked" 6 ["_law_scale", "_law_loads", "_law_row", "_law_many"] (spLooked (Sc cScale))) (GP : MDef CX0 P w K mg base cScale "pans" 4 ["self"] (spScPans (Sc cScale))) :
    Def P w K mg base "_law_step" 7 ["_law_pair", "_law_quiet_here", "_law_loads", "_law_rows", "_law_cell", "_law_most"] (spStep (Sc cScale)) := A.def fun f fd FF => by
  refine FF.ok sc_law_step (fun vs H Q E h => ?_) (fun cdv A outer s H vs Q E hr h => ?_)
  · obtain ⟨H0, pr, ld, rw, p2, p, l, r, F, S, R, F2, c, m, i, rfl, _⟩ := h
    rfl
  obtain ⟨H0, pr, ld, rw, p2, p, l, r, F, S, R, F2, c, m, i, rfl, W, m0, m1, hi, hb, q⟩ := h
  have h3 : Room 3 _ := hr.mono (by decide)
  have h4 : Room 4 _ := hr.mono (by decide)
  have SO := sc_ok cScale
  have lb : ¬ (("back" : Str) = "lay") := by decide +kernel
  refine ⟨_, @pss_cons _ _ _ _ _ (@ps_set _ _ 6 _ _ _ _ sc_law_step.nd rfl (Or.inl rfl) (@pe_op _ _ _ _ _ _ _ _ op_mod (pv 4) pe_int) (by rfl) (by first | exact .inl rfl | exact .inr rfl | assumption)) (@pss_cons _ _ _ _ _ (@ps_set _ _ 7 _ _ _ _ sc_law_step.nd rfl (Or.inl rfl) (pe_def GD h3 (@pa3 _ _ _ _ _ _ _ (@pe_op _ _ _ _ _ _ _ _ op_fdiv (pv 4) pe_int) (@pe_ix _ _ _ _ _ _ _ ix_list (pv 2) (pv 6) (fun _ _ => rfl)) (pv 5) (by exact fun _ _ => rfl) (by exact fun _ _ => rfl) (by exact fun _ _ => rfl))) (by rfl) (by first | exact .inl rfl | exact .inr rfl | assumption)) (@pss_cons _ _ _ _ _ (@ps_set _ _ 8 _ _ _ _ sc_law_step.nd rfl (Or.inl rfl) (pe_def GX hr (@pa2 _ _ _ _ _ (@pe_ix _ _ _ _ _ _ _ ix_list (pv 0) (pv 6) (fun _ _ => rfl)) (pv 7) (by exact fun _ _ => rfl) (by exact fun _ _ => rfl))) (by rfl) (by first | exact .inl rfl | exact .inr rfl | assumption)) (@pss_cons _ _ _ _ _ (ps_cut (@ps_if _ _ _ _ _ _ _ _ (PW.pt (pw_and (pt_val (@pe_ix _ _ _ _ _ _ _ ix_tup (pv 7) pe_int (fun _ _ => rfl))) (pw_and1 (pt_cmpR op_eq (@pe_ix _ _ _ _ _ _ _ ix_tup (pv 7) pe_int (fun _ _ => rfl)) pe_str (nomark _))))) (@pss_one _ _ _ (ps_expr (pe_bm PySem.F.plainAttrs_list PySem.F.slot_list_append PySem.F.type_list_append mt_append (@pe_ix _ _ _ _ _ _ _ ix_list (pv 2) (pv 6) (fun _ _ => rfl)) (@pa_cons _ _ _ _ _ (@pe_ix _ _ _ _ _ _ _ ix_tup (pv 7) pe_int (fun _ _ => rfl)) pa_nil (by rfl))))) (@pss_one _ _ _ (@ps_if _ _ _ _ _ _ _ _ (pt_val (@pe_ix _ _ _ _ _ _ _ ix_tup (pv 7) pe_int (fun _ _ => rfl))) (@pss_one _ _ _ (ps_expr (pe_bm0 PySem.F.plainAttrs_list PySem.F.slot_list_pop PySem.F.type_list_pop mt_pop (@pe_ix _ _ _ _ _ _ _ ix_list (pv 2) (pv 6) (fun _ _ => rfl))))) pss_nil)))) (@pss_cons _ _ _ _ _ (@ps_if _ _ _ _ _ _ _ _ (pt_not (pt_val (pe_def GL hr (@pa4 _ _ _ _ _ _ _ _ _ (@pe_ix _ _ _ _ _ _ _ ix_list (pv 0) (pv 6) (fun _ _ => rfl)) (@pe_ix _ _ _ _ _ _ _ ix_list (pv 2) (pv 6) (fun _ _ => rfl)) (@pe_ix _ _ _ _ _ _ _ ix_list (pv 3) (pv 6) (fun _ _ => rfl)) (pv 8) (by exact fun _ _ => rfl) (by exact fun _ _ => rfl) (by exact fun _ _ => rfl) (by exact fun _ _ => rfl))))) (@pss_one _ _ _ (@ps_ret _ _ _ _ pe_bl)) pss_nil) (@pss_cons _ _ _ _ _ (@ps_set _ _ 9 _ _ _ _ sc_law_step.nd rfl (Or.inl rfl) (pe_mdef0 GP O.cl h4 pass0 (@pe_ix _ _ _ _ _ _ _ ix_list (pv 0) (pv 6) (fun _ _ => rfl))) (by rfl) (by first | exact .inl rfl | exact .inr rfl | assumption)) (@pss_cons _ _ _ _ _ (ps_expr (pe_bm PySem.F.plainAttrs_list PySem.F.slot_list_append PySem.F.type_list_append mt_append (pv 9) (@pa_cons _ _ _ _ _ (@pe_op _ _ _ _ _ _ _ _ op_mod (pv 4) pe_int) pa_nil (by rfl)))) (@pss_one _ _ _ (@ps_ret _ _ _ _ (pe_or (pe_cmpR op_eq (pv 6) pe_int (nomark _)) (pe_one (pe_cmpR op_eq (pe_def GX hr (@pa2 _ _ _ _ _ (pv 1) (pv 7) (by exact fun _ _ => rfl) (by exact fun _ _ => rfl))) (pv 8) (nomark _)))))))))))), ?_⟩
  refine ⟨_, rfl, _, _, rfl, rfl, (by show (0 : Int) < 2; decide), ?_⟩
  dsimp only
  obtain ⟨k, ek, hk⟩ : ∃ k : Nat, c % 2 = (k : Int) ∧ k < 2 := ⟨(c % 2).toNat, by omega, by omega⟩
  rw [ek]
  -- the deed
  refine ⟨_, rfl, _, _, rfl, rfl, ⟨by decide, by decide⟩, _, rfl, _, rfl, ld, _, _, _, rfl, rfl, SqL.of W.hld, at_two hk l rfl rfl, _, rfl, _, m, l k, S k, rfl, SqL.of (W.side k hk).hl, m0, m1, fun t wrd v ok H1 nt s1 et hd hv => ?_⟩
  have W1 := W.grow SO s1
  have sd1 := W1.side k hk
  obtain ⟨hSl, hRl⟩ := hb k hk
  obtain ⟨oA, lA⟩ := deed_ok hd (W.ok k hk) (by omega)
  have tO : t ∉ ownS (l k) (r k) (F k) (R k) := (W.side k hk).out SO nt
  have tF : t ∉ F k := fun z => tO (own_mem.mpr (.inr (.inr (.inr z))))
  refine ⟨_, rfl, _, rfl, pr, _, _, _, rfl, rfl, SqL.of W1.hpr, at_two hk p rfl rfl, _, rfl, p k, t, F k, S k, wrd, v, ok, rfl, sd1.sc, et, tF, hd, W.ok k hk, oA, fun H2 Fk kp2 g2 hs2 => ?_⟩
  generalize eS : afterD v ok (S k) = S' at oA lA hs2 ⊢
  have sd2 := sd1.scale SO kp2 g2 hs2
  have et2 := kp2 _ _ tF et
  have K02 : Keep (ownS (l k) (r k) (F k) (R k)) H1 H2 := keep_own kp2 _ _ _
  have G02 : Grow H1 (ownS (l k) (r k) (F k) (R k)) (ownS (l k) (r k) Fk (R k)) := grow_own g2 _ _ _
  have dU := W.dU
  have hld2 := K02 _ _ ((dU ld (.inr (.inl rfl))).2 k hk) W1.hld
  -- the loads
  refine ⟨fun σ' H' => σ' = [some (.ref pr), some (.ref p2), some (.ref ld), some (.ref rw), some (.int c), some (.int m), some (.int (k : Int)), some (.ref t), some (.int (movedN (Fs.laid (S k).sum) (Fs.laid S'.sum) : Nat)), none] ∧ Side (Sc cScale) H' (p k) (l k) (r k) Fk S' S' (R k) ∧ Keep [l k] H2 H', ?_, ?_⟩
  · rcases hd with ⟨rfl, rfl, _, _⟩ | ⟨rfl, rfl, rfl⟩ | ⟨n, rfl, rfl, rfl, hn⟩
    · have e : S k = S' := eS
      rw [← e] at sd2 ⊢
      refine ⟨_, rfl, t, _, 2, _, rfl, rfl, SqT.of et2, rfl, _, rfl, iteF ?_⟩
      exact iteF ⟨_, rfl, t, _, 2, _, rfl, rfl, SqT.of et2, rfl, _, rfl, iteF ⟨rfl, sd2, Keep.refl _ _⟩⟩
    · by_cases cS : S k = []
      · have e : S k = S' := by rw [← eS]; unfold afterD; rw [cS]; rfl
        rw [show (!decide (S k = [])) = false by rw [decide_eq_true cS]; rfl] at et2
        rw [← e] at sd2 ⊢
        refine ⟨_, rfl, t, _, 2, _, rfl, rfl, SqT.of et2, rfl, _, rfl, iteF ?_⟩
        exact iteF ⟨_, rfl, t, _, 2, _, rfl, rfl, SqT.of et2, rfl, _, rfl, iteF ⟨rfl, sd2, Keep.refl _ _⟩⟩
      · obtain ⟨T, n, eT, eD⟩ := dropLast_snoc cS
        have e1 : (!decide (S k = [])) = true := by rw [decide_eq_false cS]; rfl
        have e : S' = T := by
          rw [← eS, e1]
          exact eD
        rw [e1] at et2
        have hl2 := sd2.hl
        refine ⟨_, rfl, t, _, 2, _, rfl, rfl, SqT.of et2, rfl, _, rfl, iteT ⟨_, rfl, t, _, 0, _, rfl, rfl, SqT.of et2, rfl, rfl, _, rfl, ?_⟩⟩
        refine ite2 (fun z => absurd (V.str.inj (of_decide_eq_true z)) lb) fun _ => ?_
        refine ⟨_, rfl, t, _, 2, _, rfl, rfl, SqT.of et2, rfl, _, rfl, iteT ?_⟩
        have hlast : ((S k).map V.int)[((S k).map V.int).length - 1]? = some (.int n) := by
          rw [eT, List.map_append, List.length_append, List.map_cons, List.map_nil, List.length_singleton, Nat.add_sub_cancel, List.getElem?_append_right (Nat.le_refl _), Nat.sub_self]
          rfl
        refine ⟨_, rfl, _, rfl, ld, _, _, _, rfl, rfl, SqL.of hld2, at_two hk l rfl rfl, .inl ⟨rfl, _, SqL.of hl2⟩, l k, _, _, rfl, rfl, hl2, hlast, rfl, ?_, ?_⟩
        · have ed : ((S k).map V.int).dropLast = S'.map V.int := by rw [eT, e, List.map_append]; simp
          rw [ed]
          exact sd2.loads SO S'
        · exact Keep.upd (by simp) hl2 _
    · have e : S' = S k ++ [n] := eS.symm
      have hl2 := sd2.hl
      refine ⟨_, rfl, t, _, 2, _, rfl, rfl, SqT.of et2, rfl, _, rfl, iteT ⟨_, rfl, t, _, 0, _, rfl, rfl, SqT.of et2, rfl, rfl, _, rfl, ?_⟩⟩
      refine ite2 (fun _ => ?_) fun z => absurd (decide_eq_true rfl) z
      refine ⟨_, rfl, _, rfl, ld, _, _, _, rfl, rfl, SqL.of hld2, at_two hk l rfl rfl, .inl ⟨rfl, _, SqL.of hl2⟩, _, rfl, t, _, 1, _, rfl, rfl, SqT.of et2, rfl, l k, _, _, rfl, rfl, hl2, (by rw [List.length_map]; exact small1000 (by omega)), rfl, ?_, ?_⟩
      · have ed : (S k).map V.int ++ [V.int n] = S'.map V.int := by rw [e, List.map_append]; rfl
        rw [ed]
        exact sd2.loads SO S'
      · exact Keep.upd (by simp) hl2 _
  rintro σ' H3 ⟨rfl, sd3, k23⟩
  have K03 : Keep (ownS (l k) (r k) (F k) (R k)) H1 H3 := K02.trans (k23.mono fun b hb => own_mem.mpr (.inl (by simpa using hb)))
  have hpr3 := K03 _ _ ((dU pr (.inl rfl)).2 k hk) W1.hpr
  have hld3 := K03 _ _ ((dU ld (.inr (.inl rfl))).2 k hk) W1.hld
  have hrw3 := K03 _ _ ((dU rw (.inr (.inr rfl))).2 k hk) W1.hrw
  -- looked at
  obtain ⟨R0, it, x, y, eR⟩ := W.last k hk
  have hr3 := sd3.hr
  rw [eR, List.map_append] at hr3
  have rw3 := sd3.rows (it, x, y, Fs.laid (S k).sum) (by rw [eR]; simp)
  have iA : it ∈ rowA (R k) := rowA_mem.mpr ⟨_, by rw [eR]; exact List.mem_append_right _ (List.mem_singleton.mpr rfl), .inl rfl⟩
  have yA : y ∈ rowA (R k) := rowA_mem.mpr ⟨_, by rw [eR]; exact List.mem_append_right _ (List.mem_singleton.mpr rfl), .inr (.inr rfl)⟩
  have lS := (W.ok k hk).laid
  have R0l : R0.length ≤ 60 := by rw [eR, List.length_append, List.length_singleton] at hRl; omega
  refine ⟨_, rfl, _, rfl, pr, _, _, _, rfl, rfl, SqL.of hpr3, at_two hk p rfl rfl, _, rfl, _, rfl, ld, _, _, _, rfl, rfl, SqL.of hld3, at_two hk l rfl rfl, _, rfl, _, rfl, rw, _, _, _, rfl, rfl, SqL.of hrw3, at_two hk r rfl rfl, _, rfl,
    p k, l k, r k, it, x, y, Fk, S', Fs.laid (S k).sum, R0.map fun q => V.ref q.1, movedN (Fs.laid (S k).sum) (Fs.laid S'.sum), rfl, sd3.sc, oA, sd3.hl, sd3.lF, hr3, sd3.rF, (by rw [List.length_map]; omega), rw3.1, sd3.aF it iA, rw3.2.2, sd3.aF y yA, by omega, rfl, fun H4 F4 it' a b ni na nb _ _ _ k34 g34 hs4 er ei ea eb fi fa fb => ⟨_, rfl, iteF ?_⟩⟩
  obtain ⟨sd4, kk4, gg4⟩ := sd3.row (ns := Fs.laid S'.sum) ni na nb k34 g34 hs4 (by rw [er, eR, List.map_append]; rfl) ei ea eb fi fa fb
  have K04 := K03.step G02 kk4
  have G04 : Grow H1 (ownS (l k) (r k) (F k) (R k)) (ownS (l k) (r k) F4 (R k ++ [(it', a, b, Fs.laid S'.sum)])) := G02.trans K03 gg4
  have hpr4 := K04 _ _ ((dU pr (.inl rfl)).2 k hk) W1.hpr
  -- told
  obtain ⟨dx, fs, hp4, _, _, f3, _⟩ := SO.ob sd4.sc
  refine ⟨_, rfl, _, rfl, pr, _, _, _, rfl, rfl, SqL.of hpr4, at_two hk p rfl rfl, p k, dx, fs, rfl, hp4, f3, p k, F4, S', rfl, sd4.sc, oA, fun q5 H5 F5 nq oq k45 g45 hs5 e5 => ?_⟩
  have sd5 := sd4.scale SO k45 g45 hs5
  have K05 := K04.step G04 (keep_own k45 _ _ _)
  have G05 := G04.trans K04 (grow_own g45 (l k) (r k) (R k ++ [(it', a, b, Fs.laid S'.sum)]))
  have oS := oA.laid
  refine ⟨_, rfl, .inl ⟨rfl, _, SqL.of e5⟩, _, rfl, _, _, rfl, rfl, (by show (0 : Int) < 5; decide), q5, _, _, rfl, rfl, e5, (by rw [List.length_map]; exact small1000 (by omega)), ?_⟩
  have q4 : q5 ∉ ownS (l k) (r k) F4 (R k ++ [(it', a, b, Fs.laid S'.sum)]) := sd4.out SO nq
  have q5o : q5 ∉ ownS (l k) (r k) F5 (R k ++ [(it', a, b, Fs.laid S'.sum)]) := fun z => by
    rcases own_mem.mp z with w | w | w | w
    · exact q4 (own_mem.mpr (.inl w))
    · exact q4 (own_mem.mpr (.inr (.inl w)))
    · exact q4 (own_mem.mpr (.inr (.inr (.inl w))))
    · exact oq w
  have qH : H1 q5 = none := K04.fr q5 nq
  generalize eo : HO.lst ((Fs.laid S'.sum).map V.int ++ [(fun i j => V.int (i % j)) c 5]) = o6
  have sd6 : Side (Sc cScale) (upd H5 q5 o6) (p k) (l k) (r k) F5 S' S' (R k ++ [(it', a, b, Fs.laid S'.sum)]) := sd5.stay SO fun c' hc o e => by rw [upd_ne (fun z : c' = q5 => q5o (z ▸ hc))]; exact e
  have K06 : Keep (ownS (l k) (r k) (F k) (R k)) H1 (upd H5 q5 o6) := ⟨fun c' o nc e => by rw [upd_ne (ne_of_none e qH)]; exact K05 _ _ nc e, fun c' e => K05.fr c' (upd_free e5 e)⟩
  generalize upd H5 q5 o6 = H6 at sd6 K06 ⊢
  have W6 := W.side_upd SO hk ((s1.keep _).trans K06) sd6 ((Grow.refl _ _).trans (s1.keep _) G05) ⟨_, _, _, _, rfl⟩ oA
  have bound : ∀ j, j < 2 → (upN S k S' j).length ≤ i + 1 ∧ (upN R k (R k ++ [(it', a, b, Fs.laid S'.sum)]) j).length ≤ i + 2 := fun j hj => by
    by_cases e : j = k
    · subst e
      rw [upN_same, upN_same, List.length_append, List.length_singleton]
      exact ⟨by omega, by omega⟩
    · obtain ⟨b1, b2⟩ := hb j hj
      rw [upN_ne e, upN_ne e]
      exact ⟨by omega, by omega⟩
  refine ⟨_, rfl, rfl, _, rfl, ?_⟩
  have k01 : k = 0 ∨ k = 1 := by omega
  rcases k01 with rfl | rfl
  · refine ite2 (fun z => absurd (of_decide_eq_true z) (by decide)) fun _ => ?_
    -- the quiet one
    have t6 : H6 t = some (.tup [.str wrd, v, .bl ok]) := K06 _ _ tO et
    have tF2 : t ∉ F2 := fun z => by obtain ⟨o, e⟩ := SO.has W.quiet t z; rw [nt] at e; cases e
    have hd6 : Deed K H6 wrd v ok (S 0) := hd.keep K06 fun a' e => (W.side 0 hk).out SO (hv a' e)
    have oA' : OkS (afterD v ok (S 0)) := by rw [eS]; exact oA
    refine ⟨_, rfl, _, rfl, p2, t, F2, S 0, wrd, v, ok, rfl, W6.quiet, t6, tF2, hd6, W.ok 0 (by decide), oA', fun H7 F2' k67 g67 hs7 => ?_⟩
    rw [eS] at hs7 ⊢
    refine ⟨_, rfl, rfl, ?_⟩
    rw [decide_eq_true rfl]
    have W7 := W6.quiet_upd SO k67 g67 hs7 oA
    exact q H7 _ _ _ F2' (by rw [upN_same]; exact W7) bound
  · refine ite2 (fun _ => ?_) fun z => absurd (decide_eq_true rfl) z
    exact q H6 _ _ _ F2 (by rw [upN_ne (by decide)]; exact W6) bound
/-! _law_all_back -/
def spAllBack (Sc : SC) : Sp := fun vs H Q _ => ∃ (p l r : Addr) (F : List Addr) (S : List Int) (R : List RowT), vs = [.ref p, .ref l, .ref r] ∧ Side Sc H p l r F S S R ∧ (∃ R' it x y, R = R' ++ [(it, x, y, Fs.laid S.sum)]) ∧ OkS S ∧ R.length ≤ 100 ∧
  ∀ (H' : Hp) (F' : List Addr) (R' : List RowT) (fl : Addr), H fl = none → fl ∉ ownS l r F' R' → Keep (ownS l r F R) H H' → Grow H (ownS l r F R) (ownS l r F' R') → Side Sc H' p l r F' [] [] R' → (∃ Q it x y, R' = Q ++ [(it, x, y, Fs.laid ([] : List Int).sum)]) → R'.length ≤ 200 →
    H' fl = some (.lst ((backsN S).map V.int)) → Q (.ref fl) H'
theorem sc_law_all_back : FnScope ["_law_scale", "_law_loads", "_law_row", "_law_found", "_law_many"] ["_law_scale", "_law_loads", "_law_row"] (defScope s_law_all_back) := ⟨rfl, rfl, rfl, by decide +kernel, rfl, by decide +kernel, by decide +kernel⟩
theorem ok_law_all_back (A : At K mg "_law_all_back" s_law_all_back ["_law_scale", "_law_loads", "_law_row"]) (O : Own_Scale K mg cScale) (GB : MDef CX0 P w K mg base cScale "back" 5 ["self"] (spScBack (Sc cScale)))
    (GL : Def P w K mg base "_law_looked" 6 ["_law_scale", "_law_loads", "_law_row", "_law_many"] (spLooked (Sc cScale))) (GX : Def P w K mg base "_law_done" 6 ["_law_scale", "_law_deed"] (spDone (Sc cScale) K)) :
    Def P w K mg base "_law_all_back" 7 ["_law_scale", "_law_loads", "_law_row"] (spAllBack (Sc cScale)) := A.def fun f fd FF => by
  refine FF.ok sc_law_all_back (fun vs H Q E h => ?_) (fun cdv A outer s H vs Q E hr h => ?_)
  · obtain ⟨p, l, r, F, S, R, rfl, _⟩ := h
    rfl
  obtain ⟨p, l, r, F, S, R, rfl, sd, la, okS, hRl, q⟩ := h
  have h5 : Room 5 _ := hr.mono (by decide)
  have SO := sc_ok cScale
  refine ⟨_, @pss_cons _ _ _ _ _ (@ps_set _ _ 3 _ _ _ _ sc_law_all_back.nd rfl (Or.inl rfl) (@pe_lst _ _ _ _ pa_nil) (by rfl) (by first | exact .inl rfl | exact .inr rfl | assumption)) (@pss_cons _ _ _ _ _ (ps_while PassesOwn.never (pt_cmpR (op_neL hr.units) (pv 1) (@pe_lst _ _ _ _ pa_nil) (nomark _))
      (@pss_cons _ _ _ _ _ (@ps_set _ _ 4 _ _ _ _ sc_law_all_back.nd rfl (Or.inl rfl) (pe_mdef0 GB O.cl h5 pass0 (pv 0)) (by rfl) (by first | exact .inl rfl | exact .inr rfl | assumption)) (@pss_cons _ _ _ _ _ (ps_expr (pe_bm0 PySem.F.plainAttrs_list PySem.F.slot_list_pop PySem.F.type_list_pop mt_pop (pv 1))) (@pss_cons _ _ _ _ _ (@ps_if _ _ _ _ _ _ _ _ (pt_not (pt_val (pe_def GL hr (@pa4 _ _ _ _ _ _ _ _ _ (pv 0) (pv 1) (pv 2) (pv 4) (by exact fun _ _ => rfl) (by exact fun _ _ => rfl) (by exact fun _ _ => rfl) (by exact fun _ _ => rfl))))) (@pss_one _ _ _ (@ps_ret _ _ _ _ pe_non)) pss_nil) (@pss_one _ _ _ (ps_expr (pe_bm PySem.F.plainAttrs_list PySem.F.slot_list_append PySem.F.type_list_append mt_append (pv 3) (@pa_cons _ _ _ _ _ (pv 4) pa_nil (by rfl))))))))) (@pss_cons _ _ _ _ _ (@ps_if _ _ _ _ _ _ _ _ (PW.pt (pw_or (pt_cmpR op_ne (pe_def GX hr (@pa2 _ _ _ _ _ (pv 0) (@pe_tup _ _ _ _ _ (@pa3 _ _ _ _ _ _ _ pe_str pe_non pe_bl (by exact fun _ _ => rfl) (by exact fun _ _ => rfl) (by exact fun _ _ => rfl))) (by exact fun _ _ => rfl) (by exact fun _ _ => rfl))) pe_int (nomark _)) (pw_or1 (pt_not (pt_val (pe_def GL hr (@pa4 _ _ _ _ _ _ _ _ _ (pv 0) (pv 1) (pv 2) pe_int (by exact fun _ _ => rfl) (by exact fun _ _ => rfl) (by exact fun _ _ => rfl) (by exact fun _ _ => rfl)))))))) (@pss_one _ _ _ (@ps_ret _ _ _ _ pe_non)) pss_nil) (@pss_one _ _ _ (@ps_ret _ _ _ _ (pv 3))))), ?_⟩
  refine ⟨by decide, fun fl nfl => ?_⟩
  have s0 := Same.new nfl (.lst [])
  have flO : fl ∉ ownS l r F R := sd.out SO nfl
  refine ⟨fun m σ H' => ∃ (i : Nat) (F' : List Addr) (R' : List RowT) (o : Option V), m = S.length - i ∧ i ≤ S.length ∧ σ = [some (.ref p), some (.ref l), some (.ref r), some (.ref fl), o] ∧ fl ∉ ownS l r F' R' ∧ Keep (ownS l r F R) H H' ∧ Grow H (ownS l r F R) (ownS l r F' R') ∧
    Side (Sc cScale) H' p l r F' (S.take (S.length - i)) (S.take (S.length - i)) R' ∧ (∃ Q it x y, R' = Q ++ [(it, x, y, Fs.laid (S.take (S.length - i)).sum)]) ∧ R'.length ≤ R.length + i ∧ H' fl = some (.lst (((backsN S).take i).map V.int)),
    ⟨S.length, 0, F, R, none, rfl, Nat.zero_le _, rfl, flO, s0.keep _, Grow.refl _ _, by rw [Nat.sub_zero, List.take_length]; exact sd.same SO s0, by rw [Nat.sub_zero, List.take_length]; exact la, Nat.le_refl _, upd_same⟩, ?_⟩
  rintro m σ H1 ⟨i, F1, R1, o, rfl, hi, rfl, fl1, K1, G1, sd1, ⟨R0, it, x, y, eR⟩, hR1, hfl⟩
  have hSl := okS.1
  refine ⟨_, rfl, by decide, fun e ne => ?_⟩
  have s2 := Same.new ne (.lst [])
  refine ⟨l, e, S.take (S.length - i), [], rfl, rfl, SqL.of (s2 _ _ sd1.hl), SqL.of upd_same, _, rfl, ?_⟩
  have sd2 := sd1.same SO s2
  have hfl2 := s2 _ _ hfl
  have K2 := K1.trans (s2.keep (ownS l r F R))
  have G2 := G1
  generalize upd H1 e (.lst []) = H2 at s2 sd2 hfl2 K2 ⊢
  by_cases hlt : i < S.length
  · obtain ⟨n, en⟩ := take_back hlt
    have okT : OkS (S.take (S.length - i)) := okS.take _
    rw [en, decide_eq_false (by simp)]
    refine iteT ?_
    refine ⟨fun σ' H' => ∃ m', m' < S.length - i ∧ ∃ (i : Nat) (F' : List Addr) (R' : List RowT) (o : Option V), m' = S.length - i ∧ i ≤ S.length ∧ σ' = [some (.ref p), some (.ref l), some (.ref r), some (.ref fl), o] ∧ fl ∉ ownS l r F' R' ∧ Keep (ownS l r F R) H H' ∧ Grow H (ownS l r F R) (ownS l r F' R') ∧
      Side (Sc cScale) H' p l r F' (S.take (S.length - i)) (S.take (S.length - i)) R' ∧ (∃ Q it x y, R' = Q ++ [(it, x, y, Fs.laid (S.take (S.length - i)).sum)]) ∧ R'.length ≤ R.length + i ∧ H' fl = some (.lst (((backsN S).take i).map V.int)), fun σ' H' z => z, ?_⟩
    have scn := sd2.sc
    rw [en] at scn okT
    obtain ⟨dx, fs, hp, _, f2, _, _⟩ := SO.ob scn
    refine ⟨_, rfl, p, dx, fs, rfl, hp, f2, p, F1, S.take (S.length - (i + 1)), n, rfl, scn, okT, fun H3 F3 k3 g3 hs3 => ?_⟩
    have sd3 := sd2.scale SO k3 g3 hs3
    have K3 := K2.step G2 (keep_own k3 l r R1)
    have G3 := G2.trans K2 (grow_own g3 l r R1)
    have fl3 : fl ∉ ownS l r F3 R1 := (grow_own g3 l r R1).out hfl2 fl1
    have hfl3 := k3 _ _ (fun z => fl1 (own_mem.mpr (.inr (.inr (.inr z))))) hfl2
    have hl3 := sd3.hl
    have hlast : ((S.take (S.length - i)).map V.int)[((S.take (S.length - i)).map V.int).length - 1]? = some (.int n) := by
      rw [en, List.map_append, List.length_append, List.map_cons, List.map_nil, List.length_singleton, Nat.add_sub_cancel, List.getElem?_append_right (Nat.le_refl _), Nat.sub_self]
      rfl
    refine ⟨_, rfl, .inl ⟨rfl, _, SqL.of hl3⟩, l, _, _, rfl, rfl, hl3, hlast, ?_⟩
    have ed : ((S.take (S.length - i)).map V.int).dropLast = (S.take (S.length - (i + 1))).map V.int := by rw [en, List.map_append]; simp
    rw [ed]
    have sd4 := sd3.loads SO (S.take (S.length - (i + 1)))
    have K34 : Keep (ownS l r F3 R1) H3 (upd H3 l (.lst ((S.take (S.length - (i + 1))).map V.int))) := Keep.upd (own_mem.mpr (.inl rfl)) hl3 _
    have K4 := K3.step G3 K34
    have hfl4 := K34 _ _ fl3 hfl3
    generalize upd H3 l (.lst ((S.take (S.length - (i + 1))).map V.int)) = H4 at sd4 K34 K4 hfl4 ⊢
    obtain ⟨r1, r2, r3, r4, r5, _, _⟩ := sd4.lastR eR
    have okT' : OkS (S.take (S.length - (i + 1))) := okS.take _
    have lT := okT.laid
    have R0l : R0.length ≤ 163 := by
      have := hR1
      rw [eR, List.length_append, List.length_singleton] at this
      omega
    refine ⟨_, rfl, _, rfl, _, rfl, _, rfl, p, l, r, it, x, y, F3, S.take (S.length - (i + 1)), Fs.laid (S.take (S.length - i)).sum, R0.map fun q => V.ref q.1, movedN (Fs.laid (S.take (S.length - i)).sum) (Fs.laid (S.take (S.length - (i + 1))).sum), (by rw [en]; rfl), sd4.sc, okT', sd4.hl, sd4.lF, r1, sd4.rF, (by rw [List.length_map]; omega), r2, r3, r4, r5, (by rw [en]; omega), rfl, fun H5 F5 it' a b ni na nb _ _ _ k5 g5 hs5 er ei ea eb fi fa fb => ⟨_, rfl, iteF ?_⟩⟩
    obtain ⟨sd5, kk5, gg5⟩ := sd4.row (ns := Fs.laid (S.take (S.length - (i + 1))).sum) ni na nb k5 g5 hs5 (by rw [er, eR, List.map_append]; rfl) ei ea eb fi fa fb
    have K5 := K4.step G3 kk5
    have G5 := G3.trans K4 gg5
    have fl5 := gg5.out hfl4 fl3
    have hfl5 := kk5 _ _ fl3 hfl4
    refine ⟨_, rfl, .inl ⟨rfl, _, SqL.of hfl5⟩, _, rfl, fl, _, _, rfl, rfl, hfl5, (by rw [List.length_map, List.length_take, backsN_len]; exact small1000 (by omega)), ?_⟩
    refine ⟨S.length - (i + 1), by omega, i + 1, F5, R1 ++ [(it', a, b, Fs.laid (S.take (S.length - (i + 1))).sum)], _, rfl, hlt, rfl, fl5, ?_, G5, ?_, ⟨_, _, _, _, rfl⟩, (by rw [List.length_append, List.length_singleton]; omega), ?_⟩
    · exact ⟨fun c o nc e => by rw [upd_ne (ne_of_none e nfl)]; exact K5 _ _ nc e, fun c e => K5.fr c (upd_free hfl5 e)⟩
    · exact sd5.stay SO fun c hc o e => by rw [upd_ne (fun z : c = fl => fl5 (z ▸ hc))]; exact e
    · rw [upd_same, backsN_take hlt, List.map_append, en]
      rfl
  · have ei : i = S.length := by omega
    subst ei
    rw [Nat.sub_self, List.take_zero] at sd2 eR ⊢
    rw [show (backsN S).take S.length = backsN S by rw [← backsN_len S, List.take_length]] at hfl2
    refine iteF ?_
    -- once more back
    refine ⟨_, rfl, (by show 3 ≤ sizeLine; decide), fun t nt => ?_⟩
    have s3 := Same.new nt (.tup [.str "back", .non, .bl false])
    have et : upd H2 t (.tup [.str "back", .non, .bl false]) t = some (.tup [.str "back", .non, .bl false]) := upd_same
    have sd3 := sd2.same SO s3
    have hfl3 := s3 _ _ hfl2
    have K3 := K2.trans (s3.keep (ownS l r F R))
    have tO : t ∉ ownS l r F1 R1 := sd2.out SO nt
    generalize upd H2 t (.tup [.str "back", .non, .bl false]) = H3 at s3 et sd3 hfl3 K3 ⊢
    refine ⟨p, t, F1, [], "back", .non, false, rfl, sd3.sc, et, fun z => tO (own_mem.mpr (.inr (.inr (.inr z)))), .inr (.inl ⟨rfl, rfl, rfl⟩), OkS.nil, OkS.nil, fun H4 F4 k4 g4 hs4 => ⟨rfl, _, rfl, ?_⟩⟩
    have hs4' : Sc cScale H4 p F4 [] := hs4
    rw [show afterD V.non false [] = [] from rfl, movedN_self]
    refine iteNS rfl ?_
    have sd4 := sd3.scale SO k4 g4 hs4'
    have K4 := K3.step G2 (keep_own k4 l r R1)
    have G4 := G2.trans K3 (grow_own g4 l r R1)
    have fl4 : fl ∉ ownS l r F4 R1 := (grow_own g4 l r R1).out hfl3 fl1
    have hfl4 := k4 _ _ (fun z => fl1 (own_mem.mpr (.inr (.inr (.inr z))))) hfl3
    obtain ⟨r1, r2, r3, r4, r5, _, _⟩ := sd4.lastR eR
    have R0l : R0.length ≤ 163 := by
      have := hR1
      rw [eR, List.length_append, List.length_singleton] at this
      omega
    refine ⟨_, rfl, _, rfl, _, rfl, p, l, r, it, x, y, F4, [], Fs.laid ([] : List Int).sum, R0.map fun q => V.ref q.1, 0, rfl, sd4.sc, OkS.nil, sd4.hl, sd4.lF, r1, sd4.rF, (by rw [List.length_map]; omega), r2, r3, r4, r5, (by have := OkS.nil.laid; omega), (movedN_self _).symm, fun H5 F5 it' a b ni na nb _ _ _ k5 g5 hs5 er ei ea eb fi fa fb => ⟨_, rfl, iteF ?_⟩⟩
    obtain ⟨sd5, kk5, gg5⟩ := sd4.row (ns := Fs.laid ([] : List Int).sum) ni na nb k5 g5 hs5 (by rw [er, eR, List.map_append]; rfl) ei ea eb fi fa fb
    refine ⟨_, rfl, q H5 F5 _ fl nfl (gg5.out hfl4 fl4) (K4.step G4 kk5) (G4.trans K4 gg5) sd5 ⟨_, _, _, _, rfl⟩ ?_ (kk5 _ _ fl4 hfl4)⟩
    rw [List.length_append, List.length_singleton]
    omega
/-! _law_quiet -/
def spQuiet (Sc : SC) : Sp := fun vs H Q _ => ∃ (p lo ro it x y : Addr) (F : List Addr) (T : List Int) (its : List V), vs = [.ref p, .ref lo, .ref ro] ∧ Sc H p F T ∧ OkS T ∧ H lo = some (.lst (T.map V.int)) ∧ lo ∉ F ∧ H ro = some (.lst (its ++ [.ref it])) ∧ ro ∉ F ∧ H it = some (.lst [.ref x, .ref y]) ∧ it ∉ F ∧
  H y = some (.lst ((Fs.laid T.sum).map V.int)) ∧ y ∉ F ∧ ∀ (H' : Hp) (F' : List Addr), Keep F H H' → Grow H F F' → Sc H' p F' T → Q (.bl true) H'
theorem sc_law_quiet : FnScope ["_law_quiet_here", "_law_loads", "_law_row", "_law_whole_here", "_law_now"] ["_law_quiet_here", "_law_loads", "_law_row"] (defScope s_law_quiet) := ⟨rfl, rfl, rfl, by decide +kernel, rfl, by decide +kernel, by decide +kernel⟩
theorem ok_law_quiet (A : At K mg "_law_quiet" s_law_quiet ["_law_quiet_here", "_law_loads", "_law_row"]) (B : Txt mg) (O : Own_Scale K mg cScale) (GW : MDef CX0 P w K mg base cScale "weighs" 1 ["self"] (spScWeighs (Sc cScale))) (GP : MDef CX0 P w K mg base cScale "pans" 4 ["self"] (spScPans (Sc cScale)))
    (GI : Def P w K mg base "_law_whole" 1 ["_law_found"] (spWhole K)) (GN : Def P w K mg base "_law_neat" 2 ["_law_things"] spLawNeat) : Def P w K mg base "_law_quiet" 6 ["_law_quiet_here", "_law_loads", "_law_row"] (spQuiet (Sc cScale)) := A.def fun f fd FF => by
  refine FF.ok sc_law_quiet (fun vs H Q E h => ?_) (fun cdv A outer s H vs Q E hr h => ?_)
  · obtain ⟨p, lo, ro, it, x, y, F, T, its, rfl, _⟩ := h
    rfl
  obtain ⟨p, lo, ro, it, x, y, F, T, its, rfl, hs, ok, hlo, nlo, hro, nro, hit, nit, hy, ny, q⟩ := h
  have h1 : Room 1 _ := hr.mono (by decide)
  have h2 : Room 2 _ := hr.mono (by decide)
  have h4 : Room 4 _ := hr.mono (by decide)
  have SO := sc_ok cScale
  refine ⟨_, @pss_cons _ _ _ _ _ (@ps_set _ _ 3 _ _ _ _ sc_law_quiet.nd rfl (Or.inl rfl) (pe_mdef0 GW O.cl h1 pass0 (pv 0)) (by rfl) (by first | exact .inl rfl | exact .inr rfl | assumption)) (@pss_cons _ _ _ _ _ (@ps_set _ _ 4 _ _ _ _ sc_law_quiet.nd rfl (Or.inl rfl) (pe_mdef0 GP O.cl h4 pass0 (pv 0)) (by rfl) (by first | exact .inl rfl | exact .inr rfl | assumption)) (@pss_one _ _ _ (@ps_ret _ _ _ _ (pe_and (pe_def GI h1 (@pa_cons _ _ _ _ _ (pv 3) pa_nil (by rfl))) (pe_and (pe_cmpR op_eq (pv 3) (pe_callB (call_sum rfl) rfl B.b_sum boot_tsum (@pa_cons _ _ _ _ _ (pv 1) pa_nil (by rfl))) (nomark _)) (pe_and (pe_def GN h2 (@pa_cons _ _ _ _ _ (pv 4) pa_nil (by rfl)))
      (pe_one (pe_cmpR (op_eqL hr.units) (pv 4) (@pe_ix _ _ _ _ _ _ _ ix_list (@pe_ix _ _ _ _ _ _ _ ix_list (pv 2) (pe_un un_neg pe_int) (fun _ _ => rfl)) pe_int (fun _ _ => rfl)) (nomark _))))))))), ?_⟩
  have lS := ok.laid
  obtain ⟨dx, fs, hp, _, _, _, f4⟩ := SO.ob hs
  refine ⟨_, rfl, p, dx, fs, rfl, hp, f4, p, F, T, rfl, hs, ok, fun H1 F1 k1 g1 hs1 => ?_⟩
  obtain ⟨dx1, fs1, hp1, _, _, f3, _⟩ := SO.ob hs1
  refine ⟨_, rfl, p, dx1, fs1, rfl, hp1, f3, p, F1, T, rfl, hs1, ok, fun now H2 F2 nn outn k2 g2 hs2 en => ?_⟩
  have kk := k1.step g1 k2
  have gg := g1.trans k1 g2
  refine ⟨_, rfl, _, _, rfl, .int _, _, rfl, iteT ⟨_, rfl, _, rfl, lo, T, rfl, SqL.of (kk _ _ nlo hlo), rfl, _, rfl, ?_⟩⟩
  rw [decide_eq_true rfl]
  refine iteT ⟨_, rfl, now, Fs.laid T.sum, rfl, .inl en, by omega, Fs.laid_neat _, fun H3 s3 => ⟨_, rfl, iteT ?_⟩⟩
  refine ⟨_, rfl, _, rfl, _, rfl, ro, _, _, _, rfl, rfl, SqL.of (s3 _ _ (kk _ _ nro hro)), atI_last _ _, it, _, 1, _, rfl, rfl, SqL.of (s3 _ _ (kk _ _ nit hit)), rfl, now, y, Fs.laid T.sum, Fs.laid T.sum, rfl, rfl, SqL.of (s3 _ _ en), SqL.of (s3 _ _ (kk _ _ ny hy)), ?_⟩
  rw [decide_eq_true rfl]
  exact q H3 F2 (kk.trans (s3.keep _)) gg (SO.same hs2 s3)
/-! law -/
def spLaw (K : PySem.W.Frag) : Sp := fun vs H Q _ => ∃ (a : Addr) (ns : List Int), vs = [.ref a] ∧ SqL K H a (ns.map V.int) ∧ ns.length ≤ 63 ∧ ∀ H', Q (.bl true) H'
theorem sc_law : FnScope ["_law_script", "_law_pair", "_law_quiet_here", "_law_loads", "_law_rows", "_law_most", "_law_size", "_law_cell", "_law_k", "_law_numbers", "_law_many", "_law_told", "_law_kept"] ["_law_script"] (defScope s_law) := ⟨rfl, rfl, rfl, by decide +kernel, rfl, by decide +kernel, by decide +kernel⟩
theorem ok_law {f : Addr} {fd : FuncData} (FF : Fun K "law" "law" s_law f fd) (B : Txt mg) (O : Own_Scale K mg cScale) (GI : IDef P w K mg base cScale 1 ["self"] (spScInit (Sc cScale) cScale)) (GC : Def P w K mg base "_law_cell_at" 1 ["_law_script", "_law_k"] (spCell K))
    (GP : MDef CX0 P w K mg base cScale "pans" 4 ["self"] (spScPans (Sc cScale))) (GW : MDef CX0 P w K mg base cScale "weighs" 1 ["self"] (spScWeighs (Sc cScale))) (GS : Def P w K mg base "_law_step" 7 ["_law_pair", "_law_quiet_here", "_law_loads", "_law_rows", "_law_cell", "_law_most"] (spStep (Sc cScale)))
    (GB : Def P w K mg base "_law_all_back" 7 ["_law_scale", "_law_loads", "_law_row"] (spAllBack (Sc cScale))) (GL : Def P w K mg base "_law_looked" 6 ["_law_scale", "_law_loads", "_law_row", "_law_many"] (spLooked (Sc cScale)))
    (GX : Def P w K mg base "_law_done" 6 ["_law_scale", "_law_deed"] (spDone (Sc cScale) K)) (GQ : Def P w K mg base "_law_quiet" 6 ["_law_quiet_here", "_law_loads", "_law_row"] (spQuiet (Sc cScale))) : FnOk P w K mg base CX0 8 f fd ["_law_script"] (spLaw K) := by
  refine FF.ok sc_law (fun vs H Q E h => ?_) (fun cdv A outer s H vs Q E hr h => ?_)
  · obtain ⟨a, ns, rfl, _⟩ := h
    rfl
  obtain ⟨a, ns, rfl, hS, hn, q⟩ := h
  have h1 : Room 1 _ := hr.mono (by decide)
  have h2 : Room 2 _ := hr.mono (by decide)
  have h6 : Room 6 _ := hr.mono (by decide)
  have h4 : Room 4 _ := hr.mono (by decide)
  have SO := sc_ok cScale
  refine ⟨_, @pss_cons _ _ _ _ _ (@ps_set _ _ 1 _ _ _ _ sc_law.nd rfl (Or.inl rfl) (@pe_lst _ _ _ _ (@pa2 _ _ _ _ _ (pe_mk0 GI h2 O.mgC) (pe_mk0 GI h2 O.mgC) (by exact fun _ _ => rfl) (by exact fun _ _ => rfl))) (by rfl) (by first | exact .inl rfl | exact .inr rfl | assumption)) (@pss_cons _ _ _ _ _ (@ps_set _ _ 2 _ _ _ _ sc_law.nd rfl (Or.inl rfl) (pe_mk0 GI h2 O.mgC) (by rfl) (by first | exact .inl rfl | exact .inr rfl | assumption)) (@pss_cons _ _ _ _ _ (@ps_set _ _ 3 _ _ _ _ sc_law.nd rfl (Or.inl rfl) (@pe_lst _ _ _ _ (@pa2 _ _ _ _ _ (@pe_lst _ _ _ _ pa_nil) (@pe_lst _ _ _ _ pa_nil) (by exact fun _ _ => rfl) (by exact fun _ _ => rfl))) (by rfl) (by first | exact .inl rfl | exact .inr rfl | assumption)) (@pss_cons _ _ _ _ _ (@ps_set _ _ 4 _ _ _ _ sc_law.nd rfl (Or.inl rfl) (@pe_lst _ _ _ _ (@pa2 _ _ _ _ _ (@pe_lst _ _ _ _ (@pa_cons _ _ _ _ _ (@pe_lst _ _ _ _ (@pa2 _ _ _ _ _ (@pe_lst _ _ _ _ pa_nil) (@pe_lst _ _ _ _ pa_nil) (by exact fun _ _ => rfl) (by exact fun _ _ => rfl))) pa_nil (by rfl))) (@pe_lst _ _ _ _ (@pa_cons _ _ _ _ _ (@pe_lst _ _ _ _ (@pa2 _ _ _ _ _ (@pe_lst _ _ _ _ pa_nil) (@pe_lst _ _ _ _ pa_nil) (by exact fun _ _ => rfl) (by exact fun _ _ => rfl))) pa_nil (by rfl))) (by exact fun _ _ => rfl) (by exact fun _ _ => rfl))) (by rfl) (by first | exact .inl rfl | exact .inr rfl | assumption)) (@pss_cons _ _ _ _ _ (@ps_set _ _ 5 _ _ _ _ sc_law.nd rfl (Or.inl rfl) (@pe_op _ _ _ _ _ _ _ _ op_pow pe_int pe_int) (by rfl) (by first | exact .inl rfl | exact .inr rfl | assumption)) (@pss_cons _ _ _ _ _ (@ps_set _ _ 6 _ _ _ _ sc_law.nd rfl (Or.inl rfl) pe_int (by rfl) (by first | exact .inl rfl | exact .inr rfl | assumption)) (@pss_cons _ _ _ _ _ (ps_cut (@ps_if _ _ _ _ _ _ _ _ (pt_cmpR op_eq (@pe_op _ _ _ _ _ _ _ _ op_mod (@pe_op _ _ _ _ _ _ _ _ op_fdiv (pe_def GC h1 (@pa2 _ _ _ _ _ (pv 0) pe_int (by exact fun _ _ => rfl) (by exact fun _ _ => rfl))) pe_int) pe_int) pe_int (nomark _)) (@pss_cons _ _ _ _ _ (@ps_set _ _ 5 _ _ _ _ sc_law.nd rfl (Or.inl rfl) (@pe_op _ _ _ _ _ _ _ _ op_mulW (@pe_op _ _ _ _ _ _ _ _ op_pow pe_int pe_int) (@pe_op _ _ _ _ _ _ _ _ op_pow pe_int pe_int)) (by rfl) (by first | exact .inl rfl | exact .inr rfl | assumption)) (@pss_one _ _ _ (@ps_set _ _ 6 _ _ _ _ sc_law.nd rfl (Or.inl rfl) pe_int (by rfl) (by first | exact .inl rfl | exact .inr rfl | assumption)))) pss_nil)) (@pss_cons _ _ _ _ _ (@ps_if _ _ _ _ _ _ _ _ (PW.pt (pw_or (pt_cmpR (op_neL hr.units) (pe_mdef0 GP O.cl h4 pass0 (@pe_ix _ _ _ _ _ _ _ ix_list (pv 1) pe_int (fun _ _ => rfl))) (@pe_lst _ _ _ _ pa_nil) (nomark _)) (pw_or1 (pt_cmpR op_ne (pe_mdef0 GW O.cl h1 pass0 (@pe_ix _ _ _ _ _ _ _ ix_list (pv 1) pe_int (fun _ _ => rfl))) pe_int (nomark _))))) (@pss_one _ _ _ (@ps_ret _ _ _ _ pe_bl)) pss_nil) (@pss_cons _ _ _ _ _ (ps_for PassesOwn.never rfl (pi_list (pe_slice sl_list (pv 0) po_none (po_some (pv 6)))) (pg_name (i := 7) sc_law.nd rfl (Or.inl rfl)) (@pss_one _ _ _ (@ps_if _ _ _ _ _ _ _ _ (pt_not (pt_val (pe_def GS hr (@pa6 _ _ _ _ _ _ _ _ _ _ _ _ _ (pv 1) (pv 2) (pv 3) (pv 4) (pv 7) (pv 5) (by exact fun _ _ => rfl) (by exact fun _ _ => rfl) (by exact fun _ _ => rfl) (by exact fun _ _ => rfl) (by exact fun _ _ => rfl) (by exact fun _ _ => rfl))))) (@pss_one _ _ _ (@ps_ret _ _ _ _ pe_bl)) pss_nil))) (@pss_cons _ _ _ _ _ (@ps_set _ _ 8 _ _ _ _ sc_law.nd rfl (Or.inl rfl) (@pe_op _ _ _ _ _ _ _ _ op_mod (pe_callB call_len_seq rfl B.b_len PySem.boot_len (@pa_cons _ _ _ _ _ (pv 0) pa_nil (by rfl))) pe_int) (by rfl) (by first | exact .inl rfl | exact .inr rfl | assumption)) (@pss_cons _ _ _ _ _ (@ps_set _ _ 9 _ _ _ _ sc_law.nd rfl (Or.inl rfl) (pe_def GB hr (@pa3 _ _ _ _ _ _ _ (@pe_ix _ _ _ _ _ _ _ ix_list (pv 1) (pv 8) (fun _ _ => rfl)) (@pe_ix _ _ _ _ _ _ _ ix_list (pv 3) (pv 8) (fun _ _ => rfl)) (@pe_ix _ _ _ _ _ _ _ ix_list (pv 4) (pv 8) (fun _ _ => rfl)) (by exact fun _ _ => rfl) (by exact fun _ _ => rfl) (by exact fun _ _ => rfl))) (by rfl) (by first | exact .inl rfl | exact .inr rfl | assumption)) (@pss_cons _ _ _ _ _ (@ps_if _ _ _ _ _ _ _ _ (PW.pt (pw_or (pt_cmpR op_isN (pv 9) pe_non (nomark _)) (pw_or1 (pt_not (pt_val (pe_def GL h6 (@pa4 _ _ _ _ _ _ _ _ _ (@pe_ix _ _ _ _ _ _ _ ix_list (pv 1) (@pe_op _ _ _ _ _ _ _ _ op_sub pe_int (pv 8)) (fun _ _ => rfl)) (@pe_ix _ _ _ _ _ _ _ ix_list (pv 3) (@pe_op _ _ _ _ _ _ _ _ op_sub pe_int (pv 8)) (fun _ _ => rfl)) (@pe_ix _ _ _ _ _ _ _ ix_list (pv 4) (@pe_op _ _ _ _ _ _ _ _ op_sub pe_int (pv 8)) (fun _ _ => rfl)) pe_int (by exact fun _ _ => rfl) (by exact fun _ _ => rfl) (by exact fun _ _ => rfl) (by exact fun _ _ => rfl)))))))) (@pss_one _ _ _ (@ps_ret _ _ _ _ pe_bl)) pss_nil) (@pss_cons _ _ _ _ _ (ps_cut (@ps_if _ _ _ _ _ _ _ _ (pt_cmpR op_eq (pv 8) pe_int (nomark _)) (@pss_one _ _ _ (ps_for PassesOwn.never rfl (pi_list (pv 9)) (pg_name (i := 10) sc_law.nd rfl (Or.inl rfl)) (@pss_one _ _ _ (@ps_if _ _ _ _ _ _ _ _ (pt_cmpR op_ne (pe_def GX h6 (@pa2 _ _ _ _ _ (pv 2) (@pe_tup _ _ _ _ _ (@pa3 _ _ _ _ _ _ _ pe_str pe_non pe_bl (by exact fun _ _ => rfl) (by exact fun _ _ => rfl) (by exact fun _ _ => rfl))) (by exact fun _ _ => rfl) (by exact fun _ _ => rfl))) (pv 10) (nomark _)) (@pss_one _ _ _ (@ps_ret _ _ _ _ pe_bl)) pss_nil)))) pss_nil)) (@pss_cons _ _ _ _ _ (@ps_if _ _ _ _ _ _ _ _ (pt_not (pt_val (pe_def GQ h6 (@pa3 _ _ _ _ _ _ _ (pv 2) (@pe_ix _ _ _ _ _ _ _ ix_list (pv 3) pe_int (fun _ _ => rfl)) (@pe_ix _ _ _ _ _ _ _ ix_list (pv 4) pe_int (fun _ _ => rfl)) (by exact fun _ _ => rfl) (by exact fun _ _ => rfl) (by exact fun _ _ => rfl))))) (@pss_one _ _ _ (@ps_ret _ _ _ _ pe_bl)) pss_nil) (@pss_cons _ _ _ _ _ (ps_for PassesOwn.never rfl (pi_list (@pe_op _ _ _ _ _ _ _ _ op_cat (@pe_ix _ _ _ _ _ _ _ ix_list (pv 4) pe_int (fun _ _ => rfl)) (@pe_ix _ _ _ _ _ _ _ ix_list (pv 4) pe_int (fun _ _ => rfl)))) (pg_lst rfl (pgs_cons (pg_name (i := 11) sc_law.nd rfl (Or.inl rfl)) (pgs_cons (pg_name (i := 12) sc_law.nd rfl (Or.inl rfl)) pgs_nil))) (@pss_one _ _ _ (@ps_if _ _ _ _ _ _ _ _ (pt_cmpR (op_neL hr.units) (pv 11) (pv 12) (nomark _)) (@pss_one _ _ _ (@ps_ret _ _ _ _ pe_bl)) pss_nil))) (@pss_one _ _ _ (@ps_ret _ _ _ _ pe_bl)))))))))))))))), ?_⟩
  -- the scales
  intro p0 dx0 np0 ndx0 _
  refine ⟨p0, dx0, rfl, upd_same, fun H1 F0 k1 g1 sc0 => ⟨rfl, ?_⟩⟩
  obtain ⟨s1, fr0⟩ := made_new np0 ndx0 k1 g1
  obtain ⟨f1, _⟩ := (Fresh.nil H).foot s1 fr0 (SO.has sc0)
  intro p1 dx1 np1 ndx1 _
  refine ⟨p1, dx1, rfl, upd_same, fun H2 F1 k2 g2 sc1 => ⟨rfl, ?_⟩⟩
  obtain ⟨s2, fr1⟩ := made_new np1 ndx1 k2 g2
  obtain ⟨f2, d01⟩ := f1.foot s2 fr1 (SO.has sc1)
  have sc0' := SO.same sc0 s2
  refine ⟨(by show 2 ≤ sizeLine; decide), fun pr npr => ?_⟩
  have s3 := Same.new npr (.lst [.ref p0, .ref p1])
  have f3 := f2.add npr (.lst [.ref p0, .ref p1])
  have hpr : upd H2 pr (.lst [.ref p0, .ref p1]) pr = some (.lst [.ref p0, .ref p1]) := upd_same
  have sc0 := SO.same sc0' s3
  have sc1 := SO.same sc1 s3
  generalize upd H2 pr (.lst [.ref p0, .ref p1]) = H3 at s3 f3 hpr sc0 sc1 ⊢
  intro p2 dx2 np2 ndx2 _
  refine ⟨p2, dx2, rfl, upd_same, fun H4 F2 k4 g4 sc2 => ⟨rfl, ?_⟩⟩
  obtain ⟨s4, fr2⟩ := made_new np2 ndx2 k4 g4
  obtain ⟨f4, d2⟩ := f3.foot s4 fr2 (SO.has sc2)
  have hpr := s4 _ _ hpr
  have sc0 := SO.same sc0 s4
  have sc1 := SO.same sc1 s4
  -- the loads
  refine ⟨by decide, fun l0 nl0 => ?_⟩
  have u1 := Same.new nl0 (.lst [])
  have f5 := f4.add nl0 (.lst [])
  have hl0 : upd H4 l0 (.lst []) l0 = some (.lst []) := upd_same
  generalize upd H4 l0 (.lst []) = H5 at u1 f5 hl0 ⊢
  refine ⟨by decide, fun l1 nl1 => ?_⟩
  have u2 := Same.new nl1 (.lst [])
  have f6 := f5.add nl1 (.lst [])
  have hl1 : upd H5 l1 (.lst []) l1 = some (.lst []) := upd_same
  generalize upd H5 l1 (.lst []) = H6 at u2 f6 hl1 ⊢
  refine ⟨(by show 2 ≤ sizeLine; decide), fun ld nld => ?_⟩
  have u3 := Same.new nld (.lst [.ref l0, .ref l1])
  have f7 := f6.add nld (.lst [.ref l0, .ref l1])
  have hld : upd H6 ld (.lst [.ref l0, .ref l1]) ld = some (.lst [.ref l0, .ref l1]) := upd_same
  generalize upd H6 ld (.lst [.ref l0, .ref l1]) = H7 at u3 f7 hld ⊢
  -- the rows
  refine ⟨by decide, fun x0 nx0 => ?_⟩
  have u4 := Same.new nx0 (.lst [])
  have f8 := f7.add nx0 (.lst [])
  have hx0 : upd H7 x0 (.lst []) x0 = some (.lst []) := upd_same
  generalize upd H7 x0 (.lst []) = H8 at u4 f8 hx0 ⊢
  refine ⟨by decide, fun y0 ny0 => ?_⟩
  have u5 := Same.new ny0 (.lst [])
  have f9 := f8.add ny0 (.lst [])
  have hy0 : upd H8 y0 (.lst []) y0 = some (.lst []) := upd_same
  generalize upd H8 y0 (.lst []) = H9 at u5 f9 hy0 ⊢
  refine ⟨(by show 2 ≤ sizeLine; decide), fun i0 ni0 => ?_⟩
  have u6 := Same.new ni0 (.lst [.ref x0, .ref y0])
  have f10 := f9.add ni0 (.lst [.ref x0, .ref y0])
  have hi0 : upd H9 i0 (.lst [.ref x0, .ref y0]) i0 = some (.lst [.ref x0, .ref y0]) := upd_same
  generalize upd H9 i0 (.lst [.ref x0, .ref y0]) = H10 at u6 f10 hi0 ⊢
  refine ⟨(by show 1 ≤ sizeLine; decide), fun r0 nr0 => ?_⟩
  have u7 := Same.new nr0 (.lst [.ref i0])
  have f11 := f10.add nr0 (.lst [.ref i0])
  have hr0 : upd H10 r0 (.lst [.ref i0]) r0 = some (.lst [.ref i0]) := upd_same
  generalize upd H10 r0 (.lst [.ref i0]) = H11 at u7 f11 hr0 ⊢
  refine ⟨by decide, fun x1 nx1 => ?_⟩
  have u8 := Same.new nx1 (.lst [])
  have f12 := f11.add nx1 (.lst [])
  have hx1 : upd H11 x1 (.lst []) x1 = some (.lst []) := upd_same
  generalize upd H11 x1 (.lst []) = H12 at u8 f12 hx1 ⊢
  refine ⟨by decide, fun y1 ny1 => ?_⟩
  have u9 := Same.new ny1 (.lst [])
  have f13 := f12.add ny1 (.lst [])
  have hy1 : upd H12 y1 (.lst []) y1 = some (.lst []) := upd_same
  generalize upd H12 y1 (.lst []) = H13 at u9 f13 hy1 ⊢
  refine ⟨(by show 2 ≤ sizeLine; decide), fun i1 ni1 => ?_⟩
  have u10 := Same.new ni1 (.lst [.ref x1, .ref y1])
  have f14 := f13.add ni1 (.lst [.ref x1, .ref y1])
  have hi1 : upd H13 i1 (.lst [.ref x1, .ref y1]) i1 = some (.lst [.ref x1, .ref y1]) := upd_same
  generalize upd H13 i1 (.lst [.ref x1, .ref y1]) = H14 at u10 f14 hi1 ⊢
  refine ⟨(by show 1 ≤ sizeLine; decide), fun r1 nr1 => ?_⟩
  have u11 := Same.new nr1 (.lst [.ref i1])
  have f15 := f14.add nr1 (.lst [.ref i1])
  have hr1 : upd H14 r1 (.lst [.ref i1]) r1 = some (.lst [.ref i1]) := upd_same
  generalize upd H14 r1 (.lst [.ref i1]) = H15 at u11 f15 hr1 ⊢
  refine ⟨(by show 2 ≤ sizeLine; decide), fun rw nrw => ?_⟩
  have u12 := Same.new nrw (.lst [.ref r0, .ref r1])
  have f16 := f15.add nrw (.lst [.ref r0, .ref r1])
  have hrw : upd H15 rw (.lst [.ref r0, .ref r1]) rw = some (.lst [.ref r0, .ref r1]) := upd_same
  generalize upd H15 rw (.lst [.ref r0, .ref r1]) = H16 at u12 f16 hrw ⊢
  have v11 := u12
  have v10 := u11.trans v11
  have v9 := u10.trans v10
  have v8 := u9.trans v9
  have v7 := u8.trans v8
  have v6 := u7.trans v7
  have v5 := u6.trans v6
  have v4 := u5.trans v5
  have v3 := u4.trans v4
  have v2 := u3.trans v3
  have v1 := u2.trans v2
  have v0 := u1.trans v1
  have W := Scene.start SO f16 d01 d2 (v0 _ _ hpr) (v3 _ _ hld) hrw (SO.same sc0 v0) (SO.same sc1 v0) (SO.same sc2 v0) (v1 _ _ hl0) (v2 _ _ hl1) (v7 _ _ hr0) (v11 _ _ hr1) (v6 _ _ hi0) (v10 _ _ hi1) (v4 _ _ hx0) (v5 _ _ hy0) (v8 _ _ hx1) (v9 _ _ hy1)
  clear s1 fr0 f1 s2 fr1 f2 d01 s3 f3 s4 fr2 f4 d2 f5 f6 f7 f8 f9 f10 f11 f12 f13 f14 f15 f16 v0 v1 v2 v3 v4 v5 v6 v7 v8 v9 v10 v11
  have hR : ∀ k, k < 2 → ((sel [(i0, x0, y0, ([] : List Int))] [(i1, x1, y1, ([] : List Int))]) k).length ≤ 1 := fun k _ => by
    unfold sel
    split <;> exact Nat.le_refl _
  generalize sel p0 p1 = p at W
  generalize sel l0 l1 = l at W
  generalize sel r0 r1 = r at W
  generalize sel F0 F1 = F at W
  generalize sel [(i0, x0, y0, ([] : List Int))] [(i1, x1, y1, ([] : List Int))] = R at W hR
  have z0 : (0 : Nat) < 2 := by decide
  have z1 : (1 : Nat) < 2 := by decide
  -- how far
  have e18 : CPow 10 18 := ⟨by decide, by decide, by decide⟩
  have e50 : CPow 10 50 := ⟨by decide, by decide, by decide⟩
  have e47 : CPow 10 47 := ⟨by decide, by decide, by decide⟩
  have b50 : (((10 : Int) ^ (50 : Int).toNat)).natAbs ≤ 2 ^ 400 := by decide +kernel
  have b47 : (((10 : Int) ^ (47 : Int).toNat)).natAbs ≤ 2 ^ 400 := by decide +kernel
  refine ⟨_, _, rfl, rfl, e18, ?_⟩
  refine ⟨fun σ' H' => ∃ (m : Int) (z : Nat), σ' = [some (.ref a), some (.ref pr), some (.ref p2), some (.ref ld), some (.ref rw), some (.int m), some (.int (z : Int)), none, none, none, none, none, none] ∧ H' = H16 ∧ 0 < m ∧ m ≤ 2 ^ 328 ∧ z ≤ 40, ?_, ?_⟩
  · refine ⟨_, rfl, a, ns, 0, rfl, W.same.seq hS, _, _, rfl, rfl, ⟨by decide, by decide⟩, _, _, rfl, rfl, (by show (0 : Int) < 8; decide), rfl, _, rfl, ?_⟩
    refine ite2 (fun _ => ?_) fun _ => ⟨_, 40, rfl, rfl, by decide +kernel, by decide +kernel, by decide⟩
    exact ⟨_, _, rfl, rfl, e50, _, _, rfl, rfl, e47, _, _, rfl, rfl, ⟨400, 400, b50, b47, by decide, by decide⟩, _, 20, rfl, rfl, by decide +kernel, by decide +kernel, by decide⟩
  rintro σ' H' ⟨m, z, rfl, rfl, m0, m1, hz⟩
  -- empty at first
  obtain ⟨dx, fs, hp, _, _, f3, _⟩ := SO.ob (W.side 0 z0).sc
  refine ⟨_, rfl, pr, _, 0, _, rfl, rfl, SqL.of W.hpr, at_two z0 p rfl rfl, p 0, dx, fs, rfl, hp, f3, p 0, F 0, [], rfl, (W.side 0 z0).sc, OkS.nil, fun q1 H1 Fa nq1 oq1 k1 g1 hs1 e1 => ?_⟩
  have Wa := W.scale SO z0 k1 g1 hs1
  refine ⟨by decide, fun e ne => ?_⟩
  have sa := Same.new ne (.lst [])
  refine ⟨q1, e, _, [], rfl, rfl, SqL.of (sa _ _ e1), SqL.of upd_same, _, rfl, ?_⟩
  refine iteNS Fs.laid_zero ?_
  have Wb := Wa.grow SO sa
  generalize upd H1 e (.lst []) = H2 at sa Wb ⊢
  obtain ⟨dx', fs', hp', _, _, _, f4⟩ := SO.ob (Wb.side 1 z1).sc
  refine ⟨_, rfl, pr, _, 1, _, rfl, rfl, SqL.of Wb.hpr, at_two z1 p rfl rfl, p 1, dx', fs', rfl, hp', f4, p 1, _, [], rfl, (Wb.side 1 z1).sc, OkS.nil, fun H3 Fb k3 g3 hs3 => ⟨rfl, _, rfl, ?_⟩⟩
  refine iteNS rfl ?_
  have Wc := Wb.scale SO z1 k3 g3 hs3
  generalize upN (upN F 0 Fa) 1 Fb = F' at Wc
  -- the deeds
  refine ⟨_, rfl, _, rfl, _, rfl, a, _, rfl, Wc.same.seq hS, fun g ng => ?_⟩
  rw [cut_to, ← List.map_take]
  have Wd := Wc.beside SO ng (.lst ((ns.take z).map V.int))
  have eg0 : upd H g (.lst ((ns.take z).map V.int)) g = some (.lst ((ns.take z).map V.int)) := upd_same
  have sg : Same H (upd H g (.lst ((ns.take z).map V.int))) := Same.new (Wc.same.free ng) _
  have hS0 : SqL K (upd H g (.lst ((ns.take z).map V.int))) a (ns.map V.int) := sg.seq hS
  generalize upd H g (.lst ((ns.take z).map V.int)) = HB at Wd eg0 hS0
  generalize upd H3 g (.lst ((ns.take z).map V.int)) = H4 at Wd ⊢
  refine ⟨g, rfl, ⟨_, SqL.of (Wd.same _ _ eg0)⟩, for_list (xs := (ns.take z).map V.int) (fun i σ H' => ∃ (F : Nat → List Addr) (S : Nat → List Int) (R : Nat → List RowT) (F2 : List Addr) (o : Option V), σ = [some (.ref a), some (.ref pr), some (.ref p2), some (.ref ld), some (.ref rw), some (.int m), some (.int (z : Int)), o, none, none, none, none, none] ∧
    Scene (Sc cScale) HB H' pr ld rw p2 p l r F S R F2 (S 0) ∧ ∀ k, k < 2 → (S k).length ≤ i ∧ (R k).length ≤ i + 1) ⟨F', fun _ => [], R, F2, none, rfl, Wd, fun k hk => ⟨Nat.zero_le _, hR k hk⟩⟩ ?_ ?_ ?_⟩
  · rintro i σ H' _ ⟨_, _, _, _, _, _, W', _⟩
    exact SqL.of (W'.same _ _ eg0)
  · rintro i y σ H' hy ⟨F, S, R, F2, o, rfl, W', hb⟩
    obtain ⟨c, hc, rfl⟩ := get_int hy
    have hi : i < 60 := by
      have := (List.getElem?_eq_some_iff.mp hc).1
      rw [List.length_take] at this
      omega
    exact ⟨_, rfl, _, rfl, _, rfl, _, rfl, _, rfl, _, rfl, HB, pr, ld, rw, p2, p, l, r, F, S, R, F2, c, m, i, rfl, W', m0, m1, hi, hb, fun H'' F' S' R' F2' W'' hb' => ⟨_, rfl, iteF ⟨F', S', R', F2', _, rfl, W'', hb'⟩⟩⟩
  clear W Wa Wb Wc Wd hR
  rintro σ H5 ⟨F, S, R, F2, o7, rfl, W, hb⟩
  have hlen : ((ns.take z).map V.int).length ≤ 40 := by rw [List.length_map, List.length_take]; omega
  -- all back
  refine ⟨_, rfl, a, _, rfl, .inl (W.same.seq hS0), _, _, rfl, rfl, (by show (0 : Int) < 2; decide), ?_⟩
  dsimp only
  obtain ⟨k, ek, hk⟩ : ∃ k : Nat, (((ns.map V.int).length : Nat) : Int) % 2 = (k : Int) ∧ k < 2 := ⟨((((ns.map V.int).length : Nat) : Int) % 2).toNat, by omega, by omega⟩
  rw [ek]
  obtain ⟨j, ej, hj, jk⟩ : ∃ j : Nat, (1 : Int) - (k : Int) = (j : Int) ∧ j < 2 ∧ j ≠ k := ⟨1 - k, by omega, by omega, by omega⟩
  have hRk := (hb k hk).2
  refine ⟨_, rfl, _, rfl, pr, _, _, _, rfl, rfl, SqL.of W.hpr, at_two hk p rfl rfl, _, rfl, _, rfl, ld, _, _, _, rfl, rfl, SqL.of W.hld, at_two hk l rfl rfl, _, rfl, _, rfl, rw, _, _, _, rfl, rfl, SqL.of W.hrw, at_two hk r rfl rfl,
    p k, l k, r k, F k, S k, R k, rfl, W.side k hk, W.last k hk, W.ok k hk, by omega, fun H6 F6 R6 fl nfl _ kk gg sd la hl6 efl => ?_⟩
  have W6 := W.side_upd SO hk kk sd gg la OkS.nil
  have flj : fl ∉ ownS (l j) (r j) (upN F k F6 j) (upN R k R6 j) := by rw [upN_ne jk, upN_ne jk]; exact (W.side j hj).out SO nfl
  have fl2 : fl ∉ F2 := fun z => by obtain ⟨u, e⟩ := SO.has W.quiet fl z; rw [nfl] at e; cases e
  have hRj := (hb j hj).2
  -- looked at the other one
  refine ⟨_, rfl, rfl, _, rfl, iteF ?_⟩
  have sj := W6.side j hj
  obtain ⟨Q0, it, x, y, eR⟩ := W6.last j hj
  obtain ⟨r1', r2', r3', r4', r5', _, _⟩ := sj.lastR eR
  have okj := W6.ok j hj
  have lj := okj.laid
  have Q0l : Q0.length ≤ 60 := by
    have := hRj
    rw [← upN_ne (f := R) (v := R6) jk, eR, List.length_append, List.length_singleton] at this
    omega
  refine ⟨_, rfl, _, rfl, _, _, rfl, rfl, pr, _, _, _, rfl, rfl, SqL.of W6.hpr, (by rw [ej]; exact at_two hj p rfl rfl), _, rfl, _, rfl, _, _, rfl, rfl, ld, _, _, _, rfl, rfl, SqL.of W6.hld, (by rw [ej]; exact at_two hj l rfl rfl), _, rfl, _, rfl, _, _, rfl, rfl, rw, _, _, _, rfl, rfl, SqL.of W6.hrw, (by rw [ej]; exact at_two hj r rfl rfl),
    p j, l j, r j, it, x, y, _, _, _, Q0.map fun q => V.ref q.1, 0, rfl, sj.sc, okj, sj.hl, sj.lF, r1', sj.rF, (by rw [List.length_map]; omega), r2', r3', r4', r5', by omega, (movedN_self _).symm, fun H7 F7 it' aa bb ni na nb _ _ _ k7 g7 hs7 er ei ea eb fi fa fb => ⟨_, rfl, iteF ?_⟩⟩
  obtain ⟨sd7, kk7, gg7⟩ := sj.row (ns := Fs.laid (upN S k [] j).sum) ni na nb k7 g7 hs7 (by rw [er, eR, List.map_append]; rfl) ei ea eb fi fa fb
  have W7 := W6.side_upd SO hj kk7 sd7 gg7 ⟨_, _, _, _, rfl⟩ okj
  rw [upN_self] at W7
  have efl7 := kk7 _ _ flj efl
  have bR : ∀ i, i < 2 → (upN (upN R k R6) j (upN R k R6 j ++ [(it', aa, bb, Fs.laid (upN S k [] j).sum)]) i).length ≤ 250 := fun i hi => by
    by_cases e : i = j
    · subst e
      rw [upN_same, List.length_append, List.length_singleton, upN_ne jk]
      omega
    · have e' : i = k := by omega
      subst e'
      rw [upN_ne e, upN_same]
      omega
  generalize upN (upN F k F6) j F7 = F8 at W7
  generalize upN (upN R k R6) j (upN R k R6 j ++ [(it', aa, bb, Fs.laid (upN S k [] j).sum)]) = R8 at W7 bR
  -- the quiet one
  refine ⟨fun σ' H' => ∃ (F : Nat → List Addr) (S : Nat → List Int) (R : Nat → List RowT) (F2 : List Addr) (o8 o9 o10 : Option V), σ' = [some (.ref a), some (.ref pr), some (.ref p2), some (.ref ld), some (.ref rw), some (.int m), some (.int (z : Int)), o7, o8, o9, o10, none, none] ∧ Scene (Sc cScale) HB H' pr ld rw p2 p l r F S R F2 (S 0) ∧ ∀ i, i < 2 → (R i).length ≤ 250, ?_, ?_⟩
  · refine ⟨_, rfl, rfl, _, rfl, ?_⟩
    have k01 : k = 0 ∨ k = 1 := by omega
    rcases k01 with rfl | rfl
    · refine ite2 (fun _ => ?_) fun z => absurd (decide_eq_true rfl) z
      have okT := W.ok 0 z0
      generalize hT : S 0 = T at W7 okT efl7
      have S80 : upN S 0 [] 0 = [] := upN_same _ _ _
      generalize upN S 0 [] = S8 at W7 S80
      refine ⟨_, rfl, fl, rfl, ⟨_, SqL.of efl7⟩, for_list (xs := (backsN T).map V.int) (fun i σ H' => ∃ (F2 : List Addr) (o10 : Option V), σ = [some (.ref a), some (.ref pr), some (.ref p2), some (.ref ld), some (.ref rw), some (.int m), some (.int (z : Int)), o7, some (.int ((0 : Nat) : Int)), some (.ref fl), o10, none, none] ∧
        Scene (Sc cScale) HB H' pr ld rw p2 p l r F8 S8 R8 F2 (T.take (T.length - i)) ∧ H' fl = some (.lst ((backsN T).map V.int)) ∧ fl ∉ F2) ⟨F2, none, rfl, by rw [Nat.sub_zero, List.take_length]; exact W7, efl7, fl2⟩ ?_ ?_ ?_⟩
      · rintro i σ H' _ ⟨_, _, _, _, e, _⟩
        exact SqL.of e
      · rintro i y' σ H8 hy ⟨F2', o10, rfl, W8, efl8, fl8⟩
        obtain ⟨v, hv, rfl⟩ := get_int hy
        have hi : i < T.length := by
          have := (List.getElem?_eq_some_iff.mp hv).1
          rw [backsN_len] at this
          exact this
        obtain ⟨n, en⟩ := take_back hi
        have ev : v = ((movedN (Fs.laid (T.take (T.length - i)).sum) (Fs.laid (T.take (T.length - (i + 1))).sum) : Nat) : Int) := by
          rw [backsN_get hi] at hv
          exact (Option.some.inj hv).symm
        refine ⟨_, rfl, (by show 3 ≤ sizeLine; decide), fun t nt => ?_⟩
        have s9 := Same.new nt (.tup [.str "back", .non, .bl true])
        have et : upd H8 t (.tup [.str "back", .non, .bl true]) t = some (.tup [.str "back", .non, .bl true]) := upd_same
        have W9 := W8.grow SO s9
        have efl9 := s9 _ _ efl8
        have tF : t ∉ F2' := fun z => by obtain ⟨u, e⟩ := SO.has W8.quiet t z; rw [nt] at e; cases e
        generalize upd H8 t (.tup [.str "back", .non, .bl true]) = H9 at s9 et W9 efl9 ⊢
        have okI : OkS (T.take (T.length - i)) := okT.take _
        have okJ : OkS (T.take (T.length - (i + 1))) := okT.take _
        have ea' : afterD .non true (T.take (T.length - i)) = T.take (T.length - (i + 1)) := by
          show (T.take (T.length - i)).dropLast = _
          rw [en]
          simp
        refine ⟨p2, t, F2', T.take (T.length - i), "back", .non, true, rfl, W9.quiet, et, tF, .inr (.inl ⟨rfl, rfl, by rw [en, decide_eq_false (by simp)]; rfl⟩), okI, (by rw [ea']; exact okJ), fun H10 F10 k10 g10 hs10 => ?_⟩
        rw [ea'] at hs10 ⊢
        refine ⟨_, rfl, rfl, _, rfl, ?_⟩
        rw [ev]
        refine iteNS rfl ?_
        exact ⟨F10, _, rfl, W9.quiet_upd SO k10 g10 hs10 okJ, k10 _ _ fl8 efl9, g10.out efl9 fl8⟩
      · rintro σ H8 ⟨F2', o10, rfl, W8, _, _⟩
        rw [List.length_map, backsN_len, Nat.sub_self, List.take_zero, ← S80] at W8
        exact ⟨F8, S8, R8, F2', _, _, _, rfl, W8, bR⟩
    · refine ite2 (fun z => absurd (of_decide_eq_true z) (by decide)) fun _ => ?_
      exact ⟨F8, upN S 1 [], R8, F2, _, _, _, rfl, by rw [upN_ne (by decide : (0 : Nat) ≠ 1)]; exact W7, bR⟩
  clear W W6 W7 sj sd7 bR
  rintro σ' H8 ⟨F, S, R, F2, o8, o9, o10, rfl, W, bR⟩
  have s0 := W.side 0 z0
  obtain ⟨Q1, it1, x1', y1', eR1⟩ := W.last 0 z0
  obtain ⟨a1, a2, _, a4, _, iA, yA⟩ := s0.lastR eR1
  have d2 := W.d2 0 z0
  refine ⟨_, rfl, _, rfl, ld, _, 0, _, rfl, rfl, SqL.of W.hld, at_two z0 l rfl rfl, _, rfl, rw, _, 0, _, rfl, rfl, SqL.of W.hrw, at_two z0 r rfl rfl, p2, l 0, r 0, it1, x1', y1', F2, S 0, _, rfl, W.quiet, W.ok 0 z0, s0.hl, d2 _ (own_mem.mpr (.inl rfl)), a1, d2 _ (own_mem.mpr (.inr (.inl rfl))), a2, d2 _ (own_mem.mpr (.inr (.inr (.inl iA)))), a4, d2 _ (own_mem.mpr (.inr (.inr (.inl yA)))), fun H9 F9 k9 g9 hs9 => ⟨_, rfl, iteF ?_⟩⟩
  have W9 := W.quiet_upd SO k9 g9 hs9 (W.ok 0 z0)
  have t0 := W9.side 0 z0
  have t1 := W9.side 1 z1
  have b0 := bR 0 z0
  have b1 := bR 1 z1
  refine ⟨_, rfl, rw, _, 0, _, rfl, rfl, SqL.of W9.hrw, at_two z0 r rfl rfl, _, rfl, rw, _, 1, _, rfl, rfl, SqL.of W9.hrw, at_two z1 r rfl rfl, r 0, r 1, _, _, rfl, rfl, t0.hr, t1.hr, (by rw [List.length_map, List.length_map]; exact small (by omega)), fun gg ngg => ?_⟩
  rw [← List.map_append]
  have s10 := Same.new ngg (.lst ((R 0 ++ R 1).map fun q => V.ref q.1))
  have e10 : upd H9 gg (.lst ((R 0 ++ R 1).map fun q => V.ref q.1)) gg = some (.lst ((R 0 ++ R 1).map fun q => V.ref q.1)) := upd_same
  have ro : RowsOk (upd H9 gg (.lst ((R 0 ++ R 1).map fun q => V.ref q.1))) (R 0 ++ R 1) := fun q hq => by
    rcases List.mem_append.mp hq with w | w
    · exact (t0.rows.stay fun b _ o e => s10 b o e) q w
    · exact (t1.rows.stay fun b _ o e => s10 b o e) q w
  generalize upd H9 gg (.lst ((R 0 ++ R 1).map fun q => V.ref q.1)) = H10 at s10 e10 ro ⊢
  refine ⟨gg, rfl, ⟨_, SqL.of e10⟩, for_list (xs := (R 0 ++ R 1).map fun q => V.ref q.1) (fun i σ H' => ∃ o11 o12 : Option V, σ = [some (.ref a), some (.ref pr), some (.ref p2), some (.ref ld), some (.ref rw), some (.int m), some (.int (z : Int)), o7, o8, o9, o10, o11, o12] ∧ H' = H10) ⟨none, none, rfl, rfl⟩ ?_ ?_ ?_⟩
  · rintro i σ H' _ ⟨_, _, _, rfl⟩
    exact SqL.of e10
  · rintro i y' σ H' hy ⟨o11, o12, rfl, rfl⟩
    obtain ⟨qq, hq, rfl⟩ := List.mem_map.mp (List.mem_of_getElem? hy)
    obtain ⟨c1, c2, c3⟩ := ro qq hq
    refine ⟨qq.1, _, rfl, SqL.of c1, rfl, _, _, rfl, _, _, rfl, rfl, ?_⟩
    exact ⟨_, rfl, _, rfl, qq.2.1, qq.2.2.1, _, _, rfl, rfl, SqL.of c2, SqL.of c3, _, rfl, iteNS rfl ⟨_, _, rfl, rfl⟩⟩
  · rintro σ H' ⟨o11, o12, rfl, rfl⟩
    exact q _
end
theorem all_mk {l : PySem.W.OpenLaw} {w : World} {K : PySem.W.Frag} {h : Heap} {mg : Str → Option Value} {fa : Addr} (X : K.In h) (G : h.Ns mainGlobals mg) (hfa : mg "law" = some (.ref fa))
    {cScale : Addr}
    {od1 an1 : Option Addr} {sl1 : Array (Option Value)} {oc1 kV1 dc1 pm1 cd1 ct1 : Value} {f1 : Addr}
    {od2 an2 : Option Addr} {sl2 : Array (Option Value)} {oc2 kV2 dc2 pm2 cd2 ct2 : Value} {f2 : Addr}
    {od4 an4 : Option Addr} {sl4 : Array (Option Value)} {oc4 kV4 dc4 pm4 cd4 ct4 : Value} {f4 : Addr}
    {od5 an5 : Option Addr} {sl5 : Array (Option Value)} {oc5 kV5 dc5 pm5 cd5 ct5 : Value} {f5 : Addr}
    {od7 an7 : Option Addr} {sl7 : Array (Option Value)} {oc7 kV7 dc7 pm7 cd7 ct7 : Value} {f7 : Addr}
    {od8 an8 : Option Addr} {sl8 : Array (Option Value)} {oc8 kV8 dc8 pm8 cd8 ct8 : Value} {f8 : Addr}
    {od9 an9 : Option Addr} {sl9 : Array (Option Value)} {oc9 kV9 dc9 pm9 cd9 ct9 : Value} {f9 : Addr}
    {od10 an10 : Option Addr} {sl10 : Array (Option Value)} {oc10 kV10 dc10 pm10 cd10 ct10 : Value} {f10 : Addr}
    {od12 an12 : Option Addr} {sl12 : Array (Option Value)} {oc12 kV12 dc12 pm12 cd12 ct12 : Value} {f12 : Addr}
    {od14 an14 : Option Addr} {sl14 : Array (Option Value)} {oc14 kV14 dc14 pm14 cd14 ct14 : Value} {f14 : Addr}
    {od15 an15 : Option Addr} {sl15 : Array (Option Value)} {oc15 kV15 dc15 pm15 cd15 ct15 : Value} {f15 : Addr}
    {od16 an16 : Option Addr} {sl16 : Array (Option Value)} {oc16 kV16 dc16 pm16 cd16 ct16 : Value} {f16 : Addr}
    {od17 an17 : Option Addr} {sl17 : Array (Option Value)} {oc17 kV17 dc17 pm17 cd17 ct17 : Value} {f17 : Addr}
    {od18 an18 : Option Addr} {sl18 : Array (Option Value)} {oc18 kV18 dc18 pm18 cd18 ct18 : Value} {f18 : Addr}
    {od19 an19 : Option Addr} {sl19 : Array (Option Value)} {oc19 kV19 dc19 pm19 cd19 ct19 : Value} {f19 : Addr}
    {od20 an20 : Option Addr} {sl20 : Array (Option Value)} {oc20 kV20 dc20 pm20 cd20 ct20 : Value} {f20 : Addr}
    {od21 an21 : Option Addr} {sl21 : Array (Option Value)} {oc21 kV21 dc21 pm21 cd21 ct21 : Value} {f21 : Addr}
    {od22 an22 : Option Addr} {sl22 : Array (Option Value)} {oc22 kV22 dc22 pm22 cd22 ct22 : Value} {f22 : Addr}
    {od23 an23 : Option Addr} {sl23 : Array (Option Value)} {oc23 kV23 dc23 pm23 cd23 ct23 : Value} {f23 : Addr}
    {od24 an24 : Option Addr} {sl24 : Array (Option Value)} {oc24 kV24 dc24 pm24 cd24 ct24 : Value} {f24 : Addr}
    {od25 an25 : Option Addr} {sl25 : Array (Option Value)} {oc25 kV25 dc25 pm25 cd25 ct25 : Value} {f25 : Addr}
    {od26 an26 : Option Addr} {sl26 : Array (Option Value)} {oc26 kV26 dc26 pm26 cd26 ct26 : Value} {f26 : Addr}
    {od27 an27 : Option Addr} {sl27 : Array (Option Value)} {oc27 kV27 dc27 pm27 cd27 ct27 : Value} {f27 : Addr}
    {od28 an28 : Option Addr} {sl28 : Array (Option Value)} {oc28 kV28 dc28 pm28 cd28 ct28 : Value} {f28 : Addr}
    {od29 an29 : Option Addr} {sl29 : Array (Option Value)} {oc29 kV29 dc29 pm29 cd29 ct29 : Value} {f29 : Addr}
    {od30 an30 : Option Addr} {sl30 : Array (Option Value)} {oc30 kV30 dc30 pm30 cd30 ct30 : Value} {f30 : Addr}
    {cStoneError : Addr}
    {cNoLaying : Addr}
    {cNoLoad : Addr}
    {cNoPlan : Addr}
    {cNoText : Addr}
    {cNoDeed : Addr}
    (gScale : PySem.W.nsIn K mainGlobals "Scale" = some (some (.ref cScale)))
    (pgScale : PySem.W.plainGet K cScale Str.empty = true)
    (hdScale : PySem.W.hasDictIn K cScale = true)
    (poScale : PySem.W.plainOver K cScale = true)
    (saScale : PySem.W.findIn K (.ref cScale) "__setattr__" = some (some (.builtin "object.__setattr__")))
    (mkScale : PySem.W.makesIn K cScale = true)
    (kcScale : PySem.W.keepIn K (.ref cScale) = true)
    (nScaleloads : PySem.W.findIn K (.ref cScale) "loads" = some none)
    (a1 : PySem.W.nsIn K mainGlobals "is_whole" = some (some (.ref f1))) (l1 : K.lookup f1 = some ⟨oc1, od1, .func (PySem.W.fnOf "is_whole" "is_whole" (defArgs s_is_whole) (defBody s_is_whole) (defScope s_is_whole) .none kV1 dc1 pm1 an1 cd1 ct1), sl1⟩) (c1 : PySem.W.codeIn K cd1 "is_whole" = true) (k1 : PySem.W.keepIn K (.ref f1) = true)
    (a2 : PySem.W.nsIn K mainGlobals "check_load" = some (some (.ref f2))) (l2 : K.lookup f2 = some ⟨oc2, od2, .func (PySem.W.fnOf "check_load" "check_load" (defArgs s_check_load) (defBody s_check_load) (defScope s_check_load) .none kV2 dc2 pm2 an2 cd2 ct2), sl2⟩) (c2 : PySem.W.codeIn K cd2 "check_load" = true) (k2 : PySem.W.keepIn K (.ref f2) = true)
    (a4 : PySem.W.nsIn K mainGlobals "lowest_thing" = some (some (.ref f4))) (l4 : K.lookup f4 = some ⟨oc4, od4, .func (PySem.W.fnOf "lowest_thing" "lowest_thing" (defArgs s_lowest_thing) (defBody s_lowest_thing) (defScope s_lowest_thing) .none kV4 dc4 pm4 an4 cd4 ct4), sl4⟩) (c4 : PySem.W.codeIn K cd4 "lowest_thing" = true) (k4 : PySem.W.keepIn K (.ref f4) = true)
    (a5 : PySem.W.nsIn K mainGlobals "laid" = some (some (.ref f5))) (l5 : K.lookup f5 = some ⟨oc5, od5, .func (PySem.W.fnOf "laid" "laid" (defArgs s_laid) (defBody s_laid) (defScope s_laid) .none kV5 dc5 pm5 an5 cd5 ct5), sl5⟩) (c5 : PySem.W.codeIn K cd5 "laid" = true) (k5 : PySem.W.keepIn K (.ref f5) = true)
    (a7 : PySem.W.nsIn K mainGlobals "thing_at" = some (some (.ref f7))) (l7 : K.lookup f7 = some ⟨oc7, od7, .func (PySem.W.fnOf "thing_at" "thing_at" (defArgs s_thing_at) (defBody s_thing_at) (defScope s_thing_at) .none kV7 dc7 pm7 an7 cd7 ct7), sl7⟩) (c7 : PySem.W.codeIn K cd7 "thing_at" = true) (k7 : PySem.W.keepIn K (.ref f7) = true)
    (a8 : PySem.W.nsIn K mainGlobals "moved" = some (some (.ref f8))) (l8 : K.lookup f8 = some ⟨oc8, od8, .func (PySem.W.fnOf "moved" "moved" (defArgs s_moved) (defBody s_moved) (defScope s_moved) .none kV8 dc8 pm8 an8 cd8 ct8), sl8⟩) (c8 : PySem.W.codeIn K cd8 "moved" = true) (k8 : PySem.W.keepIn K (.ref f8) = true)
    (a9 : PySem.W.findIn K (.ref cScale) "__init__" = some (some (.ref f9))) (i9 : PySem.W.isFn K (.ref f9) = true) (l9 : K.lookup f9 = some ⟨oc9, od9, .func (PySem.W.fnOf "__init__" "Scale.__init__" (defArgs s_Scale_init) (defBody s_Scale_init) (defScope s_Scale_init) .none kV9 dc9 pm9 an9 cd9 ct9), sl9⟩) (c9 : PySem.W.codeIn K cd9 "Scale.__init__" = true) (k9 : PySem.W.keepIn K (.ref f9) = true)
    (a10 : PySem.W.findIn K (.ref cScale) "lay" = some (some (.ref f10))) (i10 : PySem.W.isFn K (.ref f10) = true) (l10 : K.lookup f10 = some ⟨oc10, od10, .func (PySem.W.fnOf "lay" "Scale.lay" (defArgs s_Scale_lay) (defBody s_Scale_lay) (defScope s_Scale_lay) .none kV10 dc10 pm10 an10 cd10 ct10), sl10⟩) (c10 : PySem.W.codeIn K cd10 "Scale.lay" = true) (k10 : PySem.W.keepIn K (.ref f10) = true)
    (a12 : PySem.W.findIn K (.ref cScale) "back" = some (some (.ref f12))) (i12 : PySem.W.isFn K (.ref f12) = true) (l12 : K.lookup f12 = some ⟨oc12, od12, .func (PySem.W.fnOf "back" "Scale.back" (defArgs s_Scale_back) (defBody s_Scale_back) (defScope s_Scale_back) .none kV12 dc12 pm12 an12 cd12 ct12), sl12⟩) (c12 : PySem.W.codeIn K cd12 "Scale.back" = true) (k12 : PySem.W.keepIn K (.ref f12) = true)
    (a14 : PySem.W.findIn K (.ref cScale) "pans" = some (some (.ref f14))) (i14 : PySem.W.isFn K (.ref f14) = true) (l14 : K.lookup f14 = some ⟨oc14, od14, .func (PySem.W.fnOf "pans" "Scale.pans" (defArgs s_Scale_pans) (defBody s_Scale_pans) (defScope s_Scale_pans) .none kV14 dc14 pm14 an14 cd14 ct14), sl14⟩) (c14 : PySem.W.codeIn K cd14 "Scale.pans" = true) (k14 : PySem.W.keepIn K (.ref f14) = true)
    (a15 : PySem.W.findIn K (.ref cScale) "weighs" = some (some (.ref f15))) (i15 : PySem.W.isFn K (.ref f15) = true) (l15 : K.lookup f15 = some ⟨oc15, od15, .func (PySem.W.fnOf "weighs" "Scale.weighs" (defArgs s_Scale_weighs) (defBody s_Scale_weighs) (defScope s_Scale_weighs) .none kV15 dc15 pm15 an15 cd15 ct15), sl15⟩) (c15 : PySem.W.codeIn K cd15 "Scale.weighs" = true) (k15 : PySem.W.keepIn K (.ref f15) = true)
    (a16 : PySem.W.nsIn K mainGlobals "_law_cell_at" = some (some (.ref f16))) (l16 : K.lookup f16 = some ⟨oc16, od16, .func (PySem.W.fnOf "_law_cell_at" "_law_cell_at" (defArgs s_law_cell_at) (defBody s_law_cell_at) (defScope s_law_cell_at) .none kV16 dc16 pm16 an16 cd16 ct16), sl16⟩) (c16 : PySem.W.codeIn K cd16 "_law_cell_at" = true) (k16 : PySem.W.keepIn K (.ref f16) = true)
    (a17 : PySem.W.nsIn K mainGlobals "_law_whole" = some (some (.ref f17))) (l17 : K.lookup f17 = some ⟨oc17, od17, .func (PySem.W.fnOf "_law_whole" "_law_whole" (defArgs s_law_whole) (defBody s_law_whole) (defScope s_law_whole) .none kV17 dc17 pm17 an17 cd17 ct17), sl17⟩) (c17 : PySem.W.codeIn K cd17 "_law_whole" = true) (k17 : PySem.W.keepIn K (.ref f17) = true)
    (a18 : PySem.W.nsIn K mainGlobals "_law_weight" = some (some (.ref f18))) (l18 : K.lookup f18 = some ⟨oc18, od18, .func (PySem.W.fnOf "_law_weight" "_law_weight" (defArgs s_law_weight) (defBody s_law_weight) (defScope s_law_weight) .none kV18 dc18 pm18 an18 cd18 ct18), sl18⟩) (c18 : PySem.W.codeIn K cd18 "_law_weight" = true) (k18 : PySem.W.keepIn K (.ref f18) = true)
    (a19 : PySem.W.nsIn K mainGlobals "_law_load_by" = some (some (.ref f19))) (l19 : K.lookup f19 = some ⟨oc19, od19, .func (PySem.W.fnOf "_law_load_by" "_law_load_by" (defArgs s_law_load_by) (defBody s_law_load_by) (defScope s_law_load_by) .none kV19 dc19 pm19 an19 cd19 ct19), sl19⟩) (c19 : PySem.W.codeIn K cd19 "_law_load_by" = true) (k19 : PySem.W.keepIn K (.ref f19) = true)
    (a20 : PySem.W.nsIn K mainGlobals "_law_sum" = some (some (.ref f20))) (l20 : K.lookup f20 = some ⟨oc20, od20, .func (PySem.W.fnOf "_law_sum" "_law_sum" (defArgs s_law_sum) (defBody s_law_sum) (defScope s_law_sum) .none kV20 dc20 pm20 an20 cd20 ct20), sl20⟩) (c20 : PySem.W.codeIn K cd20 "_law_sum" = true) (k20 : PySem.W.keepIn K (.ref f20) = true)
    (a21 : PySem.W.nsIn K mainGlobals "_law_neat" = some (some (.ref f21))) (l21 : K.lookup f21 = some ⟨oc21, od21, .func (PySem.W.fnOf "_law_neat" "_law_neat" (defArgs s_law_neat) (defBody s_law_neat) (defScope s_law_neat) .none kV21 dc21 pm21 an21 cd21 ct21), sl21⟩) (c21 : PySem.W.codeIn K cd21 "_law_neat" = true) (k21 : PySem.W.keepIn K (.ref f21) = true)
    (a22 : PySem.W.nsIn K mainGlobals "_law_apart" = some (some (.ref f22))) (l22 : K.lookup f22 = some ⟨oc22, od22, .func (PySem.W.fnOf "_law_apart" "_law_apart" (defArgs s_law_apart) (defBody s_law_apart) (defScope s_law_apart) .none kV22 dc22 pm22 an22 cd22 ct22), sl22⟩) (c22 : PySem.W.codeIn K cd22 "_law_apart" = true) (k22 : PySem.W.keepIn K (.ref f22) = true)
    (a23 : PySem.W.nsIn K mainGlobals "_law_looked" = some (some (.ref f23))) (l23 : K.lookup f23 = some ⟨oc23, od23, .func (PySem.W.fnOf "_law_looked" "_law_looked" (defArgs s_law_looked) (defBody s_law_looked) (defScope s_law_looked) .none kV23 dc23 pm23 an23 cd23 ct23), sl23⟩) (c23 : PySem.W.codeIn K cd23 "_law_looked" = true) (k23 : PySem.W.keepIn K (.ref f23) = true)
    (a24 : PySem.W.nsIn K mainGlobals "_law_refused" = some (some (.ref f24))) (l24 : K.lookup f24 = some ⟨oc24, od24, .func (PySem.W.fnOf "_law_refused" "_law_refused" (defArgs s_law_refused) (defBody s_law_refused) (defScope s_law_refused) .none kV24 dc24 pm24 an24 cd24 ct24), sl24⟩) (c24 : PySem.W.codeIn K cd24 "_law_refused" = true) (k24 : PySem.W.keepIn K (.ref f24) = true)
    (a25 : PySem.W.nsIn K mainGlobals "_law_deed_by" = some (some (.ref f25))) (l25 : K.lookup f25 = some ⟨oc25, od25, .func (PySem.W.fnOf "_law_deed_by" "_law_deed_by" (defArgs s_law_deed_by) (defBody s_law_deed_by) (defScope s_law_deed_by) .none kV25 dc25 pm25 an25 cd25 ct25), sl25⟩) (c25 : PySem.W.codeIn K cd25 "_law_deed_by" = true) (k25 : PySem.W.keepIn K (.ref f25) = true)
    (a26 : PySem.W.nsIn K mainGlobals "_law_done" = some (some (.ref f26))) (l26 : K.lookup f26 = some ⟨oc26, od26, .func (PySem.W.fnOf "_law_done" "_law_done" (defArgs s_law_done) (defBody s_law_done) (defScope s_law_done) .none kV26 dc26 pm26 an26 cd26 ct26), sl26⟩) (c26 : PySem.W.codeIn K cd26 "_law_done" = true) (k26 : PySem.W.keepIn K (.ref f26) = true)
    (a27 : PySem.W.nsIn K mainGlobals "_law_step" = some (some (.ref f27))) (l27 : K.lookup f27 = some ⟨oc27, od27, .func (PySem.W.fnOf "_law_step" "_law_step" (defArgs s_law_step) (defBody s_law_step) (defScope s_law_step) .none kV27 dc27 pm27 an27 cd27 ct27), sl27⟩) (c27 : PySem.W.codeIn K cd27 "_law_step" = true) (k27 : PySem.W.keepIn K (.ref f27) = true)
    (a28 : PySem.W.nsIn K mainGlobals "_law_all_back" = some (some (.ref f28))) (l28 : K.lookup f28 = some ⟨oc28, od28, .func (PySem.W.fnOf "_law_all_back" "_law_all_back" (defArgs s_law_all_back) (defBody s_law_all_back) (defScope s_law_all_back) .none kV28 dc28 pm28 an28 cd28 ct28), sl28⟩) (c28 : PySem.W.codeIn K cd28 "_law_all_back" = true) (k28 : PySem.W.keepIn K (.ref f28) = true)
    (a29 : PySem.W.nsIn K mainGlobals "_law_quiet" = some (some (.ref f29))) (l29 : K.lookup f29 = some ⟨oc29, od29, .func (PySem.W.fnOf "_law_quiet" "_law_quiet" (defArgs s_law_quiet) (defBody s_law_quiet) (defScope s_law_quiet) .none kV29 dc29 pm29 an29 cd29 ct29), sl29⟩) (c29 : PySem.W.codeIn K cd29 "_law_quiet" = true) (k29 : PySem.W.keepIn K (.ref f29) = true)
    (a30 : PySem.W.nsIn K mainGlobals "law" = some (some (.ref f30))) (l30 : K.lookup f30 = some ⟨oc30, od30, .func (PySem.W.fnOf "law" "law" (defArgs s_law) (defBody s_law) (defScope s_law) .none kV30 dc30 pm30 an30 cd30 ct30), sl30⟩) (c30 : PySem.W.codeIn K cd30 "law" = true) (k30 : PySem.W.keepIn K (.ref f30) = true)
    (z1 : PySem.W.nsIn K mainGlobals "isinstance" = some none)
    (z2 : PySem.W.nsIn K mainGlobals "int" = some none)
    (z3 : PySem.W.nsIn K mainGlobals "bool" = some none)
    (z4 : PySem.W.nsIn K mainGlobals "list" = some none)
    (z5 : PySem.W.nsIn K mainGlobals "len" = some none)
    (z6 : PySem.W.nsIn K mainGlobals "range" = some none)
    (z7 : PySem.W.nsIn K mainGlobals "sum" = some none)
    (z8 : PySem.W.nsIn K mainGlobals "ValueError" = some none)
    (z9 : PySem.W.nsIn K mainGlobals "max" = some none)
    (gStoneError : PySem.W.nsIn K mainGlobals "StoneError" = some (some (.ref cStoneError)))
    (xStoneError : PySem.W.excIn K cStoneError mroV "ValueError.__new__" = true)
    (pStoneError : PySem.W.findIn K (.ref cStoneError) "__getattribute__" = some (some (.builtin "BaseException.__getattribute__")))
    (qStoneError : PySem.W.findIn K (.ref cStoneError) "__getattr__" = some none)
    (rStoneError : PySem.W.findIn K (.ref cStoneError) "__class__" = some (some (.builtin "object.__class__")))
    (sStoneError : PySem.W.subIn K (.ref cStoneError) (.type "BaseException") = some true)
    (tStoneError : PySem.W.subIn K (.ref cStoneError) (.type "object") = some true)
    (uStoneError : PySem.W.isClsIn K cStoneError = true)
    (vStoneError : PySem.W.typeIn K (.ref cStoneError) = some (.type "type"))
    (gNoLaying : PySem.W.nsIn K mainGlobals "NoLaying" = some (some (.ref cNoLaying)))
    (xNoLaying : PySem.W.excIn K cNoLaying mroV "ValueError.__new__" = true)
    (pNoLaying : PySem.W.findIn K (.ref cNoLaying) "__getattribute__" = some (some (.builtin "BaseException.__getattribute__")))
    (qNoLaying : PySem.W.findIn K (.ref cNoLaying) "__getattr__" = some none)
    (rNoLaying : PySem.W.findIn K (.ref cNoLaying) "__class__" = some (some (.builtin "object.__class__")))
    (sNoLaying : PySem.W.subIn K (.ref cNoLaying) (.type "BaseException") = some true)
    (tNoLaying : PySem.W.subIn K (.ref cNoLaying) (.type "object") = some true)
    (uNoLaying : PySem.W.isClsIn K cNoLaying = true)
    (vNoLaying : PySem.W.typeIn K (.ref cNoLaying) = some (.type "type"))
    (gNoLoad : PySem.W.nsIn K mainGlobals "NoLoad" = some (some (.ref cNoLoad)))
    (xNoLoad : PySem.W.excIn K cNoLoad mroV "ValueError.__new__" = true)
    (pNoLoad : PySem.W.findIn K (.ref cNoLoad) "__getattribute__" = some (some (.builtin "BaseException.__getattribute__")))
    (qNoLoad : PySem.W.findIn K (.ref cNoLoad) "__getattr__" = some none)
    (rNoLoad : PySem.W.findIn K (.ref cNoLoad) "__class__" = some (some (.builtin "object.__class__")))
    (sNoLoad : PySem.W.subIn K (.ref cNoLoad) (.type "BaseException") = some true)
    (tNoLoad : PySem.W.subIn K (.ref cNoLoad) (.type "object") = some true)
    (uNoLoad : PySem.W.isClsIn K cNoLoad = true)
    (vNoLoad : PySem.W.typeIn K (.ref cNoLoad) = some (.type "type"))
    (gNoPlan : PySem.W.nsIn K mainGlobals "NoPlan" = some (some (.ref cNoPlan)))
    (xNoPlan : PySem.W.excIn K cNoPlan mroV "ValueError.__new__" = true)
    (pNoPlan : PySem.W.findIn K (.ref cNoPlan) "__getattribute__" = some (some (.builtin "BaseException.__getattribute__")))
    (qNoPlan : PySem.W.findIn K (.ref cNoPlan) "__getattr__" = some none)
    (rNoPlan : PySem.W.findIn K (.ref cNoPlan) "__class__" = some (some (.builtin "object.__class__")))
    (sNoPlan : PySem.W.subIn K (.ref cNoPlan) (.type "BaseException") = some true)
    (tNoPlan : PySem.W.subIn K (.ref cNoPlan) (.type "object") = some true)
    (uNoPlan : PySem.W.isClsIn K cNoPlan = true)
    (vNoPlan : PySem.W.typeIn K (.ref cNoPlan) = some (.type "type"))
    (gNoText : PySem.W.nsIn K mainGlobals "NoText" = some (some (.ref cNoText)))
    (xNoText : PySem.W.excIn K cNoText mroV "ValueError.__new__" = true)
    (pNoText : PySem.W.findIn K (.ref cNoText) "__getattribute__" = some (some (.builtin "BaseException.__getattribute__")))
    (qNoText : PySem.W.findIn K (.ref cNoText) "__getattr__" = some none)
    (rNoText : PySem.W.findIn K (.ref cNoText) "__class__" = some (some (.builtin "object.__class__")))
    (sNoText : PySem.W.subIn K (.ref cNoText) (.type "BaseException") = some true)
    (tNoText : PySem.W.subIn K (.ref cNoText) (.type "object") = some true)
    (uNoText : PySem.W.isClsIn K cNoText = true)
    (vNoText : PySem.W.typeIn K (.ref cNoText) = some (.type "type"))
    (gNoDeed : PySem.W.nsIn K mainGlobals "NoDeed" = some (some (.ref cNoDeed)))
    (xNoDeed : PySem.W.excIn K cNoDeed mroV "ValueError.__new__" = true)
    (pNoDeed : PySem.W.findIn K (.ref cNoDeed) "__getattribute__" = some (some (.builtin "BaseException.__getattribute__")))
    (qNoDeed : PySem.W.findIn K (.ref cNoDeed) "__getattr__" = some none)
    (rNoDeed : PySem.W.findIn K (.ref cNoDeed) "__class__" = some (some (.builtin "object.__class__")))
    (sNoDeed : PySem.W.subIn K (.ref cNoDeed) (.type "BaseException") = some true)
    (tNoDeed : PySem.W.subIn K (.ref cNoDeed) (.type "object") = some true)
    (uNoDeed : PySem.W.isClsIn K cNoDeed = true)
    (vNoDeed : PySem.W.typeIn K (.ref cNoDeed) = some (.type "type"))
    (wNoLoad : PySem.W.subIn K (.ref cNoLoad) (.type "ValueError") = some true)
    (yNoLoadStoneError : PySem.W.subIn K (.ref cNoLoad) (.ref cStoneError) = some true)
    (yNoLoadNoLaying : PySem.W.subIn K (.ref cNoLoad) (.ref cNoLaying) = some false)
    (nNoLoadNoLaying : (Value.ref cNoLoad == Value.ref cNoLaying) = false)
    (yNoLoadNoLoad : PySem.W.subIn K (.ref cNoLoad) (.ref cNoLoad) = some true)
    (yNoLoadNoPlan : PySem.W.subIn K (.ref cNoLoad) (.ref cNoPlan) = some false)
    (nNoLoadNoPlan : (Value.ref cNoLoad == Value.ref cNoPlan) = false)
    (yNoLoadNoText : PySem.W.subIn K (.ref cNoLoad) (.ref cNoText) = some false)
    (nNoLoadNoText : (Value.ref cNoLoad == Value.ref cNoText) = false)
    (yNoLoadNoDeed : PySem.W.subIn K (.ref cNoLoad) (.ref cNoDeed) = some false)
    (nNoLoadNoDeed : (Value.ref cNoLoad == Value.ref cNoDeed) = false)
    (wNoDeed : PySem.W.subIn K (.ref cNoDeed) (.type "ValueError") = some true)
    (yNoDeedStoneError : PySem.W.subIn K (.ref cNoDeed) (.ref cStoneError) = some true)
    (yNoDeedNoLaying : PySem.W.subIn K (.ref cNoDeed) (.ref cNoLaying) = some false)
    (nNoDeedNoLaying : (Value.ref cNoDeed == Value.ref cNoLaying) = false)
    (yNoDeedNoLoad : PySem.W.subIn K (.ref cNoDeed) (.ref cNoLoad) = some false)
    (nNoDeedNoLoad : (Value.ref cNoDeed == Value.ref cNoLoad) = false)
    (yNoDeedNoPlan : PySem.W.subIn K (.ref cNoDeed) (.ref cNoPlan) = some false)
    (nNoDeedNoPlan : (Value.ref cNoDeed == Value.ref cNoPlan) = false)
    (yNoDeedNoText : PySem.W.subIn K (.ref cNoDeed) (.ref cNoText) = some false)
    (nNoDeedNoText : (Value.ref cNoDeed == Value.ref cNoText) = false)
    (yNoDeedNoDeed : PySem.W.subIn K (.ref cNoDeed) (.ref cNoDeed) = some true)
    : ∃ fd : FuncData, (∀ (s : Shared) (v : Value), BindsTo s fd ⟨[v], []⟩ [("_law_script", v)]) ∧ ∀ base : Heap, K.In base → base.Ns mainGlobals mg → FnOk l.prog w K mg base CX0 8 fa fd ["_law_script"] (spLaw K) := by
  have B : Txt mg := ⟨PySem.W.mg_none_of X G z1, PySem.W.mg_none_of X G z2, PySem.W.mg_none_of X G z3, PySem.W.mg_none_of X G z4, PySem.W.mg_none_of X G z5, PySem.W.mg_none_of X G z6, PySem.W.mg_none_of X G z7, PySem.W.mg_none_of X G z8, PySem.W.mg_none_of X G z9⟩
  have R : Errs K mg cStoneError cNoLaying cNoLoad cNoPlan cNoText cNoDeed := ⟨PySem.W.mg_of X G gStoneError, errC_mk xStoneError pStoneError qStoneError rStoneError sStoneError tStoneError uStoneError, PySem.W.mg_of X G gNoLaying, errC_mk xNoLaying pNoLaying qNoLaying rNoLaying sNoLaying tNoLaying uNoLaying, PySem.W.mg_of X G gNoLoad, errC_mk xNoLoad pNoLoad qNoLoad rNoLoad sNoLoad tNoLoad uNoLoad, PySem.W.mg_of X G gNoPlan, errC_mk xNoPlan pNoPlan qNoPlan rNoPlan sNoPlan tNoPlan uNoPlan, PySem.W.mg_of X G gNoText, errC_mk xNoText pNoText qNoText rNoText sNoText tNoText uNoText, PySem.W.mg_of X G gNoDeed, errC_mk xNoDeed pNoDeed qNoDeed rNoDeed sNoDeed tNoDeed uNoDeed, ask_ty meta_VE wNoLoad, exm_ref sStoneError uStoneError vStoneError yNoLoadStoneError, ask_ref uStoneError vStoneError yNoLoadStoneError (.inl rfl), ask_ref uNoLaying vNoLaying yNoLoadNoLaying (.inr nNoLoadNoLaying), ask_ref uNoLoad vNoLoad yNoLoadNoLoad (.inl rfl), ask_ref uNoPlan vNoPlan yNoLoadNoPlan (.inr nNoLoadNoPlan), ask_ref uNoText vNoText yNoLoadNoText (.inr nNoLoadNoText), ask_ref uNoDeed vNoDeed yNoLoadNoDeed (.inr nNoLoadNoDeed), ask_ty meta_VE wNoDeed, exm_ref sStoneError uStoneError vStoneError yNoDeedStoneError, ask_ref uStoneError vStoneError yNoDeedStoneError (.inl rfl), ask_ref uNoLaying vNoLaying yNoDeedNoLaying (.inr nNoDeedNoLaying), ask_ref uNoLoad vNoLoad yNoDeedNoLoad (.inr nNoDeedNoLoad), ask_ref uNoPlan vNoPlan yNoDeedNoPlan (.inr nNoDeedNoPlan), ask_ref uNoText vNoText yNoDeedNoText (.inr nNoDeedNoText), ask_ref uNoDeed vNoDeed yNoDeedNoDeed (.inl rfl)⟩
  have O_Scale : Own_Scale K mg cScale := ⟨⟨pgScale, hdScale, poScale, saScale⟩, PySem.W.mg_of X G gScale, nScaleloads⟩
  have A_is_whole : At K mg "is_whole" s_is_whole ["thing"] := ⟨f1, _, PySem.W.mg_of X G a1, fun_mk (st := s_is_whole) l1 c1 k1, (fun_mk (st := s_is_whole) l1 c1 k1).binds fun _ _ _ _ _ _ us hl => match us, hl with | [_], _ => rfl⟩
  have A_check_load : At K mg "check_load" s_check_load ["thing"] := ⟨f2, _, PySem.W.mg_of X G a2, fun_mk (st := s_check_load) l2 c2 k2, (fun_mk (st := s_check_load) l2 c2 k2).binds fun _ _ _ _ _ _ us hl => match us, hl with | [_], _ => rfl⟩
  have A_lowest_thing : At K mg "lowest_thing" s_lowest_thing ["load"] := ⟨f4, _, PySem.W.mg_of X G a4, fun_mk (st := s_lowest_thing) l4 c4 k4, (fun_mk (st := s_lowest_thing) l4 c4 k4).binds fun _ _ _ _ _ _ us hl => match us, hl with | [_], _ => rfl⟩
  have A_laid : At K mg "laid" s_laid ["load"] := ⟨f5, _, PySem.W.mg_of X G a5, fun_mk (st := s_laid) l5 c5 k5, (fun_mk (st := s_laid) l5 c5 k5).binds fun _ _ _ _ _ _ us hl => match us, hl with | [_], _ => rfl⟩
  have A_thing_at : At K mg "thing_at" s_thing_at ["laying", "place"] := ⟨f7, _, PySem.W.mg_of X G a7, fun_mk (st := s_thing_at) l7 c7 k7, (fun_mk (st := s_thing_at) l7 c7 k7).binds fun _ _ _ _ _ _ us hl => match us, hl with | [_, _], _ => rfl⟩
  have A_moved : At K mg "moved" s_moved ["before", "behind"] := ⟨f8, _, PySem.W.mg_of X G a8, fun_mk (st := s_moved) l8 c8 k8, (fun_mk (st := s_moved) l8 c8 k8).binds fun _ _ _ _ _ _ us hl => match us, hl with | [_, _], _ => rfl⟩
  have A_Scale_init : IAt K cScale "Scale.__init__" s_Scale_init ["self"] := ⟨f9, _, ⟨mkScale, a9, i9, kcScale⟩, fun_mk (st := s_Scale_init) l9 c9 k9, (fun_mk (st := s_Scale_init) l9 c9 k9).binds fun _ _ _ _ _ _ us hl => match us, hl with | [_], _ => rfl⟩
  have A_Scale_lay : MAt K cScale "lay" "Scale.lay" s_Scale_lay ["self", "load"] := ⟨f10, _, ⟨a10, i10, k10⟩, fun_mk (st := s_Scale_lay) l10 c10 k10, (fun_mk (st := s_Scale_lay) l10 c10 k10).binds fun _ _ _ _ _ _ us hl => match us, hl with | [_, _], _ => rfl⟩
  have A_Scale_back : MAt K cScale "back" "Scale.back" s_Scale_back ["self"] := ⟨f12, _, ⟨a12, i12, k12⟩, fun_mk (st := s_Scale_back) l12 c12 k12, (fun_mk (st := s_Scale_back) l12 c12 k12).binds fun _ _ _ _ _ _ us hl => match us, hl with | [_], _ => rfl⟩
  have A_Scale_pans : MAt K cScale "pans" "Scale.pans" s_Scale_pans ["self"] := ⟨f14, _, ⟨a14, i14, k14⟩, fun_mk (st := s_Scale_pans) l14 c14 k14, (fun_mk (st := s_Scale_pans) l14 c14 k14).binds fun _ _ _ _ _ _ us hl => match us, hl with | [_], _ => rfl⟩
  have A_Scale_weighs : MAt K cScale "weighs" "Scale.weighs" s_Scale_weighs ["self"] := ⟨f15, _, ⟨a15, i15, k15⟩, fun_mk (st := s_Scale_weighs) l15 c15 k15, (fun_mk (st := s_Scale_weighs) l15 c15 k15).binds fun _ _ _ _ _ _ us hl => match us, hl with | [_], _ => rfl⟩
  have A_law_cell_at : At K mg "_law_cell_at" s_law_cell_at ["_law_script", "_law_k"] := ⟨f16, _, PySem.W.mg_of X G a16, fun_mk (st := s_law_cell_at) l16 c16 k16, (fun_mk (st := s_law_cell_at) l16 c16 k16).binds fun _ _ _ _ _ _ us hl => match us, hl with | [_, _], _ => rfl⟩
  have A_law_whole : At K mg "_law_whole" s_law_whole ["_law_found"] := ⟨f17, _, PySem.W.mg_of X G a17, fun_mk (st := s_law_whole) l17 c17 k17, (fun_mk (st := s_law_whole) l17 c17 k17).binds fun _ _ _ _ _ _ us hl => match us, hl with | [_], _ => rfl⟩
  have A_law_weight : At K mg "_law_weight" s_law_weight ["_law_many"] := ⟨f18, _, PySem.W.mg_of X G a18, fun_mk (st := s_law_weight) l18 c18 k18, (fun_mk (st := s_law_weight) l18 c18 k18).binds fun _ _ _ _ _ _ us hl => match us, hl with | [_], _ => rfl⟩
  have A_law_load_by : At K mg "_law_load_by" s_law_load_by ["_law_cell", "_law_way", "_law_most"] := ⟨f19, _, PySem.W.mg_of X G a19, fun_mk (st := s_law_load_by) l19 c19 k19, (fun_mk (st := s_law_load_by) l19 c19 k19).binds fun _ _ _ _ _ _ us hl => match us, hl with | [_, _, _], _ => rfl⟩
  have A_law_sum : At K mg "_law_sum" s_law_sum ["_law_things"] := ⟨f20, _, PySem.W.mg_of X G a20, fun_mk (st := s_law_sum) l20 c20 k20, (fun_mk (st := s_law_sum) l20 c20 k20).binds fun _ _ _ _ _ _ us hl => match us, hl with | [_], _ => rfl⟩
  have A_law_neat : At K mg "_law_neat" s_law_neat ["_law_things"] := ⟨f21, _, PySem.W.mg_of X G a21, fun_mk (st := s_law_neat) l21 c21 k21, (fun_mk (st := s_law_neat) l21 c21 k21).binds fun _ _ _ _ _ _ us hl => match us, hl with | [_], _ => rfl⟩
  have A_law_apart : At K mg "_law_apart" s_law_apart ["_law_one", "_law_other"] := ⟨f22, _, PySem.W.mg_of X G a22, fun_mk (st := s_law_apart) l22 c22 k22, (fun_mk (st := s_law_apart) l22 c22 k22).binds fun _ _ _ _ _ _ us hl => match us, hl with | [_, _], _ => rfl⟩
  have A_law_looked : At K mg "_law_looked" s_law_looked ["_law_scale", "_law_loads", "_law_row", "_law_many"] := ⟨f23, _, PySem.W.mg_of X G a23, fun_mk (st := s_law_looked) l23 c23 k23, (fun_mk (st := s_law_looked) l23 c23 k23).binds fun _ _ _ _ _ _ us hl => match us, hl with | [_, _, _, _], _ => rfl⟩
  have A_law_refused : At K mg "_law_refused" s_law_refused ["_law_caught", "_law_word"] := ⟨f24, _, PySem.W.mg_of X G a24, fun_mk (st := s_law_refused) l24 c24 k24, (fun_mk (st := s_law_refused) l24 c24 k24).binds fun _ _ _ _ _ _ us hl => match us, hl with | [_, _], _ => rfl⟩
  have A_law_deed_by : At K mg "_law_deed_by" s_law_deed_by ["_law_cell", "_law_loads", "_law_most"] := ⟨f25, _, PySem.W.mg_of X G a25, fun_mk (st := s_law_deed_by) l25 c25 k25, (fun_mk (st := s_law_deed_by) l25 c25 k25).binds fun _ _ _ _ _ _ us hl => match us, hl with | [_, _, _], _ => rfl⟩
  have A_law_done : At K mg "_law_done" s_law_done ["_law_scale", "_law_deed"] := ⟨f26, _, PySem.W.mg_of X G a26, fun_mk (st := s_law_done) l26 c26 k26, (fun_mk (st := s_law_done) l26 c26 k26).binds fun _ _ _ _ _ _ us hl => match us, hl with | [_, _], _ => rfl⟩
  have A_law_step : At K mg "_law_step" s_law_step ["_law_pair", "_law_quiet_here", "_law_loads", "_law_rows", "_law_cell", "_law_most"] := ⟨f27, _, PySem.W.mg_of X G a27, fun_mk (st := s_law_step) l27 c27 k27, (fun_mk (st := s_law_step) l27 c27 k27).binds fun _ _ _ _ _ _ us hl => match us, hl with | [_, _, _, _, _, _], _ => rfl⟩
  have A_law_all_back : At K mg "_law_all_back" s_law_all_back ["_law_scale", "_law_loads", "_law_row"] := ⟨f28, _, PySem.W.mg_of X G a28, fun_mk (st := s_law_all_back) l28 c28 k28, (fun_mk (st := s_law_all_back) l28 c28 k28).binds fun _ _ _ _ _ _ us hl => match us, hl with | [_, _, _], _ => rfl⟩
  have A_law_quiet : At K mg "_law_quiet" s_law_quiet ["_law_quiet_here", "_law_loads", "_law_row"] := ⟨f29, _, PySem.W.mg_of X G a29, fun_mk (st := s_law_quiet) l29 c29 k29, (fun_mk (st := s_law_quiet) l29 c29 k29).binds fun _ _ _ _ _ _ us hl => match us, hl with | [_, _, _], _ => rfl⟩
  have e := hfa.symm.trans (PySem.W.mg_of X G a30)
  cases e
  refine ⟨PySem.W.fnOf "law" "law" (defArgs s_law) (defBody s_law) (defScope s_law) .none kV30 dc30 pm30 an30 cd30 ct30, fun s v => .of_eq rfl, fun base _ _ => ?_⟩
  have D_is_whole := ok_is_whole (P := l.prog) (w := w) (base := base) A_is_whole B
  have D_check_load := ok_check_load (P := l.prog) (w := w) (base := base) A_check_load D_is_whole
  have D_check_load_x := ok_check_load_x (P := l.prog) (w := w) (base := base) A_check_load R D_is_whole
  have D_lowest_thing := ok_lowest_thing (P := l.prog) (w := w) (base := base) A_lowest_thing
  have D_laid := ok_laid (P := l.prog) (w := w) (base := base) A_laid D_check_load D_lowest_thing
  have D_laid_x := ok_laid_x (P := l.prog) (w := w) (base := base) A_laid D_check_load_x
  have D_thing_at := ok_thing_at (P := l.prog) (w := w) (base := base) A_thing_at B
  have D_moved := ok_moved (P := l.prog) (w := w) (base := base) A_moved B D_thing_at
  have D_Scale_init := ok_Scale_init (P := l.prog) (w := w) (base := base) A_Scale_init O_Scale
  have D_Scale_lay := ok_Scale_lay (P := l.prog) (w := w) (base := base) A_Scale_lay O_Scale D_check_load D_laid D_moved A_Scale_weighs A_Scale_pans
  have D_Scale_lay_x := ok_Scale_lay_x (P := l.prog) (w := w) (base := base) A_Scale_lay D_check_load_x
  have D_Scale_back := ok_Scale_back (P := l.prog) (w := w) (base := base) A_Scale_back B O_Scale D_laid D_moved A_Scale_weighs A_Scale_pans
  have D_Scale_back_x := ok_Scale_back_x (P := l.prog) (w := w) (base := base) A_Scale_back B O_Scale R
  have D_Scale_pans := ok_Scale_pans (P := l.prog) (w := w) (base := base) A_Scale_pans O_Scale D_laid A_Scale_weighs
  have D_Scale_weighs := ok_Scale_weighs (P := l.prog) (w := w) (base := base) A_Scale_weighs O_Scale
  have D_law_cell_at := ok_law_cell_at (P := l.prog) (w := w) (base := base) A_law_cell_at B
  have D_law_whole := ok_law_whole (P := l.prog) (w := w) (base := base) A_law_whole B
  have D_law_weight := ok_law_weight (P := l.prog) (w := w) (base := base) A_law_weight B
  have D_law_load_by := ok_law_load_by (P := l.prog) (w := w) (base := base) A_law_load_by D_law_weight
  have D_law_sum := ok_law_sum (P := l.prog) (w := w) (base := base) A_law_sum
  have D_law_neat := ok_law_neat (P := l.prog) (w := w) (base := base) A_law_neat B D_law_whole
  have D_law_apart := ok_law_apart (P := l.prog) (w := w) (base := base) A_law_apart B
  have D_law_looked := ok_law_looked (P := l.prog) (w := w) (base := base) A_law_looked B O_Scale D_Scale_pans D_Scale_weighs D_law_whole D_law_neat D_law_sum D_law_apart
  have D_law_refused := ok_law_refused (P := l.prog) (w := w) (base := base) A_law_refused B R
  have D_law_deed_by := ok_law_deed_by (P := l.prog) (w := w) (base := base) A_law_deed_by D_law_load_by
  have D_law_done := ok_law_done (P := l.prog) (w := w) (base := base) A_law_done R O_Scale D_law_refused D_Scale_lay D_Scale_back D_Scale_lay_x D_Scale_back_x
  have D_law_step := ok_law_step (P := l.prog) (w := w) (base := base) A_law_step O_Scale D_law_deed_by D_law_done D_law_looked D_Scale_pans
  have D_law_all_back := ok_law_all_back (P := l.prog) (w := w) (base := base) A_law_all_back O_Scale D_Scale_back D_law_looked D_law_done
  have D_law_quiet := ok_law_quiet (P := l.prog) (w := w) (base := base) A_law_quiet B O_Scale D_Scale_weighs D_Scale_pans D_law_whole D_law_neat
  exact ok_law (P := l.prog) (w := w) (base := base) (fun_mk (st := s_law) l30 c30 k30) B O_Scale D_Scale_init D_law_cell_at D_Scale_pans D_Scale_weighs D_law_step D_law_all_back D_law_looked D_law_done D_law_quiet
theorem walk {l : PySem.W.OpenLaw} {q : Program} {loose : List Str} {XP : (Str → Option Value) → Heap → Prop} {YP : World → Heap → Prop} {d : DefRec} {K : Params → PySem.W.Frag} (hn : l.most = some 63) (hdf : d.params.defaults = [])
    (hY : ∀ (w : World) (h : Heap), YP w h → (K w.params).In h)
    (F : ∀ (w : World) (mg : Str → Option Value) (fa : Addr) (h : Heap), (K w.params).In h → h.Ns mainGlobals mg → mg d.name = some (.ref fa) →
      ∃ fd : FuncData, (∀ (s : Shared) (u : Value), BindsTo s fd ⟨[u], []⟩ [("_law_script", u)]) ∧ ∀ base : Heap, (K w.params).In base → base.Ns mainGlobals mg → FnOk l.prog w (K w.params) mg base CX0 8 fa fd ["_law_script"] (spLaw (K w.params))) :
    PySem.W.WalkO q loose XP YP l.row.toRowW d [] (fun f vs => PySem.call f vs) :=
  L2.walk_of (n := 63) (k := 8) (x := "_law_script") (CX := fun _ => CX0) (sp := fun w => spLaw (K w.params)) hn (by decide) hdf ⟨rfl, by decide, by decide⟩ hY F (fun _ _ a ns hl _ hS => ⟨a, ns, rfl, hS, hl, fun _ => rfl⟩) fun _ _ _ _ _ z => z
end K09
open PySem PySem.W PyProof.Rows
set_option maxRecDepth 100000 in
set_option maxHeartbeats 0 in
theorem PySem.Challenge.cw_fewstones_k09_whole_scale_holds : PySem.Challenge.rw_fewstones_k09_whole_scale.Holds := by
  w_on; o_law; k_head; (case hw => w_witness2)
  k_fill
  refine K09.walk (l := PySem.Challenge.rw_fewstones_k09_whole_scale) rfl rfl (fun w h Y => PySem.W.kIn_of Y) ?F
  case F =>
    intro w mg fa h KX G hmg
    refine' K09.all_mk KX G hmg ?gScale ?pgScale ?hdScale ?poScale ?saScale ?mkScale ?kcScale ?nScaleloads ?a1 ?l1 ?c1 ?k1 ?a2 ?l2 ?c2 ?k2 ?a4 ?l4 ?c4 ?k4 ?a5 ?l5 ?c5 ?k5 ?a7 ?l7 ?c7 ?k7 ?a8 ?l8 ?c8 ?k8 ?a9 ?i9 ?l9 ?c9 ?k9 ?a10 ?i10 ?l10 ?c10 ?k10 ?a12 ?i12 ?l12 ?c12 ?k12 ?a14 ?i14 ?l14 ?c14 ?k14 ?a15 ?i15 ?l15 ?c15 ?k15 ?a16 ?l16 ?c16 ?k16 ?a17 ?l17 ?c17 ?k17 ?a18 ?l18 ?c18 ?k18 ?a19 ?l19 ?c19 ?k19 ?a20 ?l20 ?c20 ?k20 ?a21 ?l21 ?c21 ?k21 ?a22 ?l22 ?c22 ?k22 ?a23 ?l23 ?c23 ?k23 ?a24 ?l24 ?c24 ?k24 ?a25 ?l25 ?c25 ?k25 ?a26 ?l26 ?c26 ?k26 ?a27 ?l27 ?c27 ?k27 ?a28 ?l28 ?c28 ?k28 ?a29 ?l29 ?c29 ?k29 ?a30 ?l30 ?c30 ?k30 ?z1 ?z2 ?z3 ?z4 ?z5 ?z6 ?z7 ?z8 ?z9 ?gStoneError ?xStoneError ?pStoneError ?qStoneError ?rStoneError ?sStoneError ?tStoneError ?uStoneError ?vStoneError ?gNoLaying ?xNoLaying ?pNoLaying ?qNoLaying ?rNoLaying ?sNoLaying ?tNoLaying ?uNoLaying ?vNoLaying ?gNoLoad ?xNoLoad ?pNoLoad ?qNoLoad ?rNoLoad ?sNoLoad ?tNoLoad ?uNoLoad ?vNoLoad ?gNoPlan ?xNoPlan ?pNoPlan ?qNoPlan ?rNoPlan ?sNoPlan ?tNoPlan ?uNoPlan ?vNoPlan ?gNoText ?xNoText ?pNoText ?qNoText ?rNoText ?sNoText ?tNoText ?uNoText ?vNoText ?gNoDeed ?xNoDeed ?pNoDeed ?qNoDeed ?rNoDeed ?sNoDeed ?tNoDeed ?uNoDeed ?vNoDeed ?wNoLoad ?yNoLoadStoneError ?yNoLoadNoLaying ?nNoLoadNoLaying ?yNoLoadNoLoad ?yNoLoadNoPlan ?nNoLoadNoPlan ?yNoLoadNoText ?nNoLoadNoText ?yNoLoadNoDeed ?nNoLoadNoDeed ?wNoDeed ?yNoDeedStoneError ?yNoDeedNoLaying ?nNoDeedNoLaying ?yNoDeedNoLoad ?nNoDeedNoLoad ?yNoDeedNoPlan ?nNoDeedNoPlan ?yNoDeedNoText ?nNoDeedNoText ?yNoDeedNoDeed
    (case gScale => k_is)
    (case pgScale => k_is)
    (case hdScale => k_is)
    (case poScale => k_is)
    (case saScale => k_is)
    (case mkScale => k_is)
    (case kcScale => k_is)
    (case nScaleloads => k_is)
    (case a1 => k_is)
    (case l1 => k_is)
    (case c1 => k_is)
    (case k1 => k_is)
    (case a2 => k_is)
    (case l2 => k_is)
    (case c2 => k_is)
    (case k2 => k_is)
    (case a4 => k_is)
    (case l4 => k_is)
    (case c4 => k_is)
    (case k4 => k_is)
    (case a5 => k_is)
    (case l5 => k_is)
    (case c5 => k_is)
    (case k5 => k_is)
    (case a7 => k_is)
    (case l7 => k_is)
    (case c7 => k_is)
    (case k7 => k_is)
    (case a8 => k_is)
    (case l8 => k_is)
    (case c8 => k_is)
    (case k8 => k_is)
    (case a9 => k_is)
    (case i9 => k_is)
    (case l9 => k_is)
    (case c9 => k_is)
    (case k9 => k_is)
    (case a10 => k_is)
    (case i10 => k_is)
    (case l10 => k_is)
    (case c10 => k_is)
    (case k10 => k_is)
    (case a12 => k_is)
    (case i12 => k_is)
    (case l12 => k_is)
    (case c12 => k_is)
    (case k12 => k_is)
    (case a14 => k_is)
    (case i14 => k_is)
    (case l14 => k_is)
    (case c14 => k_is)
    (case k14 => k_is)
    (case a15 => k_is)
    (case i15 => k_is)
    (case l15 => k_is)
    (case c15 => k_is)
    (case k15 => k_is)
    (case a16 => k_is)
    (case l16 => k_is)
    (case c16 => k_is)
    (case k16 => k_is)
    (case a17 => k_is)
    (case l17 => k_is)
    (case c17 => k_is)
    (case k17 => k_is)
    (case a18 => k_is)
    (case l18 => k_is)
    (case c18 => k_is)
    (case k18 => k_is)
    (case a19 => k_is)
    (case l19 => k_is)
    (case c19 => k_is)
    (case k19 => k_is)
    (case a20 => k_is)
    (case l20 => k_is)
    (case c20 => k_is)
    (case k20 => k_is)
    (case a21 => k_is)
    (case l21 => k_is)
    (case c21 => k_is)
    (case k21 => k_is)
    (case a22 => k_is)
    (case l22 => k_is)
    (case c22 => k_is)
    (case k22 => k_is)
    (case a23 => k_is)
    (case l23 => k_is)
    (case c23 => k_is)
    (case k23 => k_is)
    (case a24 => k_is)
    (case l24 => k_is)
    (case c24 => k_is)
    (case k24 => k_is)
    (case a25 => k_is)
    (case l25 => k_is)
    (case c25 => k_is)
    (case k25 => k_is)
    (case a26 => k_is)
    (case l26 => k_is)
    (case c26 => k_is)
    (case k26 => k_is)
    (case a27 => k_is)
    (case l27 => k_is)
    (case c27 => k_is)
    (case k27 => k_is)
    (case a28 => k_is)
    (case l28 => k_is)
    (case c28 => k_is)
    (case k28 => k_is)
    (case a29 => k_is)
    (case l29 => k_is)
    (case c29 => k_is)
    (case k29 => k_is)
    (case a30 => k_is)
    (case l30 => k_is)
    (case c30 => k_is)
    (case k30 => k_is)
    (case z1 => k_is)
    (case z2 => k_is)
    (case z3 => k_is)
    (case z4 => k_is)
    (case z5 => k_is)
    (case z6 => k_is)
    (case z7 => k_is)
    (case z8 => k_is)
    (case z9 => k_is)
    (case gStoneError => k_is)
    (case xStoneError => k_exc)
    (case pStoneError => k_is)
    (case qStoneError => k_is)
    (case rStoneError => k_is)
    (case sStoneError => k_is)
    (case tStoneError => k_is)
    (case uStoneError => k_is)
    (case vStoneError => k_is)
    (case gNoLaying => k_is)
    (case xNoLaying => k_exc)
    (case pNoLaying => k_is)
    (case qNoLaying => k_is)
    (case rNoLaying => k_is)
    (case sNoLaying => k_is)
    (case tNoLaying => k_is)
    (case uNoLaying => k_is)
    (case vNoLaying => k_is)
    (case gNoLoad => k_is)
    (case xNoLoad => k_exc)
    (case pNoLoad => k_is)
    (case qNoLoad => k_is)
    (case rNoLoad => k_is)
    (case sNoLoad => k_is)
    (case tNoLoad => k_is)
    (case uNoLoad => k_is)
    (case vNoLoad => k_is)
    (case gNoPlan => k_is)
    (case xNoPlan => k_exc)
    (case pNoPlan => k_is)
    (case qNoPlan => k_is)
    (case rNoPlan => k_is)
    (case sNoPlan => k_is)
    (case tNoPlan => k_is)
    (case uNoPlan => k_is)
    (case vNoPlan => k_is)
    (case gNoText => k_is)
    (case xNoText => k_exc)
    (case pNoText => k_is)
    (case qNoText => k_is)
    (case rNoText => k_is)
    (case sNoText => k_is)
    (case tNoText => k_is)
    (case uNoText => k_is)
    (case vNoText => k_is)
    (case gNoDeed => k_is)
    (case xNoDeed => k_exc)
    (case pNoDeed => k_is)
    (case qNoDeed => k_is)
    (case rNoDeed => k_is)
    (case sNoDeed => k_is)
    (case tNoDeed => k_is)
    (case uNoDeed => k_is)
    (case vNoDeed => k_is)
    (case wNoLoad => k_is)
    (case yNoLoadStoneError => k_is)
    (case yNoLoadNoLaying => k_is)
    (case nNoLoadNoLaying => rfl)
    (case yNoLoadNoLoad => k_is)
    (case yNoLoadNoPlan => k_is)
    (case nNoLoadNoPlan => rfl)
    (case yNoLoadNoText => k_is)
    (case nNoLoadNoText => rfl)
    (case yNoLoadNoDeed => k_is)
    (case nNoLoadNoDeed => rfl)
    (case wNoDeed => k_is)
    (case yNoDeedStoneError => k_is)
    (case yNoDeedNoLaying => k_is)
    (case nNoDeedNoLaying => rfl)
    (case yNoDeedNoLoad => k_is)
    (case nNoDeedNoLoad => rfl)
    (case yNoDeedNoPlan => k_is)
    (case nNoDeedNoPlan => rfl)
    (case yNoDeedNoText => k_is)
    (case nNoDeedNoText => rfl)
    (case yNoDeedNoDeed => k_is)
#print axioms PySem.Challenge.cw_fewstones_k09_whole_scale_holds
