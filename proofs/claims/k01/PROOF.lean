import PyProof.Rows.All
import Wide.All
import OpenK.AllK
import Wide.FinOn
import PyProof.EqAt
import PyProof.EqKinds
import PyProof.TupleCall
import PyProof.StrLawsRepr
import Lean
import PySem.Challenge.RW_hookhall_k01_places_and_pieces
set_option Elab.async false
set_option linter.all false
set_option maxRecDepth 100000
/-! THE HAND LAYER, for ints, bools, texts, own classes, LISTS and tuples (index, slices, in, append, pop ..), calls, loops. Paste it whole ahead of your own text; what your proof does not reach may be deleted. -/
namespace L2
open PySem PySem.Spec PyProof.Rows

/-- a key: an int or a str -/
abbrev Key := Sum Int Str
def keyIs : Key → Value → Bool
  | .inl k, v => Value.isInt k v
  | .inr x, v => Value.isStrOf x v
def keyH (w : World) : Key → Int
  | .inl k => hashInt k
  | .inr x => hashStr w x
theorem keyIs_shape : ∀ {k : Key} {v : Value}, keyIs k v = true → (∃ i t, k = Sum.inl i ∧ v = Value.int i t) ∨ (∃ x t, k = Sum.inr x ∧ v = Value.str x t)
  | .inl i, v, h => by
    obtain ⟨t, e⟩ := Value.isInt_shape (k := i) (v := v) h
    exact .inl ⟨i, t, rfl, e⟩
  | .inr x, v, h => by
    obtain ⟨t, e⟩ := Value.isStrOf_shape (x := x) (v := v) h
    exact .inr ⟨x, t, rfl, e⟩
theorem keyIs_int (i : Int) (t : Tok) : keyIs (.inl i) (.int i t) = true := by simp [keyIs, Value.isInt]
theorem keyIs_str (x : Str) (t : Tok) : keyIs (.inr x) (.str x t) = true := by simp [keyIs, Value.isStrOf]
theorem key_ll (a b : Int) : decide ((Sum.inl a : Key) = Sum.inl b) = (a == b) := by
  by_cases e : a = b
  · subst e; simp
  · have h : ¬ (Sum.inl a : Key) = Sum.inl b := fun q => e (Sum.inl.inj q)
    rw [decide_eq_false h]
    exact (beq_eq_false_iff_ne.mpr e).symm
theorem key_rr (a b : Str) : decide ((Sum.inr a : Key) = Sum.inr b) = decide (a = b) := by
  by_cases e : a = b
  · subst e; simp
  · have h : ¬ (Sum.inr a : Key) = Sum.inr b := fun q => e (Sum.inr.inj q)
    rw [decide_eq_false h, decide_eq_false e]
theorem key_lr (a : Int) (b : Str) : decide ((Sum.inl a : Key) = Sum.inr b) = false := decide_eq_false (fun q => nomatch q)
theorem key_rl (a : Str) (b : Int) : decide ((Sum.inr a : Key) = Sum.inl b) = false := decide_eq_false (fun q => nomatch q)

def mixKind (prog : Program) (w : World) : PySem.KeyKind prog w Key where
  is := keyIs
  hash := keyH w
  inj := fun v a b ha hb => by
    rcases keyIs_shape ha with ⟨i, t, rfl, rfl⟩ | ⟨x, t, rfl, rfl⟩
    · rcases keyIs_shape hb with ⟨j, u, rfl, e⟩ | ⟨y, u, rfl, e⟩
      · injection e with e1 _; rw [e1]
      · exact nomatch e
    · rcases keyIs_shape hb with ⟨j, u, rfl, e⟩ | ⟨y, u, rfl, e⟩
      · exact nomatch e
      · injection e with e1 _; rw [e1]
  byValue := fun k v h => by
    rcases keyIs_shape h with ⟨i, t, rfl, rfl⟩ | ⟨x, t, rfl, rfl⟩ <;> rfl
  pyHash := fun hv h => by
    rcases keyIs_shape hv with ⟨i, t, rfl, rfl⟩ | ⟨x, t, rfl, rfl⟩
    · exact wpAny_pyHash_int h
    · exact wpAny_pyHash_str h
  eqBool := fun hu hv h => by
    rcases keyIs_shape hu with ⟨i, t, rfl, rfl⟩ | ⟨x, t, rfl, rfl⟩
    · rcases keyIs_shape hv with ⟨j, u, rfl, rfl⟩ | ⟨y, u, rfl, rfl⟩
      · rw [key_ll] at h; exact wpAny_eqBool_int h
      · rw [key_lr] at h; exact SeqAt.EqAt.int_str i t y u _ _ _ _ h
    · rcases keyIs_shape hv with ⟨j, u, rfl, rfl⟩ | ⟨y, u, rfl, rfl⟩
      · rw [key_rl] at h; exact SeqAt.EqAt.str_int x t j u _ _ _ _ h
      · rw [key_rr] at h; exact wpAny_eqBool_str h
  «strs» := fun k x t v h => by
    rcases keyIs_shape h with ⟨i, u, rfl, e⟩ | ⟨y, u, rfl, e⟩
    · exact nomatch e
    · injection e with e1 _
      subst e1
      cases v <;> rfl

theorem mixKind_is (prog : Program) (w : World) (k : Key) (v : Value) : (mixKind prog w).is k v = keyIs k v := rfl
theorem mixKind_int (prog : Program) (w : World) (i : Int) (t : Tok) : (mixKind prog w).is (.inl i) (.int i t) = true := keyIs_int i t
theorem mixKind_str (prog : Program) (w : World) (x : Str) (t : Tok) : (mixKind prog w).is (.inr x) (.str x t) = true := keyIs_str x t
end L2

namespace L2
open PySem PySem.Spec PyProof.Rows

/-- a value, without the heap -/
inductive V where
  | non | bl (b : Bool) | int (i : Int) | str (x : Str) | byt (b : Array UInt8) | flt (b : UInt64) | ref (a : Addr) | ty (n : String)
  deriving DecidableEq

def RelV : V → Value → Prop
  | .non, u => u = Value.none
  | .bl b, u => u = Value.bool b
  | .int i, u => ∃ t, u = Value.int i t
  | .str x, u => ∃ t, u = Value.str x t
  | .byt b, u => ∃ t, u = Value.bytes b t
  | .flt b, u => ∃ t, u = Value.float b t
  | .ref a, u => u = Value.ref a
  | .ty n, u => u = Value.type n

abbrev Vals : List V → List Value → Prop := Paired RelV
theorem Vals.length {xs : List V} {us : List Value} (r : Vals xs us) : xs.length = us.length := Paired.length r
theorem Vals.get : ∀ {xs : List V} {us : List Value} {i : Nat} {x : V}, Vals xs us → xs[i]? = some x → ∃ u, us[i]? = some u ∧ RelV x u
  | _, _, _, _, .nil, e => by simp at e
  | _, _, 0, _, .cons r _, e => by simp at e; subst e; exact ⟨_, rfl, r⟩
  | _, _, i + 1, x, .cons _ t, e => by
    obtain ⟨u, h1, h2⟩ := Vals.get (i := i) (x := x) t (by simpa using e)
    exact ⟨u, by simpa using h1, h2⟩
theorem Vals.set {x : V} {u : Value} (r : RelV x u) : ∀ {xs : List V} {us : List Value} (i : Nat), Vals xs us → Vals (xs.set i x) (us.set i u)
  | _, _, _, .nil => .nil
  | _, _, 0, .cons _ t => .cons r t
  | _, _, i + 1, .cons q t => .cons q (Vals.set r i t)
theorem Vals.append : ∀ {xs ys : List V} {us ws : List Value}, Vals xs us → Vals ys ws → Vals (xs ++ ys) (us ++ ws)
  | _, _, _, _, .nil, s => s
  | _, _, _, _, .cons r t, s => .cons r (Vals.append t s)
theorem Vals.take : ∀ {xs : List V} {us : List Value} (n : Nat), Vals xs us → Vals (xs.take n) (us.take n)
  | _, _, 0, _ => .nil
  | _, _, _ + 1, .nil => .nil
  | _, _, n + 1, .cons r t => .cons r (Vals.take n t)
theorem Vals.drop : ∀ {xs : List V} {us : List Value} (n : Nat), Vals xs us → Vals (xs.drop n) (us.drop n)
  | _, _, 0, r => r
  | _, _, _ + 1, .nil => .nil
  | _, _, n + 1, .cons _ t => Vals.drop n t
theorem Vals.none_of : ∀ {xs : List V} {us : List Value} {i : Nat}, Vals xs us → xs[i]? = none → us[i]? = none := fun {xs us i} r e => by
  have h1 := r.length
  have h2 : xs.length ≤ i := List.getElem?_eq_none_iff.mp e
  exact List.getElem?_eq_none_iff.mpr (by omega)

def RelO : Option V → Option Value → Prop
  | some v, some u => RelV v u
  | none, none => True
  | _, _ => False
def KV {κ : Type} : List (κ × V) → List (κ × Value) → Prop := Paired fun (p : κ × V) (q : κ × Value) => p.1 = q.1 ∧ RelV p.2 q.2

/-- a key of a dict (00_mix): an int or a text -/
def kV : Key → V
  | .inl i => .int i
  | .inr x => .str x

/-- what stands at a tracked address -/
inductive HO where
  /-- a list -/
  | lst (xs : List V)
  /-- a tuple (never changes) -/
  | tup (xs : List V)
  /-- a dict whose keys are ints and texts; one whose keys are tuples of ints and texts (the empty one is both) -/
  | dK (kvs : List (Key × V)) | dT (kvs : List (List Key × V))
  /-- a set of ints: its members, its size -/
  | set (S : Int → Bool) (n : Nat)
  /-- an instance of the class at C, its dict at dx, its attributes -/
  | ins (C dx : Addr) (fs : List (Str × V))
  /-- the dict of the instance at x -/
  | own (x : Addr)
  /-- the dict of an exception -/
  | xd (fs : List (Str × V))
  /-- a bound method, f of x -/
  | met (f x : Addr)
  /-- a range object lo, lo + 1, .. below hi -/
  | rng (lo hi : Int)
  /-- a thing that is known to the object (the script; a dict while a loop walks it): read, never written while it is so -/
  | frz (o : Obj) (u : HO)
  /-- a code object's table -/
  | tbl (ps : Array Value)
  /-- any other thing, by what is true of its one object (a def of one's own: SetO a S n := HO.ext fun h => ..) -/
  | ext (φ : Heap → Prop)

abbrev Hp := Addr → Option HO
def upd (H : Hp) (a : Addr) (o : HO) : Hp := fun b => if b = a then some o else H b
theorem upd_same {H : Hp} {a : Addr} {o : HO} : upd H a o a = some o := by unfold upd; rw [if_pos rfl]
theorem upd_ne {H : Hp} {a b : Addr} {o : HO} (h : b ≠ a) : upd H a o b = H b := by unfold upd; rw [if_neg h]
theorem upd_upd {H : Hp} {a : Addr} {o u : HO} : upd (upd H a o) a u = upd H a u := by
  funext b; unfold upd; split <;> rfl
/-- two objects of different content stand apart -/
theorem ne_of {H : Hp} {a b : Addr} {o u : HO} (h : H a = some o) (h' : H b = some u) (d : o ≠ u) : a ≠ b := by
  intro e; subst e; rw [h] at h'; exact d (Option.some.inj h')
theorem ne_of_none {H : Hp} {a b : Addr} {o : HO} (h : H a = some o) (h' : H b = none) : a ≠ b := by
  intro e; subst e; rw [h] at h'; cases h'

section
variable (P : Program) (w : World)
def ObjOk (H : Hp) (h : Heap) (a : Addr) : HO → Prop
  | .lst xs => xs.length ≤ sizeLine ∧ ∃ (its : List Value) (n : Nat), Vals xs its ∧ h.get? a = some { cls := .type "list", data := .seq its.toArray n }
  | .tup xs => xs.length ≤ sizeLine ∧ ∃ its : List Value, Vals xs its ∧ IsTup h a its.toArray
  | .dK kvs => kvs.length ≤ sizeLine ∧ (a == sysModules) = false ∧ ∃ vs, KV kvs vs ∧ h.DictOf (mixKind P w) a vs
  | .dT kvs => kvs.length ≤ sizeLine ∧ (a == sysModules) = false ∧ ∃ xs : List (List Key × Addr × Value),
      Paired (fun (p : List Key × V) (q : List Key × Addr × Value) => p.1 = q.1 ∧ H q.2.1 = some (.tup (p.1.map kV)) ∧ RelV p.2 q.2.2) kvs xs ∧
      ∃ o es ep, h.get? a = some o ∧ o.ExactDict ∧ o.data = .dict es ep ∧ es.toList = xs.map (entryOfKey (tupleKind (mixKind P w))) ∧ (xs.map (·.1)).Nodup
  | .set S n => h.SetOf (intKind P w) a S n
  | .ins C dx fs => H dx = some (.own a) ∧ fs.length ≤ 1000 ∧ dx ≠ a ∧ h.get? a = some (PySem.W.instObj C dx) ∧
      ∃ mA, h.Ns1 dx mA ∧ (∀ f, RelO (fs.lookup f) (mA f)) ∧ PySem.Within mA (fs.map (·.1))
  | .own _ => ∃ o, h.get? a = some o
  | .xd fs => ∃ mA, h.Ns1 a mA ∧ ∀ f, RelO (fs.lookup f) (mA f)
  | .rng lo hi => ∃ t u v, h.get? a = some { cls := .type "range", data := .fields #[.int lo t, .int hi u, .int 1 v] }
  | .frz o u => h.get? a = some o ∧ ObjOk H h a u
  | .tbl ps => h.get? a = some { cls := .none, data := .fields ps }
  | .met f x => h.get? a = some (PySem.W.methodObj (.ref f) (.ref x))
  | .ext φ => φ h ∧ (∃ o, h.get? a = some o) ∧ ∀ h1 h2 : Heap, φ h1 → (∀ o, h1.get? a = some o → h2.get? a = some o) → φ h2
/-- the abstract heap is held -/
def HOk (H : Hp) (h : Heap) : Prop := ∀ a o, H a = some o → ObjOk P w H h a o
end

section
variable {P : Program} {w : World} {H H' : Hp} {h h' : Heap} {a : Addr} {o : HO}
theorem ObjOk.lt (x : ObjOk P w H h a o) : a < h.objs.size := by
  cases o with
  | lst xs => obtain ⟨_, _, _, _, e⟩ := x; exact Heap.lt_size e
  | tup xs => obtain ⟨_, _, _, p⟩ := x; exact p.lt
  | dK kvs => obtain ⟨_, _, _, _, o, _, _, e, _⟩ := x; exact Heap.lt_size e
  | dT kvs => obtain ⟨_, _, _, _, o, _, _, e, _⟩ := x; exact Heap.lt_size e
  | set S n => obtain ⟨o, _, _, _, e, _⟩ := x; exact Heap.lt_size e
  | ins C dx fs => obtain ⟨_, _, _, e, _⟩ := x; exact Heap.lt_size e
  | own y => obtain ⟨_, e⟩ := x; exact Heap.lt_size e
  | xd fs => obtain ⟨_, ⟨_, _, _, e, _⟩, _⟩ := x; exact Heap.lt_size e
  | rng lo hi => obtain ⟨_, _, _, e⟩ := x; exact Heap.lt_size e
  | frz ob u => obtain ⟨e, _⟩ := x; exact Heap.lt_size e
  | tbl ps => exact Heap.lt_size (show h.get? a = some _ from x)
  | met f y => exact Heap.lt_size (show h.get? a = some _ from x)
  | ext φ => obtain ⟨_, ⟨_, e⟩, _⟩ := x; exact Heap.lt_size e
theorem Paired.mapP {α β : Type} {F G : α → β → Prop} : ∀ {l₁ : List α} {l₂ : List β}, Paired F l₁ l₂ → (∀ a b, F a b → G a b) → Paired G l₁ l₂
  | _, _, .nil, _ => .nil
  | _, _, .cons r t, f => .cons (f _ _ r) (Paired.mapP t f)
theorem Paired.imp' {α β : Type} {F G : α → β → Prop} (f : ∀ a b, F a b → G a b) {l₁ : List α} {l₂ : List β} (r : Paired F l₁ l₂) : Paired G l₁ l₂ := Paired.mapP r f
/-- what an object's description leans on: its own object, its own dict, the tuples -/
theorem ObjOk.stay (x : ObjOk P w H h a o) (k : ∀ b u, (b = a ∨ H b = some (.own a)) → h.get? b = some u → h'.get? b = some u)
    (ho : ∀ b, H b = some (.own a) → H' b = some (.own a)) (ht : ∀ b xs, H b = some (.tup xs) → H' b = some (.tup xs)) : ObjOk P w H' h' a o := by
  induction o with
  | lst xs => obtain ⟨z, its, n, r, e⟩ := x; exact ⟨z, its, n, r, k _ _ (.inl rfl) e⟩
  | tup xs => obtain ⟨z, its, r, ob, e, c⟩ := x; exact ⟨z, its, r, ob, k _ _ (.inl rfl) e, c⟩
  | dK kvs => obtain ⟨z, y, vs, r, ob, es, ep, e, c⟩ := x; exact ⟨z, y, vs, r, ob, es, ep, k _ _ (.inl rfl) e, c⟩
  | dT kvs =>
    obtain ⟨z, y, xs, r, ob, es, ep, e, c⟩ := x
    exact ⟨z, y, xs, Paired.mapP r fun p q z => ⟨z.1, ht _ _ z.2.1, z.2.2⟩, ob, es, ep, k _ _ (.inl rfl) e, c⟩
  | set S n => obtain ⟨ob, es, ep, t, e, c⟩ := x; exact ⟨ob, es, ep, t, k _ _ (.inl rfl) e, c⟩
  | ins C dx fs =>
    obtain ⟨d, z, ne, e, mA, ⟨od, es, ep, e2, c⟩, r⟩ := x
    exact ⟨ho _ d, z, ne, k _ _ (.inl rfl) e, mA, ⟨od, es, ep, k _ _ (.inr d) e2, c⟩, r⟩
  | own y => obtain ⟨ob, e⟩ := x; exact ⟨ob, k _ _ (.inl rfl) e⟩
  | xd fs => obtain ⟨mA, ⟨od, es, ep, e, c⟩, r⟩ := x; exact ⟨mA, ⟨od, es, ep, k _ _ (.inl rfl) e, c⟩, r⟩
  | rng lo hi => obtain ⟨t, u, v, e⟩ := x; exact ⟨t, u, v, k _ _ (.inl rfl) e⟩
  | frz ob u ih => obtain ⟨e, q⟩ := x; exact ⟨k _ _ (.inl rfl) e, ih q⟩
  | tbl ps =>
    have e : h.get? a = some { cls := .none, data := .fields ps } := x
    show h'.get? a = some { cls := .none, data := .fields ps }
    exact k a _ (.inl rfl) e
  | met f y =>
    have e : h.get? a = some (PySem.W.methodObj (.ref f) (.ref y)) := x
    show h'.get? a = some (PySem.W.methodObj (.ref f) (.ref y))
    exact k a _ (.inl rfl) e
  | ext φ => obtain ⟨p, ⟨o, e⟩, st⟩ := x; exact ⟨st _ _ p fun o q => k _ _ (.inl rfl) q, ⟨o, k _ _ (.inl rfl) e⟩, st⟩
theorem HOk.lt (x : HOk P w H h) (e : H a = some o) : a < h.objs.size := (x a o e).lt
theorem HOk.fresh (x : HOk P w H h) (e : h.objs.size ≤ a) : H a = none := by
  cases q : H a with
  | none => rfl
  | some u => exact absurd (Nat.lt_of_lt_of_le (x.lt q) e) (Nat.lt_irrefl _)
/-- every object of the heap is kept -/
theorem HOk.kept (x : HOk P w H h) (k : ∀ b u, h.get? b = some u → h'.get? b = some u) : HOk P w H h' := fun a o e =>
  (x a o e).stay (fun b u _ q => k b u q) (fun _ q => q) fun _ _ q => q
/-- a new object is laid and tracked -/
theorem HOk.laid (x : HOk P w H h) (k : ∀ b u, h.get? b = some u → h'.get? b = some u) (hp : h.objs.size ≤ a) (new : ObjOk P w (upd H a o) h' a o) : HOk P w (upd H a o) h' := fun b u e => by
  have hn := x.fresh hp
  by_cases hb : b = a
  · subst hb; rw [upd_same] at e; cases e; exact new
  · rw [upd_ne hb] at e
    exact (x b u e).stay (fun c v _ q => k c v q) (fun c q => by rw [upd_ne (ne_of_none q hn)]; exact q) fun c xs q => by rw [upd_ne (ne_of_none q hn)]; exact q
end

/-- what may be read as u: it is u, or a known u -/
def Rd (H : Hp) (a : Addr) (u : HO) : Prop := H a = some u ∨ ∃ o, H a = some (.frz o u)
theorem Rd.of {H : Hp} {a : Addr} {u : HO} (h : H a = some u) : Rd H a u := .inl h
theorem Rd.ok {P : Program} {w : World} {H : Hp} {h : Heap} {a : Addr} {u : HO} (r : Rd H a u) (x : HOk P w H h) : ObjOk P w H h a u := by
  rcases r with r | ⟨o, r⟩
  · exact x a u r
  · obtain ⟨_, q⟩ := x a _ r
    exact q
/-- what may be written -/
def Mut : Option HO → Prop
  | some (.lst _) => True
  | some (.dK _) => True
  | some (.dT _) => True
  | some (.set _ _) => True
  | some (.ins _ _ _) => True
  | some (.ext _) => True
  | _ => False
section
variable {P : Program} {w : World} {H : Hp} {h h' : Heap} {x e : Addr} {o' : HO}
/-- the object at e is changed: x itself, or the dict of the instance x -/
theorem HOk.write (ok : HOk P w H h) (mu : Mut (H x)) (he : e = x ∨ H e = some (.own x)) (k : ∀ b u, b ≠ e → h.get? b = some u → h'.get? b = some u) (heo : ∃ u, h'.get? e = some u)
    (new : ObjOk P w (upd H x o') h' x o') : HOk P w (upd H x o') h' := fun b u q => by
  have nown : ∀ c y, H c = some (.own y) → c ≠ x := fun c y r z => by subst z; rw [r] at mu; exact mu
  have ntup : ∀ c xs, H c = some (.tup xs) → c ≠ x := fun c xs r z => by subst z; rw [r] at mu; exact mu
  by_cases hb : b = x
  · subst hb; rw [upd_same] at q; cases q; exact new
  · rw [upd_ne hb] at q
    by_cases hbe : b = e
    · have q' : H b = some (.own x) := by
        rcases he with z | z
        · exact absurd (hbe.trans z) hb
        · rw [hbe]; exact z
      rw [q] at q'; cases q'
      obtain ⟨v, hv⟩ := heo
      exact ⟨v, by rw [hbe]; exact hv⟩
    · refine (ok b u q).stay (fun c v hc r => k c v ?_ r) (fun c r => by rw [upd_ne (nown c b r)]; exact r) fun c xs r => by rw [upd_ne (ntup c xs r)]; exact r
      rcases hc with rfl | hc
      · exact hbe
      · rintro rfl
        rcases he with z | z
        · exact nown c b hc z
        · rw [hc] at z; cases z; exact hb rfl
end

/-! ### kept unless tracked; of the frames at fs (the callers') the slots may change (an exception that passes writes there); of the records at ex (iterators) nothing is said -/
structure Un (fs ex : List Addr) (H H' : Hp) (h h' : Heap) : Prop where
  keep : ∀ b o, h.get? b = some o → H b = none → b ∉ fs → b ∉ ex → h'.get? b = some o
  slot : ∀ b o, h.get? b = some o → H b = none → b ∈ fs → b ∉ ex → ∃ sl, h'.get? b = some { o with slots := sl }
  free : ∀ b o, h.get? b = some o → H b = none → b ∉ ex → H' b = none
  there : ∀ b o, h.get? b = some o → b ∉ ex → ∃ o', h'.get? b = some o'
  tups : ∀ b xs, H b = some (.tup xs) → H' b = some (.tup xs)
  frzs : ∀ b o u, H b = some (.frz o u) → H' b = some (.frz o u)
  tbls : ∀ b ps, H b = some (.tbl ps) → ∃ more, H' b = some (.tbl (ps ++ more))
section
variable {fs fs' ex ex' : List Addr} {H H1 H2 : Hp} {h h1 h2 h' : Heap} {a x e : Addr} {o : HO}
theorem Un.any (u : Un fs ex H H1 h h1) {b : Addr} {ob : Obj} (q : h.get? b = some ob) (n : H b = none) (hx : b ∉ ex) : ∃ sl, h1.get? b = some { ob with slots := sl } := by
  by_cases hb : b ∈ fs
  · exact u.slot b ob q n hb hx
  · exact ⟨ob.slots, u.keep b ob q n hb hx⟩
theorem Un.trans (a : Un fs ex H H1 h h1) (b : Un fs ex H1 H2 h1 h2) : Un fs ex H H2 h h2 where
  keep := fun c ob q n hc hx => b.keep c ob (a.keep c ob q n hc hx) (a.free c ob q n hx) hc hx
  slot := fun c ob q n hc hx => by
    obtain ⟨sl, e1⟩ := a.slot c ob q n hc hx
    obtain ⟨sl', e2⟩ := b.slot c _ e1 (a.free c ob q n hx) hc hx
    exact ⟨sl', e2⟩
  free := fun c ob q n hx => by
    obtain ⟨o', e1⟩ := a.there c ob q hx
    exact b.free c o' e1 (a.free c ob q n hx) hx
  there := fun c ob q hx => by
    obtain ⟨o', e1⟩ := a.there c ob q hx
    exact b.there c o' e1 hx
  tups := fun c xs q => b.tups c xs (a.tups c xs q)
  frzs := fun c ob xs q => b.frzs c ob xs (a.frzs c ob xs q)
  tbls := fun c ps q => by
    obtain ⟨m1, e1⟩ := a.tbls c ps q
    obtain ⟨m2, e2⟩ := b.tbls c _ e1
    exact ⟨m1 ++ m2, by rw [e2, Array.append_assoc]⟩
theorem Un.kept (k : ∀ b u, h.get? b = some u → h'.get? b = some u) : Un fs ex H H h h' :=
  ⟨fun b ob q _ _ _ => k b ob q, fun b ob q _ _ _ => ⟨ob.slots, k b ob q⟩, fun _ _ _ n _ => n, fun b ob q _ => ⟨ob, k b ob q⟩, fun _ _ q => q, fun _ _ _ q => q, fun _ ps q => ⟨#[], by rw [q]; simp⟩⟩
theorem Un.refl : Un fs ex H H h h := Un.kept fun _ _ q => q
theorem Un.laid (k : ∀ b u, h.get? b = some u → h'.get? b = some u) (hp : h.objs.size ≤ a) (hn : H a = none) : Un fs ex H (upd H a o) h h' where
  keep := fun b u q _ _ _ => k b u q
  slot := fun b u q _ _ _ => ⟨u.slots, k b u q⟩
  free := fun b u q n _ => by rw [upd_ne (Nat.ne_of_lt (Nat.lt_of_lt_of_le (Heap.lt_size q) hp))]; exact n
  there := fun b u q _ => ⟨u, k b u q⟩
  tups := fun b xs q => by rw [upd_ne (ne_of_none q hn)]; exact q
  frzs := fun b u xs q => by rw [upd_ne (ne_of_none q hn)]; exact q
  tbls := fun b ps q => ⟨#[], by rw [upd_ne (ne_of_none q hn), q]; simp⟩
theorem Un.write (mu : Mut (H x)) (he : e = x ∨ H e = some (.own x)) (k : ∀ b u, b ≠ e → h.get? b = some u → h'.get? b = some u) (heo : ∃ u, h'.get? e = some u) : Un fs ex H (upd H x o) h h' := by
  have hx : ∀ b, H b = none → b ≠ x := fun b n z => by subst z; rw [n] at mu; exact mu
  have hb : ∀ b, H b = none → b ≠ e := fun b n z => by
    subst z
    rcases he with r | r
    · exact hx b n r
    · rw [n] at r; cases r
  have hm : ∀ b u, H b = some u → ¬ Mut (some u) → b ≠ x := fun b u q nm z => by subst z; rw [q] at mu; exact nm mu
  refine ⟨fun b u q n _ _ => k b u (hb b n) q, fun b u q n _ _ => ⟨u.slots, k b u (hb b n) q⟩, fun b u q n _ => by rw [upd_ne (hx b n)]; exact n, fun b u q _ => ?_,
    fun b xs q => by rw [upd_ne (hm b _ q fun z => z)]; exact q, fun b u xs q => by rw [upd_ne (hm b _ q fun z => z)]; exact q, fun b ps q => ⟨#[], by rw [upd_ne (hm b _ q fun z => z), q]; simp⟩⟩
  by_cases hbe : b = e
  · subst hbe; exact heo
  · exact ⟨u, k b u hbe q⟩
theorem Un.mono (u : Un fs ex H H1 h h1) (hs : ∀ b ∈ fs, b ∈ fs') (hx : ∀ b ∈ ex, b ∈ ex') : Un fs' ex' H H1 h h1 :=
  ⟨fun b ob q n hb he => u.keep b ob q n (fun z => hb (hs b z)) fun z => he (hx b z), fun _ _ q n _ he => u.any q n fun z => he (hx _ z), fun b ob q n he => u.free b ob q n fun z => he (hx b z), fun b ob q he => u.there b ob q fun z => he (hx b z), u.tups, u.frzs, u.tbls⟩
end

/-! ### the heap without what is tracked -/
def trk (h : Heap) (H : Hp) : List Addr := (List.range h.objs.size).filter fun a => (H a).isSome
def hidT (h : Heap) (H : Hp) : Heap := PySem.W.hideAll h (trk h H)
theorem hidT_size (h : Heap) (H : Hp) : (hidT h H).objs.size = h.objs.size := PySem.W.hideAll_size _ _
theorem hidT_get {h : Heap} {H : Hp} {b : Addr} {o : Obj} (e : h.get? b = some o) (n : H b = none) : (hidT h H).get? b = some o :=
  PySem.W.hideAll_get _ e fun hm => by
    have q : (H b).isSome = true := (List.mem_filter.mp hm).2
    rw [n] at q; simp at q
theorem of_hidT {h : Heap} {H : Hp} {b : Addr} {o : Obj} (e : (hidT h H).get? b = some o) : h.get? b = some o ∧ H b = none := by
  have e' : h.get? b = some o := PySem.W.of_hideAll (trk h H) e
  refine ⟨e', ?_⟩
  cases q : H b with
  | none => rfl
  | some x =>
    have hm : b ∈ trk h H := List.mem_filter.mpr ⟨List.mem_range.mpr (Heap.lt_size e'), by simp [q]⟩
    have z : (hidT h H).get? b = none := PySem.W.hideAll_none (trk h H) hm
    rw [z] at e; cases e

/-! ### OpenK's ledger, filled with every new object but one -/
def allNews (g h : Heap) (L : Addr) : List (Addr × Obj) := (List.range h.objs.size).filterMap fun a => if a = L ∨ (g.get? a).isSome = true then none else (h.get? a).map fun o => (a, o)
theorem mem_allNews {g h : Heap} {L a : Addr} {o : Obj} (h1 : a ≠ L) (h2 : g.get? a = none) (h3 : h.get? a = some o) : (a, o) ∈ allNews g h L :=
  List.mem_filterMap.mpr ⟨a, List.mem_range.mpr (Heap.lt_size h3), by simp [h1, h2, h3]⟩
theorem of_mem_allNews {g h : Heap} {L : Addr} {p : Addr × Obj} (hp : p ∈ allNews g h L) : p.1 ≠ L ∧ g.get? p.1 = none ∧ h.get? p.1 = some p.2 := by
  obtain ⟨b, _, e⟩ := List.mem_filterMap.mp hp
  split at e
  · cases e
  · rename_i hn
    cases q : h.get? b with
    | none => rw [q] at e; simp at e
    | some u =>
      rw [q] at e
      simp only [Option.map_some, Option.some.injEq] at e
      subst e
      refine ⟨fun z => hn (.inl z), ?_, q⟩
      show g.get? b = none
      cases r : g.get? b with
      | none => rfl
      | some v => exact (hn (.inr (by simp [r]))).elim
def rest (g h : Heap) (L d : Addr) : List (Addr × Obj) := (allNews g h L).filter fun p => decide (p.1 ≠ d)
theorem rest_ne {g h : Heap} {L d : Addr} : ∀ p ∈ rest g h L d, p.1 ≠ d := fun p hp => of_decide_eq_true (List.mem_filter.mp hp).2
theorem mem_rest {g h : Heap} {L d a : Addr} {o : Obj} (h1 : a ≠ L) (h2 : g.get? a = none) (h3 : h.get? a = some o) (h4 : a ≠ d) : (a, o) ∈ rest g h L d :=
  List.mem_filter.mpr ⟨mem_allNews h1 h2 h3, decide_eq_true h4⟩
theorem news_all {g h : Heap} {L : Addr} : News g L h (allNews g h L) := fun p hp => let ⟨a, b, c⟩ := of_mem_allNews hp; ⟨c, a, b⟩
theorem news_at {g h : Heap} {L d : Addr} {o : Obj} (h1 : d ≠ L) (h2 : g.get? d = none) (h3 : h.get? d = some o) : News g L h ((d, o) :: rest g h L d) := fun p hp => by
  rcases List.mem_cons.mp hp with rfl | hp
  · exact ⟨h3, h1, h2⟩
  · exact news_all p (List.mem_filter.mp hp).1
/-- behind a rule that changed d alone: all else but the frame is kept -/
theorem kept_of_news {g h h' : Heap} {L d : Addr} {m : Str → Option Value} (k : ∀ b o, g.get? b = some o → h.get? b = some o) (F : Fr g L h' m) (N : News g L h' (rest g h L d)) :
    ∀ b o, b ≠ L → b ≠ d → h.get? b = some o → h'.get? b = some o := fun b o h1 h2 e => by
  cases q : g.get? b with
  | some u =>
    have := k b u q
    rw [e] at this; cases this
    exact F.keep b _ q
  | none => exact (N (b, o) (mem_rest h1 q e h2)).1
end L2

namespace L2
open PySem PySem.Spec PyProof.Rows

/-- the module's facts, over the base: the heap at the law's entry without what is tracked there -/
structure Mod (K : PySem.W.Frag) (mg : Str → Option Value) (base : Heap) : Prop where
  kin : K.In base
  glob : base.Ns mainGlobals mg
  blt : ∃ mb, base.Ns builtinsNs mb ∧ ∀ x : Str, x ≠ "__name__" → mb x = bootBuiltins x
  nolimit : base.NoLimit

/-- the context: a def's body (or a comprehension's block) running. base: fixed through the whole law; s₀, H₀: the entry; outer: the frames whose slots others may change (a def's callers); stack: all frames that run;
   ex: iterators that were made ahead of the entry and are walked here (a comprehension's); fn: the names whose cells were made at the entry (a def: all; a comprehension's block: its own); calm: not within an except suite; pn: pins that every state bears; xe: what is wanted of an exception that leaves the code -/
structure Cx where
  prog : Program
  w : World
  K : PySem.W.Frag
  mg : Str → Option Value
  base : Heap
  A : Around
  N : List Str
  s₀ : Shared
  H₀ : Hp
  env : Env
  outer : List Env
  stack : List Env
  ex : List Addr
  fn : Str → Bool
  calm : Bool
  pn : List (Addr × Obj)
  xe : Value → Shared → Prop
  kn : List (Option V) := []
/-- the callers' frames -/
def frs (l : List Env) : List Addr := l.filterMap (·.frame)
abbrev Cx.fs (X : Cx) : List Addr := frs X.outer

def Vis (sc : Scope) (x : Str) : Prop := sc.names.lookup x = some .local ∨ sc.names.lookup x = some .cell ∨ sc.names.lookup x = some .free
def Loc (sc : Scope) (x : Str) : Prop := sc.names.lookup x = some .local ∨ sc.names.lookup x = some .cell
def Look (env : Env) (h : Heap) (m : Str → Option Value) (x : Str) (u : Value) : Prop :=
  (env.kindOf x = some .local ∧ m x = some u) ∨ ((env.kindOf x = some .cell ∨ env.kindOf x = some .free) ∧ ∃ c, env.cells.lookup x = some c ∧ h.IsCell c (some u))

structure Cx.Ok (X : Cx) : Prop where
  mod : Mod X.K X.mg X.base
  kind : X.env.scope.kind = .function
  glob : X.env.globals = mainGlobals
  blt : X.env.builtins = builtinsNs
  above : X.s₀.heap.objs.size ≤ X.env.locals
  inj : ∀ x y c, X.env.cells.lookup x = some c → X.env.cells.lookup y = some c → x = y
  has : ∀ x, (X.env.kindOf x = some .cell ∨ X.env.kindOf x = some .free) → ∃ c, X.env.cells.lookup x = some c
  cab : ∀ x c, X.fn x = true → X.env.cells.lookup x = some c → X.s₀.heap.objs.size ≤ c
  hd : X.calm = true → X.A.handled = none
  frames : X.A.frames = some X.stack
  stk : X.stack = X.outer ∨ (X.stack = X.env :: X.outer ∧ X.env.frame = some X.env.locals)
  exf : ∀ b ∈ X.ex, b ≠ X.env.locals ∧ ∀ x c, X.env.cells.lookup x = some c → c ≠ b
  bs : ∀ b o, X.base.get? b = some o → X.s₀.heap.get? b = some o ∧ X.H₀ b = none
  bsz : X.base.objs.size ≤ X.s₀.heap.objs.size
  noex : ∀ b o, X.base.get? b = some o → b ∉ X.ex
  exfs : ∀ b ∈ X.ex, b ∉ X.fs
  funs : X.s₀.heap.FunFrames X.base X.outer
  frf : ∀ b ∈ X.fs, X.H₀ b = none

structure Inv (X : Cx) (pins : List (Addr × Obj)) (σ : List (Option V)) (H : Hp) (s : Shared) : Prop where
  ok : X.Ok
  os : s.os = X.s₀.os
  bare : AllBare s.gens
  base : Un X.fs X.ex X.H₀ H X.s₀.heap s.heap
  loc : ∃ m, s.heap.Ns X.env.locals m ∧ ∀ (i : Nat) (x : Str) (v : V), X.N[i]? = some x → σ[i]? = some (some v) → Vis X.env.scope x → ∃ u, RelV v u ∧ Look X.env s.heap m x u
  cell : ∀ x c, X.env.cells.lookup x = some c → ∃ v, s.heap.IsCell c v
  free : H X.env.locals = none
  freeC : ∀ x c, X.env.cells.lookup x = some c → H c = none
  pin : ∀ p ∈ X.pn ++ pins, s.heap.get? p.1 = some p.2 ∧ H p.1 = none ∧ p.1 ≠ X.env.locals ∧ p.1 ∉ X.fs ∧ ∀ v, p.2.data ≠ .cell v
  hok : HOk X.prog X.w H s.heap
  len : σ.length = X.N.length
  kn : ∀ (i : Nat) (v : V), X.kn[i]? = some (some v) → σ[i]? = some (some v)

section
variable {X : Cx} {pins : List (Addr × Obj)} {σ : List (Option V)} {H H' : Hp} {s : Shared} {h' : Heap}

theorem Cx.Ok.nofr (ok : X.Ok) {b : Addr} {o : Obj} (e : X.base.get? b = some o) : b ∉ X.fs := fun hb => by
  have := (ok.funs.mem hb).1
  rw [e] at this; cases this
theorem Inv.bs (I : Inv X pins σ H s) : ∀ b o, X.base.get? b = some o → s.heap.get? b = some o ∧ H b = none := fun b o e =>
  ⟨I.base.keep b o (I.ok.bs b o e).1 (I.ok.bs b o e).2 (I.ok.nofr e) (I.ok.noex b o e), I.base.free b o (I.ok.bs b o e).1 (I.ok.bs b o e).2 (I.ok.noex b o e)⟩
theorem Inv.bk (I : Inv X pins σ H s) : ∀ b o, X.base.get? b = some o → s.heap.get? b = some o := fun b o e => (I.bs b o e).1
theorem Inv.mod (I : Inv X pins σ H s) : Mod X.K X.mg X.base := I.ok.mod
theorem Inv.kIn (I : Inv X pins σ H s) : X.K.In s.heap := I.ok.mod.kin.keeps I.bk
theorem Inv.nolimit (I : Inv X pins σ H s) : s.heap.NoLimit := I.ok.mod.nolimit.keeps I.bk
/-- the frame over the base: for OpenK's rules (K.In X.base is I.mod.kin) -/
theorem Inv.fr (I : Inv X pins σ H s) : ∃ m, Fr X.base X.env.locals s.heap m :=
  let ⟨m, hn, _⟩ := I.loc
  ⟨m, hn, I.bk, Nat.le_trans I.ok.bsz I.ok.above⟩
theorem Inv.lt (I : Inv X pins σ H s) : X.env.locals < s.heap.objs.size := let ⟨_, hn, _⟩ := I.loc; hn.lt
theorem Inv.sz (I : Inv X pins σ H s) : X.s₀.heap.objs.size ≤ s.heap.objs.size := Nat.le_trans I.ok.above (Nat.le_of_lt I.lt)
theorem Inv.nofs (I : Inv X pins σ H s) {a : Addr} (h : s.heap.objs.size ≤ a) : a ∉ X.fs := fun hb => by
  obtain ⟨_, o, ho, _⟩ := I.ok.funs.mem hb
  exact absurd (Nat.lt_of_lt_of_le (Heap.lt_size ho) (Nat.le_trans I.sz h)) (Nat.lt_irrefl _)
theorem Inv.cne (I : Inv X pins σ H s) : ∀ x c, X.env.cells.lookup x = some c → c ≠ X.env.locals := fun x c e z => by
  obtain ⟨v, o, ho, hd⟩ := I.cell x c e
  obtain ⟨m, ⟨o', es, ep, ho', hd', _⟩, _⟩ := I.loc
  rw [z, ho'] at ho; cases ho; rw [hd'] at hd; cases hd
theorem Inv.funs (I : Inv X pins σ H s) : s.heap.FunFrames X.base X.outer := by
  have all : ∀ (l : List Env), (∀ b ∈ frs l, b ∈ X.fs) → X.s₀.heap.FunFrames X.base l → s.heap.FunFrames X.base l := by
    intro l
    induction l with
    | nil => intro _ _; trivial
    | cons env r ih =>
      intro hs hl
      obtain ⟨hk, ⟨L, o, hf, hn, ho, hd⟩, hr⟩ := hl
      have hL : L ∈ X.fs := hs L (by unfold frs; rw [List.filterMap_cons, hf]; exact List.mem_cons_self)
      obtain ⟨sl, e⟩ := I.base.slot L o ho (I.ok.frf L hL) hL fun z => I.ok.exfs L z hL
      exact ⟨hk, ⟨L, _, hf, hn, e, hd⟩, ih (fun b hb => hs b (by unfold frs; rw [List.filterMap_cons, hf]; exact List.mem_cons_of_mem _ hb)) hr⟩
  exact all X.outer (fun _ hb => hb) I.ok.funs

/-- the frames that run, for a call -/
theorem Inv.stack (I : Inv X pins σ H s) : s.heap.FunFrames X.base X.stack := by
  rcases I.ok.stk with e | ⟨e, hf⟩
  · rw [e]; exact I.funs
  · rw [e]
    obtain ⟨m, hn, _⟩ := I.loc
    refine .cons (by rw [I.ok.kind]; decide) hf hn ?_ I.funs
    exact Heap.get?_none_of_le (Nat.le_trans I.ok.bsz I.ok.above)
theorem Inv.stkSub (I : Inv X pins σ H s) : ∀ b ∈ frs X.stack, b ∈ X.env.locals :: X.fs := fun b hb => by
  rcases I.ok.stk with e | ⟨e, hf⟩
  · rw [e] at hb; exact List.mem_cons_of_mem _ hb
  · rw [e] at hb
    unfold frs at hb
    rw [List.filterMap_cons, hf] at hb
    exact hb
theorem Inv.stkFree (I : Inv X pins σ H s) : ∀ b ∈ frs X.stack, H b = none := fun b hb => by
  rcases List.mem_cons.mp (I.stkSub b hb) with e | hb
  · rw [e]; exact I.free
  · obtain ⟨_, o, ho, _⟩ := I.ok.funs.mem hb
    exact I.base.free b o ho (I.ok.frf b hb) fun z => I.ok.exfs b z hb

/-- THE STEP: the untracked objects but the frame and the records at ch are kept (the callers' frames up to slots), the frame's map is kept, the new abstract heap is held -/
theorem Inv.step {g' : Array GenState} {t' : Nat} {d' : Drawn} {ch : List Addr} (I : Inv X pins σ H s)
    (hch : ∀ b ∈ ch, (b ∈ X.ex ∨ X.s₀.heap.objs.size ≤ b) ∧ b ≠ X.env.locals ∧ (∀ x c, X.env.cells.lookup x = some c → c ≠ b) ∧ ∀ p ∈ X.pn ++ pins, p.1 ≠ b)
    (keep : ∀ b o, b ≠ X.env.locals → b ∉ X.fs → b ∉ ch → s.heap.get? b = some o → H b = none → h'.get? b = some o)
    (slot : ∀ b o, b ≠ X.env.locals → b ∈ X.fs → b ∉ ch → s.heap.get? b = some o → H b = none → ∃ sl, h'.get? b = some { o with slots := sl }) (free : ∀ b o, b ∉ ch → s.heap.get? b = some o → H b = none → H' b = none)
    (there : ∀ b o, b ∉ ch → s.heap.get? b = some o → ∃ o', h'.get? b = some o')
    (tups : ∀ b xs, H b = some (.tup xs) → H' b = some (.tup xs)) (frzs : ∀ b o u, H b = some (.frz o u) → H' b = some (.frz o u)) (tbls : ∀ b ps, H b = some (.tbl ps) → ∃ more, H' b = some (.tbl (ps ++ more)))
    (ns : ∀ m, s.heap.Ns X.env.locals m → h'.Ns X.env.locals m) (hok : HOk X.prog X.w H' h') (hg : AllBare g') :
    Inv X pins σ H' { s with heap := h', gens := g', drawn := d', toks := t' } := by
  have neL : ∀ b o, X.s₀.heap.get? b = some o → b ≠ X.env.locals := fun b o e => Nat.ne_of_lt (Nat.lt_of_lt_of_le (Heap.lt_size e) I.ok.above)
  have neC : ∀ b o, X.s₀.heap.get? b = some o → b ∉ X.ex → b ∉ ch := fun b o e hx hb => by
    rcases (hch b hb).1 with z | z
    · exact hx z
    · exact absurd (Nat.lt_of_lt_of_le (Heap.lt_size e) z) (Nat.lt_irrefl _)
  have cellK : ∀ x c, X.env.cells.lookup x = some c → ∀ v, s.heap.IsCell c v → h'.IsCell c v := fun x c e v ⟨o, ho, hd⟩ => by
    have nch : c ∉ ch := fun z => (hch c z).2.2.1 x c e rfl
    by_cases hc : c ∈ X.fs
    · obtain ⟨sl, q⟩ := slot c o (I.cne x c e) hc nch ho (I.freeC x c e)
      exact ⟨_, q, hd⟩
    · exact ⟨o, keep c o (I.cne x c e) hc nch ho (I.freeC x c e), hd⟩
  refine ⟨I.ok, I.os, hg, ⟨fun b o e n hb hx => ?_, fun b o e n hb hx => ?_, fun b o e n hx => ?_, fun b o e hx => ?_, fun b xs e => tups b xs (I.base.tups b xs e), fun b o xs e => frzs b o xs (I.base.frzs b o xs e), fun b ps e => ?_⟩, ?_, fun x c e => ?_, ?_, fun x c e => ?_, fun p hp => ?_, hok, I.len, I.kn⟩
  · exact keep b o (neL b o e) hb (neC b o e hx) (I.base.keep b o e n hb hx) (I.base.free b o e n hx)
  · obtain ⟨sl, e1⟩ := I.base.slot b o e n hb hx
    obtain ⟨sl', e2⟩ := slot b _ (neL b o e) hb (neC b o e hx) e1 (I.base.free b o e n hx)
    exact ⟨sl', e2⟩
  · obtain ⟨o', e1⟩ := I.base.there b o e hx
    exact free b o' (neC b o e hx) e1 (I.base.free b o e n hx)
  · obtain ⟨o', e1⟩ := I.base.there b o e hx
    exact there b o' (neC b o e hx) e1
  · obtain ⟨m1, e1⟩ := I.base.tbls b ps e
    obtain ⟨m2, e2⟩ := tbls b _ e1
    exact ⟨m1 ++ m2, by rw [e2, Array.append_assoc]⟩
  · obtain ⟨m, hn, hl⟩ := I.loc
    refine ⟨m, ns m hn, fun i x v e1 e2 e3 => ?_⟩
    obtain ⟨u, r, l⟩ := hl i x v e1 e2 e3
    refine ⟨u, r, ?_⟩
    rcases l with l | ⟨k, c, e, z⟩
    · exact .inl l
    · exact .inr ⟨k, c, e, cellK x c e _ z⟩
  · obtain ⟨v, z⟩ := I.cell x c e
    exact ⟨v, cellK x c e v z⟩
  · obtain ⟨m, ⟨o, _, _, ho, _⟩, _⟩ := I.loc
    exact free _ o (fun z => (hch _ z).2.1 rfl) ho I.free
  · obtain ⟨v, o, ho, hd⟩ := I.cell x c e
    exact free c o (fun z => (hch c z).2.2.1 x c e rfl) ho (I.freeC x c e)
  · obtain ⟨e, n, ne, nf, d⟩ := I.pin p hp
    have nch : p.1 ∉ ch := fun z => (hch p.1 z).2.2.2 p hp rfl
    exact ⟨keep p.1 p.2 ne nf nch e n, free p.1 p.2 nch e n, ne, nf, d⟩
/-- .. where the frame's own object is kept too -/
theorem Inv.un {t' : Nat} (I : Inv X pins σ H s) (u : Un X.fs [] H H' s.heap h') (hok : HOk X.prog X.w H' h') : Inv X pins σ H' { s with heap := h', toks := t' } := by
  obtain ⟨m, ⟨o, es, ep, ho, r⟩, _⟩ := id I.loc
  obtain ⟨sl, hL⟩ := u.any ho I.free (by simp)
  exact I.step (g' := s.gens) (d' := s.drawn) (ch := []) (fun _ z => nomatch z) (fun b o _ hb _ e n => u.keep b o e n hb (by simp)) (fun b o _ hb _ e n => u.slot b o e n hb (by simp)) (fun b o _ e n => u.free b o e n (by simp)) (fun b o _ e => u.there b o e (by simp)) u.tups u.frzs u.tbls (fun m' hm => by
    obtain ⟨o', es', ep', ho', r'⟩ := hm
    rw [ho] at ho'; cases ho'
    exact ⟨_, es', ep', hL, r'⟩) hok I.bare
/-- behind a call (or a comprehension's block): the slots of this frame may have changed too, the records at ch may have turned -/
theorem Inv.call {g' : Array GenState} {t' : Nat} {d' : Drawn} {ch : List Addr} (I : Inv X pins σ H s) (u : Un (frs X.stack) ch H H' s.heap h') (hok : HOk X.prog X.w H' h') (hg : AllBare g')
    (hch : ∀ b ∈ ch, (b ∈ X.ex ∨ X.s₀.heap.objs.size ≤ b) ∧ b ≠ X.env.locals ∧ (∀ x c, X.env.cells.lookup x = some c → c ≠ b) ∧ ∀ p ∈ X.pn ++ pins, p.1 ≠ b) :
    Inv X pins σ H' { s with heap := h', gens := g', drawn := d', toks := t' } := by
  obtain ⟨m, ⟨o, es, ep, ho, r⟩, _⟩ := id I.loc
  obtain ⟨sl, hL⟩ := u.any ho I.free fun z => (hch _ z).2.1 rfl
  exact I.step (ch := ch) hch (fun b o hL hb hc e n => u.keep b o e n (fun z => (List.mem_cons.mp (I.stkSub b z)).elim hL hb) hc) (fun b o _ _ hc e n => u.any e n hc) (fun b o hc e n => u.free b o e n hc) (fun b o hc e => u.there b o e hc) u.tups u.frzs u.tbls (fun m' hm => by
    obtain ⟨o', es', ep', ho', r'⟩ := hm
    rw [ho] at ho'; cases ho'
    exact ⟨_, es', ep', hL, r'⟩) hok hg
/-- an untracked record of ours (an iterator) has turned -/
theorem Inv.turned {t' : Nat} {it : Addr} (I : Inv X pins σ H s) (k : ∀ b o, b ≠ it → s.heap.get? b = some o → h'.get? b = some o) (hn : H it = none) (hL : it ≠ X.env.locals)
    (h1 : it ∈ X.ex ∨ X.s₀.heap.objs.size ≤ it) (h2 : ∀ x c, X.env.cells.lookup x = some c → c ≠ it) (h3 : ∀ p ∈ X.pn ++ pins, p.1 ≠ it) : Inv X pins σ H { s with heap := h', toks := t' } := by
  have nit : ∀ b u, H b = some u → b ≠ it := fun b u e z => by rw [z, hn] at e; cases e
  refine I.step (g' := s.gens) (d' := s.drawn) (ch := [it]) (fun b hb => ?_) (fun b o _ _ hc e _ => k b o (fun z => hc (by simp [z])) e) (fun b o _ _ hc e _ => ⟨o.slots, k b o (fun z => hc (by simp [z])) e⟩) (fun _ _ _ _ n => n)
    (fun b o hc e => ⟨o, k b o (fun z => hc (by simp [z])) e⟩) (fun _ _ e => e) (fun _ _ _ e => e) (fun b ps e => ⟨#[], by rw [e]; simp⟩) (fun m hm => ?_) (fun b u e => ?_) I.bare
  · have e : b = it := by simpa using hb
    subst e
    exact ⟨h1, hL, h2, h3⟩
  · obtain ⟨o, es, ep, ho, r⟩ := hm
    exact ⟨o, es, ep, k _ o (Ne.symm hL) ho, r⟩
  · refine (I.hok b u e).stay (fun c v hc q => k c v ?_ q) (fun _ q => q) fun _ _ q => q
    rcases hc with z | z
    · rw [z]; exact nit b u e
    · exact nit c _ z
theorem Inv.tok (I : Inv X pins σ H s) (t : Nat) : Inv X pins σ H { s with toks := t } := I.un (h' := s.heap) (t' := t) Un.refl I.hok
/-- all objects kept -/
theorem Inv.kept {t' : Nat} (I : Inv X pins σ H s) (k : ∀ b u, s.heap.get? b = some u → h'.get? b = some u) : Inv X pins σ H { s with heap := h', toks := t' } := I.un (Un.kept k) (I.hok.kept k)
/-- a new object laid and tracked -/
theorem Inv.laid {a : Addr} {o : HO} {t' : Nat} (I : Inv X pins σ H s) (k : ∀ b u, s.heap.get? b = some u → h'.get? b = some u) (hp : s.heap.objs.size ≤ a) (new : ObjOk X.prog X.w (upd H a o) h' a o) :
    Inv X pins σ (upd H a o) { s with heap := h', toks := t' } := I.un (Un.laid k hp (I.hok.fresh hp)) (I.hok.laid k hp new)
/-- an object written -/
theorem Inv.write {x e : Addr} {o : HO} {t' : Nat} (I : Inv X pins σ H s) (mu : Mut (H x)) (he : e = x ∨ H e = some (.own x)) (k : ∀ b u, b ≠ e → s.heap.get? b = some u → h'.get? b = some u) (heo : ∃ u, h'.get? e = some u)
    (new : ObjOk X.prog X.w (upd H x o) h' x o) : Inv X pins σ (upd H x o) { s with heap := h', toks := t' } := I.un (Un.write mu he k heo) (I.hok.write mu he k heo new)
/-- forgetting slots, pins -/
theorem Inv.weak {σ' : List (Option V)} (I : Inv X pins σ H s) (hl : σ'.length = σ.length) (w : ∀ (i : Nat) v, σ'[i]? = some (some v) → σ[i]? = some (some v)) (wk : ∀ (i : Nat) (v : V), X.kn[i]? = some (some v) → σ'[i]? = some (some v)) : Inv X pins σ' H s :=
  ⟨I.ok, I.os, I.bare, I.base, let ⟨m, hn, hl'⟩ := I.loc; ⟨m, hn, fun i x v e1 e2 e3 => hl' i x v e1 (w i v e2) e3⟩, I.cell, I.free, I.freeC, I.pin, I.hok, hl.trans I.len, wk⟩
theorem Inv.pins_of {pins' : List (Addr × Obj)} (I : Inv X pins σ H s) (h : ∀ p ∈ pins', s.heap.get? p.1 = some p.2 ∧ H p.1 = none ∧ p.1 ≠ X.env.locals ∧ p.1 ∉ X.fs ∧ ∀ v, p.2.data ≠ .cell v) : Inv X pins' σ H s :=
  ⟨I.ok, I.os, I.bare, I.base, I.loc, I.cell, I.free, I.freeC, fun p hp => (List.mem_append.mp hp).elim (fun z => I.pin p (List.mem_append_left _ z)) (h p), I.hok, I.len, I.kn⟩

theorem nodup_ix {N : List Str} (hN : N.Nodup) {i j : Nat} {x : Str} (a : N[i]? = some x) (b : N[j]? = some x) : i = j := by
  obtain ⟨h1, e1⟩ := List.getElem?_eq_some_iff.mp a
  obtain ⟨h2, e2⟩ := List.getElem?_eq_some_iff.mp b
  exact (List.getElem_inj hN).mp (e1.trans e2.symm)

/-- a name is stored; what changed -/
theorem store_ok2 {M : Model} {A : Around} {E : Value → Shared → Prop} {i : Nat} {x : Str} {v : V} {u : Value} {Q : Unit → Shared → Prop} (I : Inv X pins σ H s) (hN : X.N.Nodup) (hi : X.N[i]? = some x) (hx : Loc X.env.scope x) (r : RelV v u)
    (h : ∀ s', Inv X pins (σ.set i (some v)) H s' → (∃ a, Heap.SameBut a s.heap s'.heap ∧ (a = X.env.locals ∨ X.env.cells.lookup x = some a)) → Q () s') (hf : X.fn x = true ∨ X.env.scope.names.lookup x = some .local := by first | exact .inl rfl | exact .inr rfl | assumption) (hkn : ∀ u : V, X.kn[i]? ≠ some (some u) := by first | assumption | exact fun u h => nomatch (show (none : Option (Option V)) = some (some u) from h) | exact fun u h => nomatch (Option.some.inj (show some (none : Option V) = some (some u) from h))) : wpAny M A (storeName X.env x u) Q E s := by
  obtain ⟨m, hn, hl⟩ := id I.loc
  have hcls : (X.env.scope.kind == .class || (X.env.scope.kind == .module && X.env.locals != X.env.globals)) = false := by rw [I.ok.kind]; rfl
  have hiσ : i < σ.length := by rw [I.len]; exact (List.getElem?_eq_some_iff.mp hi).1
  have cne := I.cne
  have kn' : ∀ (j : Nat) (v' : V), X.kn[j]? = some (some v') → (σ.set i (some v))[j]? = some (some v') := fun j v' e => by
    by_cases hj : j = i
    · subst hj; exact absurd e (hkn v')
    · rw [List.getElem?_set_ne (Ne.symm hj)]; exact I.kn j v' e
  have tracked : ∀ {a : Addr} {h' : Heap}, (∃ o, s.heap.get? a = some o ∧ H a = none) → Heap.SameBut a s.heap h' → HOk X.prog X.w H h' := fun {a h'} ha hs b ob e => by
    obtain ⟨_, _, hfree⟩ := ha
    refine (I.hok b ob e).stay (fun c w' hc q => (hs.2 c ?_).trans q) (fun _ q => q) fun _ _ q => q
    rintro rfl
    rcases hc with rfl | hc
    · rw [hfree] at e; cases e
    · rw [hfree] at hc; cases hc
  rcases hx with hk | hk
  · refine wpAny_storeName_local hk hn (fun h' hn' hs => ?_) hcls
    obtain ⟨oL, _, _, hoL, _⟩ := id hn
    refine h _ ⟨I.ok, I.os, I.bare, ⟨fun b o e n hb hx => ?_, fun b o e n hb hx => ?_, I.base.free, fun b o e hx => ?_, I.base.tups, I.base.frzs, I.base.tbls⟩, ⟨_, hn', fun j y v' e1 e2 e3 => ?_⟩, fun y c e => ?_, I.free, I.freeC, fun p hp => ?_, tracked ⟨oL, hoL, I.free⟩ hs, by simpa using I.len, kn'⟩ ⟨_, hs, .inl rfl⟩
    · exact (hs.2 b (Nat.ne_of_lt (Nat.lt_of_lt_of_le (Heap.lt_size e) I.ok.above))).trans (I.base.keep b o e n hb hx)
    · obtain ⟨sl, e1⟩ := I.base.slot b o e n hb hx
      exact ⟨sl, (hs.2 b (Nat.ne_of_lt (Nat.lt_of_lt_of_le (Heap.lt_size e) I.ok.above))).trans e1⟩
    · obtain ⟨o', e1⟩ := I.base.there b o e hx
      exact ⟨o', (hs.2 b (Nat.ne_of_lt (Nat.lt_of_lt_of_le (Heap.lt_size e) I.ok.above))).trans e1⟩
    · by_cases hj : j = i
      · subst hj
        rw [hi] at e1; cases e1
        rw [List.getElem?_set_self hiσ] at e2
        cases e2
        exact ⟨u, r, .inl ⟨hk, by simp⟩⟩
      · rw [List.getElem?_set_ne (Ne.symm hj)] at e2
        obtain ⟨u', r', q⟩ := hl j y v' e1 e2 e3
        refine ⟨u', r', ?_⟩
        rcases q with ⟨k, e⟩ | ⟨k, c, e, z⟩
        · refine .inl ⟨k, ?_⟩
          have : y ≠ x := fun e => hj (nodup_ix hN e1 (e ▸ hi))
          simp [this, e]
        · exact .inr ⟨k, c, e, z.sameBut hs (cne y c e)⟩
    · obtain ⟨w', z⟩ := I.cell y c e
      exact ⟨w', z.sameBut hs (cne y c e)⟩
    · obtain ⟨e, n, ne, nf, d⟩ := I.pin p hp
      exact ⟨(hs.2 p.1 ne).trans e, n, ne, nf, d⟩
  · have hfn : X.fn x = true := by
      rcases hf with z | z
      · exact z
      · rw [z] at hk; cases hk
    obtain ⟨c, hc⟩ := I.ok.has x (.inl hk)
    obtain ⟨w', z⟩ := I.cell x c hc
    refine wpAny_storeName_cell I.ok.kind hk hc z (fun h' hc' hs => ?_)
    obtain ⟨oc, hoc, hocd⟩ := id z
    refine h { s with heap := h' } ⟨I.ok, I.os, I.bare, ⟨fun b o e n hb hx => ?_, fun b o e n hb hx => ?_, I.base.free, fun b o e hx => ?_, I.base.tups, I.base.frzs, I.base.tbls⟩, ⟨m, hn.sameBut hs (Ne.symm (cne x c hc)), fun j y v' e1 e2 e3 => ?_⟩, fun y c' e => ?_, I.free, I.freeC, fun p hp => ?_, tracked ⟨oc, hoc, I.freeC x c hc⟩ hs, by simpa using I.len, kn'⟩ ⟨c, hs, .inr hc⟩
    · exact (hs.2 b (Nat.ne_of_lt (Nat.lt_of_lt_of_le (Heap.lt_size e) (I.ok.cab x c hfn hc)))).trans (I.base.keep b o e n hb hx)
    · obtain ⟨sl, e1⟩ := I.base.slot b o e n hb hx
      exact ⟨sl, (hs.2 b (Nat.ne_of_lt (Nat.lt_of_lt_of_le (Heap.lt_size e) (I.ok.cab x c hfn hc)))).trans e1⟩
    · obtain ⟨o', e1⟩ := I.base.there b o e hx
      exact ⟨o', (hs.2 b (Nat.ne_of_lt (Nat.lt_of_lt_of_le (Heap.lt_size e) (I.ok.cab x c hfn hc)))).trans e1⟩
    · by_cases hj : j = i
      · subst hj
        rw [hi] at e1; cases e1
        rw [List.getElem?_set_self hiσ] at e2
        cases e2
        exact ⟨u, r, .inr ⟨.inl hk, c, hc, hc'⟩⟩
      · rw [List.getElem?_set_ne (Ne.symm hj)] at e2
        obtain ⟨u', r', q⟩ := hl j y v' e1 e2 e3
        refine ⟨u', r', ?_⟩
        rcases q with q | ⟨k, c', e, z'⟩
        · exact .inl q
        · refine .inr ⟨k, c', e, z'.sameBut hs ?_⟩
          rintro rfl
          exact hj (nodup_ix hN e1 (I.ok.inj _ _ _ e hc ▸ hi))
    · by_cases hcc : c' = c
      · subst hcc; exact ⟨_, hc'⟩
      · obtain ⟨w2, z2⟩ := I.cell y c' e
        exact ⟨w2, z2.sameBut hs hcc⟩
    · obtain ⟨e, n, ne, nf, d⟩ := I.pin p hp
      refine ⟨(hs.2 p.1 ?_).trans e, n, ne, nf, d⟩
      intro q
      rw [q, hoc] at e
      have q' : oc = p.2 := Option.some.inj e
      exact d w' (by rw [← q']; exact hocd)
theorem store_ok {M : Model} {A : Around} {E : Value → Shared → Prop} {i : Nat} {x : Str} {v : V} {u : Value} {Q : Unit → Shared → Prop} (I : Inv X pins σ H s) (hN : X.N.Nodup) (hi : X.N[i]? = some x) (hx : Loc X.env.scope x) (r : RelV v u)
    (h : ∀ s', Inv X pins (σ.set i (some v)) H s' → Q () s') (hf : X.fn x = true ∨ X.env.scope.names.lookup x = some .local := by first | exact .inl rfl | exact .inr rfl | assumption) (hkn : ∀ u : V, X.kn[i]? ≠ some (some u) := by first | assumption | exact fun u h => nomatch (show (none : Option (Option V)) = some (some u) from h) | exact fun u h => nomatch (Option.some.inj (show some (none : Option V) = some (some u) from h))) : wpAny M A (storeName X.env x u) Q E s :=
  store_ok2 I hN hi hx r (fun s' I' _ => h s' I') hf hkn
/-- behind a call or a block, the state as it is -/
theorem Inv.call' {s' : Shared} {ch : List Addr} (I : Inv X pins σ H s) (ho : s'.os = s.os) (u : Un (frs X.stack) ch H H' s.heap s'.heap) (hok : HOk X.prog X.w H' s'.heap) (hg : AllBare s'.gens)
    (hch : ∀ b ∈ ch, (b ∈ X.ex ∨ X.s₀.heap.objs.size ≤ b) ∧ b ≠ X.env.locals ∧ (∀ x c, X.env.cells.lookup x = some c → c ≠ b) ∧ ∀ p ∈ X.pn ++ pins, p.1 ≠ b) : Inv X pins σ H' s' := by
  obtain ⟨h', g', d', t', o'⟩ := s'
  have e : o' = s.os := ho
  subst e
  exact I.call (g' := g') (t' := t') (d' := d') u hok hg hch
end

/-! ### the judgements -/
/-- an exception: its class, its own dict's address (where it has one), the abstract heap behind it -/
abbrev XK := Value → Option Addr → Hp → Prop
abbrev St := List (Option V)
abbrev VK := V → Hp → Prop
/-- an expression's reading; a test's; an argument list's -/
abbrev TE := St → Hp → VK → Prop
abbrev TT := St → Hp → (Bool → Hp → Prop) → Prop
abbrev TA := St → Hp → (List V → Hp → Prop) → Prop
/-- what is wanted behind a statement -/
structure Ends where
  nx : St → Hp → Prop
  rt : VK
  bk : St → Hp → Prop := fun _ _ => False
  ct : St → Hp → Prop := fun _ _ => False
abbrev TS := Ends → St → Hp → Prop

def EP (X : Cx) (pins : List (Addr × Obj)) (σ : St) (Q : VK) (u : Value) (s' : Shared) : Prop := ∃ v H', Inv X pins σ H' s' ∧ RelV v u ∧ Q v H'
def TP (X : Cx) (pins : List (Addr × Obj)) (σ : St) (Q : Bool → Hp → Prop) (b : Bool) (s' : Shared) : Prop := ∃ H', Inv X pins σ H' s' ∧ Q b H'
def AP (X : Cx) (pins : List (Addr × Obj)) (σ : St) (Q : List V → Hp → Prop) (us : List Value) (s' : Shared) : Prop := ∃ vs H', Inv X pins σ H' s' ∧ Vals vs us ∧ Q vs H'
def SP (X : Cx) (pins : List (Addr × Obj)) (D : Ends) (f : Flow) (s' : Shared) : Prop :=
  match f with
  | .next => ∃ σ' H', Inv X pins σ' H' s' ∧ D.nx σ' H'
  | .brk => ∃ σ' H', Inv X pins σ' H' s' ∧ D.bk σ' H'
  | .cont => ∃ σ' H', Inv X pins σ' H' s' ∧ D.ct σ' H'
  | .ret u => ∃ v σ' H', Inv X pins σ' H' s' ∧ RelV v u ∧ D.rt v H'

def PE (X : Cx) (e : Expr) (t : TE) : Prop :=
  ∀ (pins : List (Addr × Obj)) (s : Shared) (σ : St) (H : Hp) (Q : VK), Inv X pins σ H s → t σ H Q → wpAny (model X.prog X.w) X.A (eval e X.env) (EP X pins σ Q) X.xe s
def PT (X : Cx) (e : Expr) (t : TT) : Prop :=
  ∀ (pins : List (Addr × Obj)) (s : Shared) (σ : St) (H : Hp) (Q : Bool → Hp → Prop), Inv X pins σ H s → t σ H Q → wpAny (model X.prog X.w) X.A (isTrue e X.env (eval e X.env)) (TP X pins σ Q) X.xe s
/-- a test whatever its 'whole' is (and, or) -/
def PW (X : Cx) (e : Expr) (t : TT) : Prop :=
  ∀ (whole : Sem Value) (pins : List (Addr × Obj)) (s : Shared) (σ : St) (H : Hp) (Q : Bool → Hp → Prop), Inv X pins σ H s → t σ H Q → wpAny (model X.prog X.w) X.A (isTrue e X.env whole) (TP X pins σ Q) X.xe s
theorem PW.pt {X : Cx} {e : Expr} {t : TT} (h : PW X e t) : PT X e t := h _
/-- an argument list (no star), from the left -/
def PA (X : Cx) (es : List Expr) (t : TA) : Prop :=
  ∀ (pos : Pos) (pins : List (Addr × Obj)) (s : Shared) (σ : St) (H : Hp) (Q : List V → Hp → Prop), Inv X pins σ H s → t σ H Q → wpAny (model X.prog X.w) X.A (spliced (backTo pos (starEach es X.env))) (AP X pins σ Q) X.xe s
def PS (X : Cx) (st : Stmt) (t : TS) : Prop :=
  ∀ (pins : List (Addr × Obj)) (s : Shared) (σ : St) (H : Hp) (D : Ends), Inv X pins σ H s → t D σ H → wpAny (model X.prog X.w) X.A (exec st X.env) (SP X pins D) X.xe s
def PSs (X : Cx) (st : List Stmt) (t : TS) : Prop :=
  ∀ (pins : List (Addr × Obj)) (s : Shared) (σ : St) (H : Hp) (D : Ends), Inv X pins σ H s → t D σ H → wpAny (model X.prog X.w) X.A (execs st X.env) (SP X pins D) X.xe s
/-- weaken the end -/
theorem thn {α : Type} {t : Sem α} {Q Q' : α → Shared → Prop} {M : Model} {A : Around} {E : Value → Shared → Prop} {s : Shared} (h : wpAny M A t Q E s) (hQ : ∀ a s, Q a s → Q' a s) : wpAny M A t Q' E s := wpAny_mono h hQ fun _ _ x => x
end L2

namespace L2
open PySem PySem.Spec PyProof.Rows
section
variable {X : Cx}

/-- two expressions in a row -/
theorem bin {a b : Expr} {ta tb : TE} (ha : PE X a ta) (hb : PE X b tb) {pins : List (Addr × Obj)} {s : Shared} {σ : St} {H : Hp} {R : V → V → Hp → Prop} (I : Inv X pins σ H s) (h : ta σ H fun x H1 => tb σ H1 fun y H2 => R x y H2)
    {α : Type} {Q : α → Shared → Prop} {f : Value → Value → Sem α}
    (hf : ∀ v u s2 x y H2, Inv X pins σ H2 s2 → RelV x v → RelV y u → R x y H2 → wpAny (model X.prog X.w) X.A (f v u) Q X.xe s2) :
    wpAny (model X.prog X.w) X.A (eval a X.env) (fun v s₁ => wpAny (model X.prog X.w) X.A (eval b X.env) (fun u s₂ => wpAny (model X.prog X.w) X.A (f v u) Q X.xe s₂) X.xe s₁) X.xe s := by
  refine thn (ha pins s σ H _ I h) fun v s1 ⟨x, H1, I1, r1, q1⟩ => ?_
  refine thn (hb pins s1 σ H1 _ I1 q1) fun u s2 ⟨y, H2, I2, r2, q2⟩ => ?_
  exact hf v u s2 x y H2 I2 r1 r2 q2

/-! ### names and constants -/
def tVar (i : Nat) : TE := fun σ H Q => ∃ v, σ[i]? = some (some v) ∧ Q v H
def tC (v : V) : TE := fun _ H Q => Q v H
theorem pe_var {i : Nat} {x : Str} {pos : Pos} (hN : X.N[i]? = some x) (hv : Vis X.env.scope x) (hd : (x == ("__debug__" : Str)) = false := by decide) (hcd : (x == ("__classdict__" : Str)) = false := by decide) : PE X (.Name x pos) (tVar i) := by
  intro pins s σ H Q I h
  obtain ⟨v, e, h⟩ := h
  obtain ⟨m, hn, hl⟩ := I.loc
  obtain ⟨u, r, l⟩ := hl i x v hN e hv
  have fin : EP X pins σ Q u s := ⟨v, H, I, r, h⟩
  rcases l with ⟨hk, hm⟩ | ⟨hk, c, hc, hcell⟩
  · exact wpAny_Name (wpAny_loadName_local I.ok.kind hk hn hm fin) hd
  · rcases hk with hk | hk
    · exact wpAny_Name (wpAny_loadName_cell I.ok.kind hk hc hcell fin) hd
    · exact wpAny_Name (wpAny_loadName_free I.ok.kind hk hc hcell fin hcd) hd
theorem pe_int {i j pos} : PE X (.Constant (.int i) j pos) (tC (.int i)) := fun _ _ _ H _ I h => wpAny_Constant_int ⟨.int i, H, I.tok _, ⟨_, rfl⟩, h⟩
theorem pe_bl {b j pos} : PE X (.Constant (.bool b) j pos) (tC (.bl b)) := fun _ _ _ H _ I h => Constant_bool ⟨.bl b, H, I, rfl, h⟩
theorem pe_non {j pos} : PE X (.Constant .none j pos) (tC .non) := fun _ _ _ H _ I h => Constant_none ⟨.non, H, I, rfl, h⟩
theorem pe_str {x j pos} : PE X (.Constant (.str x) j pos) (tC (.str x)) := fun _ _ _ H _ I h => Calls.Constant_str ⟨.str x, H, I.tok _, ⟨_, rfl⟩, h⟩

/-- a global name of the def -/
def Gl (X : Cx) (x : Str) : Prop := X.env.kindOf x = some .globalImplicit
theorem ld_glob {E : Value → Shared → Prop} {pins : List (Addr × Obj)} {s : Shared} {σ : St} {H : Hp} {x : Str} {u : Value} {pos : Pos} {Q : Value → Shared → Prop} (I : Inv X pins σ H s) (hg : Gl X x) (hm : X.mg x = some u) (h : Q u s)
    (hd : (x == ("__debug__" : Str)) = false := by decide) : wpAny (model X.prog X.w) X.A (eval (.Name x pos) X.env) Q E s :=
  Calls.Name_function_global I.ok.kind hg (Calls.loadGlobal_global (by rw [I.ok.glob]; exact I.mod.glob.keeps I.bk) hm h) hd
theorem ld_blt {E : Value → Shared → Prop} {pins : List (Addr × Obj)} {s : Shared} {σ : St} {H : Hp} {x : Str} {u : Value} {pos : Pos} {Q : Value → Shared → Prop} (I : Inv X pins σ H s) (hg : Gl X x) (hm : X.mg x = none) (hv : bootBuiltins x = some u) (h : Q u s)
    (hn : x ≠ "__name__" := by decide) (hd : (x == ("__debug__" : Str)) = false := by decide) : wpAny (model X.prog X.w) X.A (eval (.Name x pos) X.env) Q E s := by
  obtain ⟨mb, h1, h2⟩ := I.mod.blt
  exact Calls.Name_function_global I.ok.kind hg (Calls.loadGlobal_builtin (by rw [I.ok.glob]; exact I.mod.glob.keeps I.bk) hm (by rw [I.ok.blt]; exact h1.keeps I.bk) ((h2 x hn).trans hv) h) hd
/-- a module's constant, a class, a function, as a value -/
theorem pe_glob {x : Str} {v : V} {u : Value} {pos : Pos} (hg : Gl X x) (hm : X.mg x = some u) (r : RelV v u) (hd : (x == ("__debug__" : Str)) = false := by decide) : PE X (.Name x pos) (tC v) :=
  fun _ _ _ H _ I h => ld_glob I hg hm ⟨v, H, I, r, h⟩ hd
theorem pe_bltn {x : Str} {v : V} {u : Value} {pos : Pos} (hg : Gl X x) (hm : X.mg x = none) (hv : bootBuiltins x = some u) (r : RelV v u) (hn : x ≠ "__name__" := by decide) (hd : (x == ("__debug__" : Str)) = false := by decide) : PE X (.Name x pos) (tC v) :=
  fun _ _ _ H _ I h => ld_blt I hg hm hv ⟨v, H, I, r, h⟩ hn hd

/-! ### arithmetic -/
/-- two ints -/
def t2I (ta tb : TE) (k : Int → Int → Hp → Prop) : St → Hp → Prop := fun σ H => ta σ H fun x H1 => tb σ H1 fun y H2 => ∃ i j, x = .int i ∧ y = .int j ∧ k i j H2
def tAdd (ta tb : TE) : TE := fun σ H Q => t2I ta tb (fun i j H2 => Q (.int (i + j)) H2) σ H
def tSub (ta tb : TE) : TE := fun σ H Q => t2I ta tb (fun i j H2 => Q (.int (i - j)) H2) σ H
/-- the left factor below 2^64 -/
def tMul (ta tb : TE) : TE := fun σ H Q => t2I ta tb (fun i j H2 => (-(2 ^ 64) < i ∧ i < 2 ^ 64) ∧ Q (.int (i * j)) H2) σ H
variable {a b : Expr} {ta tb : TE} {pos : Pos}
theorem pe_add (ha : PE X a ta) (hb : PE X b tb) : PE X (.BinOp a .Add b pos) (tAdd ta tb) := by
  intro pins s σ H Q I h
  refine wpAny_BinOp (bin ha hb I h fun v u s2 x y H2 I2 rx ry q => ?_)
  obtain ⟨i, j, rfl, rfl, q⟩ := q
  obtain ⟨t, rfl⟩ := rx
  obtain ⟨t', rfl⟩ := ry
  exact add_int ⟨.int _, H2, I2.tok _, ⟨_, rfl⟩, q⟩
theorem pe_sub (ha : PE X a ta) (hb : PE X b tb) : PE X (.BinOp a .Sub b pos) (tSub ta tb) := by
  intro pins s σ H Q I h
  refine wpAny_BinOp (bin ha hb I h fun v u s2 x y H2 I2 rx ry q => ?_)
  obtain ⟨i, j, rfl, rfl, q⟩ := q
  obtain ⟨t, rfl⟩ := rx
  obtain ⟨t', rfl⟩ := ry
  exact sub_int ⟨.int _, H2, I2.tok _, ⟨_, rfl⟩, q⟩
theorem pe_mul (ha : PE X a ta) (hb : PE X b tb) : PE X (.BinOp a .Mult b pos) (tMul ta tb) := by
  intro pins s σ H Q I h
  refine wpAny_BinOp (bin ha hb I h fun v u s2 x y H2 I2 rx ry q => ?_)
  obtain ⟨i, j, rfl, rfl, ⟨q1, q2⟩, q⟩ := q
  obtain ⟨t, rfl⟩ := rx
  obtain ⟨t', rfl⟩ := ry
  exact mul_int ⟨.int _, H2, I2.tok _, ⟨_, rfl⟩, q⟩ (.of_left (intBits_le_64 q1 q2))

/-! ### comparisons -/
def PC (X : Cx) (op : CmpOp) (a b : Expr) (t : TE) : Prop :=
  ∀ (pins : List (Addr × Obj)) (s : Shared) (σ : St) (H : Hp) (Q : VK), Inv X pins σ H s → t σ H Q →
    wpAny (model X.prog X.w) X.A (eval a X.env) (fun v s₁ => wpAny (model X.prog X.w) X.A (eval b X.env) (fun u s₂ => wpAny (model X.prog X.w) X.A (compareOp op v u) (EP X pins σ Q) X.xe s₂) X.xe s₁) X.xe s
theorem nobehind (b : Expr) {op : CmpOp} (h : op ≠ .In) (h2 : op ≠ .NotIn) : behindInMarks op b = false := by
  have e1 : (op == CmpOp.In) = false := by cases op <;> first | rfl | exact absurd rfl h
  have e2 : (op == CmpOp.NotIn) = false := by cases op <;> first | rfl | exact absurd rfl h2
  cases b <;> simp [behindInMarks, e1, e2]
def tCmp (p : Int → Int → Bool) (ta tb : TE) : TE := fun σ H Q => t2I ta tb (fun i j H2 => Q (.bl (p i j)) H2) σ H
abbrev tLt : TE → TE → TE := tCmp fun i j => decide (i < j)
abbrev tLe : TE → TE → TE := tCmp fun i j => decide (i ≤ j)
abbrev tGt : TE → TE → TE := tCmp fun i j => decide (j < i)
abbrev tGe : TE → TE → TE := tCmp fun i j => decide (j ≤ i)
abbrev tEqI : TE → TE → TE := tCmp fun i j => decide (i = j)
abbrev tNeI : TE → TE → TE := tCmp fun i j => !decide (i = j)
/-- a comparison of two ints, by its rule -/
theorem pc_int {op : CmpOp} {p : Int → Int → Bool} (ha : PE X a ta) (hb : PE X b tb)
    (rule : ∀ (i j : Int) (t u : Tok) (Q : Value → Shared → Prop) (s : Shared), Q (.bool (p i j)) s → wpAny (model X.prog X.w) X.A (compareOp op (.int i t) (.int j u)) Q X.xe s) : PC X op a b (tCmp p ta tb) := by
  intro pins s σ H Q I h
  refine bin ha hb I h fun v u s2 x y H2 I2 rx ry q => ?_
  obtain ⟨i, j, rfl, rfl, q⟩ := q
  obtain ⟨t, rfl⟩ := rx
  obtain ⟨t', rfl⟩ := ry
  exact rule i j t t' _ s2 ⟨.bl _, H2, I2, rfl, q⟩
theorem pc_lt (ha : PE X a ta) (hb : PE X b tb) : PC X .Lt a b (tLt ta tb) := pc_int ha hb fun _ _ _ _ _ _ h => lt_int h
theorem pc_le (ha : PE X a ta) (hb : PE X b tb) : PC X .LtE a b (tLe ta tb) := pc_int ha hb fun _ _ _ _ _ _ h => le_int h
theorem pc_gt (ha : PE X a ta) (hb : PE X b tb) : PC X .Gt a b (tGt ta tb) := pc_int ha hb fun _ _ _ _ _ _ h => gt_int h
theorem pc_ge (ha : PE X a ta) (hb : PE X b tb) : PC X .GtE a b (tGe ta tb) := pc_int ha hb fun _ _ _ _ _ _ h => ge_int h
theorem pc_eqI (ha : PE X a ta) (hb : PE X b tb) : PC X .Eq a b (tEqI ta tb) := pc_int ha hb fun _ _ _ _ _ _ h => eq_int (by rw [Bool.beq_eq_decide_eq]; exact h)
theorem pc_neI (ha : PE X a ta) (hb : PE X b tb) : PC X .NotEq a b (tNeI ta tb) := pc_int ha hb fun _ _ _ _ _ _ h => ne_int (by rw [bne, Bool.beq_eq_decide_eq]; exact h)
/-- is None -/
def tIsN (ta : TE) : TE := fun σ H Q => ta σ H fun x H1 => Q (.bl (decide (x = .non))) H1
def tNotN (ta : TE) : TE := fun σ H Q => ta σ H fun x H1 => Q (.bl (!decide (x = .non))) H1
theorem RelV.none_iff {x : V} {v : Value} (r : RelV x v) : (v == Value.none) = decide (x = .non) := by
  cases x with
  | non => cases r; rfl
  | bl _ => cases r; rfl
  | int _ => obtain ⟨t, rfl⟩ := r; rfl
  | str _ => obtain ⟨t, rfl⟩ := r; rfl
  | byt _ => obtain ⟨t, rfl⟩ := r; rfl
  | flt _ => obtain ⟨t, rfl⟩ := r; rfl
  | ref _ => cases r; rfl
  | ty _ => cases r; rfl
theorem pc_isN {j pos'} (ha : PE X a ta) : PC X .Is a (.Constant .none j pos') (tIsN ta) := by
  intro pins s σ H Q I h
  refine thn (ha pins s σ H _ I h) fun v s1 ⟨x, H1, I1, r1, q1⟩ => ?_
  exact Constant_none (is_none_gen ⟨.bl _, H1, I1, by rw [r1.none_iff]; rfl, q1⟩)
theorem pc_notN {j pos'} (ha : PE X a ta) : PC X .IsNot a (.Constant .none j pos') (tNotN ta) := by
  intro pins s σ H Q I h
  refine thn (ha pins s σ H _ I h) fun v s1 ⟨x, H1, I1, r1, q1⟩ => ?_
  exact Constant_none (isnot_none_gen ⟨.bl _, H1, I1, by rw [r1.none_iff]; rfl, q1⟩)
/-- a comparison as a value, as a test -/
def tB (t : TE) : TT := fun σ H Q => t σ H fun x H1 => ∃ c, x = .bl c ∧ Q c H1
theorem pe_cmp {op : CmpOp} {t : TE} (h : PC X op a b t) (h1 : behindInMarks op b = false := by first | exact nobehind _ (by decide) (by decide) | rfl) : PE X (.Compare a [op] [b] pos) t := fun pins s σ H Q I hw => wpAny_Compare1 (h pins s σ H Q I hw) h1
theorem pt_cmp {op : CmpOp} {t : TE} (h : PC X op a b t) (h1 : behindInMarks op b = false := by first | exact nobehind _ (by decide) (by decide) | rfl) : PT X (.Compare a [op] [b] pos) (tB t) := by
  intro pins s σ H Q I hw
  refine wpAny_isTrue_Compare1 (thn (h pins s σ H _ I hw) fun v s1 h1 => thn h1 fun u s2 h2 => thn h2 fun c s3 ⟨x, H1, I1, r1, q1⟩ => ?_) h1
  obtain ⟨d, rfl, q⟩ := q1
  cases r1
  exact wpAny_truthy_bool ⟨H1, I1, q⟩
/-- an expression whose value is a bool, as a test -/
theorem pt_val {e : Expr} {t : TE} (h : PE X e t) (he : ∀ whole, isTrue e X.env whole = (do let v ← whole; standAt e.pos; holding [v] (truthy v)) := by intro _; rfl) : PT X e (tB t) := by
  intro pins s σ H Q I hw
  refine isTrue_plain (thn (h pins s σ H _ I hw) fun v s1 ⟨x, H1, I1, r1, q1⟩ => ?_) (he _)
  obtain ⟨d, rfl, q⟩ := q1
  cases r1
  exact wpAny_truthy_bool ⟨H1, I1, q⟩

/-! ### and, or, not -/
variable {tA tB' : TT} {rest : List Expr}
def tAnd (t u : TT) : TT := fun σ H Q => t σ H fun c H1 => if c = true then u σ H1 Q else Q false H1
def tOr (t u : TT) : TT := fun σ H Q => t σ H fun c H1 => if c = true then Q true H1 else u σ H1 Q
def tNot (t : TT) : TT := fun σ H Q => t σ H fun c H1 => Q (!c) H1
theorem pw_and1 (ha : PT X a tA) : PW X (.BoolOp .And [a] pos) tA := by
  intro wh pins s σ H Q I h
  refine isTrue_and (thn (ha pins s σ H Q I h) fun c s1 e => ?_)
  cases c with
  | true => exact isTrue_and_nil e
  | false => exact e
theorem pw_or1 (ha : PT X a tA) : PW X (.BoolOp .Or [a] pos) tA := by
  intro wh pins s σ H Q I h
  refine isTrue_or (thn (ha pins s σ H Q I h) fun c s1 e => ?_)
  cases c with
  | false => exact isTrue_or_nil e
  | true => exact e
theorem pw_and (ha : PT X a tA) (hb : PW X (.BoolOp .And (b :: rest) pos) tB') : PW X (.BoolOp .And (a :: b :: rest) pos) (tAnd tA tB') := by
  intro wh pins s σ H Q I h
  refine isTrue_and (thn (ha pins s σ H _ I h) fun c s1 ⟨H1, I1, q1⟩ => ?_)
  cases c with
  | true => exact hb wh pins s1 σ H1 Q I1 q1
  | false => exact ⟨H1, I1, q1⟩
theorem pw_or (ha : PT X a tA) (hb : PW X (.BoolOp .Or (b :: rest) pos) tB') : PW X (.BoolOp .Or (a :: b :: rest) pos) (tOr tA tB') := by
  intro wh pins s σ H Q I h
  refine isTrue_or (thn (ha pins s σ H _ I h) fun c s1 ⟨H1, I1, q1⟩ => ?_)
  cases c with
  | true => exact ⟨H1, I1, q1⟩
  | false => exact hb wh pins s1 σ H1 Q I1 q1
theorem pt_not (ha : PT X a tA) : PT X (.UnaryOp .Not a pos) (tNot tA) := by
  intro pins s σ H Q I h
  exact isTrue_not (ha pins s σ H (fun c H1 => Q (!c) H1) I h)
/-- .. as values (bools) -/
def tAndV (ta tb : TE) : TE := fun σ H Q => ta σ H fun x H1 => ∃ c, x = .bl c ∧ if c = true then tb σ H1 Q else Q (.bl false) H1
def tOrV (ta tb : TE) : TE := fun σ H Q => ta σ H fun x H1 => ∃ c, x = .bl c ∧ if c = true then Q (.bl true) H1 else tb σ H1 Q
def tNotV (ta : TE) : TE := fun σ H Q => ta σ H fun x H1 => ∃ c, x = .bl c ∧ Q (.bl (!c)) H1
theorem pe_one {op} {t : TE} (h : PE X a t) : PE X (.BoolOp op [a] pos) t := fun pins s σ H Q I hw => BoolOp_one (h pins s σ H Q I hw)
theorem pe_and (ha : PE X a ta) (hb : PE X (.BoolOp .And (b :: rest) pos) tb) : PE X (.BoolOp .And (a :: b :: rest) pos) (tAndV ta tb) := by
  intro pins s σ H Q I h
  refine BoolOp_and (thn (ha pins s σ H _ I h) fun v s1 ⟨x, H1, I1, r1, q1⟩ => ?_)
  obtain ⟨c, rfl, q1⟩ := q1
  cases r1
  refine wpAny_truthy_bool ?_
  cases c with
  | true => exact hb pins s1 σ H1 Q I1 q1
  | false => exact ⟨.bl false, H1, I1, rfl, q1⟩
theorem pe_or (ha : PE X a ta) (hb : PE X (.BoolOp .Or (b :: rest) pos) tb) : PE X (.BoolOp .Or (a :: b :: rest) pos) (tOrV ta tb) := by
  intro pins s σ H Q I h
  refine BoolOp_or (thn (ha pins s σ H _ I h) fun v s1 ⟨x, H1, I1, r1, q1⟩ => ?_)
  obtain ⟨c, rfl, q1⟩ := q1
  cases r1
  refine wpAny_truthy_bool ?_
  cases c with
  | false => exact hb pins s1 σ H1 Q I1 q1
  | true => exact ⟨.bl true, H1, I1, rfl, q1⟩
theorem pe_not (ha : PE X a ta) : PE X (.UnaryOp .Not a pos) (tNotV ta) := by
  intro pins s σ H Q I h
  refine UnaryOp_ (thn (ha pins s σ H _ I h) fun v s1 ⟨x, H1, I1, r1, q1⟩ => ?_)
  obtain ⟨c, rfl, q1⟩ := q1
  cases r1
  exact not_of (wpAny_truthy_bool ⟨.bl (!c), H1, I1, rfl, q1⟩)
/-- a if t else b -/
def tIf (t : TT) (ta tb : TE) : TE := fun σ H Q => t σ H fun c H1 => if c = true then ta σ H1 Q else tb σ H1 Q
theorem pe_ifExp {c : Expr} (hc : PT X c tA) (ha : PE X a ta) (hb : PE X b tb) : PE X (.IfExp c a b pos) (tIf tA ta tb) := by
  intro pins s σ H Q I h
  refine wpAny_IfExp (thn (hc pins s σ H _ I h) fun d s1 ⟨H1, I1, q1⟩ => ?_)
  cases d with
  | true => exact ha pins s1 σ H1 Q I1 q1
  | false => exact hb pins s1 σ H1 Q I1 q1
end
end L2

namespace L2
open PySem PySem.Spec PyProof.Rows

/-! ### a list, a tuple that is read: tracked, frozen, or an object of the module -/
def SqL (K : PySem.W.Frag) (H : Hp) (a : Addr) (xs : List V) : Prop :=
  Rd H a (.lst xs) ∨
    ∃ (o : Obj) (its : Array Value) (n : Nat), K.lookup a = some o ∧ o.cls = .type "list" ∧ o.dict = none ∧ o.data = .seq its n ∧ its.size ≤ sizeLine ∧ Vals xs its.toList
def SqT (K : PySem.W.Frag) (H : Hp) (a : Addr) (xs : List V) : Prop :=
  Rd H a (.tup xs) ∨
    ∃ (o : Obj) (its : Array Value) (n : Nat), K.lookup a = some o ∧ o.cls = .type "tuple" ∧ o.data = .seq its n ∧ its.size ≤ sizeLine ∧ Vals xs its.toList
def absV : Value → Option V
  | .none => some .non
  | .bool b => some (.bl b)
  | .int i _ => some (.int i)
  | .str x _ => some (.str x)
  | .bytes b _ => some (.byt b)
  | .float b _ => some (.flt b)
  | .ref a => some (.ref a)
  | .type n => some (.ty n)
  | _ => none
theorem RelV.abs {x : V} {u : Value} (r : RelV x u) : absV u = some x := by
  cases x with
  | non => cases r; rfl
  | bl _ => cases r; rfl
  | int _ => obtain ⟨t, rfl⟩ := r; rfl
  | str _ => obtain ⟨t, rfl⟩ := r; rfl
  | byt _ => obtain ⟨t, rfl⟩ := r; rfl
  | flt _ => obtain ⟨t, rfl⟩ := r; rfl
  | ref _ => cases r; rfl
  | ty _ => cases r; rfl
theorem RelV.inj {x y : V} {u : Value} (r : RelV x u) (q : RelV y u) : x = y := Option.some.inj (r.abs.symm.trans q.abs)
theorem Vals.inj : ∀ {xs ys : List V} {us : List Value}, Vals xs us → Vals ys us → xs = ys
  | _, _, _, .nil, .nil => rfl
  | _, _, _, .cons r t, .cons r' t' => by rw [r.inj r', Vals.inj t t']
section
variable {X : Cx} {pins : List (Addr × Obj)} {σ : St} {H : Hp} {s : Shared} {a : Addr} {xs ys : List V}
theorem SqL.of {K : PySem.W.Frag} (h : H a = some (.lst xs)) : SqL K H a xs := .inl (.inl h)
theorem SqT.of {K : PySem.W.Frag} (h : H a = some (.tup xs)) : SqT K H a xs := .inl (.inl h)
theorem Inv.list (I : Inv X pins σ H s) (h : SqL X.K H a xs) : ∃ its : List Value, Vals xs its ∧ PlainL s.heap a its.toArray ∧ xs.length ≤ sizeLine := by
  rcases h with h | ⟨o, its, n, hk, hc, hd, hs, hz, r⟩
  · obtain ⟨z, its, n, r, e⟩ := h.ok I.hok
    exact ⟨its, r, ⟨_, n, e, rfl, rfl, rfl⟩, z⟩
  · refine ⟨its.toList, r, ⟨o, n, I.kIn a o hk, hc, hd, by simpa using hs⟩, ?_⟩
    have e := r.length
    simp only [Array.length_toList] at e
    omega
theorem Inv.tuple (I : Inv X pins σ H s) (h : SqT X.K H a xs) : ∃ its : List Value, Vals xs its ∧ IsTup s.heap a its.toArray ∧ xs.length ≤ sizeLine := by
  rcases h with h | ⟨o, its, n, hk, hc, hs, hz, r⟩
  · obtain ⟨z, its, r, p⟩ := h.ok I.hok
    exact ⟨its, r, p, z⟩
  · refine ⟨its.toList, r, ⟨o, I.kIn a o hk, hc, n, by simpa using hs⟩, ?_⟩
    have e := r.length
    simp only [Array.length_toList] at e
    omega
theorem Inv.list_inj (I : Inv X pins σ H s) (h : SqL X.K H a xs) (h' : SqL X.K H a ys) : xs = ys := by
  obtain ⟨its, r, ⟨o, n, e, _, _, d⟩, _⟩ := I.list h
  obtain ⟨its', r', ⟨o', n', e', _, _, d'⟩, _⟩ := I.list h'
  rw [e] at e'; cases e'
  rw [d] at d'
  injection d' with d1 _
  have : its = its' := by simpa using congrArg Array.toList d1
  subst this
  exact r.inj r'
theorem Inv.tuple_inj (I : Inv X pins σ H s) (h : SqT X.K H a xs) (h' : SqT X.K H a ys) : xs = ys := by
  obtain ⟨its, r, ⟨o, e, _, n, d⟩, _⟩ := I.tuple h
  obtain ⟨its', r', ⟨o', e', _, n', d'⟩, _⟩ := I.tuple h'
  rw [e] at e'; cases e'
  rw [d] at d'
  injection d' with d1 _
  have : its = its' := by simpa using congrArg Array.toList d1
  subst this
  exact r.inj r'
end

/-! ### another wish about exceptions -/
abbrev Cx.wish (X : Cx) (E : Value → Shared → Prop) : Cx := { X with xe := E }
/-- no exception leaves -/
abbrev Cx.nox (X : Cx) : Cx := X.wish fun _ _ => False
theorem Cx.Ok.wish {X : Cx} (ok : X.Ok) (E : Value → Shared → Prop) : (X.wish E).Ok :=
  ⟨ok.mod, ok.kind, ok.glob, ok.blt, ok.above, ok.inj, ok.has, ok.cab, ok.hd, ok.frames, ok.stk, ok.exf, ok.bs, ok.bsz, ok.noex, ok.exfs, ok.funs, ok.frf⟩
theorem Cx.Ok.unwish {X : Cx} {E : Value → Shared → Prop} (ok : (X.wish E).Ok) : X.Ok :=
  ⟨ok.mod, ok.kind, ok.glob, ok.blt, ok.above, ok.inj, ok.has, ok.cab, ok.hd, ok.frames, ok.stk, ok.exf, ok.bs, ok.bsz, ok.noex, ok.exfs, ok.funs, ok.frf⟩
section
variable {X : Cx} {pins : List (Addr × Obj)} {σ : St} {H : Hp} {s : Shared} {E : Value → Shared → Prop}
theorem Inv.wish (I : Inv X pins σ H s) (E : Value → Shared → Prop) : Inv (X.wish E) pins σ H s := ⟨I.ok.wish E, I.os, I.bare, I.base, I.loc, I.cell, I.free, I.freeC, I.pin, I.hok, I.len, I.kn⟩
theorem Inv.unwish (I : Inv (X.wish E) pins σ H s) : Inv X pins σ H s := ⟨I.ok.unwish, I.os, I.bare, I.base, I.loc, I.cell, I.free, I.freeC, I.pin, I.hok, I.len, I.kn⟩
theorem SP.unwish {D : Ends} {f : Flow} {s' : Shared} (h : SP (X.wish E) pins D f s') : SP X pins D f s' := by
  cases f with
  | next => obtain ⟨σ', H', I, q⟩ := h; exact ⟨σ', H', I.unwish, q⟩
  | brk => obtain ⟨σ', H', I, q⟩ := h; exact ⟨σ', H', I.unwish, q⟩
  | cont => obtain ⟨σ', H', I, q⟩ := h; exact ⟨σ', H', I.unwish, q⟩
  | ret u => obtain ⟨v, σ', H', I, r, q⟩ := h; exact ⟨v, σ', H', I.unwish, r, q⟩
theorem PE.nox {e : Expr} {t : TE} (h : PE X.nox e t) : PE X e t := fun pins s σ H Q I hw =>
  wpAny_mono (h pins s σ H Q (I.wish _) hw) (fun _ _ ⟨v, H', I', r, q⟩ => ⟨v, H', I'.unwish, r, q⟩) fun _ _ z => False.elim z
theorem PT.nox {e : Expr} {t : TT} (h : PT X.nox e t) : PT X e t := fun pins s σ H Q I hw =>
  wpAny_mono (h pins s σ H Q (I.wish _) hw) (fun _ _ ⟨H', I', q⟩ => ⟨H', I'.unwish, q⟩) fun _ _ z => False.elim z
theorem PSs.nox {st : List Stmt} {t : TS} (h : PSs X.nox st t) : PSs X st t := fun pins s σ H D I hw =>
  wpAny_mono (h pins s σ H D (I.wish _) hw) (fun _ _ q => q.unwish) fun _ _ z => False.elim z
end

/-! ### blocks and small statements -/
section
variable {X : Cx} {st : Stmt} {rest : List Stmt} {t u : TS} {e : Expr} {te : TE} {pos : Pos}
def tNext : TS := fun D σ H => D.nx σ H
def tSeq (t u : TS) : TS := fun D σ H => t { D with nx := u D } σ H
theorem pss_nil : PSs X [] tNext := fun _ _ σ H _ I h => wpAny_execs_nil ⟨σ, H, I, h⟩
theorem pss_cons (h1 : PS X st t) (h2 : PSs X rest u) : PSs X (st :: rest) (tSeq t u) := by
  intro pins s σ H D I h
  refine wpAny_execs_cons (thn (h1 pins s σ H { D with nx := u D } I h) fun f s1 q => ?_)
  cases f with
  | next =>
    obtain ⟨σ', H', I', q⟩ := q
    exact h2 pins s1 σ' H' D I' q
  | ret v => exact q
  | brk => exact q
  | cont => exact q
theorem pss_one (h1 : PS X st t) : PSs X [st] t := by
  intro pins s σ H D I h
  refine wpAny_execs_cons (thn (h1 pins s σ H D I h) fun f s1 q => ?_)
  cases f with
  | next => exact wpAny_execs_nil q
  | ret v => exact q
  | brk => exact q
  | cont => exact q
def tBreak : TS := fun D σ H => D.bk σ H
def tCont : TS := fun D σ H => D.ct σ H
theorem ps_pass : PS X (.Pass pos) tNext := fun _ _ σ H _ I h => wpAny_Pass ⟨σ, H, I, h⟩
theorem ps_break : PS X (.Break pos) tBreak := fun _ _ σ H _ I h => wpAny_Break ⟨σ, H, I, h⟩
theorem ps_continue : PS X (.Continue pos) tCont := fun _ _ σ H _ I h => wpAny_Continue ⟨σ, H, I, h⟩
/-- in a def's body nothing is shown -/
theorem Inv.quiet {pins : List (Addr × Obj)} {σ : St} {H : Hp} {s : Shared} (I : Inv X pins σ H s) : interactive X.env = false := by simp [interactive, I.ok.kind]
/-- a docstring -/
theorem ps_doc {x j pos pos'} : PS X (.Expr (.Constant (.str x) j pos) pos') tNext := fun _ s σ H _ I h => wpAny_Expr (Calls.Constant_str (show SP X _ _ .next { s with toks := s.toks + 1 } from ⟨σ, H, I.tok _, h⟩)) I.quiet
/-- an expression whose value is dropped -/
def tDrop (te : TE) : TS := fun D σ H => te σ H fun _ H1 => D.nx σ H1
theorem ps_expr (he : PE X e te) (hs : swapsWith e none pos.line X.env = pure false := by rfl) : PS X (.Expr e pos) (tDrop te) := by
  intro pins s σ H D I h
  exact wpAny_Expr_any (thn (he pins s σ H _ I h) fun v s1 ⟨x, H1, I1, r1, q1⟩ => ⟨σ, H1, I1, q1⟩) I.quiet hs
def tRet (te : TE) : TS := fun D σ H => te σ H D.rt
theorem ps_ret (he : PE X e te) : PS X (.Return (some e) pos) (tRet te) := by
  intro pins s σ H D I h
  exact wpAny_Return_some (thn (he pins s σ H _ I h) fun v s1 ⟨x, H1, I1, r1, q1⟩ => ⟨x, σ, H1, I1, r1, q1⟩)
def tRetN : TS := fun D _ H => D.rt .non H
theorem ps_retN : PS X (.Return none pos) tRetN := fun _ _ σ H _ I h => wpAny_Return_none ⟨.non, σ, H, I, rfl, h⟩
def tIfS (c : TT) (t u : TS) : TS := fun D σ H => c σ H fun b H1 => if b = true then t D σ H1 else u D σ H1
theorem ps_if {c : Expr} {a b : List Stmt} {tc : TT} (hc : PT X c tc) (ha : PSs X a t) (hb : PSs X b u) : PS X (.If c a b pos) (tIfS tc t u) := by
  intro pins s σ H D I h
  refine wpAny_If (thn (hc pins s σ H _ I h) fun d s1 ⟨H1, I1, q1⟩ => ?_)
  cases d with
  | true => exact ha pins s1 σ H1 D I1 q1
  | false => exact hb pins s1 σ H1 D I1 q1
/-- code that the proof never comes to -/
def tNever : TS := fun _ _ _ => False
theorem ps_never : PS X st tNever := fun _ _ _ _ _ _ h => h.elim
theorem pss_never {sts : List Stmt} : PSs X sts tNever := fun _ _ _ _ _ _ h => h.elim
end

/-! ### targets -/
abbrev TG := V → St → Hp → (St → Hp → Prop) → Prop
abbrev TGs := List V → St → Hp → (St → Hp → Prop) → Prop
def PG (X : Cx) (target : Expr) (t : TG) : Prop :=
  ∀ (pins : List (Addr × Obj)) (s : Shared) (σ : St) (H : Hp) (v : V) (u : Value) (Q : St → Hp → Prop), Inv X pins σ H s → RelV v u → t v σ H Q →
    wpAny (model X.prog X.w) X.A (assign target X.env u) (fun _ s' => ∃ σ' H', Inv X pins σ' H' s' ∧ Q σ' H') X.xe s
/-- several targets, one after another -/
def PGs (X : Cx) (ts : List Expr) (t : TGs) : Prop :=
  ∀ (pins : List (Addr × Obj)) (s : Shared) (σ : St) (H : Hp) (vs : List V) (us : List Value) (Q : St → Hp → Prop), Inv X pins σ H s → Vals vs us → t vs σ H Q →
    wpAny (model X.prog X.w) X.A (assignInOrder ((assignEach ts X.env).map (·.2)) us) (fun _ s' => ∃ σ' H', Inv X pins σ' H' s' ∧ Q σ' H') X.xe s
/-- o[i] = v, by values -/
abbrev TSet := V → V → V → Hp → (Hp → Prop) → Prop
def PSet (X : Cx) (t : TSet) : Prop :=
  ∀ (pins : List (Addr × Obj)) (s : Shared) (σ : St) (H : Hp) (o i v : V) (ov iv u : Value) (Q : Hp → Prop), Inv X pins σ H s → RelV o ov → RelV i iv → RelV v u → t o i v H Q →
    wpAny (model X.prog X.w) X.A (setItem ov iv u) (fun _ s' => ∃ H', Inv X pins σ H' s' ∧ Q H') X.xe s
/-- a op= b, by values -/
abbrev TIp := V → V → Hp → VK → Prop
def PIp (X : Cx) (op : Operator) (t : TIp) : Prop :=
  ∀ (pins : List (Addr × Obj)) (s : Shared) (σ : St) (H : Hp) (x y : V) (v u : Value) (Q : VK), Inv X pins σ H s → RelV x v → RelV y u → t x y H Q →
    wpAny (model X.prog X.w) X.A (inplaceOp op v u) (EP X pins σ Q) X.xe s
section
variable {X : Cx} {pos : Pos}
def gName (i : Nat) : TG := fun v σ H Q => Q (σ.set i (some v)) H
theorem pg_name {i : Nat} {x : Str} (hN : X.N.Nodup) (hi : X.N[i]? = some x) (hx : Loc X.env.scope x) (hf : X.fn x = true ∨ X.env.scope.names.lookup x = some .local := by first | exact .inl rfl | exact .inr rfl | assumption) (hkn : ∀ u : V, X.kn[i]? ≠ some (some u) := by first | assumption | exact fun u h => nomatch (show (none : Option (Option V)) = some (some u) from h) | exact fun u h => nomatch (Option.some.inj (show some (none : Option V) = some (some u) from h))) : PG X (.Name x pos) (gName i) := by
  intro pins s σ H v u Q I r h
  exact wpAny_assign_Name (store_ok I hN hi hx r (fun s' I' => ⟨_, H, I', h⟩) hf hkn)
def gNil : TGs := fun vs σ H Q => vs = [] ∧ Q σ H
def gCons (t : TG) (u : TGs) : TGs := fun vs σ H Q => ∃ v r, vs = v :: r ∧ t v σ H fun σ' H' => u r σ' H' Q
theorem pgs_nil : PGs X [] gNil := by
  intro pins s σ H vs us Q I r h
  obtain ⟨e, h⟩ := h
  subst e
  cases r
  exact assignInOrder_nil ⟨σ, H, I, h⟩
theorem pgs_cons {e : Expr} {es : List Expr} {t : TG} {u : TGs} (h1 : PG X e t) (h2 : PGs X es u)
    (hs : (assignEach (e :: es) X.env).map (·.2) = assign e X.env :: (assignEach es X.env).map (·.2) := by rfl) : PGs X (e :: es) (gCons t u) := by
  intro pins s σ H vs us Q I r h
  obtain ⟨v, vr, e1, h⟩ := h
  subst e1
  cases r with
  | cons r rr =>
    rw [hs]
    refine assignInOrder_cons (thn (h1 pins s σ H _ _ _ I r h) fun _ s1 ⟨σ1, H1, I1, q1⟩ => ?_)
    exact h2 pins s1 σ1 H1 _ _ Q I1 rr q1
/-- (a, b, ..) = a tuple of that length -/
def gTup (K : PySem.W.Frag) (n : Nat) (t : TGs) : TG := fun v σ H Q => ∃ a xs, v = .ref a ∧ SqT K H a xs ∧ xs.length = n ∧ t xs σ H Q
theorem pg_tup {es : List Expr} {k : Nat} {t : TGs} {n : Nat} (hc : X.calm = true) (h : PGs X es t)
    (hn : (assignEach es X.env).length = n := by rfl) (hst : (assignEach es X.env).findIdx? (·.1) = none := by rfl) : PG X (.Tuple es k pos) (gTup X.K n t) := by
  intro pins s σ H v u Q I r hw
  obtain ⟨a, xs, e1, hq, hl, hw⟩ := hw
  subst e1
  cases r
  obtain ⟨its, rv, ht, hz⟩ := I.tuple hq
  refine assign_Tuple_tuple (I.ok.hd hc) ht (by simp [hn, ← hl, rv.length]) hst fun h' hx => ?_
  have I1 : Inv X pins σ H { s with heap := h' } := I.kept (t' := s.toks) fun b o e => hx b o (Nat.ne_of_lt (Heap.lt_size e)) e
  exact h pins _ σ H xs _ Q I1 (by simpa using rv) hw
/-- o[i] = .. -/
def gSub (to ti : TE) (t : TSet) : TG := fun v σ H Q => to σ H fun o H1 => ti σ H1 fun i H2 => t o i v H2 fun H3 => Q σ H3
theorem pg_sub {o i : Expr} {to ti : TE} {t : TSet} (ho : PE X o to) (hi : PE X i ti) (hs : PSet X t)
    (ha : ∀ v, assign (.Subscript o i pos) X.env v = (do
      let ov ← holding [v] (eval o X.env)
      let iv ← holding [v, ov] (eval i X.env)
      standAt pos
      holding [v, ov, iv] (setItem ov iv v)
      release [v, ov, iv] []) := by intro _; rfl) : PG X (.Subscript o i pos) (gSub to ti t) := by
  intro pins s σ H v u Q I r h
  rw [ha]
  refine wpAny_bind (wpAny_holding (thn (ho pins s σ H _ I h) fun ov s1 ⟨x, H1, I1, r1, q1⟩ => ?_))
  refine wpAny_bind (wpAny_holding (thn (hi pins s1 σ H1 _ I1 q1) fun iv s2 ⟨y, H2, I2, r2, q2⟩ => ?_))
  refine wpAny_bind (wpAny_standAt (wpAny_bind (wpAny_holding (thn (hs pins s2 σ H2 x y v ov iv u _ I2 r1 r2 r q2) fun _ s3 ⟨H3, I3, q3⟩ => ?_))))
  exact wpAny_release ⟨σ, H3, I3, q3⟩
/-- target = value -/
def tAsg (te : TE) (g : TG) : TS := fun D σ H => te σ H fun x H1 => g x σ H1 D.nx
theorem ps_asg {tg e : Expr} {te : TE} {g : TG} (he : PE X e te) (hg : PG X tg g) (hs : swapsWithSole [tg] e pos.line X.env = pure false := by rfl) (hw : swappedStores [tg] e X.env = pure none := by rfl)
    (h1 : (assignEach [tg] X.env).map (·.2) = [assign tg X.env] := by rfl) : PS X (.Assign [tg] e pos) (tAsg te g) := by
  intro pins s σ H D I h
  refine wpAny_Assign_stores (thn (he pins s σ H _ I h) fun v s1 ⟨x, H1, I1, r1, q1⟩ => ?_) hs hw
  rw [h1]
  exact thn (hg pins s1 σ H1 x v _ I1 r1 q1) fun _ s2 q => q
/-- name = value -/
theorem ps_set {i : Nat} {x : Str} {e : Expr} {te : TE} {pos' : Pos} (hN : X.N.Nodup) (hi : X.N[i]? = some x) (hx : Loc X.env.scope x) (he : PE X e te) (hs : swapsWith e (some (.Name x pos')) pos.line X.env = pure false := by rfl) (hf : X.fn x = true ∨ X.env.scope.names.lookup x = some .local := by first | exact .inl rfl | exact .inr rfl | assumption) (hkn : ∀ u : V, X.kn[i]? ≠ some (some u) := by first | assumption | exact fun u h => nomatch (show (none : Option (Option V)) = some (some u) from h) | exact fun u h => nomatch (Option.some.inj (show some (none : Option V) = some (some u) from h))) :
    PS X (.Assign [.Name x pos'] e pos) (tAsg te (gName i)) := by
  intro pins s σ H D I h
  refine wpAny_Assign_Name (thn (he pins s σ H _ I h) fun v s1 ⟨y, H1, I1, r1, q1⟩ => ?_) hs
  exact store_ok I1 hN hi hx r1 (fun s2 I2 => ⟨_, H1, I2, q1⟩) hf hkn
/-- a, b = x, y with plain local names: stored from the right; the pair itself is not tracked (the opening rows as in PyProof/Rows/TupAssign.lean:23) -/
def tPar (i j : Nat) (ta : TA) : TS := fun D σ H => ta σ H fun vs H1 => ∃ v w, vs = [v, w] ∧ D.nx ((σ.set i (some v)).set j (some w)) H1
theorem ps_par {i j : Nat} {x y : Str} {a b : Expr} {ta : TA} {px py pt : Pos} {kt k2 pt2} (hc : X.calm = true) (hN : X.N.Nodup) (hi : X.N[i]? = some x) (hj : X.N[j]? = some y) (hij : i ≠ j)
    (hx : X.env.scope.names.lookup x = some .local) (hy : X.env.scope.names.lookup y = some .local) (ha : PA X [a, b] ta)
    (hw : swappedStores [.Tuple [.Name x px, .Name y py] kt pt] (.Tuple [a, b] k2 pt2) X.env = pure (some [x, y]))
    (hs : swapsWithSole [.Tuple [.Name x px, .Name y py] kt pt] (.Tuple [a, b] k2 pt2) pos.line X.env = pure false := by rfl) (hkn : ∀ u : V, X.kn[i]? ≠ some (some u) := by first | assumption | exact fun u h => nomatch (show (none : Option (Option V)) = some (some u) from h) | exact fun u h => nomatch (Option.some.inj (show some (none : Option V) = some (some u) from h))) (hknj : ∀ u : V, X.kn[j]? ≠ some (some u) := by first | assumption | exact fun u h => nomatch (show (none : Option (Option V)) = some (some u) from h) | exact fun u h => nomatch (Option.some.inj (show some (none : Option V) = some (some u) from h))) :
    PS X (.Assign [.Tuple [.Name x px, .Name y py] kt pt] (.Tuple [a, b] k2 pt2) pos) (tPar i j ta) := by
  intro pins s σ H D I h
  rw [exec_Assign_arm]
  refine wpAny_bind (wpAny_standAt ?_)
  rw [hs]
  refine wpAny_bind (wpAny_pure ?_)
  rw [if_neg (by decide)]
  refine wpAny_bind (Tuple_ (thn (ha _ pins s σ H _ I h) fun us s1 ⟨vs, H1, I1, r1, q1⟩ => ?_))
  obtain ⟨v, w, e1, q1⟩ := q1
  subst e1
  obtain ⟨u1, u2, rfl, rv, rw'⟩ : ∃ u1 u2, us = [u1, u2] ∧ RelV v u1 ∧ RelV w u2 := by
    cases r1 with
    | cons p q =>
      cases q with
      | cons p' q' =>
        cases q'
        exact ⟨_, _, rfl, p, p'⟩
  refine wpAny_newObj_type ?_ (by show 2 ≤ sizeLine; decide)
  have I2 : Inv X pins σ H1 { s1 with heap := s1.heap.push { cls := .type "tuple", data := .seq [u1, u2].toArray } } := I1.kept (t' := s1.toks) fun b o e => Heap.get?_push_of_some _ e
  rw [hw]
  refine wpAny_bind (wpAny_pure ?_)
  show wpAny (model X.prog X.w) X.A (do rule "assign.swapped-stores"; let items ← unpackItems (.ref s1.heap.objs.size) 2 none; assignInOrder [fun v => bindName X.env y v, fun v => bindName X.env x v] items.reverse; pure Flow.next) _ _ _
  refine wpAny_bind (wpAny_rule (wpAny_bind (unpackItems_tuple (items := #[u1, u2]) (I.ok.hd hc) (IsTup.new s1.heap _) fun h' hx' => ?_)))
  have I3 := I2.kept (h' := h') (t' := s1.toks) fun b o e => hx' b o (Nat.ne_of_lt (Heap.lt_size e)) e
  show wpAny _ _ (assignInOrder [fun v => bindName X.env y v, fun v => bindName X.env x v] [u2, u1] >>= fun _ => pure Flow.next) _ _ _
  refine wpAny_bind (assignInOrder_cons (wpAny_bindName (store_ok I3 hN hj (.inl hy) rw' (fun s2 I4 => ?_) (.inr hy) hknj)))
  refine assignInOrder_cons (wpAny_bindName (store_ok I4 hN hi (.inl hx) rv (fun s3 I5 => assignInOrder_nil (wpAny_pure ?_)) (.inr hx) hkn))
  rw [List.set_comm _ _ (Ne.symm hij)] at I5
  exact ⟨_, H1, I5, q1⟩
/-- name op= e -/
def tAug (i : Nat) (te : TE) (ti : TIp) : TS := fun D σ H => ∃ x, σ[i]? = some (some x) ∧ te σ H fun y H1 => ti x y H1 fun z H2 => D.nx (σ.set i (some z)) H2
theorem ps_aug {i : Nat} {x : Str} {e : Expr} {te : TE} {op : Operator} {ti : TIp} {pos' : Pos} (hN : X.N.Nodup) (hi : X.N[i]? = some x) (hx : Loc X.env.scope x) (he : PE X e te) (ho : PIp X op ti) (hf : X.fn x = true ∨ X.env.scope.names.lookup x = some .local := by first | exact .inl rfl | exact .inr rfl | assumption) (hkn : ∀ u : V, X.kn[i]? ≠ some (some u) := by first | assumption | exact fun u h => nomatch (show (none : Option (Option V)) = some (some u) from h) | exact fun u h => nomatch (Option.some.inj (show some (none : Option V) = some (some u) from h))) :
    PS X (.AugAssign (.Name x pos') op e pos) (tAug i te ti) := by
  intro pins s σ H D I h
  obtain ⟨v, e1, h⟩ := h
  obtain ⟨m, hn, hl⟩ := I.loc
  have vis : Vis X.env.scope x := by rcases hx with k | k; exact .inl k; exact .inr (.inl k)
  obtain ⟨u, r, l⟩ := hl i x v hi e1 vis
  refine wpAny_AugAssign_Name ?_
  have go : wpAny (model X.prog X.w) X.A (eval e X.env) (fun w s₂ => wpAny (model X.prog X.w) X.A (inplaceOp op u w) (fun r s₃ => wpAny (model X.prog X.w) X.A (storeName X.env x r) (fun _ => SP X pins D .next) X.xe s₃) X.xe s₂) X.xe s := by
    refine thn (he pins s σ H _ I h) fun w s1 ⟨y, H1, I1, r1, q1⟩ => ?_
    refine thn (ho pins s1 σ H1 v y u w _ I1 r r1 q1) fun z s2 ⟨zv, H2, I2, r2, q2⟩ => ?_
    exact store_ok I2 hN hi hx r2 (fun s3 I3 => ⟨_, H2, I3, q2⟩) hf hkn
  rcases l with ⟨hk, hm⟩ | ⟨hk, c, hc, hcell⟩
  · exact wpAny_loadName_local I.ok.kind hk hn hm go
  · rcases hk with hk | hk
    · exact wpAny_loadName_cell I.ok.kind hk hc hcell go
    · rcases hx with k | k
      · have : X.env.scope.names.lookup x = some .free := hk
        rw [k] at this; cases this
      · have : X.env.scope.names.lookup x = some .free := hk
        rw [k] at this; cases this
/-- o[i] op= e -/
def tAugS (to ti te : TE) (tget : V → V → Hp → VK → Prop) (tip : TIp) (tset : TSet) : TS := fun D σ H => to σ H fun o H1 => ti σ H1 fun i H2 => tget o i H2 fun x H3 => te σ H3 fun y H4 => tip x y H4 fun z H5 => tset o i z H5 fun H6 => D.nx σ H6
/-- o[i], by values -/
def PGet (X : Cx) (t : V → V → Hp → VK → Prop) : Prop :=
  ∀ (pins : List (Addr × Obj)) (s : Shared) (σ : St) (H : Hp) (o i : V) (ov iv : Value) (Q : VK), Inv X pins σ H s → RelV o ov → RelV i iv → t o i H Q →
    wpAny (model X.prog X.w) X.A (getItem ov iv) (EP X pins σ Q) X.xe s
theorem ps_augS {o i e : Expr} {to ti te : TE} {tget : V → V → Hp → VK → Prop} {tip : TIp} {tset : TSet} {op : Operator} {tpos : Pos} (ho : PE X o to) (hi : PE X i ti) (hg : PGet X tget) (he : PE X e te) (hp : PIp X op tip) (hs : PSet X tset)
    (ha : ∀ ov iv new, augStore i ov iv new = (do holding [new, ov, iv] (setItem ov iv new); release [new, ov, iv] []; pure .next) := by intros; rfl) : PS X (.AugAssign (.Subscript o i tpos) op e pos) (tAugS to ti te tget tip tset) := by
  intro pins s σ H D I h
  refine wpAny_AugAssign_SubscriptAny (thn (ho pins s σ H _ I h) fun ov s1 ⟨x1, H1, I1, r1, q1⟩ => ?_) ha
  refine thn (hi pins s1 σ H1 _ I1 q1) fun iv s2 ⟨x2, H2, I2, r2, q2⟩ => ?_
  refine thn (hg pins s2 σ H2 x1 x2 ov iv _ I2 r1 r2 q2) fun old s3 ⟨x3, H3, I3, r3, q3⟩ => ?_
  refine thn (he pins s3 σ H3 _ I3 q3) fun v s4 ⟨x4, H4, I4, r4, q4⟩ => ?_
  refine thn (hp pins s4 σ H4 x3 x4 old v _ I4 r3 r4 q4) fun new s5 ⟨x5, H5, I5, r5, q5⟩ => ?_
  exact thn (hs pins s5 σ H5 x1 x2 x5 ov iv new _ I5 r1 r2 r5 q5) fun _ s6 ⟨H6, I6, q6⟩ => ⟨σ, H6, I6, q6⟩
/-- ints -/
def ipI (f : Int → Int → Int) : TIp := fun x y H Q => ∃ i j, x = .int i ∧ y = .int j ∧ Q (.int (f i j)) H
theorem ip_add : PIp X .Add (ipI fun i j => i + j) := by
  intro pins s σ H x y v u Q I r1 r2 h
  obtain ⟨i, j, e1, e2, q⟩ := h
  subst e1; subst e2
  obtain ⟨t, rfl⟩ := r1
  obtain ⟨t', rfl⟩ := r2
  exact iadd_int ⟨.int _, H, I.tok _, ⟨_, rfl⟩, q⟩
theorem ip_sub : PIp X .Sub (ipI fun i j => i - j) := by
  intro pins s σ H x y v u Q I r1 r2 h
  obtain ⟨i, j, e1, e2, q⟩ := h
  subst e1; subst e2
  obtain ⟨t, rfl⟩ := r1
  obtain ⟨t', rfl⟩ := r2
  exact isub_int ⟨.int _, H, I.tok _, ⟨_, rfl⟩, q⟩
end

/-! ### while -/
section
variable {X : Cx} {pos : Pos}
/-- the invariant W with its measure -/
def tWhile (c : TT) (tb : TS) : TS := fun D σ H => ∃ W : Nat → St → Hp → Prop, (∃ m, W m σ H) ∧ ∀ m σ H, W m σ H →
  c σ H fun b H1 => if b = true then ∃ N : St → Hp → Prop, (∀ σ' H', N σ' H' → ∃ m', m' < m ∧ W m' σ' H') ∧ tb { D with nx := N, ct := N, bk := D.nx } σ H1 else D.nx σ H1
theorem ps_while {c : Expr} {body : List Stmt} {tc : TT} {tb : TS} (hp : PassesOwn (model X.prog X.w) X.A X.env X.xe) (hc : PT X c tc) (hb : PSs X body tb) : PS X (.While c body [] pos) (tWhile tc tb) := by
  intro pins s σ H D I h
  obtain ⟨W, ⟨m0, w0⟩, turn⟩ := h
  refine wpAny_While (codeAny_whileLoop (fun n s' => ∃ σ' H', Inv X pins σ' H' s' ∧ W n σ' H') ?_ m0 ⟨σ, H, I, w0⟩)
  rintro n s1 ⟨σ1, H1, I1, w1⟩
  refine wpAny_passesOwn hp (thn (hc pins s1 σ1 H1 _ I1 (turn n σ1 H1 w1)) fun b s2 ⟨H2, I2, q2⟩ => ?_)
  cases b with
  | true =>
    obtain ⟨N, hN, q2⟩ := q2
    rw [if_pos rfl]
    refine wpAny_passesOwn hp (thn (hb pins s2 σ1 H2 _ I2 q2) fun f s3 q3 => ?_)
    cases f with
    | next =>
      obtain ⟨σ3, H3, I3, n3⟩ := q3
      obtain ⟨m', hm, w3⟩ := hN σ3 H3 n3
      exact ⟨m', hm, σ3, H3, I3, w3⟩
    | cont =>
      obtain ⟨σ3, H3, I3, n3⟩ := q3
      obtain ⟨m', hm, w3⟩ := hN σ3 H3 n3
      exact ⟨m', hm, σ3, H3, I3, w3⟩
    | brk => exact q3
    | ret v => exact q3
  | false =>
    rw [if_neg Bool.false_ne_true]
    exact wpAny_execs_nil ⟨σ1, H2, I2, q2⟩
end

/-! ### what a loop or a comprehension walks -/
/-- at turn i: it yields x (the heap may grow), or it stops -/
structure It where
  go : Nat → Hp → Prop
  yld : Nat → Hp → V → Hp → Prop
  stop : Nat → Hp → Prop
/-- the iterator's own objects may turn: they are not the frame's, not pinned, younger than the entry (or a comprehension's own) -/
def FpOk (X : Cx) (pins : List (Addr × Obj)) (H : Hp) (b : Addr) : Prop :=
  H b = none ∧ b ≠ X.env.locals ∧ b ∉ X.fs ∧ (b ∈ X.ex ∨ X.s₀.heap.objs.size ≤ b) ∧ (∀ x c, X.env.cells.lookup x = some c → c ≠ b) ∧ ∀ p ∈ X.pn ++ pins, p.1 ≠ b
theorem Inv.fpOk {X : Cx} {pins : List (Addr × Obj)} {σ : St} {H H' : Hp} {s : Shared} {b : Addr} (I : Inv X pins σ H s) (hb : s.heap.objs.size ≤ b) (hn : H' b = none) : FpOk X pins H' b := by
  refine ⟨hn, Nat.ne_of_gt (Nat.lt_of_lt_of_le I.lt hb), I.nofs hb, .inr (Nat.le_trans I.sz hb), fun x c e z => ?_, fun p hp z => ?_⟩
  · obtain ⟨v, q⟩ := I.cell x c e
    exact absurd (Nat.lt_of_lt_of_le q.lt (by rw [z]; exact hb)) (Nat.lt_irrefl _)
  · exact absurd (Nat.lt_of_lt_of_le (Heap.lt_size (I.pin p hp).1) (by rw [z]; exact hb)) (Nat.lt_irrefl _)
structure Turn (P : Program) (w : World) (K : PySem.W.Frag) (tg : Expr) (J : It) (fp : List Addr) (it : Addr) (tn : Nat → Heap → Prop) : Prop where
  mem : it ∈ fp
  obj : ∀ i h, tn i h → ∀ b ∈ fp, ∃ o, h.get? b = some o ∧ ∀ v, o.data ≠ .cell v
  keep : ∀ i h h', tn i h → (∀ b ∈ fp, ∀ o, h.get? b = some o → h'.get? b = some o) → tn i h'
  item : ∀ (X : Cx), X.prog = P → X.w = w → X.K = K → X.calm = true → ∀ (i : Nat) (pins : List (Addr × Obj)) (s : Shared) (σ : St) (H : Hp) (E : Value → Shared → Prop), Inv X pins σ H s → (∀ b ∈ fp, FpOk X pins H b) → tn i s.heap → J.go i H →
    wpAny (model P w) X.A (pyNext (.ref it)) (fun r s1 => ∃ u, r = some u ∧
      wpAny (model P w) X.A (letOwnedTupleGo tg (.ref it) u) (fun _ s2 => ∃ x H', Inv X pins σ H' s2 ∧ RelV x u ∧ J.yld i H x H' ∧ tn (i + 1) s2.heap ∧ ∀ b ∈ fp, H' b = none) E s1) E s
  done : ∀ (X : Cx), X.prog = P → X.w = w → X.K = K → X.calm = true → ∀ (i : Nat) (pins : List (Addr × Obj)) (s : Shared) (σ : St) (H : Hp) (E : Value → Shared → Prop), Inv X pins σ H s → (∀ b ∈ fp, FpOk X pins H b) → tn i s.heap → J.stop i H →
    wpAny (model P w) X.A (pyNext (.ref it)) (fun r s1 => r = none ∧ Inv X pins σ H s1) E s
  self : ∀ (A : Around) (i : Nat) (s : Shared) (Q : Value → Shared → Prop) (E : Value → Shared → Prop), tn i s.heap → Q (.ref it) s → wpAny (model P w) A (pyIter (.ref it)) Q E s
abbrev TI := St → Hp → (It → Hp → Prop) → Prop
/-- an iterator has come -/
def PIE (X : Cx) (pins : List (Addr × Obj)) (σ : St) (tg : Expr) (R : It → Hp → Prop) (itv : Value) (s2 : Shared) : Prop :=
  ∃ (it : Addr) (fp : List Addr) (tn : Nat → Heap → Prop) (J : It) (H' : Hp), itv = .ref it ∧ Inv X pins σ H' s2 ∧ Turn X.prog X.w X.K tg J fp it tn ∧ tn 0 s2.heap ∧ (∀ b ∈ fp, FpOk X pins H' b) ∧ R J H'
def PI (X : Cx) (tg iter : Expr) (wi : TI) : Prop :=
  ∀ (pins : List (Addr × Obj)) (s : Shared) (σ : St) (H : Hp) (R : It → Hp → Prop), Inv X pins σ H s → wi σ H R →
    wpAny (model X.prog X.w) X.A (eval iter X.env) (fun v s1 => wpAny (model X.prog X.w) X.A (pyIter v) (PIE X pins σ tg R) X.xe s1) X.xe s

/-- the step ahead of the store is nothing for an iterator that keeps no tuple -/
theorem go_of {M : Model} {A : Around} {E : Value → Shared → Prop} {s : Shared} {tg : Expr} {it : Addr} {u : Value} {o : Obj} {n : String} {vs : Array Value} {Q : Unit → Shared → Prop} (ho : s.heap.get? it = some o) (hc : o.cls = .type n) (hd : o.data = .fields vs)
    (hn : ["enumerate", "zip", "dict_itemiterator", "dict_reverseitemiterator", "odict_iterator", "itertools.zip_longest", "itertools.pairwise"].contains n = false) (hQ : Q () s) : wpAny M A (letOwnedTupleGo tg (.ref it) u) Q E s := by
  unfold letOwnedTupleGo
  cases tg <;> first
    | exact wpAny_pure hQ
    | (cases u <;> first
        | exact wpAny_pure hQ
        | (refine wpAny_bind (wpAny_load ho ?_)
           rw [hc, hd]
           show wpAny M A (if (["enumerate", "zip", "dict_itemiterator", "dict_reverseitemiterator", "odict_iterator", "itertools.zip_longest", "itertools.pairwise"].contains n && vs[0]? == some (rawInt _)) = true then _ else _) Q E s
           rw [if_neg (by intro h; rw [hn, Bool.false_and] at h; cases h)]
           exact wpAny_pure hQ))

/-- the list at a, as it stands at each turn (a loop may append to it) -/
def Itl (K : PySem.W.Frag) (a : Addr) : It :=
  ⟨fun i H => ∃ xs x, SqL K H a xs ∧ xs[i]? = some x, fun i H x H' => H' = H ∧ ∀ xs, SqL K H a xs → xs[i]? = some x, fun i H => ∃ xs, SqL K H a xs ∧ xs.length ≤ i⟩
def Itt (K : PySem.W.Frag) (a : Addr) : It :=
  ⟨fun i H => ∃ xs x, SqT K H a xs ∧ xs[i]? = some x, fun i H x H' => H' = H ∧ ∀ xs, SqT K H a xs → xs[i]? = some x, fun i H => ∃ xs, SqT K H a xs ∧ xs.length ≤ i⟩
/-- lo, lo + 1, .. (n of them) -/
def Itr (lo : Int) (n : Nat) : It := ⟨fun i _ => i < n, fun i H x H' => H' = H ∧ x = .int (lo + i), fun i _ => n ≤ i⟩
theorem turn_list {P : Program} {w : World} {K : PySem.W.Frag} {tg : Expr} (a it : Addr) : Turn P w K tg (Itl K a) [it] it (fun i h => h.IsListIter it a i) where
  mem := by simp
  obj := fun i h st b hb => by
    have e : b = it := by simpa using hb
    subst e
    obtain ⟨o, e, c, d⟩ := st
    exact ⟨o, e, fun v z => by rw [d] at z; cases z⟩
  keep := fun i h h' st k => st.at fun o e => k it (by simp) o e
  item := by
    intro X hP hw hK hc i pins s σ H E I hf st hg
    subst hP hw hK
    obtain ⟨xs, x, hq, hx⟩ := hg
    obtain ⟨its, rv, p, hz⟩ := I.list hq
    obtain ⟨u, hu, ru⟩ := rv.get hx
    obtain ⟨f0, f1, f2, f3, f4, f5⟩ := hf it (by simp)
    refine wpAny_pyNext_list_item st p.isList (x := u) (by simpa using hu) fun h' st' sb => ?_
    have I1 : Inv X pins σ H { s with heap := h' } := I.turned (t' := s.toks) (fun b o hb e => (sb.2 b hb).trans e) f0 f1 f3 f4 f5
    obtain ⟨o, e, c, d⟩ := id st'
    exact ⟨u, rfl, go_of (s := { s with heap := h' }) e c d (by decide) ⟨x, H, I1, ru, ⟨rfl, fun ys hy => by rw [I.list_inj hy hq]; exact hx⟩, st', fun b hb => (hf b hb).1⟩⟩
  done := by
    intro X hP hw hK hc i pins s σ H E I hf st hg
    subst hP hw hK
    obtain ⟨xs, hq, hx⟩ := hg
    obtain ⟨its, rv, p, hz⟩ := I.list hq
    obtain ⟨f0, f1, f2, f3, f4, f5⟩ := hf it (by simp)
    have hl := rv.length
    exact wpAny_pyNext_list_end (I.ok.hd hc) st p.isList (by simp; omega) fun h' eb => ⟨rfl, I.turned (t' := s.toks) (fun b o hb e => eb b o hb e) f0 f1 f3 f4 f5⟩
  self := fun _ _ _ _ _ st h => wpAny_pyIter_listiter st h
theorem turn_tuple {P : Program} {w : World} {K : PySem.W.Frag} {tg : Expr} (a it : Addr) : Turn P w K tg (Itt K a) [it] it (fun i h => h.IsTupleIter it a i) where
  mem := by simp
  obj := fun i h st b hb => by
    have e : b = it := by simpa using hb
    subst e
    obtain ⟨o, e, c, d⟩ := st
    exact ⟨o, e, fun v z => by rw [d] at z; cases z⟩
  keep := fun i h h' st k => st.at fun o e => k it (by simp) o e
  item := by
    intro X hP hw hK hc i pins s σ H E I hf st hg
    subst hP hw hK
    obtain ⟨xs, x, hq, hx⟩ := hg
    obtain ⟨its, rv, p, hz⟩ := I.tuple hq
    obtain ⟨u, hu, ru⟩ := rv.get hx
    obtain ⟨f0, f1, f2, f3, f4, f5⟩ := hf it (by simp)
    refine wpAny_pyNext_tuple_item st (show s.heap.IsTuple a its.toArray from p) (x := u) (by simpa using hu) fun h' st' sb => ?_
    have I1 : Inv X pins σ H { s with heap := h' } := I.turned (t' := s.toks) (fun b o hb e => (sb.2 b hb).trans e) f0 f1 f3 f4 f5
    obtain ⟨o, e, c, d⟩ := id st'
    exact ⟨u, rfl, go_of (s := { s with heap := h' }) e c d (by decide) ⟨x, H, I1, ru, ⟨rfl, fun ys hy => by rw [I.tuple_inj hy hq]; exact hx⟩, st', fun b hb => (hf b hb).1⟩⟩
  done := by
    intro X hP hw hK hc i pins s σ H E I hf st hg
    subst hP hw hK
    obtain ⟨xs, hq, hx⟩ := hg
    obtain ⟨its, rv, p, hz⟩ := I.tuple hq
    obtain ⟨f0, f1, f2, f3, f4, f5⟩ := hf it (by simp)
    have hl := rv.length
    exact wpAny_pyNext_tuple_end (I.ok.hd hc) st (show s.heap.IsTuple a its.toArray from p) (by simp; omega) fun h' eb => ⟨rfl, I.turned (t' := s.toks) (fun b o hb e => eb b o hb e) f0 f1 f3 f4 f5⟩
  self := fun _ _ _ _ _ st h => wpAny_pyIter_tupleiter st h
theorem turn_range {P : Program} {w : World} {K : PySem.W.Frag} {tg : Expr} (it : Addr) (lo : Int) (n : Nat) : Turn P w K tg (Itr lo n) [it] it (fun i h => IsRangeIter h it (lo + (i : Nat) * 1) ((n : Int) - (i : Nat)) 1) where
  mem := by simp
  obj := fun i h st b hb => by
    have e : b = it := by simpa using hb
    subst e
    exact ⟨_, st, fun v z => by
      have z' : Data.fields _ = Data.cell v := z
      cases z'⟩
  keep := fun i h h' st k => k it (by simp) _ st
  item := by
    intro X hP hw hK hc i pins s σ H E I hf st hg
    subst hP hw hK
    obtain ⟨f0, f1, f2, f3, f4, f5⟩ := hf it (by simp)
    have W := Walks.range (prog := X.prog) (w := X.w) (I.ok.hd hc) it lo 1 n
    refine W.item i s _ _ hg st fun v h' tk hv st' kk => ?_
    obtain ⟨t, rfl⟩ := hv
    have I1 : Inv X pins σ H { s with heap := h', toks := tk } := I.turned (fun b o hb e => kk b o (by simpa using hb) e) f0 f1 f3 f4 f5
    refine ⟨_, rfl, go_of (s := { s with heap := h', toks := tk }) (n := "range_iterator") st' rfl rfl (by decide) ⟨.int (lo + i), H, I1, ⟨t, ?_⟩, ⟨rfl, rfl⟩, st', fun b hb => (hf b hb).1⟩⟩
    rw [Int.mul_one]
  done := by
    intro X hP hw hK hc i pins s σ H E I hf st hg
    subst hP hw hK
    obtain ⟨f0, f1, f2, f3, f4, f5⟩ := hf it (by simp)
    exact wpAny_pyNext_range_end (I.ok.hd hc) st (by have : n ≤ i := hg; omega) fun h' eb => ⟨rfl, I.turned (t' := s.toks) (fun b o hb e => eb b o hb e) f0 f1 f3 f4 f5⟩
  self := fun _ _ _ _ _ st h => wpAny_pyIter_rangeiter st h
end L2

namespace L2
open PySem PySem.Spec PyProof.Rows
section
variable {X : Cx} {tg : Expr}
def iList (K : PySem.W.Frag) (tl : TE) : TI := fun σ H R => tl σ H fun x H1 => ∃ a, x = .ref a ∧ (∃ xs, SqL K H1 a xs) ∧ R (Itl K a) H1
def iTup (K : PySem.W.Frag) (tl : TE) : TI := fun σ H R => tl σ H fun x H1 => ∃ a, x = .ref a ∧ (∃ xs, SqT K H1 a xs) ∧ R (Itt K a) H1
theorem pi_list {l : Expr} {tl : TE} (hl : PE X l tl) : PI X tg l (iList X.K tl) := by
  intro pins s σ H R I h
  refine thn (hl pins s σ H _ I h) fun v s1 ⟨x, H1, I1, r1, q1⟩ => ?_
  obtain ⟨a, e, ⟨xs, hq⟩, q⟩ := q1
  subst e
  cases r1
  obtain ⟨its, rv, p, hz⟩ := I1.list hq
  refine wpAny_pyIter_list p.isList ?_
  refine ⟨s1.heap.objs.size, [s1.heap.objs.size], _, _, H1, rfl, I1.kept (t' := s1.toks) fun b o e => Heap.get?_push_of_some _ e, turn_list a _, ⟨_, Heap.get?_push_size _ rfl, rfl, rfl⟩, fun b hb => ?_, q⟩
  have e : b = s1.heap.objs.size := by simpa using hb
  subst e
  exact I1.fpOk (Nat.le_refl _) (I1.hok.fresh (Nat.le_refl _))
theorem pi_tup {l : Expr} {tl : TE} (hl : PE X l tl) : PI X tg l (iTup X.K tl) := by
  intro pins s σ H R I h
  refine thn (hl pins s σ H _ I h) fun v s1 ⟨x, H1, I1, r1, q1⟩ => ?_
  obtain ⟨a, e, ⟨xs, hq⟩, q⟩ := q1
  subst e
  cases r1
  obtain ⟨its, rv, p, hz⟩ := I1.tuple hq
  refine wpAny_pyIter_tuple (show s1.heap.IsTuple a its.toArray from p) ?_
  refine ⟨s1.heap.objs.size, [s1.heap.objs.size], _, _, H1, rfl, I1.kept (t' := s1.toks) fun b o e => Heap.get?_push_of_some _ e, turn_tuple a _, ⟨_, Heap.get?_push_size _ rfl, rfl, rfl⟩, fun b hb => ?_, q⟩
  have e : b = s1.heap.objs.size := by simpa using hb
  subst e
  exact I1.fpOk (Nat.le_refl _) (I1.hok.fresh (Nat.le_refl _))
/-- a range object just made, walked -/
theorem range_it {pins : List (Addr × Obj)} {σ : St} {H : Hp} {s : Shared} {R : It → Hp → Prop} {E : Value → Shared → Prop} {lo hi : Int} {t u v : Tok} {tk : Nat} (I : Inv X pins σ H s) (h1 : -(2 ^ 62) ≤ lo) (h2 : lo < 2 ^ 62) (h3 : -(2 ^ 62) ≤ hi) (h4 : hi < 2 ^ 62)
    (q : R (Itr lo (hi - lo).toNat) H) : wpAny (model X.prog X.w) X.A (pyIter (.ref s.heap.objs.size)) (PIE X pins σ tg R) E { s with heap := s.heap.push { cls := .type "range", data := .fields #[.int lo t, .int hi u, .int 1 v] }, toks := tk } := by
  refine wpAny_pyIter_range (IsRange.new ..) (small_one h1 h2 h3 h4) ?_
  have I1 : Inv X pins σ H { s with heap := s.heap.push { cls := .type "range", data := .fields #[.int lo t, .int hi u, .int 1 v] }, toks := tk } := I.kept fun b o e => Heap.get?_push_of_some _ e
  refine ⟨(s.heap.push { cls := .type "range", data := .fields #[.int lo t, .int hi u, .int 1 v] }).objs.size, [(s.heap.push { cls := .type "range", data := .fields #[.int lo t, .int hi u, .int 1 v] }).objs.size], _, _, H, rfl,
    I1.kept (t' := tk) fun b o e => Heap.get?_push_of_some _ e, turn_range _ lo (hi - lo).toNat, ?_, fun b hb => ?_, q⟩
  · have e1 : lo + ((0 : Nat) : Int) * 1 = lo := by simp
    have e2 : (((hi - lo).toNat : Nat) : Int) - ((0 : Nat) : Int) = Builtin.Range.rangeSize lo hi 1 := by rw [rangeSize_one]; split <;> omega
    show IsRangeIter _ _ (lo + ((0 : Nat) : Int) * 1) ((((hi - lo).toNat : Nat) : Int) - ((0 : Nat) : Int)) 1
    rw [e1, e2]
    exact Heap.get?_push_size _ rfl
  · have e : b = (s.heap.push { cls := .type "range", data := .fields #[.int lo t, .int hi u, .int 1 v] }).objs.size := by simpa using hb
    subst e
    exact I1.fpOk (Nat.le_refl _) (I1.hok.fresh (Nat.le_refl _))
def iRng1 (ta : TA) : TI := fun σ H R => ta σ H fun vs H1 => ∃ j : Int, vs = [.int j] ∧ -(2 ^ 62) ≤ j ∧ j < 2 ^ 62 ∧ R (Itr 0 j.toNat) H1
def iRng2 (ta : TA) : TI := fun σ H R => ta σ H fun vs H1 => ∃ i j : Int, vs = [.int i, .int j] ∧ (-(2 ^ 62) ≤ i ∧ i < 2 ^ 62 ∧ -(2 ^ 62) ≤ j ∧ j < 2 ^ 62) ∧ R (Itr i (j - i).toNat) H1
theorem pi_range1 {a : Expr} {ta : TA} {p pos : Pos} (hg : Gl X "range") (hm : X.mg "range" = none) (ha : PA X [a] ta) (hs : starEach [a] X.env = [(false, eval a X.env)] := by rfl) : PI X tg (.Call (.Name "range" p) [a] [] pos) (iRng1 ta) := by
  intro pins s σ H R I h
  refine Call_ (ld_blt I hg hm boot_range (PyProof.Rows.callWith_type1 (thn (ha pos pins s σ H _ I h) fun us s1 ⟨vs, H1, I1, r1, q1⟩ => ?_) hs rfl))
  obtain ⟨j, e, q1, q2, q⟩ := q1
  subst e
  cases r1 with
  | cons r rr =>
    cases rr
    obtain ⟨t, rfl⟩ := r
    exact call_range_1 (range_it I1 (by omega) (by omega) q1 q2 (by simpa using q))
theorem pi_range2 {a b : Expr} {ta : TA} {p pos : Pos} (hg : Gl X "range") (hm : X.mg "range" = none) (ha : PA X [a, b] ta) (hs : starEach [a, b] X.env = [(false, eval a X.env), (false, eval b X.env)] := by rfl) (hs2 : starEach [b] X.env = [(false, eval b X.env)] := by rfl) :
    PI X tg (.Call (.Name "range" p) [a, b] [] pos) (iRng2 ta) := by
  intro pins s σ H R I h
  refine Call_ (ld_blt I hg hm boot_range (PyProof.Rows.callWith_type1 (thn (ha pos pins s σ H _ I h) fun us s1 ⟨vs, H1, I1, r1, q1⟩ => ?_) (by rw [hs, hs2]) (by rw [hs2]; rfl)))
  obtain ⟨i, j, e, ⟨q1, q2, q3, q4⟩, q⟩ := q1
  subst e
  cases r1 with
  | cons r rr =>
    cases rr with
    | cons r' rr =>
      cases rr
      obtain ⟨t, rfl⟩ := r
      obtain ⟨t', rfl⟩ := r'
      exact call_range_2 (range_it I1 q1 q2 q3 q4 q)

/-! ### for -/
/-- W: the invariant by the turn and a measure; N: what the body is to reach -/
def tFor (wi : TI) (g : TG) (tb : TS) : TS := fun D σ H => wi σ H fun J H1 => ∃ W : Nat → Nat → St → Hp → Prop, (∃ m, W 0 m σ H1) ∧ ∀ i m σ H, W i m σ H →
  (J.stop i H ∧ D.nx σ H) ∨ (J.go i H ∧ ∃ N : St → Hp → Prop, (∀ σ' H', N σ' H' → ∃ m', m' < m ∧ W (i + 1) m' σ' H') ∧ ∀ x H', J.yld i H x H' → g x σ H' fun σ2 H2 => tb { D with nx := N, ct := N, bk := D.nx } σ2 H2)
/-- the records at fp as they stand -/
def pinsAt (fp : List Addr) (h : Heap) : List (Addr × Obj) := fp.filterMap fun b => (h.get? b).map fun o => (b, o)
theorem mem_pinsAt {fp : List Addr} {h : Heap} {b : Addr} {o : Obj} (hb : b ∈ fp) (e : h.get? b = some o) : (b, o) ∈ pinsAt fp h := List.mem_filterMap.mpr ⟨b, hb, by rw [e]; rfl⟩
theorem of_pinsAt {fp : List Addr} {h : Heap} {p : Addr × Obj} (hp : p ∈ pinsAt fp h) : p.1 ∈ fp ∧ h.get? p.1 = some p.2 := by
  obtain ⟨b, hb, e⟩ := List.mem_filterMap.mp hp
  cases q : h.get? b with
  | none => rw [q] at e; cases e
  | some o =>
    rw [q] at e
    have e' : (b, o) = p := Option.some.inj e
    subst e'
    exact ⟨hb, q⟩
theorem Inv.pinned {pins : List (Addr × Obj)} {σ : St} {H : Hp} {s : Shared} {fp : List Addr} (I : Inv X pins σ H s) (hf : ∀ b ∈ fp, FpOk X pins H b) (ho : ∀ b ∈ fp, ∃ o, s.heap.get? b = some o ∧ ∀ v, o.data ≠ .cell v) : Inv X (pins ++ pinsAt fp s.heap) σ H s :=
  I.pins_of fun p hp => (List.mem_append.mp hp).elim (fun z => I.pin p (List.mem_append_right _ z)) fun z => by
    obtain ⟨hb, e⟩ := of_pinsAt z
    obtain ⟨f0, f1, f2, _⟩ := hf p.1 hb
    obtain ⟨o, e', d⟩ := ho p.1 hb
    rw [e] at e'; cases e'
    exact ⟨e, f0, f1, f2, d⟩
theorem Inv.unpinned {pins pl : List (Addr × Obj)} {σ : St} {H : Hp} {s : Shared} (I : Inv X (pins ++ pl) σ H s) : Inv X pins σ H s := I.pins_of fun p hp => I.pin p (List.mem_append_right _ (List.mem_append_left _ hp))
theorem ps_for {iter : Expr} {body : List Stmt} {wi : TI} {g : TG} {tb : TS} {pos : Pos} (hp : PassesOwn (model X.prog X.w) X.A X.env X.xe) (hc : X.calm = true) (hi : PI X tg iter wi) (hg : PG X tg g) (hb : PSs X body tb)
    (hs : ∀ x, foldedSetIterable iter X.env x = pure x := by intro _; rfl) : PS X (.For tg iter body [] pos) (tFor wi g tb) := by
  intro pins s σ H D I h
  refine wpAny_For (thn (hi pins s σ H _ I h) fun v s1 h1 => thn h1 fun itv s2 h2 => ?_) hs
  obtain ⟨it, fp, tn, J, H2, e, I2, T, st2, f2, W, ⟨m0, w0⟩, turn⟩ := h2
  subst e
  -- what stays true of the iterator's objects through the loop
  have stat : ∀ {H' : Hp}, (∀ b ∈ fp, H' b = none) → ∀ b ∈ fp, FpOk X pins H' b := fun hn b hb => ⟨hn b hb, (f2 b hb).2⟩
  refine codeAny_forLoop_any (fun n s' => ∃ i σ' H', Inv X pins σ' H' s' ∧ tn i s'.heap ∧ (∀ b ∈ fp, H' b = none) ∧ W i n σ' H') ?_ m0 ⟨0, σ, H2, I2, st2, fun b hb => (f2 b hb).1, w0⟩
  rintro n s3 ⟨i, σ3, H3, I3, st3, fr3, w3⟩
  rcases turn i n σ3 H3 w3 with ⟨stop, qn⟩ | ⟨go, N, hN, step⟩
  · refine wpAny_passesOwn hp (thn (T.done X rfl rfl rfl hc i pins s3 σ3 H3 X.xe I3 (stat fr3) st3 stop) fun r s4 ⟨hr, I4⟩ => ?_)
    subst hr
    exact wpAny_execs_nil ⟨σ3, H3, I4, qn⟩
  · refine wpAny_passesOwn hp (thn (T.item X rfl rfl rfl hc i pins s3 σ3 H3 X.xe I3 (stat fr3) st3 go) fun r s4 ⟨u, hr, h4⟩ => ?_)
    subst hr
    refine wpAny_passesOwn hp (thn h4 fun _ s5 ⟨x, H5, I5, r5, y5, st5, fr5⟩ => ?_)
    have I5' := I5.pinned (stat fr5) (T.obj _ _ st5)
    refine wpAny_passesOwn hp (thn (hg _ s5 σ3 H5 x u _ I5' r5 (step x H5 y5)) fun _ s6 ⟨σ6, H6, I6, q6⟩ => ?_)
    refine wpAny_passesOwn hp (thn (hb _ s6 σ6 H6 _ I6 q6) fun f s7 q7 => ?_)
    have again : ∀ {σ7 : St} {H7 : Hp}, Inv X (pins ++ pinsAt fp s5.heap) σ7 H7 s7 → N σ7 H7 → ∃ m, m < n ∧ ∃ i σ' H', Inv X pins σ' H' s7 ∧ tn i s7.heap ∧ (∀ b ∈ fp, H' b = none) ∧ W i m σ' H' := fun {σ7 H7} I7 n7 => by
      obtain ⟨m', hm, w7⟩ := hN σ7 H7 n7
      refine ⟨m', hm, i + 1, σ7, H7, I7.unpinned, T.keep _ _ _ st5 fun b hb o e => (I7.pin (b, o) (List.mem_append_right _ (List.mem_append_right _ (mem_pinsAt hb e)))).1, fun b hb => ?_, w7⟩
      obtain ⟨o, e, d⟩ := T.obj _ _ st5 b hb
      exact (I7.pin (b, o) (List.mem_append_right _ (List.mem_append_right _ (mem_pinsAt hb e)))).2.1
    cases f with
    | next => obtain ⟨σ7, H7, I7, n7⟩ := q7; exact again I7 n7
    | cont => obtain ⟨σ7, H7, I7, n7⟩ := q7; exact again I7 n7
    | brk => obtain ⟨σ7, H7, I7, q7⟩ := q7; exact ⟨σ7, H7, I7.unpinned, q7⟩
    | ret v => obtain ⟨x7, σ7, H7, I7, r7, q7⟩ := q7; exact ⟨x7, σ7, H7, I7.unpinned, r7, q7⟩
end

/-! ### the forms one uses -/
/-- over a list that the body leaves as it is -/
theorem for_list {K : PySem.W.Frag} {a : Addr} {xs : List V} {g : TG} {tb : TS} {D : Ends} {σ : St} {H : Hp} (Pv : Nat → St → Hp → Prop) (h0 : Pv 0 σ H) (hl : ∀ i σ H, i ≤ xs.length → Pv i σ H → SqL K H a xs)
    (hs : ∀ i x σ H, xs[i]? = some x → Pv i σ H → g x σ H fun σ2 H2 => tb { D with nx := Pv (i + 1), ct := Pv (i + 1), bk := D.nx } σ2 H2) (hd : ∀ σ H, Pv xs.length σ H → D.nx σ H) :
    ∃ W : Nat → Nat → St → Hp → Prop, (∃ m, W 0 m σ H) ∧ ∀ i m σ H, W i m σ H →
      ((Itl K a).stop i H ∧ D.nx σ H) ∨ ((Itl K a).go i H ∧ ∃ N : St → Hp → Prop, (∀ σ' H', N σ' H' → ∃ m', m' < m ∧ W (i + 1) m' σ' H') ∧ ∀ x H', (Itl K a).yld i H x H' → g x σ H' fun σ2 H2 => tb { D with nx := N, ct := N, bk := D.nx } σ2 H2) := by
  refine ⟨fun i m σ H => m = xs.length - i ∧ i ≤ xs.length ∧ Pv i σ H, ⟨xs.length, by simp, Nat.zero_le _, h0⟩, ?_⟩
  rintro i m σ H ⟨rfl, hi, p⟩
  have q := hl i σ H hi p
  by_cases hlt : i < xs.length
  · refine .inr ⟨⟨xs, xs[i], q, by simp [hlt]⟩, Pv (i + 1), fun σ' H' p' => ⟨xs.length - (i + 1), by omega, rfl, hlt, p'⟩, fun x H' y => ?_⟩
    obtain ⟨e, y⟩ := y
    subst e
    exact hs i x σ _ (y xs q) p
  · have e : i = xs.length := by omega
    subst e
    exact .inl ⟨⟨xs, q, Nat.le_refl _⟩, hd σ H p⟩
theorem for_tup {K : PySem.W.Frag} {a : Addr} {xs : List V} {g : TG} {tb : TS} {D : Ends} {σ : St} {H : Hp} (Pv : Nat → St → Hp → Prop) (h0 : Pv 0 σ H) (hl : ∀ i σ H, i ≤ xs.length → Pv i σ H → SqT K H a xs)
    (hs : ∀ i x σ H, xs[i]? = some x → Pv i σ H → g x σ H fun σ2 H2 => tb { D with nx := Pv (i + 1), ct := Pv (i + 1), bk := D.nx } σ2 H2) (hd : ∀ σ H, Pv xs.length σ H → D.nx σ H) :
    ∃ W : Nat → Nat → St → Hp → Prop, (∃ m, W 0 m σ H) ∧ ∀ i m σ H, W i m σ H →
      ((Itt K a).stop i H ∧ D.nx σ H) ∨ ((Itt K a).go i H ∧ ∃ N : St → Hp → Prop, (∀ σ' H', N σ' H' → ∃ m', m' < m ∧ W (i + 1) m' σ' H') ∧ ∀ x H', (Itt K a).yld i H x H' → g x σ H' fun σ2 H2 => tb { D with nx := N, ct := N, bk := D.nx } σ2 H2) := by
  refine ⟨fun i m σ H => m = xs.length - i ∧ i ≤ xs.length ∧ Pv i σ H, ⟨xs.length, by simp, Nat.zero_le _, h0⟩, ?_⟩
  rintro i m σ H ⟨rfl, hi, p⟩
  have q := hl i σ H hi p
  by_cases hlt : i < xs.length
  · refine .inr ⟨⟨xs, xs[i], q, by simp [hlt]⟩, Pv (i + 1), fun σ' H' p' => ⟨xs.length - (i + 1), by omega, rfl, hlt, p'⟩, fun x H' y => ?_⟩
    obtain ⟨e, y⟩ := y
    subst e
    exact hs i x σ _ (y xs q) p
  · have e : i = xs.length := by omega
    subst e
    exact .inl ⟨⟨xs, q, Nat.le_refl _⟩, hd σ H p⟩
theorem for_range {lo : Int} {n : Nat} {g : TG} {tb : TS} {D : Ends} {σ : St} {H : Hp} (Pv : Nat → St → Hp → Prop) (h0 : Pv 0 σ H)
    (hs : ∀ i σ H, i < n → Pv i σ H → g (.int (lo + i)) σ H fun σ2 H2 => tb { D with nx := Pv (i + 1), ct := Pv (i + 1), bk := D.nx } σ2 H2) (hd : ∀ σ H, Pv n σ H → D.nx σ H) :
    ∃ W : Nat → Nat → St → Hp → Prop, (∃ m, W 0 m σ H) ∧ ∀ i m σ H, W i m σ H →
      ((Itr lo n).stop i H ∧ D.nx σ H) ∨ ((Itr lo n).go i H ∧ ∃ N : St → Hp → Prop, (∀ σ' H', N σ' H' → ∃ m', m' < m ∧ W (i + 1) m' σ' H') ∧ ∀ x H', (Itr lo n).yld i H x H' → g x σ H' fun σ2 H2 => tb { D with nx := N, ct := N, bk := D.nx } σ2 H2) := by
  refine ⟨fun i m σ H => m = n - i ∧ i ≤ n ∧ Pv i σ H, ⟨n, by simp, Nat.zero_le _, h0⟩, ?_⟩
  rintro i m σ H ⟨rfl, hi, p⟩
  by_cases hlt : i < n
  · refine .inr ⟨hlt, Pv (i + 1), fun σ' H' p' => ⟨n - (i + 1), by omega, rfl, hlt, p'⟩, fun x H' y => ?_⟩
    obtain ⟨e, y⟩ := y
    subst e y
    exact hs i σ _ hlt p
  · have e : i = n := by omega
    subst e
    exact .inl ⟨Nat.le_refl _, hd σ H p⟩
/-- while, by a word and a measure of the state -/
theorem while_by {c : TT} {tb : TS} {D : Ends} {σ : St} {H : Hp} (Pv : St → Hp → Prop) (μ : St → Hp → Nat) (h0 : Pv σ H)
    (hs : ∀ σ H, Pv σ H → c σ H fun b H1 => if b = true then tb { D with nx := fun σ' H' => Pv σ' H' ∧ μ σ' H' < μ σ H, ct := fun σ' H' => Pv σ' H' ∧ μ σ' H' < μ σ H, bk := D.nx } σ H1 else D.nx σ H1)
    (mono : ∀ σ H Q Q', (∀ b H1, Q b H1 → Q' b H1) → c σ H Q → c σ H Q') : tWhile c tb D σ H := by
  refine ⟨fun m σ H => m = μ σ H ∧ Pv σ H, ⟨_, rfl, h0⟩, ?_⟩
  rintro m σ H ⟨rfl, p⟩
  refine mono σ H _ _ (fun b H1 q => ?_) (hs σ H p)
  cases b with
  | true => exact ⟨_, fun σ' H' ⟨p', l⟩ => ⟨_, l, rfl, p'⟩, q⟩
  | false => exact q
end L2

namespace L2
open PySem PySem.Spec PyProof.Rows

abbrev R2 := V → V → Hp → VK → Prop
/-- a two-place operation on values: f is binaryOp op, inplaceOp op or compareOp op -/
def OpR (X : Cx) (f : Value → Value → Sem Value) (r : R2) : Prop :=
  ∀ (pins : List (Addr × Obj)) (s : Shared) (σ : St) (H : Hp) (x y : V) (v u : Value) (Q : VK), Inv X pins σ H s → RelV x v → RelV y u → r x y H Q →
    wpAny (model X.prog X.w) X.A (f v u) (EP X pins σ Q) X.xe s
/-- a one-place operation -/
def UnR (X : Cx) (f : Value → Sem Value) (r : V → Hp → VK → Prop) : Prop :=
  ∀ (pins : List (Addr × Obj)) (s : Shared) (σ : St) (H : Hp) (x : V) (v : Value) (Q : VK), Inv X pins σ H s → RelV x v → r x H Q →
    wpAny (model X.prog X.w) X.A (f v) (EP X pins σ Q) X.xe s
/-- a call of a value that is known (a builtin, a type) with values -/
def CallR (X : Cx) (f : Value) (r : List V → Hp → VK → Prop) : Prop :=
  ∀ (pins : List (Addr × Obj)) (s : Shared) (σ : St) (H : Hp) (xs : List V) (us : List Value) (Q : VK), Inv X pins σ H s → Vals xs us → r xs H Q →
    wpAny (model X.prog X.w) X.A (call f us) (EP X pins σ Q) X.xe s
/-- a value's truth -/
def TruR (X : Cx) (r : V → Hp → (Bool → Hp → Prop) → Prop) : Prop :=
  ∀ (pins : List (Addr × Obj)) (s : Shared) (σ : St) (H : Hp) (x : V) (v : Value) (Q : Bool → Hp → Prop), Inv X pins σ H s → RelV x v → r x H Q →
    wpAny (model X.prog X.w) X.A (truthy v) (TP X pins σ Q) X.xe s

def tOp (r : R2) (ta tb : TE) : TE := fun σ H Q => ta σ H fun x H1 => tb σ H1 fun y H2 => r x y H2 Q
def tUn (r : V → Hp → VK → Prop) (ta : TE) : TE := fun σ H Q => ta σ H fun x H1 => r x H1 Q
/-- ints in, under C, and a value out -/
def rI (C : Int → Int → Prop) (g : Int → Int → V) : R2 := fun x y H Q => ∃ i j, x = .int i ∧ y = .int j ∧ C i j ∧ Q (g i j) H
def rI0 (g : Int → Int → V) : R2 := fun x y H Q => ∃ i j, x = .int i ∧ y = .int j ∧ Q (g i j) H
def rU (g : Int → V) : V → Hp → VK → Prop := fun x H Q => ∃ i, x = .int i ∧ Q (g i) H

section
variable {X : Cx} {a b c : Expr} {ta tb tc : TE} {pos : Pos}

theorem binT (ha : PE X a ta) (hb : PE X b tb) {pins : List (Addr × Obj)} {s : Shared} {σ : St} {H : Hp} {R : V → V → Hp → Prop} (I : Inv X pins σ H s)
    (h : ta σ H fun x H1 => tb σ H1 fun y H2 => R x y H2) {Q : Value → Shared → Prop} {f : Value → Value → Sem Value}
    (hf : ∀ v u s2 x y H2, Inv X pins σ H2 s2 → RelV x v → RelV y u → R x y H2 → wpAny (model X.prog X.w) X.A (f v u) Q X.xe s2) :
    wpAny (model X.prog X.w) X.A (eval a X.env) (fun v s₁ => wpAny (model X.prog X.w) X.A (eval b X.env) (fun u s₂ => wpAny (model X.prog X.w) X.A (f v u) Q X.xe s₂) X.xe s₁) X.xe s := by
  refine thn (ha pins s σ H _ I h) fun v s1 ⟨x, H1, I1, r1, q1⟩ => ?_
  refine thn (hb pins s1 σ H1 _ I1 q1) fun u s2 ⟨y, H2, I2, r2, q2⟩ => ?_
  exact hf v u s2 x y H2 I2 r1 r2 q2

theorem pe_op {op : Operator} {r : R2} (ho : OpR X (binaryOp op) r) (ha : PE X a ta) (hb : PE X b tb) : PE X (.BinOp a op b pos) (tOp r ta tb) := by
  intro pins s σ H Q I h
  exact wpAny_BinOp (binT ha hb I h fun v u s2 x y H2 I2 rx ry q => ho pins s2 σ H2 x y v u Q I2 rx ry q)
theorem pe_un {op : UnaryOp} {r : V → Hp → VK → Prop} (ho : UnR X (unaryOp op) r) (ha : PE X a ta) : PE X (.UnaryOp op a pos) (tUn r ta) := by
  intro pins s σ H Q I h
  exact UnaryOp_ (thn (ha pins s σ H _ I h) fun v s1 ⟨x, H1, I1, r1, q1⟩ => ho pins s1 σ H1 x v Q I1 r1 q1)
/-- a op= e at a name: the name's slot i -/
theorem augR {op : Operator} {r : R2} (ho : OpR X (inplaceOp op) r) {pins : List (Addr × Obj)} {s : Shared} {σ : St} {H : Hp} {x y : V} {v u : Value} {Q : VK} (I : Inv X pins σ H s)
    (rx : RelV x v) (ry : RelV y u) (q : r x y H Q) : wpAny (model X.prog X.w) X.A (inplaceOp op v u) (EP X pins σ Q) X.xe s := ho pins s σ H x y v u Q I rx ry q

/-! ### ints -/
theorem opI {f : Value → Value → Sem Value} {C : Int → Int → Prop} {g : Int → Int → Int}
    (rule : ∀ (i j : Int) (t u : Tok) (s : Shared) (Q : Value → Shared → Prop) (E : Value → Shared → Prop), C i j → Q (.int (g i j) s.toks) { s with toks := s.toks + 1 } → wpAny (model X.prog X.w) X.A (f (.int i t) (.int j u)) Q E s) :
    OpR X f (rI C fun i j => .int (g i j)) := by
  intro pins s σ H x y v u Q I rx ry h
  obtain ⟨i, j, rfl, rfl, hc, q⟩ := h
  obtain ⟨t, rfl⟩ := rx
  obtain ⟨t', rfl⟩ := ry
  exact rule i j t t' s _ _ hc ⟨.int (g i j), H, I.tok _, ⟨_, rfl⟩, q⟩
theorem opI0 {f : Value → Value → Sem Value} {g : Int → Int → Int}
    (rule : ∀ (i j : Int) (t u : Tok) (s : Shared) (Q : Value → Shared → Prop) (E : Value → Shared → Prop), Q (.int (g i j) s.toks) { s with toks := s.toks + 1 } → wpAny (model X.prog X.w) X.A (f (.int i t) (.int j u)) Q E s) :
    OpR X f (rI0 fun i j => .int (g i j)) := by
  intro pins s σ H x y v u Q I rx ry h
  obtain ⟨i, j, rfl, rfl, q⟩ := h
  obtain ⟨t, rfl⟩ := rx
  obtain ⟨t', rfl⟩ := ry
  exact rule i j t t' s _ _ ⟨.int (g i j), H, I.tok _, ⟨_, rfl⟩, q⟩
theorem opB0 {f : Value → Value → Sem Value} {g : Int → Int → Bool}
    (rule : ∀ (i j : Int) (t u : Tok) (s : Shared) (Q : Value → Shared → Prop) (E : Value → Shared → Prop), Q (.bool (g i j)) s → wpAny (model X.prog X.w) X.A (f (.int i t) (.int j u)) Q E s) :
    OpR X f (rI0 fun i j => .bl (g i j)) := by
  intro pins s σ H x y v u Q I rx ry h
  obtain ⟨i, j, rfl, rfl, q⟩ := h
  obtain ⟨t, rfl⟩ := rx
  obtain ⟨t', rfl⟩ := ry
  exact rule i j t t' s _ _ ⟨.bl (g i j), H, I, rfl, q⟩

def CDiv (i j : Int) : Prop := 0 < j ∧ j < 1073741824
def CDivN (i j : Int) : Prop := j ≠ 0 ∧ j.natAbs < 1073741824
def CPow (i j : Int) : Prop := 0 ≤ j ∧ j ≤ 1000000 ∧ i.natAbs < 2 ^ 64
def CMul (i j : Int) : Prop := (-(2 ^ 64) < i ∧ i < 2 ^ 64) ∨ (-(2 ^ 64) < j ∧ j < 2 ^ 64)
theorem CMul.ok {i j : Int} (h : CMul i j) : IntMulOk i j := by
  rcases h with ⟨h1, h2⟩ | ⟨h1, h2⟩
  · exact .of_left (intBits_le_64 h1 h2)
  · exact .of_right (intBits_le_64 h1 h2)
theorem two_pow_nn (k : Nat) : (0 : Int) ≤ 2 ^ k := by
  rw [two_pow_cast]
  exact Int.natCast_nonneg _

theorem op_add : OpR X (binaryOp .Add) (rI0 fun i j => .int (i + j)) := opI0 fun _ _ _ _ _ _ _ q => add_int q
theorem op_sub : OpR X (binaryOp .Sub) (rI0 fun i j => .int (i - j)) := opI0 fun _ _ _ _ _ _ _ q => sub_int q
theorem op_mul : OpR X (binaryOp .Mult) (rI CMul fun i j => .int (i * j)) := opI fun _ _ _ _ _ _ _ hc q => mul_int q hc.ok
/-- // by a positive divisor -/
theorem op_fdiv : OpR X (binaryOp .FloorDiv) (rI CDiv fun i j => .int (i / j)) := opI fun i j _ _ _ _ _ hc q => by
  have h1 : (0 : Int) < j := hc.1
  have h2 : j < 1073741824 := hc.2
  exact floordiv_int (by omega) (by rw [Int.fdiv_eq_ediv_of_nonneg i (by omega)]; exact q) (.inl (PyProof.noPylong_small (by omega)))
theorem op_fdivN : OpR X (binaryOp .FloorDiv) (rI CDivN fun i j => .int (i.fdiv j)) := opI fun _ _ _ _ _ _ _ hc q => floordiv_int hc.1 q (.inl (PyProof.noPylong_small hc.2))
/-- % by a positive divisor of any size -/
theorem op_mod : OpR X (binaryOp .Mod) (rI (fun _ j => 0 < j) fun i j => .int (i % j)) := opI fun i j _ _ _ _ _ hc q => by
  have h1 : (0 : Int) < j := hc
  exact mod_int' (by omega) (by rw [Int.fmod_eq_emod_of_nonneg i (by omega)]; exact q)
theorem op_modN : OpR X (binaryOp .Mod) (rI (fun _ j => j ≠ 0) fun i j => .int (i.fmod j)) := opI fun _ _ _ _ _ _ _ hc q => mod_int' hc q
theorem op_pow : OpR X (binaryOp .Pow) (rI CPow fun i j => .int (i ^ j.toNat)) := opI fun _ _ _ _ _ _ _ hc q => pow_int_small hc.1 hc.2.1 hc.2.2 q
theorem op_shl : OpR X (binaryOp .LShift) (rI CPow fun i j => .int (i * 2 ^ j.toNat)) := opI fun _ _ _ _ _ _ _ hc q => lshift_int_small hc.1 hc.2.1 hc.2.2 q
theorem op_shr : OpR X (binaryOp .RShift) (rI (fun _ j => 0 ≤ j) fun i j => .int (i / 2 ^ j.toNat)) := opI fun i j _ _ _ _ _ hc q =>
  rshift_int hc (by rw [Int.fdiv_eq_ediv_of_nonneg i (two_pow_nn _)]; exact q)
theorem op_and : OpR X (binaryOp .BitAnd) (rI0 fun i j => .int (Builtin.bitAnd i j)) := opI0 fun _ _ _ _ _ _ _ q => and_int q
theorem op_or : OpR X (binaryOp .BitOr) (rI0 fun i j => .int (Builtin.bitOr i j)) := opI0 fun _ _ _ _ _ _ _ q => or_int q
theorem op_xor : OpR X (binaryOp .BitXor) (rI0 fun i j => .int (Builtin.bitXor i j)) := opI0 fun _ _ _ _ _ _ _ q => xor_int q

theorem iop_add : OpR X (inplaceOp .Add) (rI0 fun i j => .int (i + j)) := opI0 fun _ _ _ _ _ _ _ q => iadd_int q
theorem iop_sub : OpR X (inplaceOp .Sub) (rI0 fun i j => .int (i - j)) := opI0 fun _ _ _ _ _ _ _ q => isub_int q
theorem iop_mul : OpR X (inplaceOp .Mult) (rI CMul fun i j => .int (i * j)) := opI fun _ _ _ _ _ _ _ hc q => imul_int q hc.ok
theorem iop_fdiv : OpR X (inplaceOp .FloorDiv) (rI CDiv fun i j => .int (i / j)) := opI fun i j _ _ _ _ _ hc q => by
  have h1 : (0 : Int) < j := hc.1
  have h2 : j < 1073741824 := hc.2
  exact ifloordiv_int (by omega) (by rw [Int.fdiv_eq_ediv_of_nonneg i (by omega)]; exact q) (.inl (PyProof.noPylong_small (by omega)))
theorem iop_mod : OpR X (inplaceOp .Mod) (rI (fun _ j => 0 < j) fun i j => .int (i % j)) := opI fun i j _ _ _ _ _ hc q => by
  have h1 : (0 : Int) < j := hc
  exact imod_int (by omega) (by rw [Int.fmod_eq_emod_of_nonneg i (by omega)]; exact q)
theorem iop_shl : OpR X (inplaceOp .LShift) (rI CPow fun i j => .int (i * 2 ^ j.toNat)) := opI fun _ _ _ _ _ _ _ hc q => ilshift_int_small hc.1 hc.2.1 hc.2.2 q
theorem iop_shr : OpR X (inplaceOp .RShift) (rI (fun _ j => 0 ≤ j) fun i j => .int (i / 2 ^ j.toNat)) := opI fun i j _ _ _ _ _ hc q =>
  irshift_int hc (by rw [Int.fdiv_eq_ediv_of_nonneg i (two_pow_nn _)]; exact q)
theorem iop_and : OpR X (inplaceOp .BitAnd) (rI0 fun i j => .int (Builtin.bitAnd i j)) := opI0 fun _ _ _ _ _ _ _ q => iand_int q
theorem iop_or : OpR X (inplaceOp .BitOr) (rI0 fun i j => .int (Builtin.bitOr i j)) := opI0 fun _ _ _ _ _ _ _ q => ior_int q
theorem iop_xor : OpR X (inplaceOp .BitXor) (rI0 fun i j => .int (Builtin.bitXor i j)) := opI0 fun _ _ _ _ _ _ _ q => ixor_int q

theorem unI {f : Value → Sem Value} {g : Int → Int}
    (rule : ∀ (i : Int) (t : Tok) (s : Shared) (Q : Value → Shared → Prop) (E : Value → Shared → Prop), Q (.int (g i) s.toks) { s with toks := s.toks + 1 } → wpAny (model X.prog X.w) X.A (f (.int i t)) Q E s) :
    UnR X f (rU fun i => .int (g i)) := by
  intro pins s σ H x v Q I rx h
  obtain ⟨i, rfl, q⟩ := h
  obtain ⟨t, rfl⟩ := rx
  exact rule i t s _ _ ⟨.int (g i), H, I.tok _, ⟨_, rfl⟩, q⟩
theorem un_neg : UnR X (unaryOp .USub) (rU fun i => .int (-i)) := unI fun _ _ _ _ _ q => neg_int q
theorem un_inv : UnR X (unaryOp .Invert) (rU fun i => .int (Builtin.bitNot i)) := unI fun _ _ _ _ _ q => invert_int q

/-! ### bools among ints: n += (a < b) -/
theorem op_add_ib : OpR X (binaryOp .Add) (fun x y H Q => ∃ i k, x = .int i ∧ y = .bl k ∧ Q (.int (i + b2i k)) H) := by
  intro pins s σ H x y v u Q I rx ry h
  obtain ⟨i, k, rfl, rfl, q⟩ := h
  obtain ⟨t, rfl⟩ := rx
  cases ry
  exact add_int_bool ⟨.int (i + b2i k), H, I.tok _, ⟨_, rfl⟩, q⟩
end

/-! ### comparisons -/
/-- the scalars that == tells apart as data does -/
def scal : V → V → Bool
  | .non, .non => true | .non, .int _ => true | .int _, .non => true | .non, .bl _ => true | .bl _, .non => true | .non, .str _ => true | .str _, .non => true
  | .int _, .int _ => true | .bl _, .bl _ => true | .str _, .str _ => true | .byt _, .byt _ => true
  | .int _, .str _ => true | .str _, .int _ => true | .bl _, .str _ => true | .str _, .bl _ => true
  | _, _ => false
def rEq : R2 := fun x y H Q => scal x y = true ∧ Q (.bl (decide (x = y))) H
def rNe : R2 := fun x y H Q => scal x y = true ∧ Q (.bl (!decide (x = y))) H

theorem dec_int {i j : Int} : decide (V.int i = V.int j) = (i == j) := by
  rw [Bool.eq_iff_iff]
  simp
theorem dec_bl {i j : Bool} : decide (V.bl i = V.bl j) = (i == j) := by
  rw [Bool.eq_iff_iff]
  simp
theorem dec_str {i j : Str} : decide (V.str i = V.str j) = (i == j) := by
  rw [Bool.eq_iff_iff]
  simp
theorem dec_byt {i j : Array UInt8} : decide (V.byt i = V.byt j) = (i.toList == j.toList) := by
  rw [Bool.eq_iff_iff]
  cases i
  cases j
  simp

section
variable {X : Cx} {a b c : Expr} {ta tb tc : TE} {pos : Pos}
theorem fin_bl {pins : List (Addr × Obj)} {σ : St} {H : Hp} {s : Shared} {Q : VK} {k k' : Bool} (I : Inv X pins σ H s) (q : Q (.bl k) H) (e : k = k') : EP X pins σ Q (.bool k') s := by
  subst e
  exact ⟨.bl k, H, I, rfl, q⟩
theorem op_eq : OpR X (compareOp .Eq) rEq := by
  intro pins s σ H x y v u Q I rx ry h
  obtain ⟨hs, q⟩ := h
  cases x with
  | non =>
    cases rx
    cases y with
    | non => cases ry; exact PySem.EqNone.eq_none_none (fin_bl I q (by simp))
    | bl j => cases ry; exact PySem.EqNone.eq_none_bool (fin_bl I q (by simp))
    | int j => obtain ⟨t', rfl⟩ := ry; exact PySem.EqNone.eq_none_int (fin_bl I q (by simp))
    | str j => obtain ⟨t', rfl⟩ := ry; exact PySem.EqNone.eq_none_str (fin_bl I q (by simp))
    | _ => exact absurd (show false = true from hs) Bool.false_ne_true
  | bl i =>
    cases rx
    cases y with
    | non => cases ry; exact PySem.EqNone.eq_bool_none (fin_bl I q (by simp))
    | bl j => cases ry; exact eq_bool (fin_bl I q dec_bl)
    | str j => obtain ⟨t', rfl⟩ := ry; exact PySem.EqMixed.eq_bool_str (fin_bl I q (by simp))
    | _ => exact absurd (show false = true from hs) Bool.false_ne_true
  | int i =>
    obtain ⟨t, rfl⟩ := rx
    cases y with
    | non => cases ry; exact PySem.EqNone.eq_int_none (fin_bl I q (by simp))
    | int j => obtain ⟨t', rfl⟩ := ry; exact eq_int (fin_bl I q dec_int)
    | str j => obtain ⟨t', rfl⟩ := ry; exact PySem.EqMixed.eq_int_str (fin_bl I q (by simp))
    | _ => exact absurd (show false = true from hs) Bool.false_ne_true
  | str i =>
    obtain ⟨t, rfl⟩ := rx
    cases y with
    | non => cases ry; exact PySem.EqNone.eq_str_none (fin_bl I q (by simp))
    | bl j => cases ry; exact PySem.EqMixed.eq_str_bool (fin_bl I q (by simp))
    | int j => obtain ⟨t', rfl⟩ := ry; exact PySem.EqMixed.eq_str_int (fin_bl I q (by simp))
    | str j => obtain ⟨t', rfl⟩ := ry; exact eq_str (fin_bl I q dec_str)
    | _ => exact absurd (show false = true from hs) Bool.false_ne_true
  | byt i =>
    obtain ⟨t, rfl⟩ := rx
    cases y with
    | byt j => obtain ⟨t', rfl⟩ := ry; exact PySem.W.eq_bytes (fin_bl I q dec_byt)
    | _ => exact absurd (show false = true from hs) Bool.false_ne_true
  | _ => cases y <;> exact absurd (show false = true from hs) Bool.false_ne_true
theorem op_ne : OpR X (compareOp .NotEq) rNe := by
  intro pins s σ H x y v u Q I rx ry h
  obtain ⟨hs, q⟩ := h
  cases x with
  | non =>
    cases rx
    cases y with
    | non => cases ry; exact PySem.EqNone.ne_none_none (fin_bl I q (by simp))
    | bl j => cases ry; exact PySem.EqNone.ne_none_bool (fin_bl I q (by simp))
    | int j => obtain ⟨t', rfl⟩ := ry; exact PySem.EqNone.ne_none_int (fin_bl I q (by simp))
    | str j => obtain ⟨t', rfl⟩ := ry; exact PySem.EqNone.ne_none_str (fin_bl I q (by simp))
    | _ => exact absurd (show false = true from hs) Bool.false_ne_true
  | bl i =>
    cases rx
    cases y with
    | non => cases ry; exact PySem.EqNone.ne_bool_none (fin_bl I q (by simp))
    | bl j => cases ry; exact ne_bool (fin_bl I q (congrArg not dec_bl))
    | str j => obtain ⟨t', rfl⟩ := ry; exact PySem.EqMixed.ne_bool_str (fin_bl I q (by simp))
    | _ => exact absurd (show false = true from hs) Bool.false_ne_true
  | int i =>
    obtain ⟨t, rfl⟩ := rx
    cases y with
    | non => cases ry; exact PySem.EqNone.ne_int_none (fin_bl I q (by simp))
    | int j => obtain ⟨t', rfl⟩ := ry; exact ne_int (fin_bl I q (congrArg not dec_int))
    | str j => obtain ⟨t', rfl⟩ := ry; exact PySem.EqMixed.ne_int_str (fin_bl I q (by simp))
    | _ => exact absurd (show false = true from hs) Bool.false_ne_true
  | str i =>
    obtain ⟨t, rfl⟩ := rx
    cases y with
    | non => cases ry; exact PySem.EqNone.ne_str_none (fin_bl I q (by simp))
    | bl j => cases ry; exact PySem.EqMixed.ne_str_bool (fin_bl I q (by simp))
    | int j => obtain ⟨t', rfl⟩ := ry; exact PySem.EqMixed.ne_str_int (fin_bl I q (by simp))
    | str j => obtain ⟨t', rfl⟩ := ry; exact ne_str (fin_bl I q (congrArg not dec_str))
    | _ => exact absurd (show false = true from hs) Bool.false_ne_true
  | byt i =>
    obtain ⟨t, rfl⟩ := rx
    cases y with
    | byt j => obtain ⟨t', rfl⟩ := ry; exact PySem.W.ne_bytes (fin_bl I q (congrArg not dec_byt))
    | _ => exact absurd (show false = true from hs) Bool.false_ne_true
  | _ => cases y <;> exact absurd (show false = true from hs) Bool.false_ne_true

theorem op_lt : OpR X (compareOp .Lt) (rI0 fun i j => .bl (decide (i < j))) := opB0 fun _ _ _ _ _ _ _ q => lt_int q
theorem op_le : OpR X (compareOp .LtE) (rI0 fun i j => .bl (decide (i ≤ j))) := opB0 fun _ _ _ _ _ _ _ q => le_int q
theorem op_gt : OpR X (compareOp .Gt) (rI0 fun i j => .bl (decide (j < i))) := opB0 fun _ _ _ _ _ _ _ q => gt_int q
theorem op_ge : OpR X (compareOp .GtE) (rI0 fun i j => .bl (decide (j ≤ i))) := opB0 fun _ _ _ _ _ _ _ q => ge_int q
theorem op_lt_str : OpR X (compareOp .Lt) (fun x y H Q => ∃ i j, x = .str i ∧ y = .str j ∧ Q (.bl (decide (i.cps.toList < j.cps.toList))) H) := by
  intro pins s σ H x y v u Q I rx ry h
  obtain ⟨i, j, rfl, rfl, q⟩ := h
  obtain ⟨t, rfl⟩ := rx
  obtain ⟨t', rfl⟩ := ry
  exact lt_str (fin_bl I q rfl)
/-- the one string within the other -/
theorem op_in_str : OpR X (compareOp .In) (fun x y H Q => ∃ i j, x = .str i ∧ y = .str j ∧ Q (.bl (!(Builtin.Str.occurrences j i 0 j.length 1).isEmpty)) H) := by
  intro pins s σ H x y v u Q I rx ry h
  obtain ⟨i, j, rfl, rfl, q⟩ := h
  obtain ⟨t, rfl⟩ := rx
  obtain ⟨t', rfl⟩ := ry
  exact in_str (fin_bl I q rfl)

/-- is None, is not None: the right side a value none -/
theorem op_isN : OpR X (compareOp .Is) (fun x y H Q => y = .non ∧ Q (.bl (decide (x = .non))) H) := by
  intro pins s σ H x y v u Q I rx ry h
  obtain ⟨rfl, q⟩ := h
  cases ry
  refine is_none_gen (fin_bl I q ?_)
  cases x <;> first
    | (cases rx; rfl)
    | (obtain ⟨t, rfl⟩ := rx; rfl)
theorem op_notN : OpR X (compareOp .IsNot) (fun x y H Q => y = .non ∧ Q (.bl (!decide (x = .non))) H) := by
  intro pins s σ H x y v u Q I rx ry h
  obtain ⟨rfl, q⟩ := h
  cases ry
  refine isnot_none_gen (fin_bl I q ?_)
  cases x <;> first
    | (cases rx; rfl)
    | (obtain ⟨t, rfl⟩ := rx; rfl)

theorem op_notin_str : OpR X (compareOp .NotIn) (fun x y H Q => ∃ i j, x = .str i ∧ y = .str j ∧ Q (.bl (!(!(Builtin.Str.occurrences j i 0 j.length 1).isEmpty))) H) := by
  intro pins s σ H x y v u Q I rx ry h
  obtain ⟨i, j, rfl, rfl, q⟩ := h
  obtain ⟨t, rfl⟩ := rx
  obtain ⟨t', rfl⟩ := ry
  exact notIn_str (fin_bl I q rfl)
/-- is, is not of two objects that are tracked lists or instances -/
def isObj : HO → Bool
  | .lst _ => true
  | .ins _ _ _ => true
  | _ => false
theorem obj_there {pins : List (Addr × Obj)} {s : Shared} {σ : St} {H : Hp} {a : Addr} {o : HO} (I : Inv X pins σ H s) (h : H a = some o) (p : isObj o = true) : ∃ ob, s.heap.get? a = some ob ∧ ob.cls ≠ .type "tuple" := by
  cases o with
  | lst xs =>
    obtain ⟨_, its, n, _, e⟩ : xs.length ≤ sizeLine ∧ ∃ (its : List Value) (n : Nat), Vals xs its ∧ s.heap.get? a = some { cls := .type "list", data := .seq its.toArray n } := I.hok a _ h
    exact ⟨_, e, (by show Value.type "list" ≠ .type "tuple"; decide +kernel)⟩
  | ins C dx fs =>
    have x := I.hok a _ h
    obtain ⟨_, _, _, e, _⟩ := x
    exact ⟨_, e, (by show Value.ref C ≠ .type "tuple"; exact fun z => by cases z)⟩
  | _ => exact absurd (show false = true from p) Bool.false_ne_true
theorem op_is_ref : OpR X (compareOp .Is) (fun x y H Q => ∃ a b oa ob, x = .ref a ∧ y = .ref b ∧ H a = some oa ∧ isObj oa = true ∧ H b = some ob ∧ isObj ob = true ∧ Q (.bl (decide (a = b))) H) := by
  intro pins s σ H x y v u Q I rx ry h
  obtain ⟨a, b, oa, ob, rfl, rfl, ha, pa, hb, pb, q⟩ := h
  cases rx
  cases ry
  obtain ⟨o1, e1, n1⟩ := obj_there I ha pa
  obtain ⟨o2, e2, _⟩ := obj_there I hb pb
  by_cases z : a = b
  · subst z
    exact wpAny_is_ref_self (fin_bl I q (by simp))
  · exact wpAny_is_ref_other z e1 e2 n1 (fin_bl I q (by simp [z]))
theorem op_isnot_ref : OpR X (compareOp .IsNot) (fun x y H Q => ∃ a b oa ob, x = .ref a ∧ y = .ref b ∧ H a = some oa ∧ isObj oa = true ∧ H b = some ob ∧ isObj ob = true ∧ Q (.bl (!decide (a = b))) H) := by
  intro pins s σ H x y v u Q I rx ry h
  obtain ⟨a, b, oa, ob, rfl, rfl, ha, pa, hb, pb, q⟩ := h
  cases rx
  cases ry
  obtain ⟨o1, e1, n1⟩ := obj_there I ha pa
  obtain ⟨o2, e2, _⟩ := obj_there I hb pb
  by_cases z : a = b
  · subst z
    exact wpAny_isNot_ref_self (fin_bl I q (by simp))
  · exact wpAny_isNot_ref_other z e1 e2 n1 (fin_bl I q (by simp [z]))

/-- two rules for one operation: by cases -/
theorem OpR.or {f : Value → Value → Sem Value} {r r' : R2} (h : OpR X f r) (h' : OpR X f r') : OpR X f (fun x y H Q => r x y H Q ∨ r' x y H Q) := by
  intro pins s σ H x y v u Q I rx ry q
  rcases q with q | q
  · exact h pins s σ H x y v u Q I rx ry q
  · exact h' pins s σ H x y v u Q I rx ry q

theorem nomark (b : Expr) {op : CmpOp} (h : op ≠ .In := by decide) (h2 : op ≠ .NotIn := by decide) : behindInMarks op b = false := by
  have e1 : (op == CmpOp.In) = false := by cases op <;> first | rfl | exact absurd rfl h
  have e2 : (op == CmpOp.NotIn) = false := by cases op <;> first | rfl | exact absurd rfl h2
  cases b <;> simp [behindInMarks, e1, e2]
/-- a comparison as a value; hm: nomark b, or (for in, not in) by with_unfolding_all rfl -/
theorem pe_cmpR {op : CmpOp} {r : R2} (ho : OpR X (compareOp op) r) (ha : PE X a ta) (hb : PE X b tb) (hm : behindInMarks op b = false) : PE X (.Compare a [op] [b] pos) (tOp r ta tb) := by
  intro pins s σ H Q I h
  exact wpAny_Compare1 (binT ha hb I h fun v u s2 x y H2 I2 rx ry q => ho pins s2 σ H2 x y v u Q I2 rx ry q) hm
/-- a reading of a value as a test -/
def tTest (t : TE) : TT := fun σ H Q => t σ H fun x H' => ∃ k, x = .bl k ∧ Q k H'
theorem pt_cmpR {op : CmpOp} {r : R2} (ho : OpR X (compareOp op) r) (ha : PE X a ta) (hb : PE X b tb) (hm : behindInMarks op b = false) : PT X (.Compare a [op] [b] pos) (tTest (tOp r ta tb)) := by
  intro pins s σ H Q I h
  refine wpAny_isTrue_Compare1 (thn (ha pins s σ H _ I h) fun v s1 ⟨x, H1, I1, r1, q1⟩ => thn (hb pins s1 σ H1 _ I1 q1) fun u s2 ⟨y, H2, I2, r2, q2⟩ =>
    thn (ho pins s2 σ H2 x y v u _ I2 r1 r2 q2) fun c s3 ⟨z, H3, I3, r3, k, e, q3⟩ => ?_) hm
  subst e
  cases r3
  exact wpAny_truthy_bool ⟨H3, I3, q3⟩
/-- a op1 b op2 c -/
def tChain (r r' : R2) (ta tb tc : TE) : TE := fun σ H Q => ta σ H fun x H1 => tb σ H1 fun y H2 => r x y H2 fun z H3 => ∃ k, z = .bl k ∧
  (if k = true then tc σ H3 fun w' H4 => r' y w' H4 Q else Q (.bl false) H3)
theorem pe_chain {op op' : CmpOp} {r r' : R2} (ho : OpR X (compareOp op) r) (ho' : OpR X (compareOp op') r') (ha : PE X a ta) (hb : PE X b tb) (hc : PE X c tc)
    (hm : lastMarks [op, op'] [b, c] = false := by with_unfolding_all rfl) : PE X (.Compare a [op, op'] [b, c] pos) (tChain r r' ta tb tc) := by
  intro pins s σ H Q I h
  refine Compare_chain (thn (ha pins s σ H _ I h) fun v s1 ⟨x, H1, I1, r1, q1⟩ => chain_link (thn (hb pins s1 σ H1 _ I1 q1) fun u s2 ⟨y, H2, I2, r2, q2⟩ =>
    thn (ho pins s2 σ H2 x y v u _ I2 r1 r2 q2) fun d s3 ⟨z, H3, I3, r3, k, e, q3⟩ => ?_)) hm
  subst e
  cases r3
  refine wpAny_truthy_bool ?_
  cases k with
  | false => exact ite_ff ⟨.bl false, H3, I3, rfl, q3⟩
  | true => exact ite_tt (chain_last (thn (hc pins s3 σ H3 _ I3 q3) fun w' s4 ⟨z', H4, I4, r4, q4⟩ => ho' pins s4 σ H4 y z' u w' Q I4 r2 r4 q4))
theorem pt_chain {op op' : CmpOp} {r r' : R2} (ho : OpR X (compareOp op) r) (ho' : OpR X (compareOp op') r') (ha : PE X a ta) (hb : PE X b tb) (hc : PE X c tc)
    (hm : lastMarks [op, op'] [b, c] = false := by with_unfolding_all rfl) : PT X (.Compare a [op, op'] [b, c] pos) (tTest (tChain r r' ta tb tc)) := by
  intro pins s σ H Q I h
  refine isTrue_chain (thn (ha pins s σ H _ I h) fun v s1 ⟨x, H1, I1, r1, q1⟩ => test_link (thn (hb pins s1 σ H1 _ I1 q1) fun u s2 ⟨y, H2, I2, r2, q2⟩ =>
    thn (ho pins s2 σ H2 x y v u _ I2 r1 r2 q2) fun d s3 ⟨z, H3, I3, r3, k, e, q3⟩ => ?_)) hm
  subst e
  cases r3
  refine wpAny_truthy_bool ?_
  cases k with
  | false =>
    obtain ⟨k', e', q'⟩ := q3
    cases e'
    exact ite_ff ⟨H3, I3, q'⟩
  | true =>
    refine ite_tt (test_last (thn (hc pins s3 σ H3 _ I3 q3) fun w' s4 ⟨z', H4, I4, r4, q4⟩ => thn (ho' pins s4 σ H4 y z' u w' _ I4 r2 r4 q4) fun d' s5 ⟨z2, H5, I5, r5, k2, e2, q5⟩ => ?_))
    subst e2
    cases r5
    exact wpAny_truthy_bool ⟨H5, I5, q5⟩

/-! ### truth -/
/-- a value's truth by the abstract heap -/
def TruV (K : PySem.W.Frag) (x : V) (H : Hp) (k : Bool) : Prop :=
  match x with
  | .non => k = false
  | .bl b => k = b
  | .int i => k = (i != 0)
  | .str y => y.length ≤ sizeLine ∧ k = ((y.length : Int) != 0)
  | .byt y => y.size ≤ sizeLine ∧ k = ((y.size : Int) != 0)
  | .ref p => (∃ xs, SqL K H p xs ∧ k = !xs.isEmpty) ∨ (∃ xs, SqT K H p xs ∧ k = !xs.isEmpty) ∨ ∃ kvs, H p = some (.dK kvs) ∧ k = !kvs.isEmpty
  | _ => False
theorem isEmpty_kv {κ : Type} {kvs : List (κ × V)} {vs : List (κ × Value)} (r : KV kvs vs) : (!vs.isEmpty) = !kvs.isEmpty := by
  cases r <;> rfl
theorem isEmpty_of {xs : List V} {its : List Value} (r : Vals xs its) : (!its.toArray.isEmpty) = !xs.isEmpty := by
  cases r <;> simp
theorem line63 : (sizeLine : Nat) < 2 ^ 63 := by rw [sizeLine_eq]; decide
theorem tru_ok : TruR X (fun x H Q => ∃ k, TruV X.K x H k ∧ Q k H) := by
  intro pins s σ H x v Q I rx h
  obtain ⟨k, e, q⟩ := h
  have hl := line63
  have hs : sizeLine = 16777216 := sizeLine_eq
  cases x with
  | non =>
    cases rx
    have e' : k = false := e
    subst e'
    exact truthy_none ⟨H, I, q⟩
  | bl b =>
    cases rx
    have e' : k = b := e
    subst e'
    exact wpAny_truthy_bool ⟨H, I, q⟩
  | int i =>
    obtain ⟨t, rfl⟩ := rx
    have e' : k = (i != 0) := e
    subst e'
    exact PySem.P.truthy_int ⟨H, I, q⟩
  | str y =>
    obtain ⟨t, rfl⟩ := rx
    obtain ⟨hy, e'⟩ : y.length ≤ sizeLine ∧ k = ((y.length : Int) != 0) := e
    subst e'
    exact PySem.P.truthy_str (by omega) ⟨H, I.tok _, q⟩
  | byt y =>
    obtain ⟨t, rfl⟩ := rx
    obtain ⟨hy, e'⟩ : y.size ≤ sizeLine ∧ k = ((y.size : Int) != 0) := e
    subst e'
    exact PySem.W.truthy_bytes (by omega) ⟨H, I.tok _, q⟩
  | ref p =>
    cases rx
    have e' : (∃ xs, SqL X.K H p xs ∧ k = !xs.isEmpty) ∨ (∃ xs, SqT X.K H p xs ∧ k = !xs.isEmpty) ∨ ∃ kvs, H p = some (.dK kvs) ∧ k = !kvs.isEmpty := e
    rcases e' with ⟨xs, hx, e'⟩ | ⟨xs, hx, e'⟩ | ⟨kvs, hx, e'⟩
    · subst e'
      obtain ⟨its, r, pl, hz⟩ := I.list hx
      have hlen := r.length
      exact wpAny_truthy_list pl.isList (by simp only [List.size_toArray]; omega) ⟨H, I.tok _, by rw [isEmpty_of r]; exact q⟩
    · subst e'
      obtain ⟨its, r, pl, hz⟩ := I.tuple hx
      have hlen := r.length
      exact truthy_tuple pl (by simp only [List.size_toArray]; omega) ⟨H, I.tok _, by rw [isEmpty_of r]; exact q⟩
    · subst e'
      obtain ⟨hz, hS, vs, r, m⟩ : kvs.length ≤ sizeLine ∧ (p == sysModules) = false ∧ ∃ vs, KV kvs vs ∧ s.heap.DictOf (mixKind X.prog X.w) p vs := I.hok p _ hx
      have hlen : kvs.length = vs.length := Paired.length r
      exact wpAny_truthy_dict hS m (by omega) ⟨H, I.tok _, by rw [isEmpty_kv r]; exact q⟩
  | _ => exact (show False from e).elim
/-- any expression whose test is its value's truth (a name, a call, a subscript, a field ..: he by fun _ => rfl) -/
theorem pt_truth (ha : PE X a ta) (he : ∀ whole, isTrue a X.env whole = (do let v ← whole; standAt a.pos; holding [v] (truthy v))) :
    PT X a (fun σ H Q => ta σ H fun x H' => ∃ k, TruV X.K x H' k ∧ Q k H') := by
  intro pins s σ H Q I h
  exact isTrue_plain (thn (ha pins s σ H _ I h) fun v s1 ⟨x, H1, I1, r1, q1⟩ => tru_ok pins s1 σ H1 x v Q I1 r1 q1) (he _)

/-! ### strs and bytes -/
theorem pe_byt {x : List UInt8} {k : Nat} : PE X (.Constant (.bytes x) k pos) (fun _ H Q => Q (.byt x.toArray) H) := fun _ _ _ H _ I h => PySem.W.Constant_bytes ⟨.byt x.toArray, H, I.tok _, ⟨_, rfl⟩, h⟩
theorem op_add_str : OpR X (binaryOp .Add) (fun x y H Q => ∃ i j, x = .str i ∧ y = .str j ∧ i.length + j.length ≤ sizeLine ∧ Q (.str (i ++ j)) H) := by
  intro pins s σ H x y v u Q I rx ry h
  obtain ⟨i, j, rfl, rfl, hz, q⟩ := h
  obtain ⟨t, rfl⟩ := rx
  obtain ⟨t', rfl⟩ := ry
  exact add_str (fun t' tk => ⟨.str (i ++ j), H, I.tok _, ⟨_, rfl⟩, q⟩) hz
theorem iop_add_str : OpR X (inplaceOp .Add) (fun x y H Q => ∃ i j, x = .str i ∧ y = .str j ∧ i.length + j.length ≤ sizeLine ∧ Q (.str (i ++ j)) H) := by
  intro pins s σ H x y v u Q I rx ry h
  obtain ⟨i, j, rfl, rfl, hz, q⟩ := h
  obtain ⟨t, rfl⟩ := rx
  obtain ⟨t', rfl⟩ := ry
  exact iadd_str (fun t' tk => ⟨.str (i ++ j), H, I.tok _, ⟨_, rfl⟩, q⟩) hz
theorem op_add_byt : OpR X (binaryOp .Add) (fun x y H Q => ∃ i j, x = .byt i ∧ y = .byt j ∧ i.size + j.size ≤ 16777216 ∧ Q (.byt (i ++ j)) H) := by
  intro pins s σ H x y v u Q I rx ry h
  obtain ⟨i, j, rfl, rfl, hz, q⟩ := h
  obtain ⟨t, rfl⟩ := rx
  obtain ⟨t', rfl⟩ := ry
  exact PySem.W.KBy.add_bytes hz (fun t' tk => ⟨.byt (i ++ j), H, I.tok _, ⟨_, rfl⟩, q⟩)

def PlainIxT (b : Expr) : Prop := ∀ o i, subscripted b false o i = operate [o, i] (getItem o i)
/-- s[i], 0 ≤ i < len -/
theorem pe_item_str (ha : PE X a ta) (hb : PE X b tb) (hs : PlainIxT b) :
    PE X (.Subscript a b pos) (tOp (fun x y H Q => ∃ z i c, x = .str z ∧ y = .int i ∧ 0 ≤ i ∧ i < 2 ^ 63 ∧ i < z.length ∧ z.cps[i.toNat]? = some c ∧ Q (.str ⟨#[c]⟩) H) ta tb) := by
  intro pins s σ H Q I h
  refine Subscript_ (binT ha hb I h fun v u s2 x y H2 I2 rx ry q => ?_)
  obtain ⟨z, i, c, rfl, rfl, h0, h63, h1, hc, q⟩ := q
  obtain ⟨t, rfl⟩ := rx
  obtain ⟨t', rfl⟩ := ry
  have e : seqIndex? i z.length = some i.toNat := PySem.StrLaws.seqIndex_nonneg h0 h1
  exact tail_any (typeIs_str s2 z t) slot_str_getitem.lookup (getItem_str (c := c) (by
    have e1 : decide (i < -(2 ^ 63 : Int)) = false := decide_eq_false (by omega)
    have e2 : decide (i ≥ 2 ^ 63) = false := decide_eq_false (by omega)
    rw [e1, e2] <;> rfl) (by rw [e]; exact hc) ⟨.str ⟨#[c]⟩, H2, I2.tok _, ⟨_, rfl⟩, q⟩) (hs _ _)
/-- b[i], 0 ≤ i < len -/
theorem pe_item_byt (ha : PE X a ta) (hb : PE X b tb) (hs : PlainIxT b) :
    PE X (.Subscript a b pos) (tOp (fun x y H Q => ∃ (z : List UInt8) (i : Int), x = .byt z.toArray ∧ y = .int i ∧ z.length ≤ sizeLine ∧ 0 ≤ i ∧ i < z.length ∧ Q (.int ((z.getD i.toNat 0).toNat : Nat)) H) ta tb) := by
  intro pins s σ H Q I h
  refine Subscript_ (binT ha hb I h fun v u s2 x y H2 I2 rx ry q => ?_)
  obtain ⟨z, i, rfl, rfl, hz, h0, h1, q⟩ := q
  obtain ⟨t, rfl⟩ := rx
  obtain ⟨t', rfl⟩ := ry
  have hl : sizeLine = 16777216 := sizeLine_eq
  exact tail_any (PySem.W.typeIs_bytes s2 z.toArray t) PySem.W.FB.slot_bytes_getitem.lookup (PySem.W.getItem_bytes (by omega) h0 h1 ⟨.int ((z.getD i.toNat 0).toNat : Nat), H2, I2.tok _, ⟨_, rfl⟩, q⟩) (hs _ _)

/-! ### scalar builtins, by CallR -/
theorem vals1 {x : V} {us : List Value} (r : Vals [x] us) : ∃ u, us = [u] ∧ RelV x u := by
  cases r with
  | cons r1 r2 => cases r2; exact ⟨_, rfl, r1⟩
theorem vals2 {x y : V} {us : List Value} (r : Vals [x, y] us) : ∃ u w', us = [u, w'] ∧ RelV x u ∧ RelV y w' := by
  cases r with
  | cons r1 r2 =>
    cases r2 with
    | cons r3 r4 => cases r4; exact ⟨_, _, rfl, r1, r3⟩
theorem call_abs : CallR X (.builtin "abs") (fun xs H Q => ∃ i, xs = [.int i] ∧ Q (.int (if i < 0 then -i else i)) H) := by
  intro pins s σ H xs us Q I r h
  obtain ⟨i, rfl, q⟩ := h
  obtain ⟨u, rfl, t, rfl⟩ := vals1 r
  exact call_abs_int fun u tk => ⟨.int (if i < 0 then -i else i), H, I.tok _, ⟨_, rfl⟩, q⟩
theorem call_max2 (hc : X.calm = true) : CallR X (.builtin "max") (fun xs H Q => ∃ i j, xs = [.int i, .int j] ∧ Q (.int (if j > i then j else i)) H) := by
  intro pins s σ H xs us Q I r h
  obtain ⟨i, j, rfl, q⟩ := h
  obtain ⟨u, w', rfl, ⟨t, rfl⟩, ⟨t', rfl⟩⟩ := vals2 r
  refine max_two_ints (I.ok.hd hc) fun h' tk k => ⟨_, H, I.kept k, ?_, q⟩
  by_cases hj : j > i
  · rw [if_pos hj, if_pos hj]; exact ⟨_, rfl⟩
  · rw [if_neg hj, if_neg hj]; exact ⟨_, rfl⟩
theorem call_min2 (hc : X.calm = true) : CallR X (.builtin "min") (fun xs H Q => ∃ i j, xs = [.int i, .int j] ∧ Q (.int (if j < i then j else i)) H) := by
  intro pins s σ H xs us Q I r h
  obtain ⟨i, j, rfl, q⟩ := h
  obtain ⟨u, w', rfl, ⟨t, rfl⟩, ⟨t', rfl⟩⟩ := vals2 r
  refine min_two_ints (I.ok.hd hc) fun h' tk k => ⟨_, H, I.kept k, ?_, q⟩
  by_cases hj : j < i
  · rw [if_pos hj, if_pos hj]; exact ⟨_, rfl⟩
  · rw [if_neg hj, if_neg hj]; exact ⟨_, rfl⟩
theorem call_int1 : CallR X (.type "int") (fun xs H Q => (∃ i, xs = [.int i] ∧ Q (.int i) H) ∨ ∃ k, xs = [.bl k] ∧ Q (.int (if k then 1 else 0)) H) := by
  intro pins s σ H xs us Q I r h
  rcases h with ⟨i, rfl, q⟩ | ⟨k, rfl, q⟩
  · obtain ⟨u, rfl, t, rfl⟩ := vals1 r
    exact call_int_int ⟨.int i, H, I, ⟨_, rfl⟩, q⟩
  · obtain ⟨u, rfl, r1⟩ := vals1 r
    cases r1
    exact call_int_bool ⟨.int (if k then 1 else 0), H, I.tok _, ⟨_, rfl⟩, q⟩
theorem call_bool1 : CallR X (.type "bool") (fun xs H Q => (∃ i, xs = [.int i] ∧ Q (.bl (i != 0)) H) ∨ ∃ k, xs = [.bl k] ∧ Q (.bl k) H) := by
  intro pins s σ H xs us Q I r h
  rcases h with ⟨i, rfl, q⟩ | ⟨k, rfl, q⟩
  · obtain ⟨u, rfl, t, rfl⟩ := vals1 r
    exact call_bool_int ⟨.bl (i != 0), H, I, rfl, q⟩
  · obtain ⟨u, rfl, r1⟩ := vals1 r
    cases r1
    exact call_bool_bool ⟨.bl k, H, I, rfl, q⟩
theorem call_str_int : CallR X (.type "str") (fun xs H Q => ∃ i, xs = [.int i] ∧ i.natAbs.log2 < 1920 ∧ Q (.str (toString i)) H) := by
  intro pins s σ H xs us Q I r h
  obtain ⟨i, rfl, hz, q⟩ := h
  obtain ⟨u, rfl, t, rfl⟩ := vals1 r
  exact PySem.P.str_of_int hz ⟨.str _, H, I.tok _, ⟨_, rfl⟩, q⟩
theorem call_ord : CallR X (.builtin "ord") (fun xs H Q => ∃ x, xs = [.str x] ∧ x.length = 1 ∧ Q (.int (x.cps.getD 0 0 : Nat)) H) := by
  intro pins s σ H xs us Q I r h
  obtain ⟨x, rfl, hz, q⟩ := h
  obtain ⟨u, rfl, t, rfl⟩ := vals1 r
  exact ord_of_one hz ⟨.int _, H, I.tok _, ⟨_, rfl⟩, q⟩
theorem call_chr : CallR X (.builtin "chr") (fun xs H Q => ∃ i, xs = [.int i] ∧ 0 ≤ i ∧ i ≤ 1114111 ∧ Q (.str ⟨#[i.toNat]⟩) H) := by
  intro pins s σ H xs us Q I r h
  obtain ⟨i, rfl, h0, h1, q⟩ := h
  obtain ⟨u, rfl, t, rfl⟩ := vals1 r
  exact chr_of_range h0 h1 ⟨.str _, H, I.tok _, ⟨_, rfl⟩, q⟩
/-- len of a str, a bytes, a list, a tuple -/
def LenV (K : PySem.W.Frag) (x : V) (H : Hp) (n : Nat) : Prop :=
  match x with
  | .str y => y.length ≤ sizeLine ∧ n = y.length
  | .byt y => y.size ≤ sizeLine ∧ n = y.size
  | .ref p => (∃ xs, SqL K H p xs ∧ n = xs.length) ∨ ∃ xs, SqT K H p xs ∧ n = xs.length
  | _ => False
theorem call_len : CallR X (.builtin "len") (fun xs H Q => ∃ x n, xs = [x] ∧ LenV X.K x H n ∧ Q (.int n) H) := by
  intro pins s σ H xs us Q I r h
  obtain ⟨x, n, rfl, e, q⟩ := h
  obtain ⟨u, rfl, rx⟩ := vals1 r
  have hl := line63
  have hs : sizeLine = 16777216 := sizeLine_eq
  cases x with
  | str y =>
    obtain ⟨t, rfl⟩ := rx
    obtain ⟨hy, e'⟩ : y.length ≤ sizeLine ∧ n = y.length := e
    subst e'
    exact len_str (by omega) ⟨.int _, H, I.tok _, ⟨_, rfl⟩, q⟩
  | byt y =>
    obtain ⟨t, rfl⟩ := rx
    obtain ⟨hy, e'⟩ : y.size ≤ sizeLine ∧ n = y.size := e
    subst e'
    exact PySem.W.len_bytes (by omega) ⟨.int _, H, I.tok _, ⟨_, rfl⟩, q⟩
  | ref p =>
    cases rx
    have e' : (∃ xs, SqL X.K H p xs ∧ n = xs.length) ∨ ∃ xs, SqT X.K H p xs ∧ n = xs.length := e
    rcases e' with ⟨xs, hx, e'⟩ | ⟨xs, hx, e'⟩
    · subst e'
      obtain ⟨its, r', pl, hz⟩ := I.list hx
      have hlen := r'.length
      exact Calls.call_len_list pl.isList (by simp only [List.size_toArray]; omega) ⟨.int xs.length, H, I.tok _, ⟨_, by simp only [List.size_toArray]; rw [hlen]⟩, q⟩
    · subst e'
      obtain ⟨its, r', pl, hz⟩ := I.tuple hx
      have hlen := r'.length
      exact len_tuple pl (by simp only [List.size_toArray]; omega) ⟨.int xs.length, H, I.tok _, ⟨_, by simp only [List.size_toArray]; rw [hlen]⟩, q⟩
  | _ => exact (show False from e).elim
/-- divmod: a new tuple -/
theorem call_divmod : CallR X (.builtin "divmod") (fun xs H Q => ∃ i j, xs = [.int i, .int j] ∧ CDiv i j ∧ ∀ p, H p = none → Q (.ref p) (upd H p (.tup [.int (i / j), .int (i % j)]))) := by
  intro pins s σ H xs us Q I r h
  obtain ⟨i, j, rfl, ⟨h1, h2⟩, q⟩ := h
  obtain ⟨u, w', rfl, ⟨t, rfl⟩, ⟨t', rfl⟩⟩ := vals2 r
  refine divmod_int (by omega) ?_ (.inl (PyProof.noPylong_small (by omega)))
  rw [Int.fdiv_eq_ediv_of_nonneg i (by omega), Int.fmod_eq_emod_of_nonneg i (by omega)]
  have hn : H s.heap.objs.size = none := I.hok.fresh (Nat.le_refl _)
  refine ⟨.ref s.heap.objs.size, _, ?_, rfl, q _ hn⟩
  refine I.laid (fun b o e => Heap.get?_push_of_some _ e) (Nat.le_refl _) ⟨by simp only [List.length_cons, List.length_nil]; rw [sizeLine_eq]; decide, [.int (i / j) s.toks, .int (i % j) (s.toks + 1)], .cons ⟨_, rfl⟩ (.cons ⟨_, rfl⟩ .nil), ?_⟩
  exact ⟨_, Heap.get?_push_size s.heap rfl, rfl, 0, rfl⟩
end
end L2

namespace L2
open PySem PySem.Spec PyProof.Rows

/-! ### an instance, its attributes a map -/
structure ObjM (h : Heap) (x dx C : Addr) (mA : Str → Option Value) : Prop where
  obj : h.get? x = some (PySem.W.instObj C dx)
  ns : h.Ns1 dx mA
  ne : dx ≠ x

theorem lookIn_ns {h : Heap} {dx : Addr} {mA : Str → Option Value} (n : h.Ns1 dx mA) : ∃ od, h.get? dx = some od ∧ ∀ name, PySem.W.lookIn name od = some (mA name) := by
  obtain ⟨o, es, ep, ho, hd, hk, _, hm⟩ := n
  refine ⟨o, ho, fun name => ?_⟩
  have e := hm name
  unfold nsFind findBy at e
  rw [← Array.find?_toList] at e
  unfold PySem.W.lookIn
  rw [hd]
  dsimp only
  split
  · rename_i y q
    rw [q] at e
    exact congrArg some e
  · rename_i q
    rw [q] at e
    have a : es.toList.any (·.refKey) = false := by
      rw [List.any_eq_false]
      intro y hy
      obtain ⟨z, t, hkey⟩ := hk y (Array.mem_toList_iff.mp hy)
      simp [DictEntry.refKey, hkey]
    have a' : ¬ es.toList.any (·.refKey) = true := by rw [a]; exact Bool.false_ne_true
    rw [if_neg a']
    exact congrArg some e

theorem ObjM.look {h : Heap} {x dx C : Addr} {mA : Str → Option Value} (I : ObjM h x dx C mA) : ∃ od, PySem.W.InstAt h x (PySem.W.instObj C dx) C (some od) ∧ ∀ name, PySem.W.lookIn name od = some (mA name) :=
  let ⟨od, ho, hl⟩ := lookIn_ns I.ns
  ⟨od, ⟨I.obj, rfl, rfl, ho⟩, hl⟩

section
variable {prog : Program} {w : World} {A : Around} {E : Value → Shared → Prop} {s : Shared} {K : PySem.W.Frag} {x dx C f : Addr} {mA : Str → Option Value} {name : Str} {v : Value}

theorem get_map {expr : Bool} {Q : Value → Shared → Prop} (X : K.In s.heap) (I : ObjM s.heap x dx C mA) (hg : PySem.W.plainGet K C name = true) (hh : PySem.W.hasDictIn K C = true)
    (ha : PySem.W.findIn K (.ref C) name = some none) (hv : mA name = some v) (hv' : PySem.W.handedIn v = true) (h : Q v { s with toks := s.toks + 1 }) :
    wpAny (model prog w) A (getAttr (.ref x) name expr) Q E s := by
  obtain ⟨od, J, hl⟩ := I.look
  exact PySem.W.get_value X J (PySem.W.plainGet_of hg).1 (PySem.W.findObj_own hh ha rfl (by rw [hl, hv])) hv' h

theorem get_const {expr : Bool} {a : Value} {Q : Value → Shared → Prop} (X : K.In s.heap) (I : ObjM s.heap x dx C mA) (hg : PySem.W.plainGet K C name = true) (hh : PySem.W.hasDictIn K C = true)
    (ha : PySem.W.findIn K (.ref C) name = some (some a)) (hn : PySem.W.specialIn K a "__get__" = some none) (hc : PySem.W.copiedNames.contains name = false) (hv : mA name = none) (hv' : PySem.W.handedIn a = true)
    (h : Q a { s with toks := s.toks + 1 }) : wpAny (model prog w) A (getAttr (.ref x) name expr) Q E s := by
  obtain ⟨od, J, hl⟩ := I.look
  exact PySem.W.get_value X J (PySem.W.plainGet_of hg).1 (PySem.W.findObj_cls hh ha hn hv' hc (by rw [hl, hv])) hv' h

theorem get_meth {pl : Sem Bool} {Q : Value × List Value → Shared → Prop} (X : K.In s.heap) (I : ObjM s.heap x dx C mA) (hg : PySem.W.plainGet K C name = true)
    (hf : PySem.W.findIn K (.ref C) name = some (some (.ref f))) (ht : PySem.W.isFn K (.ref f) = true) (hv : mA name = none) (h : Q (.ref f, [.ref x]) s) :
    wpAny (model prog w) A (getMethod (.ref x) name pl) Q E s := by
  obtain ⟨od, J, hl⟩ := I.look
  exact PySem.W.method_fn X J (PySem.W.plainGet_of hg).1 (PySem.W.plainGet_of hg).2 hf (beq_iff_eq.mp ht) (by show (PySem.W.lookIn name od).map (·.isSome) = some false; rw [hl, hv]; rfl) h

theorem set_map {ns : List Str} {Q : Unit → Shared → Prop} (X : K.In s.heap) (I : ObjM s.heap x dx C mA)
    (hs : PySem.W.findIn K (.ref C) "__setattr__" = some (some (.builtin "object.__setattr__"))) (hp : PySem.W.plainOver K C = true) (ht : PySem.W.takerIn K C name = some none) (hh : PySem.W.hasDictIn K C = true)
    (hw : PySem.Within mA ns) (hsz : ns.length ≤ sizeLine)
    (h : ∀ h', ObjM h' x dx C (fun y => if y = name then some v else mA y) → Heap.SameBut dx s.heap h' → Q () { s with heap := h', toks := s.toks + 2 }) :
    wpAny (model prog w) A (setAttr (.ref x) name v) Q E s := by
  obtain ⟨od, J, hl⟩ := I.look
  refine PySem.W.set_plain X J hs (PySem.W.osa_open (s := { s with toks := s.toks + 1 }) (r := none) X J hp ht fun b => ?_)
  obtain ⟨cd, hc, hd'⟩ := PySem.W.any_some hh
  have hx : s.heap.get? x = some ⟨.ref C, some dx, .plain, #[]⟩ := I.obj
  refine wpAny_bind (wpAny_pure (wpAny_bind (wpAny_bind (wpAny_loadPart hx (wpAny_bind (PySem.W.Looks.here (s := { s with toks := s.toks + 1 }) (PySem.W.looks_clsIn X hc) ?_))))))
  rw [hd']
  refine wpAny_pure (a := some dx) (wpAny_bind (wpAny_pure (wpAny_bind ?_)))
  refine wpAny_nsSet1 (s := { s with toks := s.toks + 1 }) I.ns fun h' hn2 hs2 => ?_
  obtain ⟨oD, esD, epD, hoD, hdD, hcD⟩ := hn2.count (PySem.Within.cons name v hw)
  refine wpAny_bind (wpAny_lookBehind hoD (by rw [hdD]; exact pastItsLine_dict (Nat.le_trans hcD (by rw [List.length_cons]; omega))) ?_)
  exact wpAny_pure (h _ ⟨(hs2.2 _ (Ne.symm I.ne)).trans I.obj, hn2, I.ne⟩ hs2)

/-- C(..): the dict at the heap's end, the instance behind it; then its __init__ -/
theorem make_map {R : Result → Shared → Prop} {vs : List Value} {kw : List (Str × Value)} (X : K.In s.heap) (hm : PySem.W.makesIn K C = true)
    (hi : PySem.W.findIn K (.ref C) "__init__" = some (some (.ref f))) (hf : PySem.W.typeIn K (.ref f) = some (.type "function"))
    (h : codeAny (model prog w) (A.under (.builtin "type.__call__" ⟨.ref C :: vs, kw⟩)) (.call (.ref f) ⟨.ref (s.heap.objs.size + 1) :: vs, kw⟩) (PySem.W.InitBack (s.heap.objs.size + 1) R)
      { s with heap := (s.heap.push PySem.W.emptyDict).push (PySem.W.instObj C s.heap.objs.size) }) :
    codeAny (model prog w) A (.call (.ref C) ⟨vs, kw⟩) R s := by
  obtain ⟨hh, g, d, t, os⟩ := s
  exact PySem.W.make_core (PySem.W.makes_of X hm) (PySem.W.looks_findIn X hi) (fun self => PySem.W.bind_fn X self hf) (.inl rfl) h
/-- C() where there is no __init__ but object's -/
theorem make_map0 {R : Result → Shared → Prop} (X : K.In s.heap) (hm : PySem.W.makesIn K C = true)
    (hi : PySem.W.findIn K (.ref C) "__init__" = some (some (.builtin "object.__init__")))
    (hb : ∀ self, PySem.W.Looks (model prog w) s.heap (bindSpecial (.builtin "object.__init__") self) (.builtin "object.__init__", [self]))
    (h : codeAny (model prog w) (A.under (.builtin "type.__call__" ⟨[.ref C], []⟩)) (.call (.builtin "object.__init__") ⟨[.ref (s.heap.objs.size + 1)], []⟩) (PySem.W.InitBack (s.heap.objs.size + 1) R)
      { s with heap := (s.heap.push PySem.W.emptyDict).push (PySem.W.instObj C s.heap.objs.size) }) :
    codeAny (model prog w) A (.call (.ref C) ⟨[], []⟩) R s := by
  obtain ⟨hh, g, d, t, os⟩ := s
  exact PySem.W.make_core (PySem.W.makes_of X hm) (PySem.W.looks_findIn X hi) hb (.inr ⟨rfl, rfl⟩) h
end

/-! ### the attributes as a list of pairs -/
def putF (f : Str) (v : V) : List (Str × V) → List (Str × V)
  | [] => [(f, v)]
  | (g, x) :: r => if g = f then (g, v) :: r else (g, x) :: putF f v r
theorem lookup_putF (f g : Str) (v : V) : ∀ fs : List (Str × V), (putF f v fs).lookup g = if g = f then some v else fs.lookup g
  | [] => by
    show List.lookup g [(f, v)] = _
    by_cases h : g = f
    · have hb : (g == f) = true := beq_iff_eq.mpr h
      simp only [List.lookup, hb, if_pos h]
    · have hb : (g == f) = false := beq_eq_false_iff_ne.mpr h
      simp only [List.lookup, hb, if_neg h]
  | (k, x) :: r => by
    have ih := lookup_putF f g v r
    rw [show putF f v ((k, x) :: r) = (if k = f then (k, v) :: r else (k, x) :: putF f v r) from rfl]
    by_cases hk : k = f
    · rw [if_pos hk]
      by_cases h : g = k
      · have hb : (g == k) = true := beq_iff_eq.mpr h
        simp only [List.lookup, hb, if_pos (h.trans hk)]
      · have hb : (g == k) = false := beq_eq_false_iff_ne.mpr h
        simp only [List.lookup, hb, if_neg (fun e : g = f => h (e.trans hk.symm))]
    · rw [if_neg hk]
      by_cases h : g = k
      · have hb : (g == k) = true := beq_iff_eq.mpr h
        simp only [List.lookup, hb, if_neg (fun e : g = f => hk (h.symm.trans e))]
      · have hb : (g == k) = false := beq_eq_false_iff_ne.mpr h
        simp only [List.lookup, hb]
        exact ih
theorem keys_putF (f : Str) (v : V) : ∀ fs : List (Str × V), f ∈ (putF f v fs).map (·.1) ∧ ∀ g, g ∈ fs.map (·.1) → g ∈ (putF f v fs).map (·.1)
  | [] => ⟨by simp [putF], fun g h => by simp at h⟩
  | (k, x) :: r => by
    obtain ⟨i1, i2⟩ := keys_putF f v r
    rw [show putF f v ((k, x) :: r) = (if k = f then (k, v) :: r else (k, x) :: putF f v r) from rfl]
    by_cases hk : k = f
    · rw [if_pos hk]
      subst hk
      exact ⟨by simp, fun g h => by simpa using h⟩
    · rw [if_neg hk]
      refine ⟨?_, fun g h => ?_⟩
      · rw [List.map_cons]
        exact List.mem_cons_of_mem _ i1
      · rw [List.map_cons] at h ⊢
        rcases List.mem_cons.mp h with e | e
        · exact List.mem_cons.mpr (.inl e)
        · exact List.mem_cons_of_mem _ (i2 g e)
theorem length_putF (f : Str) (v : V) : ∀ fs : List (Str × V), (putF f v fs).length ≤ fs.length + 1
  | [] => by simp [putF]
  | (k, x) :: r => by
    have ih := length_putF f v r
    rw [show putF f v ((k, x) :: r) = (if k = f then (k, v) :: r else (k, x) :: putF f v r) from rfl]
    by_cases hk : k = f
    · rw [if_pos hk, List.length_cons, List.length_cons]; omega
    · rw [if_neg hk, List.length_cons, List.length_cons]; omega

theorem RelO.some_of {v : V} {o : Option Value} (r : RelO (some v) o) : ∃ u, o = some u ∧ RelV v u := by
  cases o with
  | none => exact (show False from r).elim
  | some u => exact ⟨u, rfl, r⟩
theorem RelO.none_of {o : Option Value} (r : RelO none o) : o = none := by
  cases o with
  | none => rfl
  | some u => exact (show False from r).elim
theorem handed_of {v : V} {u : Value} (r : RelV v u) : PySem.W.handedIn u = true := by
  cases v with
  | non => cases (show u = Value.none from r); rfl
  | bl b => cases (show u = Value.bool b from r); rfl
  | int i => obtain ⟨t, e⟩ := (show ∃ t, u = Value.int i t from r); cases e; rfl
  | str x => obtain ⟨t, e⟩ := (show ∃ t, u = Value.str x t from r); cases e; rfl
  | byt b => obtain ⟨t, e⟩ := (show ∃ t, u = Value.bytes b t from r); cases e; rfl
  | flt b => obtain ⟨t, e⟩ := (show ∃ t, u = Value.float b t from r); cases e; rfl
  | ref a => cases (show u = Value.ref a from r); rfl
  | ty n => cases (show u = Value.type n from r); rfl

section
variable {P : Program} {w : World} {H H' : Hp} {h h' : Heap} {a C dx : Addr} {fs fs' : List (Str × V)}
theorem ins_get (hok : HOk P w H h) (e : H a = some (.ins C dx fs)) : ∃ mA, ObjM h a dx C mA ∧ (∀ f, RelO (fs.lookup f) (mA f)) ∧ PySem.Within mA (fs.map (·.1)) ∧ fs.length ≤ 1000 ∧ H dx = some (.own a) := by
  obtain ⟨d, z, ne, ob, mA, n, r, q⟩ := (show ObjOk P w H h a (.ins C dx fs) from hok a _ e)
  exact ⟨mA, ⟨ob, n, ne⟩, r, q, z, d⟩
end

/-! ### what of the text a class must have -/
structure Cls (K : PySem.W.Frag) (C : Addr) : Prop where
  pg : PySem.W.plainGet K C Str.empty = true
  hd : PySem.W.hasDictIn K C = true
  po : PySem.W.plainOver K C = true
  sa : PySem.W.findIn K (.ref C) "__setattr__" = some (some (.builtin "object.__setattr__"))
theorem Cls.get {K : PySem.W.Frag} {C : Addr} (c : Cls K C) (f : Str) : PySem.W.plainGet K C f = true := c.pg
/-- no class of it has the name -/
def NoAttr (K : PySem.W.Frag) (C : Addr) (f : Str) : Prop := PySem.W.findIn K (.ref C) f = some none
theorem NoAttr.taker {K : PySem.W.Frag} {C : Addr} {f : Str} (n : NoAttr K C f) : PySem.W.takerIn K C f = some none := by
  unfold PySem.W.takerIn
  rw [show PySem.W.findIn K (.ref C) f = some none from n]
  rfl
/-- a constant of the class -/
structure Con (K : PySem.W.Frag) (C : Addr) (f : Str) (v : V) (u : Value) : Prop where
  at_ : PySem.W.findIn K (.ref C) f = some (some u)
  rel : RelV v u
  get : PySem.W.specialIn K u "__get__" = some none
  cp : PySem.W.copiedNames.contains f = false
/-- a method: a plain def of the class or of one above it -/
structure Meth (K : PySem.W.Frag) (C : Addr) (m : Str) (f : Addr) : Prop where
  at_ : PySem.W.findIn K (.ref C) m = some (some (.ref f))
  fn : PySem.W.isFn K (.ref f) = true
  kp : PySem.W.keepIn K (.ref f) = true

section
variable {X : Cx} {pins : List (Addr × Obj)} {σ : St} {H : Hp} {s : Shared} {a C dx : Addr} {fs : List (Str × V)} {f : Str} {v : V} {A : Around} {E : Value → Shared → Prop}

theorem getattr_ok {b : Bool} {Q : Value → Shared → Prop} (I : Inv X pins σ H s) (e : H a = some (.ins C dx fs)) (c : Cls X.K C) (n : NoAttr X.K C f) (l : fs.lookup f = some v)
    (h : ∀ u s', Inv X pins σ H s' → RelV v u → Q u s') : wpAny (model X.prog X.w) A (getAttr (.ref a) f b) Q E s := by
  obtain ⟨mA, O, r, _, _, _⟩ := ins_get I.hok e
  obtain ⟨u, hu, ru⟩ := RelO.some_of (v := v) (o := mA f) (by rw [← l]; exact r f)
  exact get_map I.kIn O (c.get f) c.hd n hu (handed_of ru) (h u _ (I.tok _) ru)

theorem getcon_ok {b : Bool} {u : Value} {Q : Value → Shared → Prop} (I : Inv X pins σ H s) (e : H a = some (.ins C dx fs)) (c : Cls X.K C) (k : Con X.K C f v u) (l : fs.lookup f = none)
    (h : ∀ s', Inv X pins σ H s' → Q u s') : wpAny (model X.prog X.w) A (getAttr (.ref a) f b) Q E s := by
  obtain ⟨mA, O, r, _, _, _⟩ := ins_get I.hok e
  have hn : mA f = none := RelO.none_of (by rw [← l]; exact r f)
  exact get_const I.kIn O (c.get f) c.hd k.at_ k.get k.cp hn (handed_of k.rel) (h _ (I.tok _))

theorem getmeth_ok {m : Str} {g : Addr} {pl : Sem Bool} {Q : Value × List Value → Shared → Prop} (I : Inv X pins σ H s) (e : H a = some (.ins C dx fs)) (c : Cls X.K C) (k : Meth X.K C m g) (l : fs.lookup m = none)
    (h : Q (.ref g, [.ref a]) s) : wpAny (model X.prog X.w) A (getMethod (.ref a) m pl) Q E s := by
  obtain ⟨mA, O, r, _, _, _⟩ := ins_get I.hok e
  have hn : mA m = none := RelO.none_of (by rw [← l]; exact r m)
  exact get_meth I.kIn O (c.get m) k.at_ k.fn hn h

theorem setattr_ok {y : V} {u : Value} {Q : Unit → Shared → Prop} (I : Inv X pins σ H s) (e : H a = some (.ins C dx fs)) (c : Cls X.K C) (n : NoAttr X.K C f) (hl : fs.length < 1000) (ry : RelV y u)
    (h : ∀ s', Inv X pins σ (upd H a (.ins C dx (putF f y fs))) s' → Q () s') : wpAny (model X.prog X.w) A (setAttr (.ref a) f u) Q E s := by
  obtain ⟨mA, O, r, wi, _, ho⟩ := ins_get I.hok e
  have hz : (fs.map (·.1)).length ≤ sizeLine := by rw [List.length_map, sizeLine_eq]; omega
  refine set_map I.kIn O c.sa c.po n.taker c.hd wi hz fun h' O' sb => h _ ?_
  have hd : ∃ o, h'.get? dx = some o := let ⟨o, _, _, e', _⟩ := O'.ns; ⟨o, e'⟩
  refine I.write (x := a) (e := dx) (by rw [e]; exact True.intro) (.inr ho) (fun b q hb z => (sb.2 b hb).trans z) hd ?_
  refine ⟨by rw [upd_ne O.ne]; exact ho, ?_, O.ne, O'.obj, _, O'.ns, fun g => ?_, fun g hg => ?_⟩
  · have := length_putF f y fs; omega
  · show RelO ((putF f y fs).lookup g) (if g = f then some u else mA g)
    rw [lookup_putF]
    by_cases q : g = f
    · rw [if_pos q, if_pos q]; exact ry
    · rw [if_neg q, if_neg q]; exact r g
  · by_cases q : g = f
    · rw [q]; exact (keys_putF f y fs).1
    · refine (keys_putF f y fs).2 g (wi g fun z => hg ?_)
      show (if g = f then some u else mA g) = none
      rw [if_neg q]; exact z

/-- a new instance, tracked, without attributes -/
theorem Inv.made (I : Inv X pins σ H s) : Inv X pins σ (upd (upd H s.heap.objs.size (.own (s.heap.objs.size + 1))) (s.heap.objs.size + 1) (.ins C s.heap.objs.size []))
    { s with heap := (s.heap.push PySem.W.emptyDict).push (PySem.W.instObj C s.heap.objs.size) } := by
  have e1 : (s.heap.push PySem.W.emptyDict).get? s.heap.objs.size = some PySem.W.emptyDict := Heap.get?_push_size s.heap rfl
  have e2 : ((s.heap.push PySem.W.emptyDict).push (PySem.W.instObj C s.heap.objs.size)).get? (s.heap.objs.size + 1) = some (PySem.W.instObj C s.heap.objs.size) := by
    have := Heap.get?_push_size (s.heap.push PySem.W.emptyDict) (o := PySem.W.instObj C s.heap.objs.size) rfl
    rwa [Heap.size_push] at this
  have e3 : (s.heap.push PySem.W.emptyDict).Ns s.heap.objs.size (fun _ => none) := ⟨PySem.W.emptyDict, #[], _, e1, rfl, (fun e he => absurd he (by simp)), fun _ => rfl⟩
  have I1 := I.laid (a := s.heap.objs.size) (o := .own (s.heap.objs.size + 1)) (h' := s.heap.push PySem.W.emptyDict) (t' := s.toks) (fun b u q => Heap.get?_push_of_some _ q) (Nat.le_refl _) ⟨_, e1⟩
  refine I1.laid (a := s.heap.objs.size + 1) (o := .ins C s.heap.objs.size []) (t' := s.toks) (fun b u q => Heap.get?_push_of_some _ q) (Nat.le_of_eq (Heap.size_push _ _)) ?_
  have ne : s.heap.objs.size ≠ s.heap.objs.size + 1 := Nat.ne_of_lt (Nat.lt_succ_self _)
  refine ⟨by rw [upd_ne ne, upd_same], Nat.zero_le _, ne, e2, fun _ => none, (Heap.Ns1.of_empty e3).at fun o q => Heap.get?_push_of_some _ q, fun _ => True.intro, fun y hy => absurd rfl hy⟩

/-- e.f where nothing but the object is asked: through attributeBase (super) and the last hold -/
theorem attr_of {prog : Program} {w : World} {env : Env} {e : Expr} {f : Str} {pos : Pos} {s : Shared} {Q : Value → Shared → Prop} (hb : attributeBase e f env (eval e env) = eval e env)
    (h : wpAny (model prog w) A (eval e env) (fun o s₁ => wpAny (model prog w) A (getAttr o f true) Q E s₁) E s) : wpAny (model prog w) A (eval (.Attribute e f pos) env) Q E s :=
  Attribute_any_ h (by rw [arm_eval_Attribute, hb])
end

/-! ### readings and rules -/
/-- e.f, an attribute of the instance -/
def tFld (K : PySem.W.Frag) (ta : TE) (f : Str) : TE := fun σ H Q => ta σ H fun x H1 => ∃ a C dx fs v, x = .ref a ∧ H1 a = some (.ins C dx fs) ∧ Cls K C ∧ NoAttr K C f ∧ fs.lookup f = some v ∧ Q v H1
/-- e.f, a constant of the class -/
def tCon (K : PySem.W.Frag) (ta : TE) (f : Str) : TE := fun σ H Q => ta σ H fun x H1 => ∃ a C dx fs v u, x = .ref a ∧ H1 a = some (.ins C dx fs) ∧ Cls K C ∧ Con K C f v u ∧ fs.lookup f = none ∧ Q v H1
/-- e.f = value -/
def sFld (K : PySem.W.Frag) (ta tv : TE) (f : Str) : TS := fun D σ H => tv σ H fun y H1 => ta σ H1 fun x H2 => ∃ a C dx fs, x = .ref a ∧ H2 a = some (.ins C dx fs) ∧ Cls K C ∧ NoAttr K C f ∧ fs.length < 1000 ∧
  D.nx σ (upd H2 a (.ins C dx (putF f y fs)))
/-- an augmented operator on two values -/
def InOp (X : Cx) (op : Operator) (rd : V → V → Hp → VK → Prop) : Prop :=
  ∀ (pins : List (Addr × Obj)) (s : Shared) (σ : St) (H : Hp) (x y : V) (u v : Value) (Q : VK), Inv X pins σ H s → RelV x u → RelV y v → rd x y H Q → wpAny (model X.prog X.w) X.A (inplaceOp op u v) (EP X pins σ Q) X.xe s
/-- e.f op= value -/
def sFldAug (K : PySem.W.Frag) (ta tv : TE) (rd : V → V → Hp → VK → Prop) (f : Str) : TS := fun D σ H => ta σ H fun x H1 => ∃ a C dx fs v, x = .ref a ∧ H1 a = some (.ins C dx fs) ∧ Cls K C ∧ NoAttr K C f ∧ fs.lookup f = some v ∧
  tv σ H1 fun y H2 => rd v y H2 fun z H3 => ∃ dx' fs', H3 a = some (.ins C dx' fs') ∧ fs'.length < 1000 ∧ D.nx σ (upd H3 a (.ins C dx' (putF f z fs')))

section
variable {X : Cx} {o e value : Expr} {f : Str} {pos pos' tpos : Pos} {ta tv : TE}
theorem pe_fld (he : PE X e ta) (hb : attributeBase e f X.env (eval e X.env) = eval e X.env) : PE X (.Attribute e f pos) (tFld X.K ta f) := by
  intro pins s σ H Q I h
  refine attr_of hb (thn (he pins s σ H _ I h) fun u s1 ⟨x, H1, I1, rx, a, C, dx, fs, v, ex, ea, c, n, l, q⟩ => ?_)
  subst ex
  obtain rfl : u = Value.ref a := rx
  exact getattr_ok I1 ea c n l fun u' s2 I2 ru => ⟨v, H1, I2, ru, q⟩
theorem pe_con (he : PE X e ta) (hb : attributeBase e f X.env (eval e X.env) = eval e X.env) : PE X (.Attribute e f pos) (tCon X.K ta f) := by
  intro pins s σ H Q I h
  refine attr_of hb (thn (he pins s σ H _ I h) fun u s1 ⟨x, H1, I1, rx, a, C, dx, fs, v, u0, ex, ea, c, k, l, q⟩ => ?_)
  subst ex
  obtain rfl : u = Value.ref a := rx
  exact getcon_ok I1 ea c k l fun s2 I2 => ⟨v, H1, I2, k.rel, q⟩
theorem ps_fld (ha : PE X o ta) (hv : PE X value tv) (hs : swapsWith value (some (.Attribute o f pos')) pos.line X.env = pure false) : PS X (.Assign [.Attribute o f pos'] value pos) (sFld X.K ta tv f) := by
  intro pins s σ H D I h
  refine plainObj_wpAny_Assign_Attribute (thn (hv pins s σ H _ I h) fun u s1 ⟨y, H1, I1, ry, q⟩ => thn (ha pins s1 σ H1 _ I1 q) fun ov s2 ⟨x, H2, I2, rx, a, C, dx, fs, ex, ea, c, n, l, q2⟩ => ?_) hs
  subst ex
  obtain rfl : ov = Value.ref a := rx
  exact setattr_ok I2 ea c n l ry fun s3 I3 => ⟨σ, _, I3, q2⟩
theorem ps_fldaug {op : Operator} {rd : V → V → Hp → VK → Prop} (ha : PE X o ta) (hv : PE X value tv) (hop : InOp X op rd) : PS X (.AugAssign (.Attribute o f tpos) op value pos) (sFldAug X.K ta tv rd f) := by
  intro pins s σ H D I h
  refine wpAny_AugAssign_AttributeAny (thn (ha pins s σ H _ I h) fun ov s1 ⟨x, H1, I1, rx, a, C, dx, fs, v, ex, ea, c, n, l, q⟩ => ?_)
  subst ex
  obtain rfl : ov = Value.ref a := rx
  refine getattr_ok I1 ea c n l fun u s2 I2 ru => thn (hv pins s2 σ H1 _ I2 q) fun w3 s3 ⟨y, H2, I3, ry, q3⟩ => thn (hop pins s3 σ H2 v y u w3 _ I3 ru ry q3) fun w4 s4 ⟨z, H3, I4, rz, dx', fs', ea', l', q4⟩ => ?_
  exact setattr_ok I4 ea' c n l' rz fun s5 I5 => ⟨σ, _, I5, q4⟩
def rAdd : V → V → Hp → VK → Prop := fun x y H Q => ∃ i j, x = .int i ∧ y = .int j ∧ Q (.int (i + j)) H
def rSub : V → V → Hp → VK → Prop := fun x y H Q => ∃ i j, x = .int i ∧ y = .int j ∧ Q (.int (i - j)) H
theorem in_add : InOp X .Add rAdd := by
  rintro pins s σ H x y u v Q I rx ry ⟨i, j, rfl, rfl, q⟩
  obtain ⟨t, rfl⟩ := (show ∃ t, u = Value.int i t from rx)
  obtain ⟨t', rfl⟩ := (show ∃ t', v = Value.int j t' from ry)
  exact PyProof.Rows.iadd_int ⟨.int (i + j), H, I.tok _, ⟨_, rfl⟩, q⟩
theorem in_sub : InOp X .Sub rSub := by
  rintro pins s σ H x y u v Q I rx ry ⟨i, j, rfl, rfl, q⟩
  obtain ⟨t, rfl⟩ := (show ∃ t, u = Value.int i t from rx)
  obtain ⟨t', rfl⟩ := (show ∃ t', v = Value.int j t' from ry)
  exact PyProof.Rows.isub_int ⟨.int (i - j), H, I.tok _, ⟨_, rfl⟩, q⟩

/-- what is between an instance and its method: the tree of a method call -/
theorem methcall_of {pl : Sem Bool} {m : Str} {apos : Pos} {args : List Expr} {pins : List (Addr × Obj)} {s : Shared} {σ : St} {H : Hp} {Q : Value → Shared → Prop} {te : TE} (he : PE X e te) (I : Inv X pins σ H s)
    (h : te σ H fun x H1 => ∃ a C dx fs g, x = .ref a ∧ H1 a = some (.ins C dx fs) ∧ Cls X.K C ∧ Meth X.K C m g ∧ fs.lookup m = none ∧
      ∀ s1, Inv X pins σ H1 s1 → wpAny (model X.prog X.w) X.A (callWith pos (.ref g) [.ref a] (backTo pos (starEach args X.env)) (backToKw pos (keywordEach [] X.env))) Q X.xe s1)
    (ht : eval (.Call (.Attribute e m apos) args [] pos) X.env = (do
      let ov ← eval e X.env
      standAt apos.atName
      let (f, first) ← holding [ov] (getMethod ov m pl)
      callWith pos f first (backTo pos (starEach args X.env)) (backToKw pos (keywordEach [] X.env)))) :
    wpAny (model X.prog X.w) X.A (eval (.Call (.Attribute e m apos) args [] pos) X.env) Q X.xe s := by
  refine PySem.W.methodCall_KW (pl := pl) (thn (he pins s σ H _ I h) fun u s1 ⟨x, H1, I1, rx, a, C, dx, fs, g, ex, ea, c, k, l, q⟩ => ?_) ht
  subst ex
  obtain rfl : u = Value.ref a := rx
  exact getmeth_ok I1 ea c k l (q s1 I1)
end

/-! ### isinstance -/
section
variable {X : Cx} {pins : List (Addr × Obj)} {σ : St} {H : Hp} {s : Shared} {A : Around} {E : Value → Shared → Prop} {Q : Value → Shared → Prop} {c : Value} {b : Bool}
/-- the type of a value, as the fragment's deciders take it; for an instance its class -/
inductive TyOf (K : PySem.W.Frag) (H : Hp) : V → Value → Prop where
  | non : TyOf K H .non (.type "NoneType")
  | bl (x : Bool) : TyOf K H (.bl x) (.type "bool")
  | int (i : Int) : TyOf K H (.int i) (.type "int")
  | str (x : Str) : TyOf K H (.str x) (.type "str")
  | flt (x : UInt64) : TyOf K H (.flt x) (.type "float")
  | lst {a : Addr} {xs : List V} (e : H a = some (.lst xs)) : TyOf K H (.ref a) (.type "list")
  | frz {a : Addr} {o : Obj} {xs : List V} (e : H a = some (.frz o (.lst xs))) : TyOf K H (.ref a) (.type "list")
  | tup {a : Addr} {xs : List V} (e : H a = some (.tup xs)) : TyOf K H (.ref a) (.type "tuple")
  | dK {a : Addr} {kvs : List (Key × V)} (e : H a = some (.dK kvs)) : TyOf K H (.ref a) (.type "dict")
  | dT {a : Addr} {kvs : List (List Key × V)} (e : H a = some (.dT kvs)) : TyOf K H (.ref a) (.type "dict")
  | ins {a C dx : Addr} {fs : List (Str × V)} (e : H a = some (.ins C dx fs)) (cl : Cls K C) (ha : PySem.W.findIn K (.ref C) "__class__" = some (some (.builtin "object.__class__")))
      (hn : PySem.W.specialIn K (.builtin "object.__class__") "__get__" = some (some (.builtin "getset_descriptor.__get__"))) (htk : PySem.W.takesIn K (.builtin "object.__class__") = some true)
      (hm : PySem.W.mroIn K C (.type "object") = some true) : TyOf K H (.ref a) (.ref C)
/-- isinstance(x, c) for one class c, a built-in or an own one: kitOne's answer -/
theorem isinst_ok {x : V} {u t : Value} (I : Inv X pins σ H s) (rx : RelV x u) (ty : TyOf X.K H x t) (e : PySem.W.kitOne X.K t c = some b) (h : ∀ tk, Q (.bool b) { s with toks := tk }) :
    wpAny (model X.prog X.w) A (call (.builtin "isinstance") [u, c]) Q E s := by
  cases ty with
  | non => cases (show u = Value.none from rx); exact PySem.W.kia_one PySem.W.kitx_none I.kIn True.intro e (fun z => nomatch z) h
  | bl y => cases (show u = Value.bool y from rx); exact PySem.W.kia_one PySem.W.kitx_bool I.kIn True.intro e (fun z => nomatch z) h
  | int i => obtain ⟨t, q⟩ := (show ∃ t, u = Value.int i t from rx); cases q; exact PySem.W.kia_one PySem.W.kitx_int I.kIn True.intro e (fun z => nomatch z) h
  | str y => obtain ⟨t, q⟩ := (show ∃ t, u = Value.str y t from rx); cases q; exact PySem.W.kia_one PySem.W.kitx_str I.kIn True.intro e (fun z => nomatch z) h
  | flt y => obtain ⟨t, q⟩ := (show ∃ t, u = Value.float y t from rx); cases q; exact PySem.W.kia_one PySem.W.kitx_float I.kIn True.intro e (fun z => nomatch z) h
  | @lst a xs ea =>
    cases (show u = Value.ref a from rx)
    obtain ⟨_, _, n, _, h1⟩ := (show ObjOk X.prog X.w H s.heap a (.lst xs) from I.hok a _ ea)
    exact PySem.W.kia_one PySem.W.kitx_list I.kIn ⟨_, h1, rfl⟩ e (fun z => nomatch z) h
  | @frz a ob xs ea =>
    cases (show u = Value.ref a from rx)
    obtain ⟨_, _, _, n, _, h1⟩ := (show ObjOk X.prog X.w H s.heap a (.frz ob (.lst xs)) from I.hok a _ ea)
    exact PySem.W.kia_one PySem.W.kitx_list I.kIn ⟨_, h1, rfl⟩ e (fun z => nomatch z) h
  | @tup a xs ea =>
    cases (show u = Value.ref a from rx)
    obtain ⟨_, _, _, p⟩ := (show ObjOk X.prog X.w H s.heap a (.tup xs) from I.hok a _ ea)
    obtain ⟨o, h1, h2, _⟩ := p
    exact PySem.W.kia_one PySem.W.kitx_tuple I.kIn ⟨o, h1, h2⟩ e (fun z => nomatch z) h
  | @dK a kvs ea =>
    cases (show u = Value.ref a from rx)
    obtain ⟨_, _, vs, _, p⟩ := (show ObjOk X.prog X.w H s.heap a (.dK kvs) from I.hok a _ ea)
    obtain ⟨o, es, ep, h1, h2, _⟩ := p
    exact PySem.W.kia_one PySem.W.kitx_dict I.kIn ⟨o, h1, h2.1⟩ e (fun z => nomatch z) h
  | @dT a kvs ea =>
    cases (show u = Value.ref a from rx)
    obtain ⟨_, _, xs, _, o, es, ep, h1, h2, _⟩ := (show ObjOk X.prog X.w H s.heap a (.dT kvs) from I.hok a _ ea)
    exact PySem.W.kia_one PySem.W.kitx_dict I.kIn ⟨o, h1, h2.1⟩ e (fun z => nomatch z) h
  | @ins a C dx fs ea cl ha hn htk hm =>
    cases (show u = Value.ref a from rx)
    obtain ⟨mA, O, _⟩ := ins_get I.hok ea
    obtain ⟨od, J, _⟩ := O.look
    exact PySem.W.kia_one (PySem.W.kitx_own (cl.get _) cl.hd ha hn htk hm) I.kIn J e (fun z => nomatch z) h
end
end L2

namespace L2
open PySem PySem.Spec PyProof.Rows

/-! ### room -/
structure Room (k : Nat) (A : Around) : Prop where
  hd : A.handled = none
  dp : A.depth + 3 * k + 5 < recursionLimit
  un : A.units + 16 * k + 200 < cLine
theorem Room.mono {j k : Nat} {A : Around} (r : Room k A) (h : j ≤ k) : Room j A := ⟨r.hd, by have := r.dp; omega, by have := r.un; omega⟩
theorem Room.deeper {k : Nat} {A : Around} (r : Room (k + 1) A) (env : Env) : Room k (A.deeper env) :=
  ⟨r.hd, by have := r.dp; show A.depth + 1 + 3 * k + 5 < _; omega, by have := r.un; show A.units + 3 + 16 * k + 200 < _; omega⟩
theorem Room.in1 {k : Nat} {A : Around} (r : Room (k + 1) A) : Room k A.in1 :=
  ⟨r.hd, by have := r.dp; show A.depth + 3 * k + 5 < _; omega, by have := r.un; show A.units + 1 + 16 * k + 200 < _; omega⟩
theorem make_depth {A : Around} {C : Addr} {us : List Value} {kw : List (Str × Value)} : (A.under (.builtin "type.__call__" ⟨.ref C :: us, kw⟩)).depth = A.depth + 1 := by
  first | rfl | simp [Around.under, Code.weight, Code.isCreation, Code.isGuard, Code.isCaller, Code.frames, Code.isFrame, guardIds]
theorem make_units {A : Around} {C : Addr} {us : List Value} {kw : List (Str × Value)} : (A.under (.builtin "type.__call__" ⟨.ref C :: us, kw⟩)).units = A.units + 1 := by
  first | rfl | simp [Around.under, Code.cUnits, Code.frames, Code.isFrame]
theorem Room.make {k : Nat} {A : Around} (r : Room (k + 1) A) (C : Addr) (us : List Value) (kw : List (Str × Value)) : Room k (A.under (.builtin "type.__call__" ⟨.ref C :: us, kw⟩)) :=
  ⟨r.hd, by have := r.dp; rw [make_depth]; omega, by have := r.un; rw [make_units]; omega⟩
theorem Room.depth {k : Nat} {A : Around} (r : Room k A) : A.depth < recursionLimit := by have := r.dp; omega
theorem Room.units {k : Nat} {A : Around} (r : Room k A) : A.units + 64 < cLine := by have := r.un; omega
theorem Room.units0 {k : Nat} {A : Around} (r : Room k A) : A.units < cLine := by have := r.un; omega

/-! ### argument lists and displays -/
def tNil : TA := fun _ H Q => Q [] H
def tCons (ta : TE) (tr : TA) : TA := fun σ H Q => ta σ H fun x H1 => tr σ H1 fun xs H2 => Q (x :: xs) H2
section
variable {X : Cx} {e : Expr} {es : List Expr} {te : TE} {t : TA} {pos : Pos}
theorem pa_nil : PA X [] tNil := fun _ _ _ _ H Q I h => Calls.spliced_nil ⟨[], H, I, .nil, h⟩
theorem pa_cons (ha : PE X e te) (hr : PA X es t) (hs : starEach (e :: es) X.env = (false, eval e X.env) :: starEach es X.env := by rfl) : PA X (e :: es) (tCons te t) := by
  intro pos pins s σ H Q I h
  rw [hs]
  show wpAny _ _ (spliced ((false, eval e X.env) :: backTo pos (starEach es X.env))) _ _ s
  refine Calls.spliced_cons (thn (ha pins s σ H _ I h) fun u s1 ⟨x, H1, I1, r1, q1⟩ => ?_)
  exact thn (hr pos pins s1 σ H1 _ I1 q1) fun us s2 ⟨xs, H2, I2, r2, q2⟩ => ⟨x :: xs, H2, I2, .cons r1 r2, q2⟩

/-- a tuple, a list of written items -/
def tTup (t : TA) : TE := fun σ H Q => t σ H fun xs H1 => xs.length ≤ sizeLine ∧ ∀ p, H1 p = none → Q (.ref p) (upd H1 p (.tup xs))
def tLst (t : TA) : TE := fun σ H Q => t σ H fun xs H1 => xs.length ≤ sizeLine ∧ ∀ p, H1 p = none → Q (.ref p) (upd H1 p (.lst xs))
theorem pe_tup {x1} (h : PA X es t) : PE X (.Tuple es x1 pos) (tTup t) := by
  intro pins s σ H Q I hq
  refine wpAny_Tuple_spliced (thn (h pos pins s σ H _ I hq) fun us s1 ⟨xs, H1, I1, r, z, q⟩ => ⟨by rw [← r.length]; exact z, ?_⟩)
  have hf : H1 s1.heap.objs.size = none := I1.hok.fresh (Nat.le_refl _)
  refine ⟨.ref s1.heap.objs.size, upd H1 s1.heap.objs.size (.tup xs), I1.laid (t' := s1.toks) (fun b u e => Heap.get?_push_of_some _ e) (Nat.le_refl _) ?_, rfl, q _ hf⟩
  exact ⟨z, us, r, ⟨_, Heap.get?_push_size _ rfl, rfl, _, rfl⟩⟩
theorem pe_lst (h : PA X es t) : PE X (.List es pos) (tLst t) := by
  intro pins s σ H Q I hq
  refine wpAny_List_spliced (thn (h pos pins s σ H _ I hq) fun us s1 ⟨xs, H1, I1, r, z, q⟩ => ⟨by rw [← r.length]; exact z, ?_⟩)
  have hf : H1 s1.heap.objs.size = none := I1.hok.fresh (Nat.le_refl _)
  refine ⟨.ref s1.heap.objs.size, upd H1 s1.heap.objs.size (.lst xs), I1.laid (t' := s1.toks) (fun b u e => Heap.get?_push_of_some _ e) (Nat.le_refl _) ?_, rfl, q _ hf⟩
  exact ⟨z, us, 0, r, Heap.get?_push_size _ rfl⟩
end

/-! ### what a def promises -/
/-- a def's promise: the bound arguments in the parameters' order, the heap, the wanted end, the wanted exception -/
abbrev Sp := List V → Hp → VK → XK → Prop
/-- how an exception lies behind a call (file 08 gives it): the callers' frames, abstract heap and state ahead of the call, the wish, the exception, the state -/
abbrev CXT := List Env → Hp → Shared → XK → Value → Shared → Prop

/-- the state at a call -/
structure Env0 (P : Program) (w : World) (K : PySem.W.Frag) (mg : Str → Option Value) (base : Heap) (A : Around) (outer : List Env) (s : Shared) (H : Hp) : Prop where
  frames : A.frames = some outer
  mod : Mod K mg base
  bs : ∀ b o, base.get? b = some o → s.heap.get? b = some o ∧ H b = none
  bsz : base.objs.size ≤ s.heap.objs.size
  funs : s.heap.FunFrames base outer
  frf : ∀ b ∈ frs outer, H b = none
  hok : HOk P w H s.heap
  bare : AllBare s.gens
/-- a call's end -/
def CE (outer : List Env) (P : Program) (w : World) (H : Hp) (s : Shared) (Q : VK) (u : Value) (s' : Shared) : Prop :=
  ∃ v H', s'.os = s.os ∧ AllBare s'.gens ∧ Un (frs outer) [] H H' s.heap s'.heap ∧ HOk P w H' s'.heap ∧ RelV v u ∧ Q v H'
def CR (CX : CXT) (outer : List Env) (P : Program) (w : World) (H : Hp) (s : Shared) (Q : VK) (E : XK) (r : Result) (s' : Shared) : Prop :=
  match r with
  | .ok (.ret u) => CE outer P w H s Q u s'
  | .ok _ => False
  | .error e => CX outer H s E e s'
structure FnOk (P : Program) (w : World) (K : PySem.W.Frag) (mg : Str → Option Value) (base : Heap) (CX : CXT) (k : Nat) (f : Addr) (fd : FuncData) (ps : List Str) (sp : Sp) : Prop where
  len : ∀ vs H Q E, sp vs H Q E → vs.length = ps.length
  run : ∀ (A : Around) (outer : List Env) (s : Shared) (H : Hp) (args : Args) (us : List Value) (vs : List V) (Q : VK) (E : XK), Room k A → Env0 P w K mg base A outer s H → BindsTo s fd args (ps.zip us) → Vals vs us → sp vs H Q E →
    codeAny (model P w) A (.call (.ref f) args) (CR CX outer P w H s Q E) s
theorem FnOk.mono {P : Program} {w : World} {K : PySem.W.Frag} {mg : Str → Option Value} {base : Heap} {CX : CXT} {j k : Nat} {f : Addr} {fd : FuncData} {ps : List Str} {sp : Sp} (F : FnOk P w K mg base CX j f fd ps sp) (h : j ≤ k) :
    FnOk P w K mg base CX k f fd ps sp := ⟨F.len, fun A outer s H args us vs Q E hr => F.run A outer s H args us vs Q E (hr.mono h)⟩
/-- a weaker promise -/
theorem FnOk.imp {P : Program} {w : World} {K : PySem.W.Frag} {mg : Str → Option Value} {base : Heap} {CX : CXT} {k : Nat} {f : Addr} {fd : FuncData} {ps : List Str} {sp sp' : Sp} (F : FnOk P w K mg base CX k f fd ps sp)
    (h : ∀ vs H Q E, sp' vs H Q E → sp vs H Q E) : FnOk P w K mg base CX k f fd ps sp' :=
  ⟨fun vs H Q E q => F.len vs H Q E (h _ _ _ _ q), fun A outer s H args us vs Q E hr he hb hv hs => F.run A outer s H args us vs Q E hr he hb hv (h _ _ _ _ hs)⟩

theorem Env0.make {P : Program} {w : World} {K : PySem.W.Frag} {mg : Str → Option Value} {base : Heap} {A : Around} {outer : List Env} {s : Shared} {H : Hp} (e : Env0 P w K mg base A outer s H) (C : Addr) (us : List Value) (kw : List (Str × Value)) :
    Env0 P w K mg base (A.under (.builtin "type.__call__" ⟨.ref C :: us, kw⟩)) outer s H := ⟨by first | exact e.frames | (simpa [Around.under, Code.envs, Code.isFrame, pushEnvs] using e.frames), e.mod, e.bs, e.bsz, e.funs, e.frf, e.hok, e.bare⟩
theorem Env0.in1 {P : Program} {w : World} {K : PySem.W.Frag} {mg : Str → Option Value} {base : Heap} {A : Around} {outer : List Env} {s : Shared} {H : Hp} (e : Env0 P w K mg base A outer s H) :
    Env0 P w K mg base A.in1 outer s H := ⟨e.frames, e.mod, e.bs, e.bsz, e.funs, e.frf, e.hok, e.bare⟩

section
variable {X : Cx} {pins : List (Addr × Obj)} {σ : St} {H : Hp} {s s' : Shared}
/-- from a body: what a callee wants -/
theorem Inv.env0 (I : Inv X pins σ H s) : Env0 X.prog X.w X.K X.mg X.base X.A X.stack s H :=
  ⟨I.ok.frames, I.ok.mod, I.bs, Nat.le_trans I.ok.bsz I.sz, I.stack, I.stkFree, I.hok, I.bare⟩
/-- behind a call -/
theorem Inv.after {Q : VK} {u : Value} (I : Inv X pins σ H s) (h : CE X.stack X.prog X.w H s Q u s') : EP X pins σ Q u s' := by
  obtain ⟨v, H', os, bare, un, hok, r, q⟩ := h
  obtain ⟨hh, g, d, t, os'⟩ := s'
  obtain rfl : os' = s.os := os
  exact ⟨v, H', I.call (h' := hh) (g' := g) (d' := d) (t' := t) (ch := []) un hok bare (fun b z => absurd z (by simp)), r, q⟩
end

/-! ### calls -/
/-- f(..): the written arguments, then the defaults dvs; E: what is wanted of an exception -/
def tCall (sp : Sp) (dvs : List V) (E : XK) (t : TA) : TE := fun σ H Q => t σ H fun vs H1 => sp (vs ++ dvs) H1 Q E
/-- o.m(..) of an instance of the class at C -/
def tMeth (C : Addr) (m : Str) (sp : Sp) (dvs : List V) (E : XK) (ta : TE) (t : TA) : TE := fun σ H Q => ta σ H fun x H1 => ∃ a dx fs, x = .ref a ∧ H1 a = some (.ins C dx fs) ∧ fs.lookup m = none ∧
  t σ H1 fun vs H2 => sp (x :: (vs ++ dvs)) H2 Q E
/-- C(..): a new instance and its dict, then __init__ -/
def tMake (C : Addr) (sp : Sp) (dvs : List V) (E : XK) (t : TA) : TE := fun σ H Q => t σ H fun vs H1 => ∀ x dx, H1 x = none → H1 dx = none → dx ≠ x →
  sp (.ref x :: (vs ++ dvs)) (upd (upd H1 dx (.own x)) x (.ins C dx [])) (fun v H2 => v = .non ∧ Q (.ref x) H2) E

/-- how the parameters are bound: us the positional arguments, kw the keywords' values by name, ds the defaults that fill up -/
def Binds (K : PySem.W.Frag) (fd : FuncData) (ps : List Str) (ds : List Value) : Prop :=
  ∀ (s : Shared) (us : List Value), K.In s.heap → (us ++ ds).length = ps.length → BindsTo s fd ⟨us, []⟩ (ps.zip (us ++ ds))
/-- every parameter is given -/
theorem Binds.all {K : PySem.W.Frag} {fd : FuncData} {ps : List Str} (h : ∀ us : List Value, us.length = ps.length → bindArgs fd ⟨us, []⟩ = pure (ps.zip us)) : Binds K fd ps [] := fun s us _ hl => by
  rw [List.append_nil] at hl ⊢
  exact .of_eq (h us hl)

/-- an exception of a callee reaches what this body wants of exceptions -/
def Passes (CX : CXT) (X : Cx) (E : XK) : Prop := ∀ (pins : List (Addr × Obj)) (σ : St) (H : Hp) (s : Shared) (e : Value) (s' : Shared), Inv X pins σ H s → CX X.stack H s E e s' → X.xe e s'

section
variable {X : Cx} {CX : CXT} {k : Nat} {f C : Addr} {fd : FuncData} {ps : List Str} {sp : Sp} {dvs : List V} {ds : List Value} {E : XK} {x m : Str} {p pos apos : Pos} {e o : Expr} {es : List Expr} {ta : TE} {t : TA}

/-- the callee runs -/
theorem run_fn {pins : List (Addr × Obj)} {σ : St} {H : Hp} {s : Shared} {Q : VK} {us : List Value} {vs : List V} (F : FnOk X.prog X.w X.K X.mg X.base CX k f fd ps sp) (hr : Room k X.A) (hb : Binds X.K fd ps ds) (hd : Vals dvs ds) (hx : Passes CX X E)
    (I : Inv X pins σ H s) (r : Vals vs us) (h : sp (vs ++ dvs) H Q E) : wpAny (model X.prog X.w) X.A (call (.ref f) us) (EP X pins σ Q) X.xe s := by
  have r2 : Vals (vs ++ dvs) (us ++ ds) := r.append hd
  have hl : (us ++ ds).length = ps.length := by rw [← r2.length]; exact F.len _ _ _ _ h
  refine wpAny_call (codeAny_mono (F.run X.A X.stack s H ⟨us, []⟩ (us ++ ds) (vs ++ dvs) Q E hr I.env0 (hb s us I.kIn hl) r2 h) fun r s' hq => ?_)
  cases r with
  | error e => exact hx pins σ H s e s' I hq
  | ok fl =>
    cases fl with
    | ret u => exact I.after hq
    | next => exact False.elim hq
    | brk => exact False.elim hq
    | cont => exact False.elim hq

theorem pe_call (F : FnOk X.prog X.w X.K X.mg X.base CX k f fd ps sp) (hr : Room k X.A) (hg : Gl X x) (hm : X.mg x = some (.ref f)) (hk : PySem.W.keepIn X.K (.ref f) = true) (hb : Binds X.K fd ps ds) (hd : Vals dvs ds) (hx : Passes CX X E)
    (ha : PA X (e :: es) t) (hdb : (x == ("__debug__" : Str)) = false := by decide) (he : starEach (e :: es) X.env = (false, eval e X.env) :: starEach es X.env := by rfl) (hpl : (backTo pos (starEach es X.env)).any (·.1) = false := by rfl) :
    PE X (.Call (.Name x p) (e :: es) [] pos) (tCall sp dvs E t) := by
  intro pins s σ H Q I h
  refine wpAny_Call_Name_kw (ld_glob I hg hm ?_ hdb)
  refine PySem.W.callWith_K (h₀ := X.base) I.ok.mod.kin hk (thn (ha pos pins s σ H _ I h) fun us s1 ⟨vs, H1, I1, r, q⟩ => ⟨I1.kIn, ?_⟩) he hpl
  exact run_fn F hr hb hd hx I1 r q
theorem pe_call0 (F : FnOk X.prog X.w X.K X.mg X.base CX k f fd ps sp) (hr : Room k X.A) (hg : Gl X x) (hm : X.mg x = some (.ref f)) (hk : PySem.W.keepIn X.K (.ref f) = true) (hb : Binds X.K fd ps ds) (hd : Vals dvs ds) (hx : Passes CX X E)
    (hdb : (x == ("__debug__" : Str)) = false := by decide) : PE X (.Call (.Name x p) [] [] pos) (tCall sp dvs E tNil) := by
  intro pins s σ H Q I h
  refine wpAny_Call_Name_kw (ld_glob I hg hm ?_ hdb)
  exact PySem.W.callWith_K0 I.kIn hk (run_fn (us := []) F hr hb hd hx I .nil h)

/-- o.m(e, ..) -/
theorem pe_meth {pl : Sem Bool} (he : PE X o ta) (c : Cls X.K C) (hm : Meth X.K C m f) (F : FnOk X.prog X.w X.K X.mg X.base CX k f fd ps sp) (hr : Room k X.A) (hb : Binds X.K fd ps ds) (hd : Vals dvs ds) (hx : Passes CX X E) (ha : PA X (e :: es) t)
    (hst : starEach (e :: es) X.env = (false, eval e X.env) :: starEach es X.env := by rfl) (hpl : (backTo pos (starEach es X.env)).any (·.1) = false := by rfl)
    (ht : eval (.Call (.Attribute o m apos) (e :: es) [] pos) X.env = (do
      let ov ← eval o X.env
      standAt apos.atName
      let (f, first) ← holding [ov] (getMethod ov m pl)
      callWith pos f first (backTo pos (starEach (e :: es) X.env)) (backToKw pos (keywordEach [] X.env))) := by rfl) :
    PE X (.Call (.Attribute o m apos) (e :: es) [] pos) (tMeth C m sp dvs E ta t) := by
  intro pins s σ H Q I h
  refine PySem.W.methodCall_KW (pl := pl) (thn (he pins s σ H _ I h) fun u s1 ⟨x, H1, I1, rx, a, dx, fs, ex, ea, l, q⟩ => ?_) ht
  subst ex
  obtain rfl : u = Value.ref a := rx
  refine getmeth_ok I1 ea c hm l ?_
  refine PySem.W.callWith_K (first := [.ref a]) (h₀ := X.base) I.ok.mod.kin hm.kp (thn (ha pos pins s1 σ H1 _ I1 q) fun us s2 ⟨vs, H2, I2, r, q2⟩ => ⟨I2.kIn, ?_⟩) hst hpl
  exact run_fn (us := .ref a :: us) (vs := .ref a :: vs) F hr hb hd hx I2 (.cons rfl r) q2
/-- o.m() -/
theorem pe_meth0 {pl : Sem Bool} (he : PE X o ta) (c : Cls X.K C) (hm : Meth X.K C m f) (F : FnOk X.prog X.w X.K X.mg X.base CX k f fd ps sp) (hr : Room k X.A) (hb : Binds X.K fd ps ds) (hd : Vals dvs ds) (hx : Passes CX X E)
    (ht : eval (.Call (.Attribute o m apos) [] [] pos) X.env = (do
      let ov ← eval o X.env
      standAt apos.atName
      let (f, first) ← holding [ov] (getMethod ov m pl)
      callWith pos f first (backTo pos (starEach [] X.env)) (backToKw pos (keywordEach [] X.env))) := by rfl) :
    PE X (.Call (.Attribute o m apos) [] [] pos) (tMeth C m sp dvs E ta tNil) := by
  intro pins s σ H Q I h
  refine PySem.W.methodCall_KW (pl := pl) (thn (he pins s σ H _ I h) fun u s1 ⟨x, H1, I1, rx, a, dx, fs, ex, ea, l, q⟩ => ?_) ht
  subst ex
  obtain rfl : u = Value.ref a := rx
  refine getmeth_ok I1 ea c hm l ?_
  exact PySem.W.callWith_K0 (first := [.ref a]) I1.kIn hm.kp (run_fn (us := [.ref a]) (vs := [.ref a]) F hr hb hd hx I1 (.cons rfl .nil) q)

/-- what a class must have to be made -/
structure Mk (K : PySem.W.Frag) (C f : Addr) : Prop where
  makes : PySem.W.makesIn K C = true
  init : PySem.W.findIn K (.ref C) "__init__" = some (some (.ref f))
  fn : PySem.W.isFn K (.ref f) = true
  kp : PySem.W.keepIn K (.ref C) = true

theorem run_make {pins : List (Addr × Obj)} {σ : St} {H : Hp} {s : Shared} {Q : VK} {us : List Value} {vs : List V} (M : Mk X.K C f) (F : FnOk X.prog X.w X.K X.mg X.base CX k f fd ps sp) (hr : Room (k + 1) X.A) (hb : Binds X.K fd ps ds) (hd : Vals dvs ds)
    (hx : Passes CX X E) (I : Inv X pins σ H s) (r : Vals vs us)
    (h : ∀ x dx, H x = none → H dx = none → dx ≠ x → sp (.ref x :: (vs ++ dvs)) (upd (upd H dx (.own x)) x (.ins C dx [])) (fun v H2 => v = .non ∧ Q (.ref x) H2) E) :
    wpAny (model X.prog X.w) X.A (call (.ref C) us) (EP X pins σ Q) X.xe s := by
  have hq := h (s.heap.objs.size + 1) s.heap.objs.size (I.hok.fresh (Nat.le_succ _)) (I.hok.fresh (Nat.le_refl _)) (Nat.ne_of_lt (Nat.lt_succ_self _))
  have I2 := Inv.made (C := C) I
  have r2 : Vals (V.ref (s.heap.objs.size + 1) :: (vs ++ dvs)) (Value.ref (s.heap.objs.size + 1) :: (us ++ ds)) := .cons rfl (r.append hd)
  have hl : (Value.ref (s.heap.objs.size + 1) :: us ++ ds).length = ps.length := by
    have e := r2.length
    rw [F.len _ _ _ _ hq] at e
    exact e.symm
  refine wpAny_call (make_map (f := f) I.kIn M.makes M.init (beq_iff_eq.mp M.fn) (codeAny_mono (F.run _ X.stack _ _ ⟨Value.ref (s.heap.objs.size + 1) :: us, []⟩ (Value.ref (s.heap.objs.size + 1) :: (us ++ ds)) _ _ E (hr.make C us [])
    (I2.env0.make C us []) (hb _ (Value.ref (s.heap.objs.size + 1) :: us) I2.kIn hl) r2 hq) fun r s' hq' => ?_))
  cases r with
  | error e => exact hx pins σ _ _ e s' I2 hq'
  | ok fl =>
    cases fl with
    | ret u =>
      obtain ⟨v, H', I3, rv, ev, q3⟩ := I2.after hq'
      subst ev
      exact ⟨rv, ⟨V.ref (s.heap.objs.size + 1), H', I3, rfl, q3⟩⟩
    | next => exact False.elim hq'
    | brk => exact False.elim hq'
    | cont => exact False.elim hq'
theorem pe_make (M : Mk X.K C f) (F : FnOk X.prog X.w X.K X.mg X.base CX k f fd ps sp) (hr : Room (k + 1) X.A) (hg : Gl X x) (hm : X.mg x = some (.ref C)) (hb : Binds X.K fd ps ds) (hd : Vals dvs ds) (hx : Passes CX X E)
    (ha : PA X (e :: es) t) (hdb : (x == ("__debug__" : Str)) = false := by decide) (he : starEach (e :: es) X.env = (false, eval e X.env) :: starEach es X.env := by rfl) (hpl : (backTo pos (starEach es X.env)).any (·.1) = false := by rfl) :
    PE X (.Call (.Name x p) (e :: es) [] pos) (tMake C sp dvs E t) := by
  intro pins s σ H Q I h
  refine wpAny_Call_Name_kw (ld_glob I hg hm ?_ hdb)
  refine PySem.W.callWith_K (h₀ := X.base) I.ok.mod.kin M.kp (thn (ha pos pins s σ H _ I h) fun us s1 ⟨vs, H1, I1, r, q⟩ => ⟨I1.kIn, ?_⟩) he hpl
  exact run_make M F hr hb hd hx I1 r q
theorem pe_make0 (M : Mk X.K C f) (F : FnOk X.prog X.w X.K X.mg X.base CX k f fd ps sp) (hr : Room (k + 1) X.A) (hg : Gl X x) (hm : X.mg x = some (.ref C)) (hb : Binds X.K fd ps ds) (hd : Vals dvs ds) (hx : Passes CX X E)
    (hdb : (x == ("__debug__" : Str)) = false := by decide) : PE X (.Call (.Name x p) [] [] pos) (tMake C sp dvs E tNil) := by
  intro pins s σ H Q I h
  refine wpAny_Call_Name_kw (ld_glob I hg hm ?_ hdb)
  exact PySem.W.callWith_K0 I.kIn M.kp (run_make (us := []) M F hr hb hd hx I .nil h)
end

/-! ### keywords -/
/-- the values of the keywords, from the left -/
def PK (X : Cx) (kws : List Keyword) (t : TA) : Prop :=
  ∀ (pos : Pos) (pins : List (Addr × Obj)) (s : Shared) (σ : St) (H : Hp) (Q : List V → Hp → Prop), Inv X pins σ H s → t σ H Q → wpAny (model X.prog X.w) X.A (evalAll ((backToKw pos (keywordEach kws X.env)).map (·.2))) (AP X pins σ Q) X.xe s
section
variable {X : Cx} {CX : CXT} {k : Nat} {f C : Addr} {fd : FuncData} {ps ks : List Str} {sp : Sp} {E : XK} {x m : Str} {p pos apos kpos : Pos} {e o : Expr} {es : List Expr} {kws : List Keyword} {te ta : TE} {t tk : TA} {nm : Option Str}
theorem pk_nil : PK X [] tNil := fun _ _ _ _ H Q I h => wpAny_evalAll_nil ⟨[], H, I, .nil, h⟩
theorem pk_cons (ha : PE X e te) (hr : PK X kws t) : PK X (⟨nm, e, kpos⟩ :: kws) (tCons te t) := by
  intro pos pins s σ H Q I h
  show wpAny _ _ (evalAll ((do let v ← eval e X.env; standAt pos; pure v) :: (backToKw pos (keywordEach kws X.env)).map (·.2))) _ _ s
  refine wpAny_evalAll_cons (wpAny_bind (thn (ha pins s σ H _ I h) fun u s1 ⟨x, H1, I1, r1, q1⟩ => wpAny_bind (wpAny_standAt (wpAny_pure ?_))))
  exact thn (hr pos pins s1 σ H1 _ I1 q1) fun us s2 ⟨xs, H2, I2, r2, q2⟩ => ⟨x :: xs, H2, I2, .cons r1 r2, q2⟩

/-- how a call with keywords binds: g puts the positional values us and the keywords' values ws (names ks) in the parameters' order, defaults among them -/
structure KBinds (K : PySem.W.Frag) (fd : FuncData) (ps ks : List Str) (g : List Value → List Value → List Value) (gV : List V → List V → List V) : Prop where
  to : ∀ (s : Shared) (us ws : List Value), K.In s.heap → (g us ws).length = ps.length → BindsTo s fd ⟨us, ks.zip ws⟩ (ps.zip (g us ws))
  rel : ∀ {vs : List V} {us : List Value} {zs : List V} {ws : List Value}, Vals vs us → Vals zs ws → Vals (gV vs zs) (g us ws)
def tCallK (sp : Sp) (gV : List V → List V → List V) (E : XK) (t tk : TA) : TE := fun σ H Q => t σ H fun vs H1 => tk σ H1 fun zs H2 => sp (gV vs zs) H2 Q E
variable {g : List Value → List Value → List Value} {gV : List V → List V → List V}
theorem run_fnk {pins : List (Addr × Obj)} {σ : St} {H : Hp} {s : Shared} {Q : VK} {us ws : List Value} {vs zs : List V} (F : FnOk X.prog X.w X.K X.mg X.base CX k f fd ps sp) (hr : Room k X.A) (hb : KBinds X.K fd ps ks g gV) (hx : Passes CX X E)
    (I : Inv X pins σ H s) (r : Vals vs us) (rz : Vals zs ws) (h : sp (gV vs zs) H Q E) : wpAny (model X.prog X.w) X.A (call (.ref f) us (ks.zip ws)) (EP X pins σ Q) X.xe s := by
  have r2 := hb.rel r rz
  have hl : (g us ws).length = ps.length := by rw [← r2.length]; exact F.len _ _ _ _ h
  refine wpAny_call (codeAny_mono (F.run X.A X.stack s H ⟨us, ks.zip ws⟩ (g us ws) (gV vs zs) Q E hr I.env0 (hb.to s us ws I.kIn hl) r2 h) fun r s' hq => ?_)
  cases r with
  | error e => exact hx pins σ H s e s' I hq
  | ok fl =>
    cases fl with
    | ret u => exact I.after hq
    | next => exact False.elim hq
    | brk => exact False.elim hq
    | cont => exact False.elim hq
/-- f(e, .., k = v, ..) -/
theorem pe_callK (F : FnOk X.prog X.w X.K X.mg X.base CX k f fd ps sp) (hr : Room k X.A) (hg : Gl X x) (hm : X.mg x = some (.ref f)) (hk : PySem.W.keepIn X.K (.ref f) = true) (hb : KBinds X.K fd ps ks g gV) (hx : Passes CX X E)
    (ha : PA X (e :: es) t) (hkw : PK X kws tk) (hall : (backToKw pos (keywordEach kws X.env)).all (·.1.isSome) = true := by rfl) (hks : (backToKw pos (keywordEach kws X.env)).filterMap (·.1) = ks := by rfl)
    (hdb : (x == ("__debug__" : Str)) = false := by decide) (he : starEach (e :: es) X.env = (false, eval e X.env) :: starEach es X.env := by rfl)
    (hpl : ((backTo pos (starEach (e :: es) X.env)).any (·.1) || (backToKw pos (keywordEach kws X.env)).any (·.1.isNone)) = false := by rfl) :
    PE X (.Call (.Name x p) (e :: es) kws pos) (tCallK sp gV E t tk) := by
  intro pins s σ H Q I h
  refine wpAny_Call_Name_kw (ld_glob I hg hm ?_ hdb)
  refine PySem.W.callWith_KW (h₀ := X.base) I.ok.mod.kin hk hall (thn (ha pos pins s σ H _ I h) fun us s1 ⟨vs, H1, I1, r, q⟩ => ?_) hpl he
  refine thn (hkw pos pins s1 σ H1 _ I1 q) fun ws s2 ⟨zs, H2, I2, rz, q2⟩ => ⟨I2.kIn, ?_⟩
  rw [hks]
  exact run_fnk F hr hb hx I2 r rz q2
end

/-! ### a def's body keeps its promise -/
/-- names: the parameters first -/
structure FnScope (N P : List Str) (sc : Scope) : Prop where
  kind : sc.kind = .function
  co : sc.isCoroutine = false
  gen : sc.isGenerator = false
  nd : N.Nodup
  pre : N.take P.length = P
  par : ∀ x ∈ P, sc.names.lookup x = some .local ∨ sc.names.lookup x = some .cell
  nofree : ∀ y ∈ sc.names, y.2 ≠ .free

theorem bindL_out {kindOf : Str → Option NameKind} {x : Str} : ∀ {binds : List (Str × Value)} {m : Str → Option Value}, (∀ v, (x, v) ∉ binds) → bindL kindOf binds m x = m x
  | [], _, _ => rfl
  | (n, v) :: r, m, h => by
    unfold bindL
    rw [bindL_out fun w hw => h w (List.mem_cons_of_mem _ hw)]
    split
    · have : x ≠ n := by rintro rfl; exact h v List.mem_cons_self
      simp [this]
    · rfl
theorem bindC_out {kindOf : Str → Option NameKind} {x : Str} : ∀ {binds : List (Str × Value)} {m : Str → Option Value}, (∀ v, (x, v) ∉ binds) → bindC kindOf binds m x = m x
  | [], _, _ => rfl
  | (n, v) :: r, m, h => by
    unfold bindC
    rw [bindC_out fun w hw => h w (List.mem_cons_of_mem _ hw)]
    split
    · rfl
    · have : x ≠ n := by rintro rfl; exact h v List.mem_cons_self
      simp [this]
theorem bindL_get {kindOf : Str → Option NameKind} {x : Str} {v : Value} : ∀ {P : List Str} {vs : List Value} {i : Nat} {m : Str → Option Value}, P.Nodup → P[i]? = some x → vs[i]? = some v → kindOf x = some .local →
    bindL kindOf (P.zip vs) m x = some v
  | [], _, _, _, _, h, _, _ => by simp at h
  | _ :: _, [], _, _, _, _, h, _ => by simp at h
  | p :: P, w :: vs, 0, m, nd, h1, h2, hk => by
    simp at h1 h2; subst h1; subst h2
    show bindL kindOf ((p, w) :: P.zip vs) m p = _
    unfold bindL
    rw [bindL_out fun v hv => (List.nodup_cons.mp nd).1 (List.of_mem_zip hv).1, if_pos hk]
    simp
  | p :: P, w :: vs, i + 1, m, nd, h1, h2, hk => by
    show bindL kindOf ((p, w) :: P.zip vs) m x = _
    unfold bindL
    exact bindL_get (i := i) (List.nodup_cons.mp nd).2 (by simpa using h1) (by simpa using h2) hk
theorem bindC_get {kindOf : Str → Option NameKind} {x : Str} {v : Value} : ∀ {P : List Str} {vs : List Value} {i : Nat} {m : Str → Option Value}, P.Nodup → P[i]? = some x → vs[i]? = some v → kindOf x ≠ some .local →
    bindC kindOf (P.zip vs) m x = some v
  | [], _, _, _, _, h, _, _ => by simp at h
  | _ :: _, [], _, _, _, _, h, _ => by simp at h
  | p :: P, w :: vs, 0, m, nd, h1, h2, hk => by
    simp at h1 h2; subst h1; subst h2
    show bindC kindOf ((p, w) :: P.zip vs) m p = _
    unfold bindC
    rw [bindC_out fun v hv => (List.nodup_cons.mp nd).1 (List.of_mem_zip hv).1, if_neg hk]
    simp
  | p :: P, w :: vs, i + 1, m, nd, h1, h2, hk => by
    show bindC kindOf ((p, w) :: P.zip vs) m x = _
    unfold bindC
    exact bindC_get (i := i) (List.nodup_cons.mp nd).2 (by simpa using h1) (by simpa using h2) hk

/-- the names' values at the entry -/
def start (N : List Str) (vs : List V) : St := vs.map some ++ List.replicate (N.length - vs.length) none

/-- the context of a def's body, at its entry; an exception leaves the frame, then lies as CX says -/
def cxOf (CX : CXT) (P : Program) (w : World) (K : PySem.W.Frag) (mg : Str → Option Value) (base : Heap) (N : List Str) (qual : Str) (scope : Scope) (f : Addr) (cd : Value) (A : Around) (outer : List Env) (s : Shared) (H : Hp) (E : XK) : Cx where
  prog := P
  w := w
  K := K
  mg := mg
  base := base
  A := A.deeper (envOfC qual scope s.heap.objs.size f cd)
  N := N
  s₀ := s
  H₀ := H
  env := envOfC qual scope s.heap.objs.size f cd
  outer := outer
  stack := envOfC qual scope s.heap.objs.size f cd :: outer
  ex := []
  calm := true
  fn := fun _ => true
  pn := []
  xe := fun e s' => wpAny (model P w) (A.deeper (envOfC qual scope s.heap.objs.size f cd)) (leaving (envOfC qual scope s.heap.objs.size f cd) e) (fun _ s'' => CX outer H s E e s'') (fun e' s'' => CX outer H s E e' s'') s'

theorem cell_has {sc : Scope} {n : Nat} {x : Str} (h : sc.names.lookup x = some .cell) : ∃ c, (cellsFrom n sc.names []).lookup x = some c := by
  have q := PySem.W.cellsFrom_some sc.names n [] (.inl h)
  exact Option.isSome_iff_exists.mp q

theorem inv_start {CX : CXT} {P : Program} {w : World} {K : PySem.W.Frag} {mg : Str → Option Value} {base : Heap} {N ps : List Str} {qual : Str} {scope : Scope} {f : Addr} {cd : Value} {A : Around} {outer : List Env} {s s1 : Shared} {H : Hp} {E : XK} {us : List Value} {vs : List V}
    (S : FnScope N ps scope) (hd : A.handled = none) (e0 : Env0 P w K mg base A outer s H) (hl : vs.length = ps.length) (r : Vals vs us)
    (x : InCallC s s.heap.objs.size (bindL (envOfC qual scope s.heap.objs.size f cd).kindOf (ps.zip us) fun _ => none) (cellsFrom (s.heap.objs.size + 1) scope.names []) (bindC (envOfC qual scope s.heap.objs.size f cd).kindOf (ps.zip us) fun _ => none) s1) :
    Inv (cxOf CX P w K mg base N qual scope f cd A outer s H E) [] (start N vs) H s1 := by
  have hpl : ps.length ≤ N.length := by have := congrArg List.length S.pre; rw [List.length_take] at this; omega
  obtain ⟨h1, tk, rfl, hk⟩ := x.done
  have noA : ∀ b : Addr, b ∉ (cxOf CX P w K mg base N qual scope f cd A outer s H E).ex := fun b z => absurd (show b ∈ ([] : List Addr) from z) (by simp)
  refine ⟨⟨e0.mod, S.kind, rfl, rfl, Nat.le_refl _, fun y z c h1 h2 => ?_, fun y hy => ?_, fun y c _ h => ?_, fun _ => hd, Around.frames_deeper e0.frames, .inr ⟨rfl, rfl⟩, fun b z => absurd z (noA b), e0.bs, e0.bsz, fun b _ _ => noA b, fun b z => absurd z (noA b), e0.funs, e0.frf⟩,
    rfl, e0.bare, Un.kept hk, ⟨_, x.toInCall.ns, fun i y v h1 h2 h3 => ?_⟩, fun y c h => ⟨_, x.cell y c h⟩, e0.hok.fresh (Nat.le_refl _), fun y c h => ?_, fun p hp => absurd (show p ∈ ([] : List (Addr × Obj)) from hp) (by simp), e0.hok.kept hk, ?_, fun i v e => nomatch (show (none : Option (Option V)) = some (some v) from e)⟩
  · exact name_of_addr x.apart (PySem.mem_of_lookup h1) (PySem.mem_of_lookup h2)
  · have hy : scope.names.lookup y = some .cell ∨ scope.names.lookup y = some .free := hy
    rcases hy with hy | hy
    · exact cell_has hy
    · exact absurd rfl (S.nofree _ (PySem.mem_of_lookup hy))
  · exact Nat.le_of_lt (x.above y c (PySem.mem_of_lookup h))
  · have hi : i < vs.length := by
      unfold start at h2
      by_cases hi : i < vs.length
      · exact hi
      · rw [List.getElem?_append_right (by simpa using hi)] at h2
        rw [List.getElem?_replicate] at h2
        split at h2 <;> cases h2
    have ha : vs[i]? = some v := by
      unfold start at h2
      rw [List.getElem?_append_left (by simpa using hi), List.getElem?_map] at h2
      cases e : vs[i]? with
      | none => rw [e] at h2; cases h2
      | some a => rw [e] at h2; cases h2; rfl
    obtain ⟨u, hu, rv⟩ := r.get ha
    have hp : ps[i]? = some y := by
      rw [← S.pre, List.getElem?_take_of_lt (by omega)]; exact h1
    have ndP : ps.Nodup := by rw [← S.pre]; exact S.nd.sublist (List.take_sublist _ _)
    refine ⟨u, rv, ?_⟩
    rcases S.par y (List.mem_of_getElem? hp) with k | k
    · exact .inl ⟨k, bindL_get ndP hp hu k⟩
    · obtain ⟨c, e⟩ := cell_has (n := s.heap.objs.size + 1) k
      refine .inr ⟨.inl k, c, e, ?_⟩
      have q := x.cell y c e
      rw [bindC_get ndP hp hu (by show scope.names.lookup y ≠ _; rw [k]; decide)] at q
      exact q
  · exact e0.hok.fresh (Nat.le_of_lt (x.above y c (PySem.mem_of_lookup h)))
  · unfold start
    show _ = N.length
    rw [List.length_append, List.length_map, List.length_replicate]
    omega

/-- THE RULE: a def (or a method) of the text, by its body. The body's reading t is chosen for each entry; it is run at the parameters' values -/
theorem fn_of {CX : CXT} {P : Program} {w : World} {K : PySem.W.Frag} {mg : Str → Option Value} {base : Heap} {k : Nat} {f : Addr} {name qual : Str} {params : Arguments} {body : List Stmt} {scope : Scope} {dV kV doc pm cdv ct oc : Value} {an od : Option Addr}
    {osl : Array (Option Value)} {N ps : List Str} {sp : Sp} (lk : K.lookup f = some ⟨oc, od, .func (PySem.W.fnOf name qual params body scope dV kV doc pm an cdv ct), osl⟩) (hcd : PySem.W.codeIn K cdv qual = true) (S : FnScope N ps scope)
    (len : ∀ vs H Q E, sp vs H Q E → vs.length = ps.length)
    (hbody : ∀ (A : Around) (outer : List Env) (s : Shared) (H : Hp) (vs : List V) (Q : VK) (E : XK), Room k (A.deeper (envOfC qual scope s.heap.objs.size f cdv)) → sp vs H Q E →
      ∃ t, PSs (cxOf CX P w K mg base N qual scope f cdv A outer s H E) body t ∧ t { nx := fun _ H' => Q .non H', rt := Q } (start N vs) H) :
    FnOk P w K mg base CX (k + 1) f (PySem.W.fnOf name qual params body scope dV kV doc pm an cdv ct) ps sp := by
  refine ⟨len, fun A outer s H args us vs Q E hr e0 hb r hsp => ?_⟩
  have hl := len _ _ _ _ hsp
  have KX : K.In s.heap := e0.mod.kin.keeps fun b o e => (e0.bs b o e).1
  have lim : s.heap.NoLimit := e0.mod.nolimit.keeps fun b o e => (e0.bs b o e).1
  have hkind : ∀ y ∈ ps.zip us, scope.names.lookup y.1 = some .local ∨ (scope.names.lookup y.1 = some .cell ∧ ((cellsFrom (s.heap.objs.size + 1) scope.names []).lookup y.1).isSome = true) := fun ⟨n, v⟩ hy => by
    rcases S.par n (List.of_mem_zip hy).1 with q | q
    · exact .inl q
    · exact .inr ⟨q, PySem.W.cellsFrom_some _ _ _ (.inl q)⟩
  refine codeAny_call_function hr.depth (KX _ _ lk) rfl S.co S.gen rfl (PySem.W.codeRec_of KX hcd) (hb _ _ _ _ ?_)
  refine wpAny_newFunctionEnv_cells S.kind hkind fun env he s1 x => ?_
  subst he
  refine ⟨lim.keeps x.toInCall.keep, codeAny_func ?_⟩
  obtain ⟨t, ht, hq⟩ := hbody A outer s H vs Q E (hr.deeper _) hsp
  have I : Inv (cxOf CX P w K mg base N qual scope f cdv A outer s H E) [] (start N vs) H s1 := inv_start S hr.hd e0 hl r x
  refine wpAny_mono (ht [] s1 (start N vs) H _ I hq) (fun fl s' hs => ?_) fun e s' hs => hs
  have fin : ∀ {σ' : St} {H' : Hp} {v : V} {u : Value}, Inv (cxOf CX P w K mg base N qual scope f cdv A outer s H E) [] σ' H' s' → RelV v u → Q v H' → CE outer P w H s Q u s' :=
    fun {σ' H' v u} J rv q => ⟨v, H', J.os, J.bare, J.base, J.hok, rv, q⟩
  cases fl with
  | ret u =>
    obtain ⟨v, σ', H', J, rv, q⟩ := hs
    exact fin J rv q
  | next =>
    obtain ⟨σ', H', J, q⟩ := hs
    exact fin (v := V.non) (u := Value.none) J rfl q
  | brk =>
    obtain ⟨_, _, _, q⟩ := hs
    exact False.elim q
  | cont =>
    obtain ⟨_, _, _, q⟩ := hs
    exact False.elim q
end L2

namespace L2
open PySem PySem.Spec PyProof.Rows
section
variable {X : Cx} {x : Str} {p pos : Pos} {e : Expr} {es : List Expr} {t : TA} {id T : String} {r : List V → Hp → VK → Prop}

def tCB (r : List V → Hp → VK → Prop) (t : TA) : TE := fun σ H Q => t σ H fun vs H1 => r vs H1 Q
/-- f(e, ..), f a built-in function -/
theorem pe_callB (hc : CallR X (.builtin id) r) (hg : Gl X x) (hm : X.mg x = none) (hv : bootBuiltins x = some (.builtin id)) (ha : PA X (e :: es) t) (hn : x ≠ "__name__" := by decide) (hdb : (x == ("__debug__" : Str)) = false := by decide)
    (he : starEach (e :: es) X.env = (false, eval e X.env) :: starEach es X.env := by rfl) (hpl : (backTo pos (starEach es X.env)).any (·.1) = false := by rfl) : PE X (.Call (.Name x p) (e :: es) [] pos) (tCB r t) := by
  intro pins s σ H Q I h
  refine wpAny_Call_Name_kw (ld_blt I hg hm hv ?_ hn hdb)
  exact PyProof.Rows.callWith_builtin1 (thn (ha pos pins s σ H _ I h) fun us s1 ⟨vs, H1, I1, r1, q1⟩ => hc pins s1 σ H1 vs us Q I1 r1 q1) he hpl
/-- T(e, ..), T a built-in type -/
theorem pe_callTy (hc : CallR X (.type T) r) (hg : Gl X x) (hm : X.mg x = none) (hv : bootBuiltins x = some (.type T)) (ha : PA X (e :: es) t) (hn : x ≠ "__name__" := by decide) (hdb : (x == ("__debug__" : Str)) = false := by decide)
    (he : starEach (e :: es) X.env = (false, eval e X.env) :: starEach es X.env := by rfl) (hpl : (backTo pos (starEach es X.env)).any (·.1) = false := by rfl) : PE X (.Call (.Name x p) (e :: es) [] pos) (tCB r t) := by
  intro pins s σ H Q I h
  refine wpAny_Call_Name_kw (ld_blt I hg hm hv ?_ hn hdb)
  exact PyProof.Rows.callWith_type1 (thn (ha pos pins s σ H _ I h) fun us s1 ⟨vs, H1, I1, r1, q1⟩ => hc pins s1 σ H1 vs us Q I1 r1 q1) he hpl
/-- T() -/
theorem pe_callTy0 (hc : CallR X (.type T) r) (hg : Gl X x) (hm : X.mg x = none) (hv : bootBuiltins x = some (.type T)) (hn : x ≠ "__name__" := by decide) (hdb : (x == ("__debug__" : Str)) = false := by decide) :
    PE X (.Call (.Name x p) [] [] pos) (tCB r tNil) := by
  intro pins s σ H Q I h
  refine wpAny_Call_Name_kw (ld_blt I hg hm hv ?_ hn hdb)
  exact PyProof.Rows.callWith_type0 (hc pins s σ H [] [] Q I .nil h)
end
end L2

namespace L2
open PySem PySem.Spec PyProof.Rows

/-! ### lists of pairs as tables -/
section
variable {κ : Type} [DecidableEq κ]
def valV (kvs : List (κ × V)) (k : κ) : Option V := (kvs.find? fun kv => decide (kv.1 = k)).map (·.2)
/-- in its place, or at the end -/
def putK (kvs : List (κ × V)) (k : κ) (v : V) : List (κ × V) :=
  if (kvs.any fun kv => decide (kv.1 = k)) = true then kvs.map (fun kv => if kv.1 = k then (kv.1, v) else kv) else kvs ++ [(k, v)]
def dropK (kvs : List (κ × V)) (k : κ) : List (κ × V) := kvs.filter fun kv => decide (kv.1 ≠ k)

theorem valV_nil {k : κ} : valV ([] : List (κ × V)) k = none := rfl
theorem valV_pos {p : κ × V} {r : List (κ × V)} {k : κ} (e : p.1 = k) : valV (p :: r) k = some p.2 := by simp [valV, List.find?_cons, e]
theorem valV_neg {p : κ × V} {r : List (κ × V)} {k : κ} (e : ¬ p.1 = k) : valV (p :: r) k = valV r k := by simp [valV, List.find?_cons, e]
theorem valV_any (k : κ) : ∀ kvs : List (κ × V), (kvs.any fun kv => decide (kv.1 = k)) = (valV kvs k).isSome
  | [] => rfl
  | p :: r => by
    rw [List.any_cons]
    by_cases e : p.1 = k
    · simp only [valV_pos e, decide_eq_true e, Bool.true_or, Option.isSome_some]
    · rw [valV_neg e, decide_eq_false e, Bool.false_or]; exact valV_any k r
theorem valV_map (k j : κ) (y : V) : ∀ kvs : List (κ × V), valV (kvs.map fun kv => if kv.1 = k then (kv.1, y) else kv) j = (valV kvs j).map fun x => if j = k then y else x
  | [] => rfl
  | p :: r => by
    have ih := valV_map k j y r
    rw [List.map_cons]
    by_cases h : p.1 = k
    · rw [if_pos h]
      by_cases e : p.1 = j
      · rw [valV_pos (p := (p.1, y)) e, valV_pos e, Option.map_some, if_pos (e.symm.trans h)]
      · rw [valV_neg (p := (p.1, y)) e, valV_neg e, ih]
    · rw [if_neg h]
      by_cases e : p.1 = j
      · rw [valV_pos (p := p) e, valV_pos e, Option.map_some, if_neg (fun z => h (e.trans z))]
      · rw [valV_neg (p := p) e, valV_neg e, ih]
theorem valV_snoc (k j : κ) (y : V) : ∀ kvs : List (κ × V), valV kvs k = none → valV (kvs ++ [(k, y)]) j = if j = k then some y else valV kvs j
  | [], _ => by
    by_cases e : k = j
    · rw [if_pos e.symm]; exact valV_pos (p := (k, y)) e
    · rw [if_neg (fun z => e z.symm)]; exact valV_neg (p := (k, y)) e
  | p :: r, hn => by
    rw [List.cons_append]
    have hk : ¬ p.1 = k := fun z => by rw [valV_pos z] at hn; cases hn
    rw [valV_neg hk] at hn
    have ih := valV_snoc k j y r hn
    by_cases e : p.1 = j
    · rw [valV_pos e, valV_pos e, if_neg (fun z => hk (e.trans z))]
    · rw [valV_neg e, valV_neg e, ih]
theorem valV_put (kvs : List (κ × V)) (k j : κ) (y : V) : valV (putK kvs k y) j = if j = k then some y else valV kvs j := by
  unfold putK
  by_cases a : (kvs.any fun kv => decide (kv.1 = k)) = true
  · rw [if_pos a, valV_map]
    rw [valV_any] at a
    by_cases e : j = k
    · obtain ⟨x, hx⟩ := Option.isSome_iff_exists.mp a
      rw [if_pos e, e, hx, Option.map_some, if_pos rfl]
    · rw [if_neg e]
      cases valV kvs j with
      | none => rfl
      | some x => rw [Option.map_some, if_neg e]
  · rw [if_neg a]
    refine valV_snoc k j y kvs ?_
    rw [valV_any] at a
    cases q : valV kvs k with
    | none => rfl
    | some x => rw [q] at a; exact (a rfl).elim
theorem length_putK (kvs : List (κ × V)) (k : κ) (v : V) : (putK kvs k v).length ≤ kvs.length + 1 := by
  unfold putK
  split
  · rw [List.length_map]; omega
  · rw [List.length_append, List.length_cons, List.length_nil]; omega
theorem putK_new {kvs : List (κ × V)} {k : κ} (v : V) (h : valV kvs k = none) : putK kvs k v = kvs ++ [(k, v)] := by
  unfold putK
  rw [valV_any, h]
  exact if_neg (by decide)

theorem RelO.isSome_eq {o : Option V} {u : Option Value} (r : RelO o u) : o.isSome = u.isSome := by
  cases o with
  | none => cases u with
    | none => rfl
    | some _ => exact (show False from r).elim
  | some _ => cases u with
    | none => exact (show False from r).elim
    | some _ => rfl
theorem RelO.getD {o : Option V} {u : Option Value} {d : V} {d' : Value} (r : RelO o u) (rd : RelV d d') : RelV (o.getD d) (u.getD d') := by
  cases o with
  | none => cases u with
    | none => exact rd
    | some _ => exact (show False from r).elim
  | some _ => cases u with
    | none => exact (show False from r).elim
    | some _ => exact r

/-- raw tables of the same keys -/
theorem KV.val {kvs : List (κ × V)} {vs : List (κ × Value)} (r : KV kvs vs) (k : κ) : RelO (valV kvs k) (valueAt vs k) := by
  unfold KV at r
  induction r with
  | nil => exact True.intro
  | @cons p q ps qs h t ih =>
    obtain ⟨h1, h2⟩ := h
    by_cases e : p.1 = k
    · have e' : q.1 = k := h1.symm.trans e
      have b : valueAt (q :: qs) k = some q.2 := by simp [valueAt, List.find?_cons, e']
      rw [valV_pos e, b]; exact h2
    · have e' : ¬ q.1 = k := fun z => e (h1.trans z)
      have b : valueAt (q :: qs) k = valueAt qs k := by simp [valueAt, List.find?_cons, e']
      rw [valV_neg e, b]; exact ih
theorem KV.any {kvs : List (κ × V)} {vs : List (κ × Value)} (r : KV kvs vs) (k : κ) : (kvs.any fun kv => decide (kv.1 = k)) = vs.any fun kv => decide (kv.1 = k) := by
  unfold KV at r
  induction r with
  | nil => rfl
  | cons h t ih => rw [List.any_cons, List.any_cons, ih, h.1]
theorem KV.repl {kvs : List (κ × V)} {vs : List (κ × Value)} (r : KV kvs vs) (k : κ) {y : V} {u : Value} (ry : RelV y u) :
    KV (kvs.map fun kv => if kv.1 = k then (kv.1, y) else kv) (vs.map fun kv => if kv.1 = k then (kv.1, u) else kv) := by
  unfold KV at r ⊢
  induction r with
  | nil => exact .nil
  | @cons p q ps qs h t ih =>
    rw [List.map_cons, List.map_cons]
    refine .cons ?_ ih
    obtain ⟨h1, h2⟩ := h
    by_cases e : p.1 = k
    · rw [if_pos e, if_pos (h1.symm.trans e)]; exact ⟨h1, ry⟩
    · rw [if_neg e, if_neg (fun z => e (h1.trans z))]; exact ⟨h1, h2⟩
theorem KV.put {kvs : List (κ × V)} {vs : List (κ × Value)} (r : KV kvs vs) (k : κ) {y : V} {u : Value} (ry : RelV y u) : KV (putK kvs k y) (stored vs k u) := by
  unfold putK stored
  rw [r.any k]
  by_cases e : (vs.any fun kv => decide (kv.1 = k)) = true
  · rw [if_pos e, if_pos e]; exact r.repl k ry
  · rw [if_neg e, if_neg e]; exact Paired.snoc r ⟨rfl, ry⟩
theorem KV.drop {kvs : List (κ × V)} {vs : List (κ × Value)} (r : KV kvs vs) (k : κ) : KV (dropK kvs k) (without vs k) := by
  unfold KV at r ⊢
  unfold dropK without
  induction r with
  | nil => exact .nil
  | @cons p q ps qs h t ih =>
    obtain ⟨h1, h2⟩ := h
    rw [List.filter_cons, List.filter_cons]
    by_cases e : p.1 = k
    · have a : ¬ decide (p.1 ≠ k) = true := by simp [e]
      have b : ¬ decide (q.1 ≠ k) = true := by simp [h1.symm.trans e]
      rw [if_neg a, if_neg b]; exact ih
    · have e' : ¬ q.1 = k := fun z => e (h1.trans z)
      have a : decide (p.1 ≠ k) = true := by simp [e]
      have b : decide (q.1 ≠ k) = true := by simp [e']
      rw [if_pos a, if_pos b]; exact .cons ⟨h1, h2⟩ ih
theorem KV.keys {kvs : List (κ × V)} {vs : List (κ × Value)} (r : KV kvs vs) : kvs.map (·.1) = vs.map (·.1) := by
  unfold KV at r
  induction r with
  | nil => rfl
  | cons h t ih => rw [List.map_cons, List.map_cons, ih, h.1]
theorem KV.length {kvs : List (κ × V)} {vs : List (κ × Value)} (r : KV kvs vs) : kvs.length = vs.length := Paired.length r
theorem dropK_le (kvs : List (κ × V)) (k : κ) : (dropK kvs k).length ≤ kvs.length := List.length_filter_le _ _
end


/-! ### a tracked dict, its keys ints and texts or tuples of these -/
theorem kV_is {P : Program} {w : World} {k : Key} {u : Value} (r : RelV (kV k) u) : (mixKind P w).is k u = true := by
  cases k with
  | inl i => obtain ⟨t, e⟩ := (show ∃ t, u = Value.int i t from r); subst e; exact mixKind_int P w i t
  | inr x => obtain ⟨t, e⟩ := (show ∃ t, u = Value.str x t from r); subst e; exact mixKind_str P w x t
theorem kV_inj {a b : Key} (e : kV a = kV b) : a = b := by
  cases a with
  | inl i => cases b with
    | inl j => have e' : V.int i = V.int j := e; injection e' with e'; rw [e']
    | inr y => exact nomatch (show V.int i = V.str y from e)
  | inr x => cases b with
    | inl j => exact nomatch (show V.str x = V.int j from e)
    | inr y => have e' : V.str x = V.str y := e; injection e' with e'; rw [e']
theorem kVs_inj : ∀ {a b : List Key}, a.map kV = b.map kV → a = b
  | [], [], _ => rfl
  | [], _ :: _, e => by simp at e
  | _ :: _, [], e => by simp at e
  | x :: xs, y :: ys, e => by
    rw [List.map_cons, List.map_cons] at e
    injection e with e1 e2
    rw [kV_inj e1, kVs_inj e2]
theorem items_are {P : Program} {w : World} : ∀ {ks : List Key} {us : List Value}, Vals (ks.map kV) us → ItemsAre (mixKind P w) ks us
  | [], _, r => by rw [List.map_nil] at r; cases r; exact .nil
  | k :: ks, _, r => by
    rw [List.map_cons] at r
    cases r with
    | cons h t => exact .cons (kV_is h) (items_are t)

/-- raw entries of a dict with tuple keys -/
abbrev KT (H : Hp) : List (List Key × V) → List (List Key × Addr × Value) → Prop := Paired fun p q => p.1 = q.1 ∧ H q.2.1 = some (.tup (p.1.map kV)) ∧ RelV p.2 q.2.2
theorem KT.val {H : Hp} {kvs : List (List Key × V)} {xs : List (List Key × Addr × Value)} (r : KT H kvs xs) (k : List Key) : RelO (valV kvs k) ((atKey xs k).map (·.2)) := by
  induction r with
  | nil => exact True.intro
  | @cons p q ps qs h t ih =>
    obtain ⟨h1, _, h2⟩ := h
    by_cases e : p.1 = k
    · have e' : q.1 = k := h1.symm.trans e
      have b : atKey (q :: qs) k = some q.2 := by simp [atKey, List.find?_cons, e']
      rw [valV_pos e, b]; exact h2
    · have e' : ¬ q.1 = k := fun z => e (h1.trans z)
      have b : atKey (q :: qs) k = atKey qs k := by simp [atKey, List.find?_cons, e']
      rw [valV_neg e, b]; exact ih
theorem KT.repl {H : Hp} {kvs : List (List Key × V)} {xs : List (List Key × Addr × Value)} (r : KT H kvs xs) (k : List Key) {y : V} {u : Value} (ry : RelV y u) :
    KT H (kvs.map fun kv => if kv.1 = k then (kv.1, y) else kv) (xs.map (putAt k u)) := by
  induction r with
  | nil => exact .nil
  | @cons p q ps qs h t ih =>
    rw [List.map_cons, List.map_cons]
    refine .cons ?_ ih
    obtain ⟨h1, h2, h3⟩ := h
    unfold putAt
    by_cases e : p.1 = k
    · rw [if_pos e, if_pos (h1.symm.trans e)]; exact ⟨h1, h2, ry⟩
    · rw [if_neg e, if_neg (fun z => e (h1.trans z))]; exact ⟨h1, h2, h3⟩
theorem KT.put {H : Hp} {kvs : List (List Key × V)} {xs : List (List Key × Addr × Value)} (r : KT H kvs xs) (k : List Key) {b : Addr} {y : V} {u : Value} (hb : H b = some (.tup (k.map kV))) (ry : RelV y u) :
    KT H (putK kvs k y) (storedH xs k b u) := by
  have e : (kvs.any fun kv => decide (kv.1 = k)) = (atKey xs k).isSome := by
    rw [valV_any, (r.val k).isSome_eq, Option.isSome_map]
  unfold putK storedH
  rw [e]
  by_cases q : (atKey xs k).isSome = true
  · rw [if_pos q, if_pos q]; exact r.repl k ry
  · rw [if_neg q, if_neg q]; exact Paired.snoc r ⟨rfl, hb, ry⟩
theorem KT.keeps {H H' : Hp} {kvs : List (List Key × V)} {xs : List (List Key × Addr × Value)} (r : KT H kvs xs) (ht : ∀ b ys, H b = some (.tup ys) → H' b = some (.tup ys)) : KT H' kvs xs :=
  Paired.mapP r fun _ _ z => ⟨z.1, ht _ _ z.2.1, z.2.2⟩

section
variable {P : Program} {w : World} {H : Hp} {h : Heap} {a : Addr}
theorem rd_of {u : HO} (ok : HOk P w H h) (e : Rd H a u) : ObjOk P w H h a u := e.ok ok
theorem dk_rd {kvs : List (Key × V)} (ok : HOk P w H h) (e : Rd H a (.dK kvs)) : kvs.length ≤ sizeLine ∧ (a == sysModules) = false ∧ ∃ vs, KV kvs vs ∧ h.DictOf (mixKind P w) a vs :=
  show ObjOk P w H h a (.dK kvs) from rd_of ok e
theorem dk_of {kvs : List (Key × V)} (ok : HOk P w H h) (e : H a = some (.dK kvs)) : kvs.length ≤ sizeLine ∧ (a == sysModules) = false ∧ ∃ vs, KV kvs vs ∧ h.DictOf (mixKind P w) a vs := dk_rd ok (.inl e)
/-- a tracked tuple of ints and texts is a key -/
theorem key_of {ks : List Key} (ok : HOk P w H h) (e : H a = some (.tup (ks.map kV))) : (tupleKind (mixKind P w)).is h ks a := by
  obtain ⟨_, its, r, o, h1, h2, n, h3⟩ := (show ObjOk P w H h a (.tup (ks.map kV)) from ok a _ e)
  exact ⟨o, its.toArray, n, h1, h2, h3, by simpa using items_are r⟩
theorem dt_rd {kvs : List (List Key × V)} (ok : HOk P w H h) (e : Rd H a (.dT kvs)) : kvs.length ≤ sizeLine ∧ (a == sysModules) = false ∧
    ∃ xs, KT H kvs xs ∧ h.DictOfH (tupleKind (mixKind P w)) a xs := by
  obtain ⟨z, y, xs, r, o, es, ep, h1, h2, h3, h4, h5⟩ := (show ObjOk P w H h a (.dT kvs) from rd_of ok e)
  refine ⟨z, y, xs, r, o, es, ep, h1, h2, h3, h4, fun x hx => ?_, h5⟩
  have all : ∀ {l : List (List Key × V)} {m : List (List Key × Addr × Value)}, KT H l m → ∀ x ∈ m, (tupleKind (mixKind P w)).is h x.1 x.2.1 := by
    intro l m q
    induction q with
    | nil => intro x hx; exact nomatch hx
    | @cons p q ps qs hq t ih =>
      intro x hx
      rcases List.mem_cons.mp hx with e | hx
      · subst e
        exact key_of ok (by rw [← hq.1]; exact hq.2.1)
      · exact ih x hx
  exact all r x hx
theorem dt_of {kvs : List (List Key × V)} (ok : HOk P w H h) (e : H a = some (.dT kvs)) : kvs.length ≤ sizeLine ∧ (a == sysModules) = false ∧
    ∃ xs, KT H kvs xs ∧ h.DictOfH (tupleKind (mixKind P w)) a xs := dt_rd ok (.inl e)
end

/-- what the dict at a holds at the key y -/
def DGet (H : Hp) (a : Addr) (y : V) (r : Option V) : Prop :=
  (∃ kvs k, Rd H a (.dK kvs) ∧ y = kV k ∧ r = valV kvs k) ∨ ∃ kvs k b, Rd H a (.dT kvs) ∧ y = .ref b ∧ H b = some (.tup (k.map kV)) ∧ r = valV kvs k
/-- the heap behind a[y] = v -/
def DPut (H : Hp) (a : Addr) (y v : V) (H' : Hp) : Prop :=
  (∃ kvs k, H a = some (.dK kvs) ∧ y = kV k ∧ kvs.length < sizeLine ∧ H' = upd H a (.dK (putK kvs k v))) ∨
  ∃ kvs k b, H a = some (.dT kvs) ∧ y = .ref b ∧ H b = some (.tup (k.map kV)) ∧ kvs.length < sizeLine ∧ H' = upd H a (.dT (putK kvs k v))
theorem DGet.k {H : Hp} {a : Addr} {kvs : List (Key × V)} {k : Key} (e : H a = some (.dK kvs)) : DGet H a (kV k) (valV kvs k) := .inl ⟨kvs, k, .inl e, rfl, rfl⟩
theorem DGet.t {H : Hp} {a b : Addr} {kvs : List (List Key × V)} {k : List Key} (e : H a = some (.dT kvs)) (eb : H b = some (.tup (k.map kV))) : DGet H a (.ref b) (valV kvs k) := .inr ⟨kvs, k, b, .inl e, rfl, eb, rfl⟩
theorem DPut.k {H : Hp} {a : Addr} {kvs : List (Key × V)} {k : Key} {v : V} (e : H a = some (.dK kvs)) (hl : kvs.length < sizeLine) : DPut H a (kV k) v (upd H a (.dK (putK kvs k v))) := .inl ⟨kvs, k, e, rfl, hl, rfl⟩
theorem DPut.t {H : Hp} {a b : Addr} {kvs : List (List Key × V)} {k : List Key} {v : V} (e : H a = some (.dT kvs)) (eb : H b = some (.tup (k.map kV))) (hl : kvs.length < sizeLine) :
    DPut H a (.ref b) v (upd H a (.dT (putK kvs k v))) := .inr ⟨kvs, k, b, e, rfl, eb, hl, rfl⟩


section
variable {X : Cx} {pins : List (Addr × Obj)} {σ : St} {H : Hp} {s : Shared} {a : Addr} {y v : V} {u r : Value} {o : Option V} {A : Around} {E : Value → Shared → Prop}

theorem Inv.big (I : Inv X pins σ H s) : sysModules < s.heap.objs.size := by
  have h : mainGlobals < s.heap.objs.size := (I.mod.glob.keeps I.bk).lt
  exact Nat.lt_trans (by decide) h

/-- d[y], there -/
theorem d_getItem {Q : Value → Shared → Prop} (hu : A.units + 1 < cLine) (I : Inv X pins σ H s) (g : DGet H a y (some v)) (ry : RelV y u) (h : ∀ w' s', Inv X pins σ H s' → RelV v w' → Q w' s') :
    wpAny (model X.prog X.w) A (getItem (.ref a) u) Q E s := by
  rcases g with ⟨kvs, k, e, ey, l⟩ | ⟨kvs, k, b, e, ey, eb, l⟩
  · subst ey
    obtain ⟨z, hd, vs, rel, dd⟩ := dk_rd I.hok e
    obtain ⟨w', hw, rw'⟩ := RelO.some_of (v := v) (o := valueAt vs k) (by rw [l]; exact rel.val k)
    exact wpAny_getItem_of (kV_is ry) dd.mapOf hw (h w' _ (I.tok _) rw')
  · subst ey
    cases (show u = Value.ref b from ry)
    obtain ⟨z, hd, xs, rel, dd⟩ := dt_rd I.hok e
    obtain ⟨w', hw, rw'⟩ := RelO.some_of (v := v) (o := (atKey xs k).map (·.2)) (by rw [l]; exact rel.val k)
    obtain ⟨p, hp, hp2⟩ := Option.map_eq_some_iff.mp hw
    refine wpAny_getItem_heap (tupleKind_room_in1 hu) (key_of I.hok eb) dd hp ?_
    rw [hp2]
    exact h w' _ (I.tok _) rw'
/-- y in d -/
theorem d_in {Q : Value → Shared → Prop} (hu : A.units + 1 < cLine) (I : Inv X pins σ H s) (g : DGet H a y o) (ry : RelV y u) (h : ∀ s', Inv X pins σ H s' → Q (.bool o.isSome) s') :
    wpAny (model X.prog X.w) A (compareOp .In u (.ref a)) Q E s := by
  rcases g with ⟨kvs, k, e, ey, l⟩ | ⟨kvs, k, b, e, ey, eb, l⟩
  · subst ey
    obtain ⟨z, hd, vs, rel, dd⟩ := dk_rd I.hok e
    refine wpAny_in_of (kV_is ry) hd dd.mapOf ?_
    rw [← (rel.val k).isSome_eq, ← l]
    exact h _ (I.tok _)
  · subst ey
    cases (show u = Value.ref b from ry)
    obtain ⟨z, hd, xs, rel, dd⟩ := dt_rd I.hok e
    refine wpAny_in_heap (tupleKind_room_in1 hu) (key_of I.hok eb) hd dd ?_
    have q := (rel.val k).isSome_eq
    rw [Option.isSome_map] at q
    rw [← q, ← l]
    exact h _ (I.tok _)
theorem d_notIn {Q : Value → Shared → Prop} (hu : A.units + 1 < cLine) (I : Inv X pins σ H s) (g : DGet H a y o) (ry : RelV y u) (h : ∀ s', Inv X pins σ H s' → Q (.bool (!o.isSome)) s') :
    wpAny (model X.prog X.w) A (compareOp .NotIn u (.ref a)) Q E s := by
  rcases g with ⟨kvs, k, e, ey, l⟩ | ⟨kvs, k, b, e, ey, eb, l⟩
  · subst ey
    obtain ⟨z, hd, vs, rel, dd⟩ := dk_rd I.hok e
    refine wpAny_notIn_of (kV_is ry) hd dd.mapOf ?_
    rw [← (rel.val k).isSome_eq, ← l]
    exact h _ (I.tok _)
  · subst ey
    cases (show u = Value.ref b from ry)
    obtain ⟨z, hd, xs, rel, dd⟩ := dt_rd I.hok e
    refine wpAny_notIn_heap (tupleKind_room_in1 hu) (key_of I.hok eb) hd dd ?_
    have q := (rel.val k).isSome_eq
    rw [Option.isSome_map] at q
    rw [← q, ← l]
    exact h _ (I.tok _)
/-- a dict's object is replaced -/
theorem d_write {h' : Heap} {t' : Nat} {ob : HO} (I : Inv X pins σ H s) (mu : Mut (H a)) (hs : Heap.SameBut a s.heap h') (he : ∃ q, h'.get? a = some q) (new : ObjOk X.prog X.w (upd H a ob) h' a ob) :
    Inv X pins σ (upd H a ob) { s with heap := h', toks := t' } :=
  I.write (x := a) (e := a) mu (.inl rfl) (fun b q hb z => (hs.2 b hb).trans z) he new
theorem dk_new {P : Program} {w : World} {H' : Hp} {h' : Heap} {kvs : List (Key × V)} {vs : List (Key × Value)} (z : kvs.length ≤ sizeLine) (hd : (a == sysModules) = false) (rel : KV kvs vs) (dd : h'.DictOf (mixKind P w) a vs) :
    ObjOk P w H' h' a (.dK kvs) := ⟨z, hd, vs, rel, dd⟩
/-- d[y] = v -/
theorem d_setItem {H' : Hp} {Q : Unit → Shared → Prop} (hu : A.units + 1 < cLine) (I : Inv X pins σ H s) (g : DPut H a y v H') (ry : RelV y u) (rv : RelV v r) (h : ∀ s', Inv X pins σ H' s' → Q () s') :
    wpAny (model X.prog X.w) A (setItem (.ref a) u r) Q E s := by
  rcases g with ⟨kvs, k, e, ey, l, eH⟩ | ⟨kvs, k, b, e, ey, eb, l, eH⟩
  · subst ey eH
    obtain ⟨z, hd, vs, rel, dd⟩ := dk_of I.hok e
    have hz : vs.length ≤ sizeLine := by rw [← rel.length]; exact z
    have hl : (putK kvs k v).length ≤ sizeLine := by have := length_putK kvs k v; omega
    refine wpAny_setItem_pairs (hsz := hz) (kV_is ry) dd fun h' dd' hs => h _ ?_
    have he : ∃ q, h'.get? a = some q := let ⟨q, _, _, hq, _⟩ := dd'; ⟨q, hq⟩
    exact d_write I (by rw [e]; exact True.intro) hs he (dk_new hl hd (rel.put k rv) dd')
  · subst ey eH
    cases (show u = Value.ref b from ry)
    obtain ⟨z, hd, xs, rel, dd⟩ := dt_of I.hok e
    have hz : xs.length ≤ sizeLine := by rw [← Paired.length rel]; exact z
    have hl : (putK kvs k v).length ≤ sizeLine := by have := length_putK kvs k v; omega
    refine wpAny_setItem_heap (hsz := hz) (tupleKind_room_in1 hu) (key_of I.hok eb) dd fun h' dd' hs => h _ ?_
    obtain ⟨q, es, ep, hq, h2, h3, h4, _, h5⟩ := dd'
    refine d_write I (by rw [e]; exact True.intro) hs ⟨q, hq⟩ ⟨hl, hd, _, (rel.put k eb rv).keeps fun c ys ec => ?_, q, es, ep, hq, h2, h3, h4, h5⟩
    rw [upd_ne (ne_of ec e (fun z => nomatch z))]
    exact ec
end

section
variable {X : Cx} {pins : List (Addr × Obj)} {σ : St} {H : Hp} {s : Shared} {a : Addr} {kvs : List (Key × V)} {k : Key} {u : Value} {A : Around} {E : Value → Shared → Prop}
/-- del d[k] -/
theorem d_delItem {Q : Unit → Shared → Prop} (I : Inv X pins σ H s) (e : H a = some (.dK kvs)) (ry : RelV (kV k) u) (l : (valV kvs k).isSome = true) (h : ∀ s', Inv X pins σ (upd H a (.dK (dropK kvs k))) s' → Q () s') :
    wpAny (model X.prog X.w) A (delItem (.ref a) u) Q E s := by
  obtain ⟨z, hd, vs, rel, dd⟩ := dk_of I.hok e
  refine wpAny_delItem_slot dd.typeIs (by decide) PySem.F.slot_dict_delitem
    (call_meetsIn PySem.F.slot_dict_delitem dd.typeIs PySem.F.entry_dict_delitem (PySem.F.args_dict_delitem_2 _ _) (meets_dict_delitem_pairs (mixKind X.prog X.w) a (kV_is ry)) ⟨vs, dd, by rw [← rel.length]; exact z, by rw [← (rel.val k).isSome_eq]; exact l, fun h' dd' hs => h _ ?_⟩)
  have he : ∃ q, h'.get? a = some q := let ⟨q, _, _, hq, _⟩ := dd'; ⟨q, hq⟩
  exact d_write I (by rw [e]; exact True.intro) hs he (dk_new (Nat.le_trans (dropK_le kvs k) z) hd (rel.drop k) dd')
/-- d.pop(k[, x]), there -/
theorem d_pop {v : V} {more : List Value} {Q : Value → Shared → Prop} (I : Inv X pins σ H s) (e : H a = some (.dK kvs)) (ry : RelV (kV k) u) (l : valV kvs k = some v) (hm : more = [] ∨ ∃ x, more = [x])
    (h : ∀ w' s', Inv X pins σ (upd H a (.dK (dropK kvs k))) s' → RelV v w' → Q w' s') : wpAny (model X.prog X.w) A (call (.builtin "dict.pop") (.ref a :: u :: more)) Q E s := by
  obtain ⟨z, hd, vs, rel, dd⟩ := dk_of I.hok e
  obtain ⟨w', hw, rw'⟩ := RelO.some_of (v := v) (o := valueAt vs k) (by rw [← l]; exact rel.val k)
  have hp : (keyPart u).isSome = true := by
    cases k with
    | inl i => obtain ⟨t, q⟩ := (show ∃ t, u = Value.int i t from ry); subst q; rfl
    | inr x => obtain ⟨t, q⟩ := (show ∃ t, u = Value.str x t from ry); subst q; rfl
  have ha : argsOk "dict.pop" ⟨.ref a :: u :: more, []⟩ := by
    rcases hm with q | ⟨x, q⟩
    · subst q; exact PySem.F.args_dict_pop_2 _ _
    · subst q; exact PySem.F.args_dict_pop_3 _ _ _
  refine call_meetsIn PySem.F.slot_dict_pop dd.typeIs PySem.F.entry_dict_pop ha (meets_dict_pop_there (mixKind X.prog X.w) a (kV_is ry) more hm hp)
    ⟨vs, w', dd, by rw [← rel.length]; exact z, hw, fun h' dd' hs => h w' _ ?_ rw'⟩
  have he : ∃ q, h'.get? a = some q := let ⟨q, _, _, hq, _⟩ := dd'; ⟨q, hq⟩
  exact d_write I (by rw [e]; exact True.intro) hs he (dk_new (Nat.le_trans (dropK_le kvs k) z) hd (rel.drop k) dd')
/-- d.pop(k, x), not there -/
theorem d_popD {r : Value} {Q : Value → Shared → Prop} (I : Inv X pins σ H s) (e : H a = some (.dK kvs)) (ry : RelV (kV k) u) (l : valV kvs k = none) (h : ∀ s', Inv X pins σ H s' → Q r s') :
    wpAny (model X.prog X.w) A (call (.builtin "dict.pop") [.ref a, u, r]) Q E s := by
  obtain ⟨z, hd, vs, rel, dd⟩ := dk_of I.hok e
  have hn : valueAt vs k = none := RelO.none_of (by rw [← l]; exact rel.val k)
  have hp : (keyPart u).isSome = true := by
    cases k with
    | inl i => obtain ⟨t, q⟩ := (show ∃ t, u = Value.int i t from ry); subst q; rfl
    | inr x => obtain ⟨t, q⟩ := (show ∃ t, u = Value.str x t from ry); subst q; rfl
  exact call_meetsIn PySem.F.slot_dict_pop dd.typeIs PySem.F.entry_dict_pop (PySem.F.args_dict_pop_3 _ _ _) (meets_dict_pop_default (mixKind X.prog X.w) a (kV_is ry) hd hp r) ⟨vs, dd, hn, h _ (I.tok _)⟩
/-- d.clear() -/
theorem d_clear {Q : Value → Shared → Prop} (I : Inv X pins σ H s) (e : H a = some (.dK kvs)) (h : ∀ s', Inv X pins σ (upd H a (.dK [])) s' → Q .none s') : wpAny (model X.prog X.w) A (call (.builtin "dict.clear") [.ref a]) Q E s := by
  obtain ⟨z, hd, vs, rel, dd⟩ := dk_of I.hok e
  refine call_meetsIn PySem.F.slot_dict_clear dd.typeIs PySem.F.entry_dict_clear (PySem.F.args_dict_clear_1 _) (meets_dict_clear (mixKind X.prog X.w) a) ⟨vs, dd, by rw [← rel.length]; exact z, fun h' dd' hs => h _ ?_⟩
  have he : ∃ q, h'.get? a = some q := let ⟨q, _, _, hq, _⟩ := dd'; ⟨q, hq⟩
  exact d_write (t' := s.toks) I (by rw [e]; exact True.intro) hs he (dk_new (Nat.zero_le _) hd .nil dd')
/-- len(d) -/
theorem d_len {Q : Value → Shared → Prop} (I : Inv X pins σ H s) (e : Rd H a (.dK kvs)) (h : ∀ t s', Inv X pins σ H s' → Q (.int kvs.length t) s') : wpAny (model X.prog X.w) A (call (.builtin "len") [.ref a]) Q E s := by
  obtain ⟨z, hd, vs, rel, dd⟩ := dk_rd I.hok e
  refine call_len_dict hd dd (by rw [← rel.length]; rw [sizeLine_eq] at z; omega) ?_
  rw [← rel.length]
  exact h _ _ (I.tok _)
/-- if d -/
theorem d_truth {Q : Bool → Shared → Prop} (I : Inv X pins σ H s) (e : Rd H a (.dK kvs)) (h : ∀ s', Inv X pins σ H s' → Q (!kvs.isEmpty) s') : wpAny (model X.prog X.w) A (truthy (.ref a)) Q E s := by
  obtain ⟨z, hd, vs, rel, dd⟩ := dk_rd I.hok e
  refine wpAny_truthy_dict hd dd (by rw [← rel.length]; rw [sizeLine_eq] at z; omega) ?_
  have q : kvs.isEmpty = vs.isEmpty := by cases rel <;> rfl
  rw [← q]
  exact h _ (I.tok _)
end


/-! ### readings and rules -/
/-- the element of a subscription, not a slice -/
def NoSl (i : Expr) : Prop := ∀ ov iv, subscripted i false ov iv = operate [ov, iv] (getItem ov iv)
theorem subD_of {prog : Program} {w : World} {A : Around} {E : Value → Shared → Prop} {s : Shared} {env : Env} {value slice : Expr} {pos : Pos} {T id : String} {Q : Value → Shared → Prop}
    (hl : typeLookup (.type T) "__getitem__" = pure (some (.builtin id))) (hs : NoSl slice)
    (h : wpAny (model prog w) A (eval value env) (fun o s₁ => wpAny (model prog w) A (eval slice env) (fun i s₂ => s₂.TypeIs o T ∧ wpAny (model prog w) A (getItem o i) Q E s₂) E s₁) E s) :
    wpAny (model prog w) A (eval (.Subscript value slice pos) env) Q E s := by
  refine Subscript_ (wpAny_mono h (fun o s₁ h₁ => wpAny_mono h₁ (fun i s₂ h₂ => ?_) fun _ _ x => x) fun _ _ x => x)
  obtain ⟨hT, h₂⟩ := h₂
  unfold subscriptTail
  refine wpAny_bind ?_
  rw [getitemInPython_of_ne hT.not_modules]
  refine wpAny_bind (wpAny_specialOf hT hl ?_)
  have fin : wpAny (model prog w) A (subscripted slice false o i) (fun r s₃ => wpAny (model prog w) A (letTemporaryGo value o r >>= fun _ => pure r) Q E s₃) E s₂ := by
    rw [hs o i]
    exact wpAny_operating (wpAny_mono h₂ (fun r s₃ h₃ => wpAny_bind (wpAny_letTemporaryGo (wpAny_pure h₃))) fun _ _ x => x)
  first
    | exact wpAny_pure (wpAny_bind fin)
    | exact wpAny_bind (wpAny_pure (wpAny_bind fin))
    | exact wpAny_bind fin

theorem dict_typeIs {X : Cx} {pins : List (Addr × Obj)} {σ : St} {H : Hp} {s : Shared} {a : Addr} {y : V} {o : Option V} (I : Inv X pins σ H s) (g : DGet H a y o) : s.TypeIs (.ref a) "dict" := by
  rcases g with ⟨kvs, k, e, _, _⟩ | ⟨kvs, k, b, e, _, _, _⟩
  · obtain ⟨_, _, vs, _, dd⟩ := dk_rd I.hok e
    exact dd.typeIs
  · obtain ⟨_, _, xs, _, dd⟩ := dt_rd I.hok e
    exact dd.typeIs
theorem dict_noDict {X : Cx} {pins : List (Addr × Obj)} {σ : St} {H : Hp} {s : Shared} {a : Addr} {y : V} {o : Option V} (I : Inv X pins σ H s) (g : DGet H a y o) :
    ∀ b, Value.ref a = .ref b → ∃ ob, s.heap.get? b = some ob ∧ ob.dict = none := fun b q => by
  cases q
  rcases g with ⟨kvs, k, e, _, _⟩ | ⟨kvs, k, b, e, _, _, _⟩
  · obtain ⟨_, _, vs, _, ob, _, _, h1, h2, _⟩ := dk_rd I.hok e
    exact ⟨ob, h1, h2.2.1⟩
  · obtain ⟨_, _, xs, _, ob, _, _, h1, h2, _⟩ := dt_rd I.hok e
    exact ⟨ob, h1, h2.2.1⟩

/-- d[y] -/
def tDGet (td ty : TE) : TE := fun σ H Q => td σ H fun x H1 => ty σ H1 fun y H2 => ∃ a v, x = .ref a ∧ DGet H2 a y (some v) ∧ Q v H2
/-- y in d, y not in d -/
def tDIn (ty td : TE) : TE := fun σ H Q => ty σ H fun y H1 => td σ H1 fun x H2 => ∃ a o, x = .ref a ∧ DGet H2 a y o ∧ Q (.bl o.isSome) H2
def tDNotIn (ty td : TE) : TE := fun σ H Q => ty σ H fun y H1 => td σ H1 fun x H2 => ∃ a o, x = .ref a ∧ DGet H2 a y o ∧ Q (.bl (!o.isSome)) H2
/-- d[y] = v -/
def sDPut (td ty tv : TE) : TS := fun D σ H => tv σ H fun v H1 => td σ H1 fun x H2 => ty σ H2 fun y H3 => ∃ a H4, x = .ref a ∧ DPut H3 a y v H4 ∧ D.nx σ H4
/-- d[y] op= v -/
def sDAug (td ty tv : TE) (rd : V → V → Hp → VK → Prop) : TS := fun D σ H => td σ H fun x H1 => ty σ H1 fun y H2 => ∃ a v, x = .ref a ∧ DGet H2 a y (some v) ∧
  tv σ H2 fun y2 H3 => rd v y2 H3 fun z H4 => ∃ H5, DPut H4 a y z H5 ∧ D.nx σ H5
/-- del d[y] -/
def sDDel (td ty : TE) : TS := fun D σ H => td σ H fun x H1 => ty σ H1 fun y H2 => ∃ a kvs k, x = .ref a ∧ H2 a = some (.dK kvs) ∧ y = kV k ∧ (valV kvs k).isSome = true ∧ D.nx σ (upd H2 a (.dK (dropK kvs k)))

section
variable {X : Cx} {o i e value : Expr} {pos pos' tpos : Pos} {td ty tv : TE}
theorem pe_dget (hu : X.A.units + 1 < cLine) (ho : PE X o td) (hi : PE X i ty) (hs : NoSl i) : PE X (.Subscript o i pos) (tDGet td ty) := by
  intro pins s σ H Q I h
  refine subD_of PySem.F.slot_dict_getitem.lookup hs (thn (ho pins s σ H _ I h) fun u s1 ⟨x, H1, I1, rx, q1⟩ => thn (hi pins s1 σ H1 _ I1 q1) fun iv s2 ⟨y, H2, I2, ry, a, v, ex, g, q2⟩ => ?_)
  subst ex
  obtain rfl : u = Value.ref a := rx
  exact ⟨dict_typeIs I2 g, d_getItem hu I2 g ry fun w' s3 I3 rw' => ⟨v, H2, I3, rw', q2⟩⟩
theorem pc_din (hu : X.A.units + 1 < cLine) (hi : PE X i ty) (ho : PE X o td) : PC X .In i o (tDIn ty td) := by
  intro pins s σ H Q I h
  refine thn (hi pins s σ H _ I h) fun iv s1 ⟨y, H1, I1, ry, q1⟩ => thn (ho pins s1 σ H1 _ I1 q1) fun u s2 ⟨x, H2, I2, rx, a, ov, ex, g, q2⟩ => ?_
  subst ex
  obtain rfl : u = Value.ref a := rx
  exact d_in hu I2 g ry fun s3 I3 => ⟨.bl ov.isSome, H2, I3, rfl, q2⟩
theorem pc_dnotin (hu : X.A.units + 1 < cLine) (hi : PE X i ty) (ho : PE X o td) : PC X .NotIn i o (tDNotIn ty td) := by
  intro pins s σ H Q I h
  refine thn (hi pins s σ H _ I h) fun iv s1 ⟨y, H1, I1, ry, q1⟩ => thn (ho pins s1 σ H1 _ I1 q1) fun u s2 ⟨x, H2, I2, rx, a, ov, ex, g, q2⟩ => ?_
  subst ex
  obtain rfl : u = Value.ref a := rx
  exact d_notIn hu I2 g ry fun s3 I3 => ⟨.bl (!ov.isSome), H2, I3, rfl, q2⟩
theorem ps_dput (hu : X.A.units + 1 < cLine) (ho : PE X o td) (hi : PE X i ty) (hv : PE X value tv) (hs : swapsWith value (some (.Subscript o i pos')) pos.line X.env = pure false) :
    PS X (.Assign [.Subscript o i pos'] value pos) (sDPut td ty tv) := by
  intro pins s σ H D I h
  refine wpAny_Assign_Subscript (thn (hv pins s σ H _ I h) fun r s1 ⟨v, H1, I1, rv, q1⟩ => thn (ho pins s1 σ H1 _ I1 q1) fun u s2 ⟨x, H2, I2, rx, q2⟩ => thn (hi pins s2 σ H2 _ I2 q2) fun iv s3 ⟨y, H3, I3, ry, a, H4, ex, g, q3⟩ => ?_) hs
  subst ex
  obtain rfl : u = Value.ref a := rx
  exact d_setItem hu I3 g ry rv fun s4 I4 => ⟨σ, H4, I4, q3⟩
theorem ps_daug {op : Operator} {rd : V → V → Hp → VK → Prop} (hu : X.A.units + 1 < cLine) (ho : PE X o td) (hi : PE X i ty) (hv : PE X value tv) (hop : InOp X op rd)
    (ha : ∀ ov iv new, augStore i ov iv new = (do holding [new, ov, iv] (setItem ov iv new); release [new, ov, iv] []; pure .next)) : PS X (.AugAssign (.Subscript o i tpos) op value pos) (sDAug td ty tv rd) := by
  intro pins s σ H D I h
  refine wpAny_AugAssign_SubscriptAny (thn (ho pins s σ H _ I h) fun u s1 ⟨x, H1, I1, rx, q1⟩ => thn (hi pins s1 σ H1 _ I1 q1) fun iv s2 ⟨y, H2, I2, ry, a, v, ex, g, q2⟩ => ?_) ha
  subst ex
  obtain rfl : u = Value.ref a := rx
  refine d_getItem hu I2 g ry fun w' s3 I3 rw' => thn (hv pins s3 σ H2 _ I3 q2) fun w2 s4 ⟨y2, H3, I4, ry2, q3⟩ => thn (hop pins s4 σ H3 v y2 w' w2 _ I4 rw' ry2 q3) fun w3 s5 ⟨z, H4, I5, rz, H5, g5, q4⟩ => ?_
  exact d_setItem hu I5 g5 ry rz fun s6 I6 => ⟨σ, H5, I6, q4⟩
theorem ps_ddel (ho : PE X o td) (hi : PE X i ty) : PS X (.Delete [.Subscript o i tpos] pos) (sDDel td ty) := by
  intro pins s σ H D I h
  refine wpAny_Delete (wpAny_deleteEach_cons (wpAny_delete_Subscript (thn (ho pins s σ H _ I h) fun u s1 ⟨x, H1, I1, rx, q1⟩ => thn (hi pins s1 σ H1 _ I1 q1) fun iv s2 ⟨y, H2, I2, ry, a, kvs, k, ex, e, ey, l, q2⟩ => ?_)))
  subst ex ey
  obtain rfl : u = Value.ref a := rx
  exact d_delItem I2 e ry l fun s3 I3 => wpAny_deleteEach_nil ⟨σ, _, I3, q2⟩
end


/-! ### displays -/
theorem dk_empty {P : Program} {w : World} {H : Hp} (h : Heap) (hb : sysModules < h.objs.size) : ObjOk P w H (h.push { cls := .type "dict", data := .dict #[] }) h.objs.size (.dK []) :=
  ⟨Nat.zero_le _, beq_eq_false_iff_ne.mpr (Ne.symm (Nat.ne_of_lt hb)), [], .nil, Heap.DictOf.new h⟩
theorem dt_empty {P : Program} {w : World} {H : Hp} (h : Heap) (hb : sysModules < h.objs.size) : ObjOk P w H (h.push { cls := .type "dict", data := .dict #[] }) h.objs.size (.dT []) :=
  ⟨Nat.zero_le _, beq_eq_false_iff_ne.mpr (Ne.symm (Nat.ne_of_lt hb)), [], .nil, _, #[], 0, Heap.get?_push_size _ rfl, ⟨rfl, rfl, rfl⟩, rfl, rfl, List.nodup_nil⟩
/-- {}, to be a dict of the kind that is wanted -/
def tDNewK : TE := fun _ H Q => ∀ p, H p = none → Q (.ref p) (upd H p (.dK []))
def tDNewT : TE := fun _ H Q => ∀ p, H p = none → Q (.ref p) (upd H p (.dT []))
section
variable {X : Cx} {pos : Pos}
theorem pe_dnewK : PE X (.Dict [] [] pos) tDNewK := fun pins s σ H Q I h =>
  wpAny_Dict_empty ⟨.ref s.heap.objs.size, _, I.laid (a := s.heap.objs.size) (o := .dK []) (t' := s.toks) (fun _ _ q => Heap.get?_push_of_some _ q) (Nat.le_refl _) (dk_empty s.heap I.big), rfl, h _ (I.hok.fresh (Nat.le_refl _))⟩
theorem pe_dnewT : PE X (.Dict [] [] pos) tDNewT := fun pins s σ H Q I h =>
  wpAny_Dict_empty ⟨.ref s.heap.objs.size, _, I.laid (a := s.heap.objs.size) (o := .dT []) (t' := s.toks) (fun _ _ q => Heap.get?_push_of_some _ q) (Nat.le_refl _) (dt_empty s.heap I.big), rfl, h _ (I.hok.fresh (Nat.le_refl _))⟩
end

/-- the pairs of a display, from the left -/
def tPairs : List (TE × TE) → St → Hp → (List (V × V) → Hp → Prop) → Prop
  | [], _, H, Q => Q [] H
  | (tk, tv) :: r, σ, H, Q => tk σ H fun x H1 => tv σ H1 fun y H2 => tPairs r σ H2 fun ps H3 => Q ((x, y) :: ps) H3
abbrev VV : List (V × V) → List (Value × Value) → Prop := Paired fun p q => RelV p.1 q.1 ∧ RelV p.2 q.2
def PPs (X : Cx) (pos : Pos) (keys : List (Option Expr)) (values : List Expr) (trs : List (TE × TE)) : Prop :=
  ∀ (pins : List (Addr × Obj)) (s : Shared) (σ : St) (H : Hp) (Q : List (V × V) → Hp → Prop), Inv X pins σ H s → tPairs trs σ H Q →
    wpAny (model X.prog X.w) X.A (evalPairs (pairTrees keys values X.env pos)) (fun vs s' => ∃ ps H', Inv X pins σ H' s' ∧ VV ps vs ∧ Q ps H') X.xe s
theorem pps_nil {X : Cx} {pos : Pos} : PPs X pos [] [] [] := fun pins s σ H Q I h => pairTrees_nil_walk ⟨[], H, I, .nil, h⟩
theorem pps_cons {X : Cx} {pos : Pos} {k v : Expr} {ks : List (Option Expr)} {vs : List Expr} {tk tv : TE} {trs : List (TE × TE)} (hk : PE X k tk) (hv : PE X v tv) (hr : PPs X pos ks vs trs) :
    PPs X pos (some k :: ks) (v :: vs) ((tk, tv) :: trs) := fun pins s σ H Q I h =>
  pairTrees_cons_walk (thn (hk pins s σ H _ I h) fun u s1 ⟨x, H1, I1, rx, q1⟩ => thn (hv pins s1 σ H1 _ I1 q1) fun w2 s2 ⟨y, H2, I2, ry, q2⟩ =>
    thn (hr pins s2 σ H2 _ I2 q2) fun ws s3 ⟨ps, H3, I3, rel, q3⟩ => ⟨(x, y) :: ps, H3, I3, .cons ⟨rx, ry⟩ rel, q3⟩)

def mergeK (kvs more : List (Key × V)) : List (Key × V) := more.foldl (fun acc kv => putK acc kv.1 kv.2) kvs
theorem KV.merge : ∀ {more : List (Key × V)} {rs : List (Key × Value)} {kvs : List (Key × V)} {vs : List (Key × Value)}, KV more rs → KV kvs vs → KV (mergeK kvs more) (merged vs rs) := by
  intro more rs kvs vs r
  unfold KV at r
  induction r generalizing kvs vs with
  | nil => intro q; exact q
  | @cons p q ps qs h t ih =>
    intro r0
    have e : KV (putK kvs p.1 p.2) (stored vs q.1 q.2) := by
      have := r0.put p.1 h.2
      rw [← h.1]; exact this
    exact ih e
theorem length_mergeK : ∀ (more kvs : List (Key × V)), (mergeK kvs more).length ≤ kvs.length + more.length
  | [], kvs => by show kvs.length ≤ kvs.length + 0; omega
  | p :: r, kvs => by
    have h1 := length_mergeK r (putK kvs p.1 p.2)
    have h2 := length_putK kvs p.1 p.2
    show (mergeK (putK kvs p.1 p.2) r).length ≤ _
    rw [List.length_cons]; omega
theorem carries_of {P : Program} {w : World} : ∀ {kvs : List (Key × V)} {ws : List (Value × Value)}, VV (kvs.map fun kv => (kV kv.1, kv.2)) ws → ∃ rs, Carries (mixKind P w) ws rs ∧ KV kvs rs
  | [], _, r => by rw [List.map_nil] at r; cases r; exact ⟨[], True.intro, .nil⟩
  | p :: kvs, _, r => by
    rw [List.map_cons] at r
    cases r with
    | @cons a b as bs h t =>
      obtain ⟨rs, c, q⟩ := carries_of (P := P) (w := w) t
      obtain ⟨b1, b2⟩ := b
      exact ⟨(p.1, b2) :: rs, ⟨kV_is h.1, rfl, c⟩, .cons ⟨rfl, h.2⟩ q⟩
/-- {k: v, ..} with keys ints and texts; the new dict stands empty while the pairs are made -/
def tDisp (trs : List (TE × TE)) : TE := fun σ H Q => ∀ p, H p = none → tPairs trs σ (upd H p (.dK [])) fun ps H2 => H2 p = some (.dK []) ∧ ∃ kvs : List (Key × V), ps = kvs.map (fun kv => (kV kv.1, kv.2)) ∧ kvs.length ≤ 15 ∧ Q (.ref p) (upd H2 p (.dK (mergeK [] kvs)))
theorem pe_disp {X : Cx} {pos : Pos} {keys : List (Option Expr)} {values : List Expr} {trs : List (TE × TE)} (h : PPs X pos keys values trs) (hall : keys.all (·.isSome) = true) (hl : keys.length = values.length) (h0 : keys ≠ [])
    (h15 : keys.length ≤ 15) : PE X (.Dict keys values pos) (tDisp trs) := by
  intro pins s σ H Q I q
  have hn := I.hok.fresh (Nat.le_refl s.heap.objs.size)
  have I1 := I.laid (a := s.heap.objs.size) (o := .dK []) (h' := s.heap.push { cls := .type "dict", data := .dict #[] }) (t' := s.toks) (fun _ _ q => Heap.get?_push_of_some _ q) (Nat.le_refl _) (dk_empty s.heap I.big)
  refine wpAny_Dict_walk (knd := mixKind X.prog X.w) hall hl h0 h15 (thn (h pins _ σ _ _ I1 (q _ hn)) fun ws s2 ⟨ps, H2, I2, rel, e, kvs, ep, lk, q2⟩ => ?_)
  subst ep
  obtain ⟨rs, c, rk⟩ := carries_of (P := X.prog) (w := X.w) rel
  obtain ⟨z, hd, vs0, r0, dd⟩ := dk_of I2.hok e
  cases r0
  refine ⟨rs, c, dd, fun h' dd' hs => ⟨.ref s.heap.objs.size, _, ?_, rfl, q2⟩⟩
  have hz : (mergeK [] kvs).length ≤ sizeLine := by
    have h1 := length_mergeK kvs []
    rw [List.length_nil] at h1
    rw [sizeLine_eq]; omega
  have he : ∃ q, h'.get? s.heap.objs.size = some q := let ⟨q, _, _, hq, _⟩ := dd'; ⟨q, hq⟩
  exact d_write I2 (by rw [e]; exact True.intro) hs he (dk_new hz hd (rk.merge .nil) dd')


/-! ### methods -/
/-- a method call o.m(e) of a built-in, with one argument: what must be seen of the text -/
structure M1 (X : Cx) (o : Expr) (m : Str) (apos : Pos) (e : Expr) (cpos : Pos) : Prop where
  base : attributeBase o m X.env (eval o X.env) = eval o X.env
  few : ((backTo cpos (starEach [e] X.env)).all (fun x => !x.1) && (backToKw cpos (keywordEach [] X.env)).all (fun x => x.1.isSome)
    && decide (([e] : List Expr).length + ([] : List Keyword).length + (if ([] : List Keyword).isEmpty then 0 else 1) < 30)) = true
  line : (apos.endLine == cpos.line) = true
  trees : backTo cpos (starEach [e] X.env) = [(false, eval e X.env)]
structure M2 (X : Cx) (o : Expr) (m : Str) (apos : Pos) (e f : Expr) (cpos : Pos) : Prop where
  base : attributeBase o m X.env (eval o X.env) = eval o X.env
  few : ((backTo cpos (starEach [e, f] X.env)).all (fun x => !x.1) && (backToKw cpos (keywordEach [] X.env)).all (fun x => x.1.isSome)
    && decide (([e, f] : List Expr).length + ([] : List Keyword).length + (if ([] : List Keyword).isEmpty then 0 else 1) < 30)) = true
  line : (apos.endLine == cpos.line) = true
  trees : backTo cpos (starEach [e, f] X.env) = [(false, eval e X.env), (false, eval f X.env)]

/-- a is a dict, whatever its keys -/
def IsD (H : Hp) (a : Addr) : Prop := (∃ kvs, Rd H a (.dK kvs)) ∨ ∃ kvs, Rd H a (.dT kvs)
theorem isD_at {X : Cx} {pins : List (Addr × Obj)} {σ : St} {H : Hp} {s : Shared} {a : Addr} (I : Inv X pins σ H s) (d : IsD H a) :
    s.TypeIs (.ref a) "dict" ∧ (∀ b, Value.ref a = .ref b → ∃ ob, s.heap.get? b = some ob ∧ ob.dict = none) ∧ (a == sysModules) = false := by
  rcases d with ⟨kvs, e⟩ | ⟨kvs, e⟩
  · obtain ⟨_, hd, vs, _, dd⟩ := dk_rd I.hok e
    refine ⟨dd.typeIs, fun b q => ?_, hd⟩
    cases q
    obtain ⟨ob, _, _, h1, h2, _⟩ := dd
    exact ⟨ob, h1, h2.2.1⟩
  · obtain ⟨_, hd, xs, _, dd⟩ := dt_rd I.hok e
    refine ⟨dd.typeIs, fun b q => ?_, hd⟩
    cases q
    obtain ⟨ob, _, _, h1, h2, _⟩ := dd
    exact ⟨ob, h1, h2.2.1⟩

section
variable {X : Cx} {pins : List (Addr × Obj)} {σ : St} {H : Hp} {s : Shared} {a : Addr} {y d : V} {u r : Value} {o : Option V} {A : Around} {E : Value → Shared → Prop}
/-- d.get(y) -/
theorem d_get1 {Q : Value → Shared → Prop} (hu : A.units + 1 < cLine) (I : Inv X pins σ H s) (g : DGet H a y o) (ry : RelV y u) (h : ∀ w' s', Inv X pins σ H s' → RelV (o.getD .non) w' → Q w' s') :
    wpAny (model X.prog X.w) A (call (.builtin "dict.get") [.ref a, u]) Q E s := by
  rcases g with ⟨kvs, k, e, ey, l⟩ | ⟨kvs, k, b, e, ey, eb, l⟩
  · subst ey
    obtain ⟨z, hd, vs, rel, dd⟩ := dk_rd I.hok e
    refine call_meetsIn PySem.F.slot_dict_get dd.typeIs PySem.F.entry_dict_get (PySem.F.args_dict_get_2 _ _) (meets_dict_get (mixKind X.prog X.w) a (kV_is ry) hd) ⟨_, dd.mapOf, h _ _ (I.tok _) ?_⟩
    rw [l]
    exact (rel.val k).getD rfl
  · subst ey
    cases (show u = Value.ref b from ry)
    obtain ⟨z, hd, xs, rel, dd⟩ := dt_rd I.hok e
    refine call_meetsIn PySem.F.slot_dict_get dd.typeIs PySem.F.entry_dict_get (PySem.F.args_dict_get_2 _ _) (meetsH_dict_get (tupleKind (mixKind X.prog X.w)) a b hd) ⟨tupleKind_room_in1 hu, k, xs, key_of I.hok eb, dd, h _ _ (I.tok _) ?_⟩
    rw [l]
    exact (rel.val k).getD rfl
/-- d.get(y, x) -/
theorem d_get2 {Q : Value → Shared → Prop} (hu : A.units + 1 < cLine) (I : Inv X pins σ H s) (g : DGet H a y o) (ry : RelV y u) (rd : RelV d r) (h : ∀ w' s', Inv X pins σ H s' → RelV (o.getD d) w' → Q w' s') :
    wpAny (model X.prog X.w) A (call (.builtin "dict.get") [.ref a, u, r]) Q E s := by
  rcases g with ⟨kvs, k, e, ey, l⟩ | ⟨kvs, k, b, e, ey, eb, l⟩
  · subst ey
    obtain ⟨z, hd, vs, rel, dd⟩ := dk_rd I.hok e
    refine call_meetsIn PySem.F.slot_dict_get dd.typeIs PySem.F.entry_dict_get (PySem.F.args_dict_get_3 _ _ _) (meets_dict_get_default (mixKind X.prog X.w) a (kV_is ry) hd r) ⟨_, dd.mapOf, h _ _ (I.tok _) ?_⟩
    rw [l]
    exact (rel.val k).getD rd
  · subst ey
    cases (show u = Value.ref b from ry)
    obtain ⟨z, hd, xs, rel, dd⟩ := dt_rd I.hok e
    refine call_meetsIn PySem.F.slot_dict_get dd.typeIs PySem.F.entry_dict_get (PySem.F.args_dict_get_3 _ _ _) (meetsH_dict_get_default (tupleKind (mixKind X.prog X.w)) a b hd r) ⟨tupleKind_room_in1 hu, k, xs, key_of I.hok eb, dd, h _ _ (I.tok _) ?_⟩
    rw [l]
    exact (rel.val k).getD rd
end

def tDGet1 (td ty : TE) : TE := fun σ H Q => td σ H fun x H1 => ∃ a, x = .ref a ∧ IsD H1 a ∧ ty σ H1 fun y H2 => ∃ o, DGet H2 a y o ∧ Q (o.getD .non) H2
def tDGet2 (td ty tx : TE) : TE := fun σ H Q => td σ H fun x H1 => ∃ a, x = .ref a ∧ IsD H1 a ∧ ty σ H1 fun y H2 => tx σ H2 fun z H3 => ∃ o, DGet H3 a y o ∧ Q (o.getD z) H3
/-- d.pop(k): there; d.pop(k, x): there or not -/
def tDPop1 (td ty : TE) : TE := fun σ H Q => td σ H fun x H1 => ∃ a, x = .ref a ∧ IsD H1 a ∧ ty σ H1 fun y H2 => ∃ kvs k v, H2 a = some (.dK kvs) ∧ y = kV k ∧ valV kvs k = some v ∧ Q v (upd H2 a (.dK (dropK kvs k)))
def tDPop2 (td ty tx : TE) : TE := fun σ H Q => td σ H fun x H1 => ∃ a, x = .ref a ∧ IsD H1 a ∧ ty σ H1 fun y H2 => tx σ H2 fun z H3 => ∃ kvs k, H3 a = some (.dK kvs) ∧ y = kV k ∧
  (∀ v, valV kvs k = some v → Q v (upd H3 a (.dK (dropK kvs k)))) ∧ (valV kvs k = none → Q z H3)
section
variable {X : Cx} {o e f : Expr} {apos cpos : Pos} {td ty tx : TE}
theorem pe_dget1 (hu : X.A.units + 1 < cLine) (ho : PE X o td) (he : PE X e ty) (m : M1 X o "get" apos e cpos) : PE X (.Call (.Attribute o "get" apos) [e] [] cpos) (tDGet1 td ty) := by
  intro pins s σ H Q I h
  refine wpAny_Call_method m.base m.few m.line PySem.F.plainAttrs_dict PySem.F.slot_dict_get PySem.F.type_dict_get (thn (ho pins s σ H _ I h) fun u s1 ⟨x, H1, I1, rx, a, ex, d, q1⟩ => ?_)
  subst ex
  obtain rfl : u = Value.ref a := rx
  obtain ⟨t1, t2, _⟩ := isD_at I1 d
  refine ⟨t1, t2, ?_⟩
  rw [m.trees]
  refine Calls.callWith_builtin rfl (Calls.evalArgs_plain (Calls.spliced_cons (thn (he pins s1 σ H1 _ I1 q1) fun iv s2 ⟨y, H2, I2, ry, ov, g, q2⟩ => Calls.spliced_nil ?_)))
  exact d_get1 hu I2 g ry fun w' s3 I3 rw' => ⟨_, H2, I3, rw', q2⟩
theorem pe_dget2 (hu : X.A.units + 1 < cLine) (ho : PE X o td) (he : PE X e ty) (hf : PE X f tx) (m : M2 X o "get" apos e f cpos) : PE X (.Call (.Attribute o "get" apos) [e, f] [] cpos) (tDGet2 td ty tx) := by
  intro pins s σ H Q I h
  refine wpAny_Call_method m.base m.few m.line PySem.F.plainAttrs_dict PySem.F.slot_dict_get PySem.F.type_dict_get (thn (ho pins s σ H _ I h) fun u s1 ⟨x, H1, I1, rx, a, ex, d, q1⟩ => ?_)
  subst ex
  obtain rfl : u = Value.ref a := rx
  obtain ⟨t1, t2, _⟩ := isD_at I1 d
  refine ⟨t1, t2, ?_⟩
  rw [m.trees]
  refine Calls.callWith_builtin rfl (Calls.evalArgs_plain (Calls.spliced_cons (thn (he pins s1 σ H1 _ I1 q1) fun iv s2 ⟨y, H2, I2, ry, q2⟩ =>
    Calls.spliced_cons (thn (hf pins s2 σ H2 _ I2 q2) fun fv s3 ⟨z, H3, I3, rz, ov, g, q3⟩ => Calls.spliced_nil ?_))))
  exact d_get2 hu I3 g ry rz fun w' s4 I4 rw' => ⟨_, H3, I4, rw', q3⟩
theorem pe_dpop1 (ho : PE X o td) (he : PE X e ty) (m : M1 X o "pop" apos e cpos) : PE X (.Call (.Attribute o "pop" apos) [e] [] cpos) (tDPop1 td ty) := by
  intro pins s σ H Q I h
  refine wpAny_Call_method m.base m.few m.line PySem.F.plainAttrs_dict PySem.F.slot_dict_pop PySem.F.type_dict_pop (thn (ho pins s σ H _ I h) fun u s1 ⟨x, H1, I1, rx, a, ex, d, q1⟩ => ?_)
  subst ex
  obtain rfl : u = Value.ref a := rx
  obtain ⟨t1, t2, _⟩ := isD_at I1 d
  refine ⟨t1, t2, ?_⟩
  rw [m.trees]
  refine Calls.callWith_builtin rfl (Calls.evalArgs_plain (Calls.spliced_cons (thn (he pins s1 σ H1 _ I1 q1) fun iv s2 ⟨y, H2, I2, ry, kvs, k, v, ea, ey, l, q2⟩ => Calls.spliced_nil ?_)))
  subst ey
  exact d_pop I2 ea ry l (.inl rfl) fun w' s3 I3 rw' => ⟨v, _, I3, rw', q2⟩
theorem pe_dpop2 (ho : PE X o td) (he : PE X e ty) (hf : PE X f tx) (m : M2 X o "pop" apos e f cpos) : PE X (.Call (.Attribute o "pop" apos) [e, f] [] cpos) (tDPop2 td ty tx) := by
  intro pins s σ H Q I h
  refine wpAny_Call_method m.base m.few m.line PySem.F.plainAttrs_dict PySem.F.slot_dict_pop PySem.F.type_dict_pop (thn (ho pins s σ H _ I h) fun u s1 ⟨x, H1, I1, rx, a, ex, d, q1⟩ => ?_)
  subst ex
  obtain rfl : u = Value.ref a := rx
  obtain ⟨t1, t2, _⟩ := isD_at I1 d
  refine ⟨t1, t2, ?_⟩
  rw [m.trees]
  refine Calls.callWith_builtin rfl (Calls.evalArgs_plain (Calls.spliced_cons (thn (he pins s1 σ H1 _ I1 q1) fun iv s2 ⟨y, H2, I2, ry, q2⟩ =>
    Calls.spliced_cons (thn (hf pins s2 σ H2 _ I2 q2) fun fv s3 ⟨z, H3, I3, rz, kvs, k, ea, ey, q3, q4⟩ => Calls.spliced_nil ?_))))
  subst ey
  cases l : valV kvs k with
  | some v => exact d_pop I3 ea ry l (.inr ⟨fv, rfl⟩) fun w' s4 I4 rw' => ⟨v, _, I4, rw', q3 v l⟩
  | none => exact d_popD I3 ea ry l fun s4 I4 => ⟨z, H3, I4, rz, q4 l⟩
end

/-! ### dict(d): a copy -/
section
variable {X : Cx} {pins : List (Addr × Obj)} {σ : St} {H : Hp} {s : Shared} {a : Addr} {kvs : List (Key × V)} {A : Around} {E : Value → Shared → Prop}
theorem d_copyOf {Q : Value → Shared → Prop} (I : Inv X pins σ H s) (e : Rd H a (.dK kvs)) (h : ∀ p s', H p = none → Inv X pins σ (upd H p (.dK kvs)) s' → Q (.ref p) s') : wpAny (model X.prog X.w) A (call (.type "dict") [.ref a]) Q E s := by
  obtain ⟨z, hd, vs, rel, dd⟩ := dk_rd I.hok e
  refine kt_call_dict hd dd (by rw [← rel.length]; exact z) fun h' dd' hs => ?_
  refine h _ _ (I.hok.fresh (Nat.le_refl _)) (I.laid (a := s.heap.objs.size) (o := .dK kvs) (t' := s.toks) (fun b q hq => ?_) (Nat.le_refl _) (dk_new z (beq_eq_false_iff_ne.mpr (Ne.symm (Nat.ne_of_lt I.big))) rel dd'))
  exact (hs.2 b (Nat.ne_of_lt (Heap.lt_size hq))).trans (Heap.get?_push_of_some _ hq)
end


section
variable {X : Cx} {pins : List (Addr × Obj)} {σ : St} {H : Hp} {s : Shared} {a : Addr} {y : V} {u : Value} {A : Around} {E : Value → Shared → Prop}
/-- d[y], not there: a KeyError -/
theorem d_missing {Q : Value → Shared → Prop} (hu : A.units + 1 < cLine) (hh : A.handled = none) (I : Inv X pins σ H s) (g : DGet H a y none) (ry : RelV y u)
    (h : ∀ h' e t', Heap.NewExc s.heap h' e "KeyError" → E (.ref e) { s with heap := h', toks := t' }) : wpAny (model X.prog X.w) A (getItem (.ref a) u) Q E s := by
  rcases g with ⟨kvs, k, e, ey, l⟩ | ⟨kvs, k, b, e, ey, eb, l⟩
  · subst ey
    obtain ⟨z, hd, vs, rel, dd⟩ := dk_rd I.hok e
    have hn : valueAt vs k = none := RelO.none_of (by rw [l]; exact rel.val k)
    exact wpAny_getItem_missing_of (kV_is ry) hd hh dd.mapOf hn fun h' ex ne => h h' ex _ ne
  · subst ey
    cases (show u = Value.ref b from ry)
    obtain ⟨z, hd, xs, rel, dd⟩ := dt_rd I.hok e
    have hn : (atKey xs k).map (·.2) = none := RelO.none_of (by rw [l]; exact rel.val k)
    exact wpAny_getItem_missing_heap (tupleKind_room_in1 hu) (key_of I.hok eb) hd hh dd (Option.map_eq_none_iff.mp hn) fun h' ex ne => h h' ex _ ne
end
end L2


namespace HT
open PySem PyProof.Rows

/-- t < u of tuples of ints -/
def lexLt : List Int → List Int → Bool
  | [], [] => false
  | [], _ :: _ => true
  | _ :: _, [] => false
  | x :: xs, y :: ys => if x = y then lexLt xs ys else decide (x < y)
theorem lexLt_cons (x y : Int) (xs ys : List Int) : lexLt (x :: xs) (y :: ys) = if x = y then lexLt xs ys else decide (x < y) := rfl
theorem lexLt_nil_nil : lexLt [] [] = false := rfl
theorem lexLt_nil_cons (y : Int) (ys : List Int) : lexLt [] (y :: ys) = true := rfl
theorem lexLt_cons_nil (x : Int) (xs : List Int) : lexLt (x :: xs) [] = false := rfl

theorem eqAt_int (A : Around) (s : Shared) (a : Int) (t : Tok) (c : Int) (u : Tok) : ∃ e, SeqAt.EqAt A s (.int a t) (.int c u) e ∧ (e = true ↔ a = c) :=
  ⟨(a == c), SeqAt.EqAt.int_int a t c u, by simp⟩
theorem rcLt_int (A : Around) (s : Shared) (a : Int) (t : Tok) (c : Int) (u : Tok) (prog : Program) (w : World) (E : Value → Shared → Prop) (Q : Value → Shared → Prop) (h : Q (.bool (decide (a < c))) s) :
    wpAny (model prog w) A (richCompare .Lt (.int a t) (.int c u)) Q E s :=
  (PyProof.Rows.lt_int h : wpAny (model prog w) A (compareOp .Lt (.int a t) (.int c u)) Q E s)

section
open PySem.SeqAt
open PySem.AutoSeq1 (wpAny_loadPart')
open PySem.MeetsSeq PySem.MeetsSeq2 PySem.MeetsSeq3

theorem tuple_lt_ints (l b : Addr) (items items2 : Array Value) (n n2 : Nat) (dd dd2 : Option Addr) (sl sl2 : Array (Option Value)) (ns ms : List Int) (hi : IntsAre items.toList ns) (hj : IntsAre items2.toList ms) :
    Meets (Builtin.«tuple.__lt__» ⟨[.ref l, .ref b], []⟩)
      (fun _ R s => s.heap.get? l = some { cls := .type "tuple", dict := dd, data := .seq items n, slots := sl } ∧ s.heap.get? b = some { cls := .type "tuple", dict := dd2, data := .seq items2 n2, slots := sl2 } ∧
        R (.ok (.ret (.bool (lexLt ns ms)))) s) :=
  .of_wp fun prog w A R s h => by
    obtain ⟨hp, g, d, tk, os⟩ := s; obtain ⟨hl, hb, h⟩ := h
    have f2 := AutoSeq1.sub_tuple_tuple
    have z1 : items.size = ns.length := by rw [← hi.length]; simp
    have z2 : items2.size = ms.length := by rw [← hj.length]; simp
    wp_walk using wpAny_loadPart' hl, wpAny_loadPart' hb, wpAny_forIn_list _ (fun rest b s' => b.1 = none ∧ s' = ⟨hp, g, d, tk, os⟩ ∧ ∃ (vs ws : List Value) (ns' ms' : List Int), rest = vs.zip ws ∧
      IntsAre vs ns' ∧ IntsAre ws ms' ∧ ns'.length + items2.size = ms'.length + items.size ∧ R (.ok (.ret (.bool (lexLt ns' ms')))) ⟨hp, g, d, tk, os⟩) _
    case turn =>
      rintro ⟨y, x⟩ rest b s' ⟨hb', rfl, vs, ws, ns', ms', hz, hvi, hwi, hlen, hR⟩
      cases hvi with
      | nil => rw [List.zip_nil_left] at hz; cases hz
      | cons a t hvi' =>
        cases hwi with
        | nil => rw [List.zip_nil_right] at hz; cases hz
        | cons c u hwi' =>
          rw [List.zip_cons_cons] at hz
          injection hz with hyx hrest
          injection hyx with hy hx
          subst hy hx
          rw [lexLt_cons] at hR
          simp only [List.length_cons] at hlen
          obtain ⟨e, he, hiff⟩ := eqAt_int A.in1 ⟨hp, g, d, tk, os⟩ a t c u
          refine wpAny_bind (he prog w _ _ ?_)
          cases e with
          | true =>
            rw [if_pos (hiff.mp rfl)] at hR
            wp_walk
            exact ⟨rfl, rfl, _, _, _, _, hrest, hvi', hwi', by omega, hR⟩
          | false =>
            rw [if_neg (fun q => absurd (hiff.mpr q) Bool.false_ne_true)] at hR
            have hri := rcLt_int A.in1 ⟨hp, g, d, tk, os⟩ a t c u prog w
            wp_walk using hri
            exact ⟨_, rfl, by simpa using hR⟩
    case fin =>
      rintro ⟨b1, b2⟩ s' ⟨hb', rfl, vs, ws, ns', ms', hz, hvi, hwi, hlen, hR⟩
      simp only at hb'
      subst hb'
      have hv : lexLt ns' ms' = decide (items.size < items2.size) := by
        cases hvi with
        | nil =>
          cases hwi with
          | nil =>
            simp only [List.length_nil] at hlen
            rw [lexLt_nil_nil]
            exact (decide_eq_false (by omega)).symm
          | cons c u hw =>
            simp only [List.length_nil, List.length_cons] at hlen
            rw [lexLt_nil_cons]
            exact (decide_eq_true (by omega)).symm
        | cons a t hv =>
          cases hwi with
          | nil =>
            simp only [List.length_nil, List.length_cons] at hlen
            rw [lexLt_cons_nil]
            exact (decide_eq_false (by omega)).symm
          | cons c u hw =>
            rw [List.zip_cons_cons] at hz
            cases hz
      rw [hv] at hR
      wp_walk
      exact ⟨_, rfl, by simpa [Builtin.Tuple.tupleCompareSizes] using hR⟩
    case h =>
      exact ⟨rfl, rfl, items.toList, items2.toList, ns, ms, rfl, hi, hj, by omega, h⟩
end

section
variable {prog : Program} {w : World} {A : Around} {E : Value → Shared → Prop} {s : Shared}

theorem lt_tupInts {l b : Addr} {items items2 : Array Value} {ns ms : List Int} {Q : Value → Shared → Prop} (hl : IsTup s.heap l items) (hb : IsTup s.heap b items2) (hi : IntsAre items.toList ns) (hj : IntsAre items2.toList ms)
    (hu : A.units < cLine) (h : Q (.bool (lexLt ns ms)) s) : wpAny (model prog w) A (compareOp .Lt (.ref l) (.ref b)) Q E s := by
  obtain ⟨⟨cls, dd, data, sl⟩, ho, hc, n, hd⟩ := id hl
  obtain ⟨⟨cls2, dd2, data2, sl2⟩, ho2, hc2, n2, hd2⟩ := id hb
  simp only at hc hd hc2 hd2
  subst hc hd hc2 hd2
  exact richCompare_meets_room (op := .Lt) ⟨_, ho, rfl⟩ ⟨_, ho2, rfl⟩ PySem.F.slot_tuple_lt PySem.F.entry_tuple_lt (PySem.F.args_tuple_lt_2 _ _) (tuple_lt_ints l b items items2 n n2 dd dd2 sl sl2 ns ms hi hj)
    ⟨ho, ho2, show Value.bool (lexLt ns ms) ≠ Value.notImplemented ∧ Q (.bool (lexLt ns ms)) s from ⟨(fun x => nomatch x), h⟩⟩ hu

/-- t + u, t not empty -/
theorem cat_tup {t b : Addr} {vs ws : List Value} {Q : Value → Shared → Prop} (ht : IsTup s.heap t vs.toArray) (hb : IsTup s.heap b ws.toArray) (hv : vs ≠ [])
    (h1 : ws = [] → Q (.ref t) s) (h2 : ws ≠ [] → Q (.ref s.heap.objs.size) { s with heap := s.heap.push { cls := .type "tuple", data := .seq (vs ++ ws).toArray } })
    (hsz : vs.length + ws.length ≤ sizeLine) : wpAny (model prog w) A (binaryOp .Add (.ref t) (.ref b)) Q E s := by
  obtain ⟨⟨cls, dd, data, sl⟩, ho, hc, n, hd⟩ := id ht
  obtain ⟨⟨cls2, dd2, data2, sl2⟩, ho2, hc2, n2, hd2⟩ := id hb
  simp only at hc hd hc2 hd2
  subst hc hd hc2 hd2
  have e : vs.toArray ++ ws.toArray = (vs ++ ws).toArray := by simp
  by_cases hw : ws = []
  · exact concat_meets ⟨_, ho, rfl⟩ ⟨_, ho2, rfl⟩ noFill_tuple_add seq_tuple_add PySem.F.slot_tuple_add PySem.F.entry_tuple_add (PySem.F.args_tuple_add_2 _ _)
      (tuple_addW1 t b vs.toArray ws.toArray n n2 dd dd2 sl sl2 (by simpa using hv) (by simp [hw])) ⟨ho, ho2, h1 hw⟩
  · refine concat_meets ⟨_, ho, rfl⟩ ⟨_, ho2, rfl⟩ noFill_tuple_add seq_tuple_add PySem.F.slot_tuple_add PySem.F.entry_tuple_add (PySem.F.args_tuple_add_2 _ _)
      (tuple_addW2 t b vs.toArray ws.toArray n n2 dd dd2 sl sl2 (by simpa using hv) (by simpa using hw) (by rw [List.size_toArray, List.size_toArray]; exact hsz)) ⟨ho, ho2, ?_⟩
    rw [e]
    exact h2 hw

/-! ### t[a:b], not the whole -/
/-- a slice's bound as a place among n (d where it is left out) -/
def sIx (n d : Nat) : Option Int → Nat
  | none => d
  | some v => if v < 0 then (v + (n : Int)).toNat else min v.toNat n
theorem sIx_none (n d : Nat) : sIx n d none = d := rfl
theorem sIx_nat (n d k : Nat) : sIx n d (some (k : Int)) = min k n := by
  show (if (k : Int) < 0 then ((k : Int) + (n : Int)).toNat else min (k : Int).toNat n) = min k n
  rw [if_neg (by omega), Int.toNat_natCast]
theorem sIx_le (n d : Nat) (hd : d ≤ n) (o : Option Int) : sIx n d o ≤ n := by
  cases o with
  | none => exact hd
  | some v =>
    show (if v < 0 then (v + (n : Int)).toNat else min v.toNat n) ≤ n
    by_cases hv : v < 0
    · rw [if_pos hv]; omega
    · rw [if_neg hv]; exact Nat.min_le_right _ _
theorem clip_eq (v : Int) (n d : Nat) : (if v < 0 then max (v + (n : Int)) 0 else min v (n : Int)) = ((sIx n d (some v) : Nat) : Int) := by
  show (if v < 0 then max (v + (n : Int)) 0 else min v (n : Int)) = (((if v < 0 then (v + (n : Int)).toNat else min v.toNat n) : Nat) : Int)
  by_cases hv : v < 0
  · simp only [if_pos hv]; omega
  · simp only [if_neg hv]; omega
theorem adjust_gen (lo hi : Option Int) (n : Nat) : Builtin.Slice.sliceAdjust lo hi 1 (n : Int) = (((sIx n 0 lo : Nat) : Int), ((sIx n n hi : Nat) : Int)) := by
  have h1 : ¬ ((1 : Int) < 0) := by omega
  unfold Builtin.Slice.sliceAdjust
  simp only [h1, if_false]
  refine Prod.ext ?_ ?_
  · cases lo with
    | none => rfl
    | some v => exact clip_eq v n 0
  · cases hi with
    | none => rfl
    | some v => exact clip_eq v n n
theorem places_gen (i j : Nat) : Builtin.Slice.slicePlaces (i : Int) (j : Int) 1 = j - i := by
  unfold Builtin.Slice.slicePlaces
  have h1 : (1 : Int) > 0 := by omega
  simp only [h1, if_true, Int.ediv_one]
  split <;> omega
theorem slicePart_ {v : Value} {o : Option Int} {Q : Option Int → Shared → Prop} (p : IsPart v o) (h : Q o s) : wpAny (model prog w) A (Builtin.Slice.slicePartIndex v) Q E s := by
  cases p with
  | none => exact slicePart_none h
  | int i t => exact slicePart_int h
theorem sliceApplied_gen {sl : Addr} {vl vu : Value} {lo hi : Option Int} {n : Nat} {Q : Int × Int × Nat → Shared → Prop} (hs : s.heap.IsSliceOf sl vl vu .none) (pl : IsPart vl lo) (pu : IsPart vu hi)
    (h : Q (((sIx n 0 lo : Nat) : Int), 1, sIx n n hi - sIx n 0 lo) s) : wpAny (model prog w) A (Builtin.Slice.sliceApplied (.ref sl) (pure (n : Int))) Q E s := by
  obtain ⟨os, hos, hcs, hds⟩ := id hs
  unfold Builtin.Slice.sliceApplied Builtin.Slice.sliceFields
  refine wpAny_bind (wpAny_bind (wpAny_field hos hds (x := vl) rfl (wpAny_bind (wpAny_field hos hds (x := vu) rfl (wpAny_bind (wpAny_field hos hds (x := .none) rfl (wpAny_pure ?_)))))))
  refine wpAny_bind (slicePart_none ?_)
  show wpAny _ _ (if ((1 : Int) == 0) = true then _ else _) _ _ s
  rw [if_neg (by decide)]
  refine wpAny_bind (slicePart_ pl (wpAny_bind (slicePart_ pu (wpAny_bind (wpAny_pure ?_)))))
  show wpAny _ _ (match Builtin.Slice.sliceAdjust lo hi 1 (n : Int) with | (lo, hi) => pure (lo, (1 : Int), Builtin.Slice.slicePlaces lo hi 1)) _ _ s
  rw [adjust_gen lo hi n]
  show wpAny _ _ (pure (((sIx n 0 lo : Nat) : Int), (1 : Int), Builtin.Slice.slicePlaces ((sIx n 0 lo : Nat) : Int) ((sIx n n hi : Nat) : Int) 1)) _ _ s
  rw [places_gen]
  exact wpAny_pure h
theorem pick_gen (xs : Array Value) (i k : Nat) : ((List.range k).filterMap fun (m : Nat) => xs[((i : Int) + (m : Int) * 1).toNat]?).toArray = ((xs.toList.drop i).take k).toArray := by
  have e : (fun (m : Nat) => xs[((i : Int) + (m : Int) * 1).toNat]?) = fun m => xs[i + m]? := by
    funext m
    have : ((i : Int) + (m : Int) * 1).toNat = i + m := by omega
    rw [this]
  rw [e]
  have := pick_run xs i k
  rw [List.filterMap_map] at this
  have e2 : ((fun x => xs[x]?) ∘ fun x => i + x) = fun m => xs[i + m]? := rfl
  rw [e2] at this
  rw [this]

theorem getItem_tuple_cut {t sl : Addr} {items : Array Value} {vl vu : Value} {lo hi : Option Int} {Q : Value → Shared → Prop} (ht : IsTup s.heap t items) (hs : s.heap.IsSliceOf sl vl vu .none) (pl : IsPart vl lo) (pu : IsPart vu hi)
    (hw : ¬ (sIx items.size 0 lo = 0 ∧ sIx items.size items.size hi = items.size))
    (h : Q (.ref s.heap.objs.size) { s with heap := s.heap.push { cls := .type "tuple", data := .seq ((items.toList.drop (sIx items.size 0 lo)).take (sIx items.size items.size hi - sIx items.size 0 lo)).toArray } })
    (hsz : items.size ≤ sizeLine) : wpAny (model prog w) A (getItem (.ref t) (.ref sl)) Q E s := by
  have htake : sizeOk (.seq ((items.toList.drop (sIx items.size 0 lo)).take (sIx items.size items.size hi - sIx items.size 0 lo)).toArray) := by
    show ((items.toList.drop (sIx items.size 0 lo)).take (sIx items.size items.size hi - sIx items.size 0 lo)).toArray.size ≤ sizeLine
    rw [List.size_toArray, List.length_take, List.length_drop, Array.length_toList]
    omega
  have hj : sIx items.size items.size hi ≤ items.size := sIx_le _ _ (Nat.le_refl _) hi
  obtain ⟨os, hos, hcs, hds⟩ := id hs
  have hTs : s.TypeIs (.ref sl) "slice" := ⟨os, hos, hcs⟩
  unfold getItem
  try with_reducible refine wpAny_holding ?_
  first | refine wpAny_bind (wpAny_pure ?_) | skip
  refine wpAny_bind (wpAny_sequenceKey ht.typeIs (by decide) ?_)
  refine wpAny_bind (wpAny_callSpecial?_slot (name := Str.ofString "__getitem__") ht.typeIs PyProof.Rows.slot_tuple_getitem
    (wpAny_call_entry PyProof.Rows.slot_tuple_getitem ht.typeIs entry_tuple_getitem ?_ (args_tuple_getitem _ _)))
  show wpAny _ _ (Builtin.Tuple.tupleItemsOf (.ref t) >>= _) _ _ s
  refine wpAny_bind (tupleItemsOf_ ht ?_)
  refine wpAny_bind (wpAny_typeOf hTs ?_)
  rw [if_pos (by decide)]
  refine wpAny_bind (sliceApplied_gen hs pl pu ?_)
  have hno : ¬ ((((sIx items.size 0 lo : Nat) : Int) == 0 && (1 : Int) == 1 && (sIx items.size items.size hi - sIx items.size 0 lo) == items.size) = true) := by
    intro q
    rw [Bool.and_eq_true, Bool.and_eq_true] at q
    have q1 : ((sIx items.size 0 lo : Nat) : Int) = 0 := eq_of_beq q.1.1
    have q2 : sIx items.size items.size hi - sIx items.size 0 lo = items.size := eq_of_beq q.2
    exact hw ⟨by omega, by omega⟩
  show wpAny _ _ (if (((sIx items.size 0 lo : Nat) : Int) == 0 && (1 : Int) == 1 && (sIx items.size items.size hi - sIx items.size 0 lo) == items.size) = true then _ else _) _ _ s
  rw [if_neg hno, pick_gen]
  first
    | exact wpAny_bind (m := Builtin.Tuple.tupleExact _) (wpAny_newObj_type (wpAny_pure ⟨_, rfl, wpAny_pure h⟩) htake)
    | exact wpAny_bind (m := Builtin.Tuple.tupleExact _) (wpAny_newObj_type (wpAny_bind (wpAny_pure (wpAny_pure ⟨_, rfl, wpAny_pure h⟩))) htake)
    | exact wpAny_bind (wpAny_bind (m := Builtin.Tuple.tupleExact _) (wpAny_newObj_type (wpAny_pure (wpAny_pure ⟨_, rfl, wpAny_pure h⟩)) htake))
    | exact wpAny_bind (wpAny_bind (m := Builtin.Tuple.tupleExact _) (wpAny_newObj_type (wpAny_pure ⟨_, rfl, wpAny_pure h⟩) htake))
end
end HT

namespace L2
open PySem PySem.Spec PyProof.Rows

/-! ### the parts of a slice -/
abbrev TO := St → Hp → (Option Int → Hp → Prop) → Prop
/-- a slice's part (left out, or an int) -/
def PO (X : Cx) (e : Option Expr) (t : TO) : Prop :=
  ∀ (pins : List (Addr × Obj)) (s : Shared) (σ : St) (H : Hp) (Q : Option Int → Hp → Prop), Inv X pins σ H s → t σ H Q →
    wpAny (model X.prog X.w) X.A (evalPart e X.env) (fun u s' => ∃ o H', Inv X pins σ H' s' ∧ IsPart u o ∧ Q o H') X.xe s
def tNoPart : TO := fun _ H Q => Q none H
def tPart (t : TE) : TO := fun σ H Q => t σ H fun x H1 => ∃ i, x = .int i ∧ Q (some i) H1

theorem intsAre_of {ns : List Int} : ∀ {us : List Value}, Vals (ns.map V.int) us → IntsAre us ns := by
  induction ns with
  | nil => intro us r; rw [List.map_nil] at r; cases r; exact .nil
  | cons n ns ih =>
    intro us r
    rw [List.map_cons] at r
    cases r with
    | cons r1 r2 =>
      obtain ⟨t, e⟩ := r1
      subst e
      exact .cons n t (ih r2)

section
variable {X : Cx} {e : Expr} {te : TE} {lo hi : Option Expr} {tl th : TO} {pos p2 : Pos}

theorem po_none : PO X none tNoPart := by
  intro pins s σ H Q I h
  rw [evalPart_none]
  exact wpAny_pure ⟨none, H, I, .none, h⟩
theorem po_some (h : PE X e te) : PO X (some e) (tPart te) := by
  intro pins s σ H Q I hw
  rw [evalPart_some]
  refine thn (h pins s σ H _ I hw) fun u s1 ⟨x, H1, I1, r1, q1⟩ => ?_
  obtain ⟨i, rfl, q⟩ := q1
  obtain ⟨t, rfl⟩ := r1
  exact ⟨some i, H1, I1, .int i t, q⟩

/-- what a slice of a value is, by values: the slice object stands at sl -/
def SlR (X : Cx) (r : V → Option Int → Option Int → Hp → VK → Prop) : Prop :=
  ∀ (pins : List (Addr × Obj)) (s : Shared) (σ : St) (H : Hp) (x : V) (v vl vu : Value) (lo hi : Option Int) (sl : Addr) (Q : VK), Inv X pins σ H s → RelV x v → s.heap.IsSliceOf sl vl vu .none → IsPart vl lo → IsPart vu hi → r x lo hi H Q →
    ∃ T id, typeLookup (.type T) "__getitem__" = pure (some (.builtin id)) ∧ s.TypeIs v T ∧ wpAny (model X.prog X.w) X.A (getItem v (.ref sl)) (EP X pins σ Q) X.xe s
theorem SlR.or {r r' : V → Option Int → Option Int → Hp → VK → Prop} (h : SlR X r) (h' : SlR X r') : SlR X (fun x lo hi H Q => r x lo hi H Q ∨ r' x lo hi H Q) := by
  intro pins s σ H x v vl vu lo hi sl Q I rx hs pl pu q
  rcases q with q | q
  · exact h pins s σ H x v vl vu lo hi sl Q I rx hs pl pu q
  · exact h' pins s σ H x v vl vu lo hi sl Q I rx hs pl pu q
def tSl (r : V → Option Int → Option Int → Hp → VK → Prop) (te : TE) (tl th : TO) : TE := fun σ H Q => te σ H fun x H1 => tl σ H1 fun l H2 => th σ H2 fun u H3 => r x l u H3 Q
/-- a[lo:hi], any a -/
theorem pe_slice {r : V → Option Int → Option Int → Hp → VK → Prop} (hr : SlR X r) (he : PE X e te) (hl : PO X lo tl) (hu : PO X hi th) : PE X (.Subscript e (.Slice lo hi none p2) pos) (tSl r te tl th) := by
  intro pins s σ H Q I h
  refine Subscript_ (thn (he pins s σ H _ I h) fun v s1 ⟨x, H1, I1, r1, q1⟩ => ?_)
  refine wpAny_Slice (thn (hl pins s1 σ H1 _ I1 q1) fun vl s2 ⟨l, H2, I2, pl, q2⟩ => thn (hu pins s2 σ H2 _ I2 q2) fun vu s3 ⟨u, H3, I3, pu, q3⟩ => ?_)
  rw [evalPart_none]
  refine wpAny_pure ?_
  have I4 : Inv X pins σ H3 { s3 with heap := s3.heap.push { cls := .type "slice", data := .fields #[vl, vu, .none] } } := I3.kept (t' := s3.toks) fun b ob q => Heap.get?_push_of_some _ q
  obtain ⟨T, id, hT, ht, hg⟩ := hr pins { s3 with heap := s3.heap.push { cls := .type "slice", data := .fields #[vl, vu, .none] } } σ H3 x v vl vu l u s3.heap.objs.size Q I4 r1 (Heap.IsSliceOf.new ..) pl pu q3
  show wpAny (model X.prog X.w) X.A (subscriptTail e (.Slice lo hi none p2) v (.ref s3.heap.objs.size)) (EP X pins σ Q) X.xe { s3 with heap := s3.heap.push { cls := .type "slice", data := .fields #[vl, vu, .none] } }
  exact tail_any (ops := [.ref s3.heap.objs.size, v]) ht hT hg (by with_unfolding_all rfl)

/-- the items of xs[lo:hi] -/
def cutV (xs : List V) (lo hi : Option Int) : List V := (xs.drop (HT.sIx xs.length 0 lo)).take (HT.sIx xs.length xs.length hi - HT.sIx xs.length 0 lo)
theorem cutV_length (xs : List V) (lo hi : Option Int) : (cutV xs lo hi).length ≤ xs.length := by
  unfold cutV
  rw [List.length_take, List.length_drop]
  omega
/-- t[lo:hi], not the whole of it (the whole would be t itself) -/
def rSlT (K : PySem.W.Frag) : V → Option Int → Option Int → Hp → VK → Prop := fun x lo hi H Q => ∃ a xs, x = .ref a ∧ SqT K H a xs ∧
  ¬ (HT.sIx xs.length 0 lo = 0 ∧ HT.sIx xs.length xs.length hi = xs.length) ∧ ∀ p, H p = none → Q (.ref p) (upd H p (.tup (cutV xs lo hi)))
theorem sl_tup : SlR X (rSlT X.K) := by
  intro pins s σ H x v vl vu lo hi sl Q I rx hs pl pu h
  obtain ⟨a, xs, rfl, hx, hw, q⟩ := h
  cases rx
  obtain ⟨its, r, ht, hz⟩ := I.tuple hx
  have hlen : its.toArray.size = xs.length := by rw [List.size_toArray]; exact r.length.symm
  refine ⟨"tuple", _, PyProof.Rows.slot_tuple_getitem.lookup, ht.typeIs, ?_⟩
  refine HT.getItem_tuple_cut ht hs pl pu (by rw [hlen]; exact hw) ?_ (by rw [hlen]; exact hz)
  rw [hlen]
  refine ⟨.ref s.heap.objs.size, _, I.laid (t' := s.toks) (o := .tup (cutV xs lo hi)) (fun b ob q => Heap.get?_push_of_some _ q) (Nat.le_refl _) ?_, rfl, q _ (I.hok.fresh (Nat.le_refl _))⟩
  exact ⟨Nat.le_trans (cutV_length xs lo hi) hz, _, (r.drop (HT.sIx xs.length 0 lo)).take (HT.sIx xs.length xs.length hi - HT.sIx xs.length 0 lo), IsTup.new _ _⟩

/-! ### t < u, t + u -/
def rLtT (K : PySem.W.Frag) : R2 := fun x y H Q => ∃ a b ns ms, x = .ref a ∧ y = .ref b ∧ SqT K H a (ns.map V.int) ∧ SqT K H b (ms.map V.int) ∧ Q (.bl (HT.lexLt ns ms)) H
theorem op_ltT (hu : X.A.units < cLine) : OpR X (compareOp .Lt) (rLtT X.K) := by
  intro pins s σ H x y v u Q I rx ry h
  obtain ⟨a, b, ns, ms, rfl, rfl, ha, hb, q⟩ := h
  cases rx
  cases ry
  obtain ⟨its, r1, p1, _⟩ := I.tuple ha
  obtain ⟨its2, r2, p2, _⟩ := I.tuple hb
  have i1 : IntsAre its.toArray.toList ns := intsAre_of r1
  have i2 : IntsAre its2.toArray.toList ms := intsAre_of r2
  exact HT.lt_tupInts p1 p2 i1 i2 hu ⟨.bl (HT.lexLt ns ms), H, I, rfl, q⟩
/-- t + u, t not empty: u empty gives t itself -/
def rCatT (K : PySem.W.Frag) : R2 := fun x y H Q => ∃ a b xs ys, x = .ref a ∧ y = .ref b ∧ SqT K H a xs ∧ SqT K H b ys ∧ xs ≠ [] ∧ xs.length + ys.length ≤ sizeLine ∧
  (ys = [] → Q (.ref a) H) ∧ (ys ≠ [] → ∀ p, H p = none → Q (.ref p) (upd H p (.tup (xs ++ ys))))
theorem Vals.nil_iff {xs : List V} {us : List Value} (r : Vals xs us) : us = [] ↔ xs = [] := by
  cases r with
  | nil => simp
  | cons _ _ => simp
theorem op_catT : OpR X (binaryOp .Add) (rCatT X.K) := by
  intro pins s σ H x y v u Q I rx ry h
  obtain ⟨a, b, xs, ys, rfl, rfl, ha, hb, hx, hz, q1, q2⟩ := h
  cases rx
  cases ry
  obtain ⟨its, r1, p1, _⟩ := I.tuple ha
  obtain ⟨its2, r2, p2, _⟩ := I.tuple hb
  refine HT.cat_tup p1 p2 (fun z => hx (r1.nil_iff.mp z)) (fun z => ⟨.ref a, H, I, rfl, q1 (r2.nil_iff.mp z)⟩) (fun z => ?_) (by rw [← r1.length, ← r2.length]; exact hz)
  refine ⟨.ref s.heap.objs.size, _, I.laid (t' := s.toks) (o := .tup (xs ++ ys)) (fun b ob q => Heap.get?_push_of_some _ q) (Nat.le_refl _) ?_, rfl, q2 (fun w => z (r2.nil_iff.mpr w)) _ (I.hok.fresh (Nat.le_refl _))⟩
  exact ⟨by rw [List.length_append]; exact hz, _, r1.append r2, IsTup.new _ _⟩
/-- tuple(t) -/
theorem call_tupleT : CallR X (.type "tuple") (fun xs H Q => ∃ a ys, xs = [.ref a] ∧ SqT X.K H a ys ∧ Q (.ref a) H) := by
  intro pins s σ H xs us Q I r h
  obtain ⟨a, ys, rfl, ha, q⟩ := h
  obtain ⟨u, rfl, ru⟩ := vals1 r
  cases ru
  obtain ⟨its, _, p1, _⟩ := I.tuple ha
  exact call_tuple_same (items := its.toArray) p1 ⟨.ref a, H, I, rfl, q⟩
end
end L2

namespace L2
open PySem PySem.Spec PyProof.Rows

/-! ### places -/
/-- the place that an index of any sign means -/
def ixN (n : Nat) (i : Int) : Option Nat := if 0 ≤ i then (if i < n then some i.toNat else none) else if -(n : Int) ≤ i then some (i + n).toNat else none
def atI {α : Type} (xs : List α) (i : Int) : Option α := (ixN xs.length i).bind fun j => xs[j]?
theorem ixN_seq {n : Nat} {i : Int} {j : Nat} (h : ixN n i = some j) : seqIndex? i n = some j ∧ j < n ∧ -(n : Int) ≤ i ∧ i < n := by
  unfold ixN at h
  by_cases h0 : 0 ≤ i
  · rw [if_pos h0] at h
    by_cases h1 : i < n
    · rw [if_pos h1] at h
      have e : i.toNat = j := Option.some.inj h
      exact ⟨by rw [seqIndex_of h0 h1, e], by omega, by omega, h1⟩
    · rw [if_neg h1] at h; cases h
  · rw [if_neg h0] at h
    by_cases h1 : -(n : Int) ≤ i
    · rw [if_pos h1] at h
      have e : (i + n).toNat = j := Option.some.inj h
      exact ⟨by rw [seqIndex_neg (by omega) h1, e], by omega, h1, by omega⟩
    · rw [if_neg h1] at h; cases h
theorem atI_get {α : Type} {xs : List α} {i : Int} {v : α} (h : atI xs i = some v) : ∃ j, seqIndex? i xs.length = some j ∧ xs[j]? = some v ∧ j < xs.length ∧ -(xs.length : Int) ≤ i ∧ i < xs.length := by
  unfold atI at h
  cases e : ixN xs.length i with
  | none => rw [e] at h; cases h
  | some j =>
    rw [e] at h
    obtain ⟨h1, h2, h3, h4⟩ := ixN_seq e
    exact ⟨j, h1, h, h2, h3, h4⟩
theorem atI_nat {α : Type} {xs : List α} {j : Nat} {v : α} (h : xs[j]? = some v) : atI xs (j : Int) = some v := by
  have hj : j < xs.length := (List.getElem?_eq_some_iff.mp h).1
  have e : ixN xs.length (j : Int) = some j := by
    unfold ixN
    rw [if_pos (by omega), if_pos (by omega)]; simp
  unfold atI; rw [e]; exact h
theorem atI_last {α : Type} (xs : List α) (v : α) : atI (xs ++ [v]) (-1) = some v := by
  have hl : (xs ++ [v]).length = xs.length + 1 := by simp
  have e : ixN (xs ++ [v]).length (-1) = some xs.length := by
    unfold ixN
    rw [hl, if_neg (by decide), if_pos (by omega)]
    congr 1
    omega
  unfold atI
  rw [e]
  show (xs ++ [v])[xs.length]? = some v
  simp

/-! ### what may be subscripted -/
/-- what stands as an index of a plain subscript -/
def PlainIx (b : Expr) : Prop := ∀ o i, subscripted b false o i = operate [o, i] (getItem o i)
/-- a subscript by values -/
def IxR (X : Cx) (r : R2) : Prop :=
  ∀ (value slice : Expr) (pins : List (Addr × Obj)) (s : Shared) (σ : St) (H : Hp) (x y : V) (v u : Value) (Q : VK), Inv X pins σ H s → RelV x v → RelV y u → r x y H Q →
    subscripted slice false v u = operate [v, u] (getItem v u) → wpAny (model X.prog X.w) X.A (subscriptTail value slice v u) (EP X pins σ Q) X.xe s
/-- a call of a builtin's method by values: the receiver, the arguments -/
def MtR (X : Cx) (id : String) (r : V → List V → Hp → VK → Prop) : Prop :=
  ∀ (pins : List (Addr × Obj)) (s : Shared) (σ : St) (H : Hp) (x : V) (xs : List V) (v : Value) (us : List Value) (Q : VK), Inv X pins σ H s → RelV x v → Vals xs us → r x xs H Q →
    wpAny (model X.prog X.w) X.A (call (.builtin id) (v :: us)) (EP X pins σ Q) X.xe s
section
variable {X : Cx} {a b : Expr} {ta tb : TE} {pos : Pos}
theorem IxR.or {r r' : R2} (h : IxR X r) (h' : IxR X r') : IxR X (fun x y H Q => r x y H Q ∨ r' x y H Q) := by
  intro value slice pins s σ H x y v u Q I rx ry q hs
  rcases q with q | q
  · exact h value slice pins s σ H x y v u Q I rx ry q hs
  · exact h' value slice pins s σ H x y v u Q I rx ry q hs
theorem MtR.or {id : String} {r r' : V → List V → Hp → VK → Prop} (h : MtR X id r) (h' : MtR X id r') : MtR X id (fun x xs H Q => r x xs H Q ∨ r' x xs H Q) := by
  intro pins s σ H x xs v us Q I rx rs q
  rcases q with q | q
  · exact h pins s σ H x xs v us Q I rx rs q
  · exact h' pins s σ H x xs v us Q I rx rs q
/-- a[b] -/
theorem pe_ix {r : R2} (hr : IxR X r) (ha : PE X a ta) (hb : PE X b tb) (hs : PlainIx b) : PE X (.Subscript a b pos) (tOp r ta tb) := by
  intro pins s σ H Q I h
  exact Subscript_ (binT ha hb I h fun v u s2 x y H2 I2 rx ry q => hr a b pins s2 σ H2 x y v u Q I2 rx ry q (hs _ _))

def rIxL (K : PySem.W.Frag) : R2 := fun x y H Q => ∃ p xs i v, x = .ref p ∧ y = .int i ∧ SqL K H p xs ∧ atI xs i = some v ∧ Q v H
def rIxT (K : PySem.W.Frag) : R2 := fun x y H Q => ∃ p xs i v, x = .ref p ∧ y = .int i ∧ SqT K H p xs ∧ atI xs i = some v ∧ Q v H
def rIxS : R2 := fun x y H Q => ∃ z i c, x = .str z ∧ y = .int i ∧ z.length ≤ sizeLine ∧ atI z.cps.toList i = some c ∧ Q (.str ⟨#[c]⟩) H
theorem ix_list : IxR X (rIxL X.K) := by
  intro value slice pins s σ H x y v u Q I rx ry h hs
  obtain ⟨p, xs, i, z, rfl, rfl, hq, he, q⟩ := h
  cases rx
  obtain ⟨t, rfl⟩ := ry
  obtain ⟨its, r, pl, hz⟩ := I.list hq
  obtain ⟨j, h1, h2, h3, h4, h5⟩ := atI_get he
  obtain ⟨w, ew, rw'⟩ := r.get h2
  have hl := r.length
  have hn := line63
  have fin : EP X pins σ Q w s := ⟨z, H, I, rw', q⟩
  by_cases h0 : 0 ≤ i
  · have hj : i.toNat = j := by
      rw [seqIndex_of h0 h5] at h1
      exact Option.some.inj h1
    exact item_listR pl.isList h0 (by omega) (by rw [hj]; simpa using ew) fin hs
  · have hj : (i + (its.toArray.size : Int)).toNat = j := by
      rw [seqIndex_neg (by omega) h4] at h1
      rw [List.size_toArray, ← hl]
      exact Option.some.inj h1
    exact subscriptTail_builtinR (x := w) pl.isList.typeIs slot_list_getitem.lookup
      (wpAny_getItem_list_neg (Q := fun r s' => r = w ∧ EP X pins σ Q r s') pl.isList (by omega) (by rw [List.size_toArray] <;> omega) (by omega) (by rw [hj]; simpa using ew) ⟨rfl, fin⟩) hs
theorem ix_tup : IxR X (rIxT X.K) := by
  intro value slice pins s σ H x y v u Q I rx ry h hs
  obtain ⟨p, xs, i, z, rfl, rfl, hq, he, q⟩ := h
  cases rx
  obtain ⟨t, rfl⟩ := ry
  obtain ⟨its, r, pl, hz⟩ := I.tuple hq
  obtain ⟨j, h1, h2, h3, h4, h5⟩ := atI_get he
  obtain ⟨w, ew, rw'⟩ := r.get h2
  have hl := r.length
  have hn := line63
  have fin : EP X pins σ Q w s := ⟨z, H, I, rw', q⟩
  exact subscriptTail_builtinR (x := w) pl.typeIs slot_tuple_getitem.lookup
    (getItem_tuple (j := j) (Q := fun r s' => r = w ∧ EP X pins σ Q r s') pl (by omega) (by omega) (by rw [List.size_toArray, ← hl]; exact h1) (by simpa using ew) ⟨rfl, fin⟩) hs
theorem ix_str : IxR X rIxS := by
  intro value slice pins s σ H x y v u Q I rx ry h hs
  obtain ⟨z, i, c, rfl, rfl, hz, he, q⟩ := h
  obtain ⟨t, rfl⟩ := rx
  obtain ⟨t', rfl⟩ := ry
  obtain ⟨j, h1, h2, h3, h4, h5⟩ := atI_get he
  have hl : z.cps.toList.length = z.length := by simp [Str.length]
  rw [hl] at h1 h4 h5
  have hn := line63
  exact tail_any (typeIs_str s z t) slot_str_getitem.lookup (getItem_str (c := c) (by
    have e1 : decide (i < -(2 ^ 63 : Int)) = false := decide_eq_false (by omega)
    have e2 : decide (i ≥ 2 ^ 63) = false := decide_eq_false (by omega)
    rw [e1, e2, Bool.or_false]) (by rw [h1]; simpa using h2) ⟨.str ⟨#[c]⟩, H, I.tok _, ⟨_, rfl⟩, q⟩) hs
/-- list, tuple or str -/
def rIx (K : PySem.W.Frag) : R2 := fun x y H Q => rIxL K x y H Q ∨ rIxT K x y H Q ∨ rIxS x y H Q
theorem ix_seq : IxR X (rIx X.K) := ix_list.or (ix_tup.or ix_str)

/-! ### xs[i] = v, any sign -/
/-- the list's object behind a store -/
theorem mapSeq_set (its : List Value) (n j : Nat) (u : Value) : Obj.mapSeq (·.setIfInBounds j u) { cls := .type "list", data := .seq its.toArray n } = { cls := .type "list", data := .seq (its.set j u).toArray n } := by
  simp [Obj.mapSeq]
theorem Inv.lst {pins : List (Addr × Obj)} {σ : St} {H : Hp} {s : Shared} {p : Addr} {xs : List V} (I : Inv X pins σ H s) (h : H p = some (.lst xs)) :
    ∃ (its : List Value) (n : Nat), Vals xs its ∧ s.heap.get? p = some { cls := .type "list", data := .seq its.toArray n } ∧ xs.length ≤ sizeLine := by
  obtain ⟨z, its, n, r, e⟩ := I.hok p _ h
  exact ⟨its, n, r, e, z⟩
/-- the list at p is written by an update of its object -/
theorem Inv.lstUpd {pins : List (Addr × Obj)} {σ : St} {H : Hp} {s : Shared} {p : Addr} {xs ys : List V} {its its' : List Value} {n n' : Nat} {f : Obj → Obj} (I : Inv X pins σ H s) (h : H p = some (.lst xs))
    (ho : s.heap.get? p = some { cls := .type "list", data := .seq its.toArray n }) (hf : f { cls := .type "list", data := .seq its.toArray n } = { cls := .type "list", data := .seq its'.toArray n' }) (r : Vals ys its') (hz : ys.length ≤ sizeLine) (t : Nat) :
    Inv X pins σ (upd H p (.lst ys)) { s with heap := s.heap.update p f, toks := t } := by
  have e : (s.heap.update p f).get? p = some { cls := .type "list", data := .seq its'.toArray n' } := by
    rw [Heap.get?_update_self f ho (by rw [hf] <;> rfl), hf]
  refine I.write (x := p) (e := p) (by rw [h]; trivial) (.inl rfl) (fun b u hb q => (Heap.get?_update_other _ _ (Ne.symm hb)).trans q) ⟨_, e⟩ ?_
  exact ⟨hz, its', n', r, e⟩
def rSetL : V → V → V → Hp → (Hp → Prop) → Prop := fun o i v H Q => ∃ p xs k j, o = .ref p ∧ i = .int k ∧ H p = some (.lst xs) ∧ ixN xs.length k = some j ∧ Q (upd H p (.lst (xs.set j v)))
theorem set_list : PSet X rSetL := by
  intro pins s σ H o i v ov iv u Q I ro ri rv h
  obtain ⟨p, xs, k, j, rfl, rfl, hp, hj, q⟩ := h
  cases ro
  obtain ⟨t, rfl⟩ := ri
  obtain ⟨its, n, r, ho, hz⟩ := I.lst hp
  obtain ⟨h1, h2, h3, h4⟩ := ixN_seq hj
  have hl := r.length
  have hn := line63
  have I' : Inv X pins σ (upd H p (.lst (xs.set j v))) { s with heap := s.heap.update p (Obj.mapSeq (·.setIfInBounds j u)) } :=
    I.lstUpd hp ho (mapSeq_set its n j u) (r.set rv j) (by rw [List.length_set]; exact hz) s.toks
  by_cases h0 : 0 ≤ k
  · have hk : k.toNat = j := by
      rw [seqIndex_of h0 h4] at h1
      exact Option.some.inj h1
    exact PySem.W.ki_setAt ho h0 (by omega) (by rw [List.size_toArray, ← hl]; exact h4) (by rw [hk]; exact ⟨_, I', q⟩)
  · have hk : (k + (its.toArray.size : Int)).toNat = j := by
      rw [seqIndex_neg (by omega) h3] at h1
      rw [List.size_toArray, ← hl]
      exact Option.some.inj h1
    exact PySem.W.ki_setBack ho (by omega) (by rw [List.size_toArray, ← hl]; exact h3) (by omega) (by rw [hk]; exact ⟨_, I', q⟩)

/-! ### slices -/
theorem slice_bounds (lo hi : Option Int) (n : Nat) : (sliceBounds lo hi none n).1 = ((HT.sIx n 0 lo : Nat) : Int) ∧ (sliceBounds lo hi none n).2.1 = ((HT.sIx n n hi : Nat) : Int) ∧ (sliceBounds lo hi none n).2.2 = 1 := by
  refine ⟨?_, ?_, rfl⟩
  · cases lo with
    | none => simp [sliceBounds, HT.sIx]
    | some i =>
      simp only [sliceBounds, HT.sIx, Option.getD_none, show (1 : Int) > 0 by decide, if_true]
      by_cases h : i < 0
      · simp only [h, if_true] <;> omega
      · simp only [h, if_false] <;> omega
  · cases hi with
    | none => simp [sliceBounds, HT.sIx]
    | some i =>
      simp only [sliceBounds, HT.sIx, Option.getD_none, show (1 : Int) > 0 by decide, if_true]
      by_cases h : i < 0
      · simp only [h, if_true] <;> omega
      · simp only [h, if_false] <;> omega
theorem slicePick_cut (its : List Value) (lo hi : Option Int) : slicePick its.toArray lo hi none = ((its.drop (HT.sIx its.length 0 lo)).take (HT.sIx its.length its.length hi - HT.sIx its.length 0 lo)).toArray := by
  obtain ⟨h1, h2, h3⟩ := slice_bounds lo hi its.toArray.size
  unfold slicePick
  rw [h1, h2, h3]
  simp only [sliceRange_one, pick_run, List.size_toArray] <;> rfl
/-- xs[lo:hi] of a list: a new list -/
def rSlL (K : PySem.W.Frag) : V → Option Int → Option Int → Hp → VK → Prop := fun x lo hi H Q => ∃ a xs, x = .ref a ∧ SqL K H a xs ∧ ∀ p, H p = none → Q (.ref p) (upd H p (.lst (cutV xs lo hi)))
theorem sl_list : SlR X (rSlL X.K) := by
  intro pins s σ H x v vl vu lo hi sl Q I rx hs pl pu h
  obtain ⟨a, xs, rfl, hx, q⟩ := h
  cases rx
  obtain ⟨its, r, ht, hz⟩ := I.list hx
  have hlen := r.length
  refine ⟨"list", _, slot_list_getitem.lookup, ht.isList.typeIs, ?_⟩
  refine wpAny_getItem_list_slice ht.isList hs pl pu .none (by simp) ?_ (by rw [List.size_toArray] <;> omega)
  rw [slicePick_cut, ← hlen]
  refine ⟨.ref s.heap.objs.size, _, I.laid (t' := s.toks) (o := .lst (cutV xs lo hi)) (fun b ob q => Heap.get?_push_of_some _ q) (Nat.le_refl _) ?_, rfl, q _ (I.hok.fresh (Nat.le_refl _))⟩
  exact ⟨Nat.le_trans (cutV_length xs lo hi) hz, _, 0, (r.drop (HT.sIx xs.length 0 lo)).take (HT.sIx xs.length xs.length hi - HT.sIx xs.length 0 lo), Heap.get?_push_size _ rfl⟩

/-! ### in, not in: flat items -/
def flatV : V → Bool
  | .non => true
  | .bl _ => true
  | .int _ => true
  | .str _ => true
  | _ => false
/-- == of flat values -/
def eqV : V → V → Bool
  | .non, .non => true
  | .bl a, .bl b => a == b
  | .bl a, .int b => (if a then 1 else 0) == b
  | .int a, .bl b => a == (if b then 1 else 0)
  | .int a, .int b => a == b
  | .str a, .str b => a == b
  | _, _ => false
theorem eqAt_V {A : Around} {s : Shared} {y x : V} {u v : Value} (ry : RelV y u) (rx : RelV x v) (fy : flatV y = true) (fx : flatV x = true) : SeqAt.EqAt A s u v (eqV y x) := by
  cases y with
  | non =>
    cases ry
    cases x with
    | non => cases rx; exact SeqAt.EqAt.same _
    | bl b => cases rx; exact SeqAt.EqAt.none_bool b
    | int b => obtain ⟨t, rfl⟩ := rx; exact SeqAt.EqAt.none_int b t
    | str b => obtain ⟨t, rfl⟩ := rx; exact SeqAt.EqAt.none_str b t
    | _ => exact absurd (show false = true from fx) Bool.false_ne_true
  | bl a =>
    cases ry
    cases x with
    | non => cases rx; exact SeqAt.EqAt.bool_none a
    | bl b => cases rx; exact SeqAt.EqAt.bool_bool a b
    | int b => obtain ⟨t, rfl⟩ := rx; exact SeqAt.EqAt.bool_int a b t
    | str b => obtain ⟨t, rfl⟩ := rx; exact SeqAt.EqAt.bool_str a b t
    | _ => exact absurd (show false = true from fx) Bool.false_ne_true
  | int a =>
    obtain ⟨t', rfl⟩ := ry
    cases x with
    | non => cases rx; exact SeqAt.EqAt.int_none a t'
    | bl b => cases rx; exact SeqAt.EqAt.int_bool a t' b
    | int b => obtain ⟨t, rfl⟩ := rx; exact SeqAt.EqAt.int_int a t' b t
    | str b => obtain ⟨t, rfl⟩ := rx; exact SeqAt.EqAt.int_str a t' b t
    | _ => exact absurd (show false = true from fx) Bool.false_ne_true
  | str a =>
    obtain ⟨t', rfl⟩ := ry
    cases x with
    | non => cases rx; exact SeqAt.EqAt.str_none a t'
    | bl b => cases rx; exact SeqAt.EqAt.str_bool a t' b
    | int b => obtain ⟨t, rfl⟩ := rx; exact SeqAt.EqAt.str_int a t' b t
    | str b => obtain ⟨t, rfl⟩ := rx; exact SeqAt.EqAt.str_str a t' b t
    | _ => exact absurd (show false = true from fx) Bool.false_ne_true
  | _ => exact absurd (show false = true from fy) Bool.false_ne_true
/-- the items' answers, read off the values (a value's own answer does not lean on its token) -/
def eqU (x : V) (u : Value) : Bool := match u with
  | .none => eqV .non x
  | .bool b => eqV (.bl b) x
  | .int i _ => eqV (.int i) x
  | .str z _ => eqV (.str z) x
  | _ => false
theorem eqU_of {x y : V} {u : Value} (r : RelV y u) (f : flatV y = true) : eqU x u = eqV y x := by
  cases y with
  | non => cases r; rfl
  | bl b => cases r; rfl
  | int i => obtain ⟨t, rfl⟩ := r; rfl
  | str z => obtain ⟨t, rfl⟩ := r; rfl
  | _ => exact absurd (show false = true from f) Bool.false_ne_true
theorem any_eqU {x : V} : ∀ {xs : List V} {us : List Value}, Vals xs us → xs.all flatV = true → us.any (eqU x) = xs.any fun y => eqV y x
  | _, _, .nil, _ => rfl
  | y :: xs, u :: us, .cons r t, f => by
    rw [List.all_cons, Bool.and_eq_true] at f
    rw [List.any_cons, List.any_cons, eqU_of r f.1, any_eqU t f.2]
theorem mem_eqAt {A : Around} {s : Shared} {x : V} {v : Value} (rx : RelV x v) (fx : flatV x = true) : ∀ {xs : List V} {us : List Value}, Vals xs us → xs.all flatV = true → ∀ u ∈ us, SeqAt.EqAt A s u v (eqU x u)
  | _, _, .nil, _ => fun u hu => by cases hu
  | y :: xs, u :: us, .cons r t, f => fun u' hu => by
    rw [List.all_cons, Bool.and_eq_true] at f
    rcases List.mem_cons.mp hu with rfl | hu
    · rw [eqU_of r f.1]; exact eqAt_V r rx f.1 fx
    · exact mem_eqAt rx fx t f.2 u' hu
def inV (x : V) (xs : List V) : Bool := xs.any fun y => eqV y x
/-- x in a list or tuple of flat items -/
def rIn (K : PySem.W.Frag) (neg : Bool) : R2 := fun x y H Q => ∃ p xs, y = .ref p ∧ (SqL K H p xs ∨ SqT K H p xs) ∧ flatV x = true ∧ xs.all flatV = true ∧ Q (.bl (if neg then !inV x xs else inV x xs)) H
theorem op_in_seq : OpR X (compareOp .In) (rIn X.K false) := by
  intro pins s σ H x y v u Q I rx ry h
  obtain ⟨p, xs, rfl, hq, fx, fs, q⟩ := h
  cases ry
  rcases hq with hq | hq
  · obtain ⟨its, r, pl, hz⟩ := I.list hq
    refine SeqAt.in_listAt (eqU x) pl.isList (fun w hw => mem_eqAt rx fx r fs w (by simpa using hw)) ⟨.bl _, H, I, rfl, ?_⟩
    rw [show its.toArray.any (eqU x) = its.any (eqU x) by simp, any_eqU r fs]
    exact q
  · obtain ⟨its, r, pl, hz⟩ := I.tuple hq
    refine SeqAt.in_tupleAt (eqU x) pl (fun w hw => mem_eqAt rx fx r fs w (by simpa using hw)) ⟨.bl _, H, I, rfl, ?_⟩
    rw [show its.toArray.any (eqU x) = its.any (eqU x) by simp, any_eqU r fs]
    exact q
theorem op_notIn_seq : OpR X (compareOp .NotIn) (rIn X.K true) := by
  intro pins s σ H x y v u Q I rx ry h
  obtain ⟨p, xs, rfl, hq, fx, fs, q⟩ := h
  cases ry
  rcases hq with hq | hq
  · obtain ⟨its, r, pl, hz⟩ := I.list hq
    refine SeqAt.notIn_listAt (eqU x) pl.isList (fun w hw => mem_eqAt rx fx r fs w (by simpa using hw)) ⟨.bl _, H, I, rfl, ?_⟩
    rw [show its.toArray.any (eqU x) = its.any (eqU x) by simp, any_eqU r fs]
    exact q
  · obtain ⟨its, r, pl, hz⟩ := I.tuple hq
    refine SeqAt.notIn_tupleAt (eqU x) pl (fun w hw => mem_eqAt rx fx r fs w (by simpa using hw)) ⟨.bl _, H, I, rfl, ?_⟩
    rw [show its.toArray.any (eqU x) = its.any (eqU x) by simp, any_eqU r fs]
    exact q
theorem op_notIn_str : OpR X (compareOp .NotIn) (fun x y H Q => ∃ i j, x = .str i ∧ y = .str j ∧ Q (.bl (!(!(Builtin.Str.occurrences j i 0 j.length 1).isEmpty))) H) := by
  intro pins s σ H x y v u Q I rx ry h
  obtain ⟨i, j, rfl, rfl, q⟩ := h
  obtain ⟨t, rfl⟩ := rx
  obtain ⟨t', rfl⟩ := ry
  exact notIn_str ⟨.bl _, H, I, rfl, q⟩

/-! ### len, list(x), tuple(x) of any list or tuple that is read -/
theorem call_len_seq : CallR X (.builtin "len") (fun xs H Q => ∃ p ys, xs = [.ref p] ∧ (SqL X.K H p ys ∨ SqT X.K H p ys) ∧ Q (.int ys.length) H) := by
  intro pins s σ H xs us Q I r h
  obtain ⟨p, ys, rfl, hq, q⟩ := h
  obtain ⟨u, rfl, rx⟩ := vals1 r
  cases rx
  have hn := line63
  rcases hq with hq | hq
  · obtain ⟨its, r', pl, hz⟩ := I.list hq
    have hlen := r'.length
    exact Calls.call_len_list pl.isList (by simp only [List.size_toArray] <;> omega) ⟨.int ys.length, H, I.tok _, ⟨s.toks + 1, by rw [List.size_toArray, hlen]⟩, q⟩
  · obtain ⟨its, r', pl, hz⟩ := I.tuple hq
    have hlen := r'.length
    exact len_tuple pl (by simp only [List.size_toArray] <;> omega) ⟨.int ys.length, H, I.tok _, ⟨s.toks + 1, by rw [List.size_toArray, hlen]⟩, q⟩
theorem call_len_str : CallR X (.builtin "len") (fun xs H Q => ∃ z, xs = [.str z] ∧ z.length ≤ sizeLine ∧ Q (.int z.length) H) := by
  intro pins s σ H xs us Q I r h
  obtain ⟨z, rfl, hz, q⟩ := h
  obtain ⟨u, rfl, t, rfl⟩ := vals1 r
  have hn := line63
  exact len_str (by omega) ⟨.int z.length, H, I.tok _, ⟨_, rfl⟩, q⟩
theorem CallR.or {f : Value} {r r' : List V → Hp → VK → Prop} (h : CallR X f r) (h' : CallR X f r') : CallR X f (fun xs H Q => r xs H Q ∨ r' xs H Q) := by
  intro pins s σ H xs us Q I rs q
  rcases q with q | q
  · exact h pins s σ H xs us Q I rs q
  · exact h' pins s σ H xs us Q I rs q
theorem call_list_of : CallR X (.type "list") (fun xs H Q => ∃ p ys, xs = [.ref p] ∧ (SqL X.K H p ys ∨ SqT X.K H p ys) ∧ ∀ l, H l = none → Q (.ref l) (upd H l (.lst ys))) := by
  intro pins s σ H xs us Q I r h
  obtain ⟨p, ys, rfl, hq, q⟩ := h
  obtain ⟨u, rfl, rx⟩ := vals1 r
  cases rx
  have fin : ∀ (its : List Value), Vals ys its → ys.length ≤ sizeLine → ∀ (h' : Heap) (c' : Nat), (∀ b o', s.heap.get? b = some o' → h'.get? b = some o') →
      h'.get? s.heap.objs.size = some { cls := .type "list", dict := none, data := .seq its.toArray c', slots := #[] } → EP X pins σ Q (.ref s.heap.objs.size) { s with heap := h' } := fun its r' hz h' c' kp e =>
    ⟨.ref s.heap.objs.size, _, I.laid (t' := s.toks) kp (Nat.le_refl _) (show ObjOk X.prog X.w _ h' _ (.lst ys) from ⟨hz, its, c', r', e⟩), rfl, q _ (I.hok.fresh (Nat.le_refl _))⟩
  rcases hq with hq | hq
  · obtain ⟨its, r', pl, hz⟩ := I.list hq
    have hlen := r'.length
    obtain ⟨o, ho, hc, n, hd⟩ := pl.isList
    exact call_list_seq p (.inl rfl) ho hc hd (fun h' c' kp e => fin its r' hz h' c' kp e) (by simp only [List.size_toArray] <;> omega)
  · obtain ⟨its, r', pl, hz⟩ := I.tuple hq
    have hlen := r'.length
    obtain ⟨o, ho, hc, n, hd⟩ := pl
    exact call_list_seq p (.inr rfl) ho hc hd (fun h' c' kp e => fin its r' hz h' c' kp e) (by simp only [List.size_toArray] <;> omega)
theorem call_tuple_of : CallR X (.type "tuple") (fun xs H Q => ∃ p ys, xs = [.ref p] ∧ ((SqL X.K H p ys ∧ ∀ l, H l = none → Q (.ref l) (upd H l (.tup ys))) ∨ (SqT X.K H p ys ∧ Q (.ref p) H))) := by
  intro pins s σ H xs us Q I r h
  obtain ⟨p, ys, rfl, h⟩ := h
  obtain ⟨u, rfl, rx⟩ := vals1 r
  cases rx
  rcases h with ⟨hq, q⟩ | ⟨hq, q⟩
  · obtain ⟨its, r', pl, hz⟩ := I.list hq
    have hlen := r'.length
    refine call_tuple_list pl.isList (fun h' kp => ?_) (by simp only [List.size_toArray] <;> omega)
    have I1 : Inv X pins σ H { s with heap := h' } := I.kept (t' := s.toks) kp
    have I2 : Inv X pins σ (upd H h'.objs.size (.tup ys)) { s with heap := h'.push { cls := .type "tuple", data := .seq its.toArray } } :=
      I1.laid (t' := s.toks) (fun b o e => Heap.get?_push_of_some _ e) (Nat.le_refl _) (show ObjOk X.prog X.w _ _ _ (.tup ys) from ⟨hz, its, r', IsTup.new _ _⟩)
    exact ⟨.ref h'.objs.size, _, I2, rfl, q _ (I1.hok.fresh (Nat.le_refl _))⟩
  · obtain ⟨its, r', pl, hz⟩ := I.tuple hq
    exact call_tuple_same pl ⟨.ref p, H, I, rfl, q⟩

/-! ### the call of a builtin's method: o.m(..) -/
/-- the value is of that builtin type -/
def tyV (K : PySem.W.Frag) (T : String) (x : V) (H : Hp) : Prop := match x with
  | .str _ => T = "str"
  | .int _ => T = "int"
  | .ref p => (T = "list" ∧ ∃ xs, SqL K H p xs) ∨ (T = "tuple" ∧ ∃ o, K.lookup p = some o ∧ o.cls = .type "tuple" ∧ o.dict = none) ∨
      (T = "dict" ∧ ((∃ kvs, H p = some (.dK kvs)) ∨ ∃ kvs, H p = some (.dT kvs))) ∨ (T = "set" ∧ ∃ S n, H p = some (.set S n))
  | _ => False
theorem tyV_is {pins : List (Addr × Obj)} {σ : St} {H : Hp} {s : Shared} {T : String} {x : V} {v : Value} (I : Inv X pins σ H s) (r : RelV x v) (ty : tyV X.K T x H) :
    s.TypeIs v T ∧ ∀ a, v = .ref a → ∃ ob, s.heap.get? a = some ob ∧ ob.dict = none := by
  cases x with
  | str z =>
    obtain ⟨t, rfl⟩ := r
    cases (show T = "str" from ty)
    exact ⟨typeIs_str s z t, fun _ e => nomatch e⟩
  | int i =>
    obtain ⟨t, rfl⟩ := r
    cases (show T = "int" from ty)
    exact ⟨typeIs_int s i t, fun _ e => nomatch e⟩
  | ref p =>
    cases r
    rcases ty with ⟨rfl, xs, hq⟩ | ⟨rfl, o, hk, hc, hd⟩ | ⟨rfl, hk⟩ | ⟨rfl, S, n, hk⟩
    · obtain ⟨its, _, pl, _⟩ := I.list hq
      refine ⟨pl.isList.typeIs, fun a e => ?_⟩
      cases e
      obtain ⟨o, n, e, c, hd, _⟩ := pl
      exact ⟨o, e, hd⟩
    · refine ⟨⟨o, I.kIn p o hk, hc⟩, fun a e => ?_⟩
      cases e
      exact ⟨o, I.kIn _ o hk, hd⟩
    · have z : ∃ o, s.heap.get? p = some o ∧ o.ExactDict := by
        rcases hk with ⟨kvs, hk⟩ | ⟨kvs, hk⟩
        · obtain ⟨_, _, _, _, o, _, _, e, ex, _⟩ := I.hok p _ hk
          exact ⟨o, e, ex⟩
        · obtain ⟨_, _, _, _, o, _, _, e, ex, _⟩ := I.hok p _ hk
          exact ⟨o, e, ex⟩
      obtain ⟨o, e, ex⟩ := z
      refine ⟨⟨o, e, ex.1⟩, fun a e2 => ?_⟩
      cases e2
      exact ⟨o, e, ex.2.1⟩
    · obtain ⟨o, _, _, _, e, ex, _⟩ := I.hok p _ hk
      refine ⟨⟨o, e, ex.1⟩, fun a e2 => ?_⟩
      cases e2
      exact ⟨o, e, ex.2.1⟩
  | _ => exact False.elim ty
def tBM0 (K : PySem.W.Frag) (T : String) (r : V → List V → Hp → VK → Prop) (to : TE) : TE := fun σ H Q => to σ H fun x H1 => tyV K T x H1 ∧ r x [] H1 Q
def tBM (K : PySem.W.Frag) (T : String) (r : V → List V → Hp → VK → Prop) (to : TE) (t : TA) : TE := fun σ H Q => to σ H fun x H1 => tyV K T x H1 ∧ t σ H1 fun xs H2 => r x xs H2 Q
variable {o e : Expr} {es : List Expr} {to : TE} {t : TA} {name : Str} {apos cpos : Pos} {T id : String} {r : V → List V → Hp → VK → Prop}
theorem pe_bm0 (pa : PlainAttrs T) (slot : Slot T name id) (hty : typeOf (.builtin id) = pure (.type "method_descriptor")) (hm : MtR X id r) (ho : PE X o to)
    (hbase : attributeBase o name X.env (eval o X.env) = eval o X.env := by rfl) (hline : (apos.endLine == cpos.line) = true := by rfl) : PE X (.Call (.Attribute o name apos) [] [] cpos) (tBM0 X.K T r to) := by
  intro pins s σ H Q I h
  refine wpAny_Call_method0_late hbase hline (thn (ho pins s σ H _ I h) fun v s1 ⟨x, H1, I1, r1, ty, q1⟩ => ?_)
  obtain ⟨h1, h2⟩ := tyV_is I1 r1 ty
  exact ⟨T, id, pa, slot, hty, h1, h2, Calls.callWith_builtin rfl (PySem.evalArgs_none (hm pins s1 σ H1 x [] v [] Q I1 r1 .nil q1))⟩
theorem pe_bm (pa : PlainAttrs T) (slot : Slot T name id) (hty : typeOf (.builtin id) = pure (.type "method_descriptor")) (hm : MtR X id r) (ho : PE X o to) (ha : PA X (e :: es) t)
    (hbase : attributeBase o name X.env (eval o X.env) = eval o X.env := by rfl)
    (hfew : ((backTo cpos (starEach (e :: es) X.env)).all (fun x => !x.1) && (backToKw cpos (keywordEach [] X.env)).all (fun x => x.1.isSome)
      && decide ((e :: es).length + ([] : List Keyword).length + (if ([] : List Keyword).isEmpty then 0 else 1) < 30)) = true := by rfl)
    (hline : (apos.endLine == cpos.line) = true := by rfl) (hs : starEach (e :: es) X.env = (false, eval e X.env) :: starEach es X.env := by rfl) (hplain : (backTo cpos (starEach es X.env)).any (·.1) = false := by rfl) :
    PE X (.Call (.Attribute o name apos) (e :: es) [] cpos) (tBM X.K T r to t) := by
  intro pins s σ H Q I h
  refine wpAny_Call_method_late hbase hfew hline rfl (thn (ho pins s σ H _ I h) fun v s1 ⟨x, H1, I1, r1, ty, q1⟩ => ?_)
  obtain ⟨h1, h2⟩ := tyV_is I1 r1 ty
  refine ⟨T, id, pa, slot, hty, h1, h2, ?_⟩
  have hA := ha cpos pins s1 σ H1 _ I1 q1
  rw [hs] at hA ⊢
  refine Calls.callWith_builtin (by show (false || (backTo cpos (starEach es X.env)).any (·.1)) = false; rw [hplain] <;> rfl) (Calls.evalArgs_plain ?_)
  exact thn hA fun us s2 ⟨vs, H2, I2, r2, q2⟩ => hm pins s2 σ H2 x vs v us Q I2 r1 r2 q2
/- xs.append(e), list.index on a module's tuple .. are MtR facts of 06m -/
end
end L2

namespace L2
open PySem PySem.Spec PyProof.Rows

def MtM (X : Cx) (id : String) (r : V → List V → Hp → VK → Prop) : Prop :=
  ∀ (pins : List (Addr × Obj)) (s : Shared) (σ : St) (H : Hp) (x : V) (xs : List V) (v : Value) (us : List Value) (Q : VK), Inv X pins σ H s → RelV x v → Vals xs us → r x xs H Q →
    wpAny (model X.prog X.w) X.A (call (.builtin id) (v :: us)) (EP X pins σ Q) X.xe s

/-! ### lists of values -/
theorem Vals.one : ∀ {x : V} {us : List Value}, Vals [x] us → ∃ u, us = [u] ∧ RelV x u
  | _, _, .cons r .nil => ⟨_, rfl, r⟩
theorem Vals.two : ∀ {x y : V} {us : List Value}, Vals [x, y] us → ∃ u v, us = [u, v] ∧ RelV x u ∧ RelV y v
  | _, _, _, .cons r (.cons q .nil) => ⟨_, _, rfl, r, q⟩
theorem Vals.zero : ∀ {us : List Value}, Vals [] us → us = []
  | _, .nil => rfl
theorem Vals.dropLast {xs : List V} {us : List Value} (h : Vals xs us) : Vals xs.dropLast us.dropLast := by
  induction h with
  | nil => exact .nil
  | cons r t ih =>
    cases t with
    | nil => exact .nil
    | cons q t' => exact .cons r ih
theorem Vals.eraseIdx : ∀ {xs : List V} {us : List Value} (i : Nat), Vals xs us → Vals (xs.eraseIdx i) (us.eraseIdx i)
  | _, _, _, .nil => .nil
  | _, _, 0, .cons _ t => t
  | _, _, i + 1, .cons r t => .cons r (Vals.eraseIdx i t)
theorem Vals.reverse {xs : List V} {us : List Value} (h : Vals xs us) : Vals xs.reverse us.reverse := by
  induction h with
  | nil => exact .nil
  | cons r t ih => rw [List.reverse_cons, List.reverse_cons]; exact Vals.append ih (.cons r .nil)
theorem Vals.rep {xs : List V} {us : List Value} (h : Vals xs us) : ∀ k : Nat, Vals (List.replicate k xs).flatten (List.replicate k us).flatten
  | 0 => .nil
  | k + 1 => by
    rw [List.replicate_succ, List.replicate_succ, List.flatten_cons, List.flatten_cons]
    exact Vals.append h (Vals.rep h k)
theorem erase_last {α : Type} (l : List α) : l.eraseIdx (l.length - 1) = l.dropLast := by
  induction l with
  | nil => rfl
  | cons a r ih =>
    cases r with
    | nil => rfl
    | cons b r =>
      have e : (a :: b :: r).length - 1 = ((b :: r).length - 1) + 1 := by
        have h1 : (a :: b :: r).length = r.length + 2 := rfl
        have h2 : (b :: r).length = r.length + 1 := rfl
        omega
      rw [e, List.eraseIdx_cons_succ, ih]
      all_goals rfl
theorem len_erase {α : Type} : ∀ (l : List α) (i : Nat), (l.eraseIdx i).length ≤ l.length
  | [], _ => Nat.le_refl _
  | _ :: _, 0 => Nat.le_succ _
  | _ :: r, i + 1 => Nat.succ_le_succ (len_erase r i)
theorem foldl_rep (its : List Value) : ∀ (k : Nat) (acc : List Value),
    List.foldl (fun x1 x2 => x1 ++ x2) acc.toArray (List.replicate k its.toArray) = (acc ++ (List.replicate k its).flatten).toArray
  | 0, acc => by simp
  | k + 1, acc => by
    have e : acc.toArray ++ its.toArray = (acc ++ its).toArray := by simp
    have e2 : (acc ++ its) ++ (List.replicate k its).flatten = acc ++ (List.replicate (k + 1) its).flatten := by
      rw [List.replicate_succ, List.flatten_cons, List.append_assoc]
    rw [← e2, ← foldl_rep its k (acc ++ its), ← e, List.replicate_succ, List.foldl_cons]

section
variable {X : Cx} {pins : List (Addr × Obj)} {σ : St} {H : Hp} {s : Shared} {l b : Addr} {xs ys zs : List V}

/-! ### the two steps: a tracked list is rewritten, a new list is laid -/
theorem Inv.lset {its its' : List Value} {n : Nat} {f : Array Value → Array Value} {t' : Nat} (I : Inv X pins σ H s) (hH : H l = some (.lst xs))
    (e : s.heap.get? l = some { cls := .type "list", data := .seq its.toArray n }) (hf : f its.toArray = its'.toArray) (hv : Vals ys its') (hz : ys.length ≤ sizeLine) :
    Inv X pins σ (upd H l (.lst ys)) { s with heap := s.heap.update l (Obj.mapSeq f), toks := t' } := by
  have q := PySem.IsL.update e f
  rw [hf] at q
  refine I.write (x := l) (e := l) (by rw [hH]; exact trivial) (.inl rfl) (fun b' u hb hu => (Heap.get?_update_other s.heap (Obj.mapSeq f) (Ne.symm hb)).trans hu) ⟨_, q⟩ ?_
  exact ⟨hz, its', _, hv, q⟩
theorem Inv.lnew {its : List Value} {t' : Nat} (I : Inv X pins σ H s) (hv : Vals ys its) (hz : ys.length ≤ sizeLine) :
    Inv X pins σ (upd H s.heap.objs.size (.lst ys)) { s with heap := s.heap.push { cls := .type "list", data := .seq its.toArray }, toks := t' } :=
  I.laid (fun _ _ q => Heap.get?_push_of_some _ q) (Nat.le_refl _) ⟨hz, its, 0, hv, Heap.get?_push_size _ rfl⟩
theorem Inv.fresh (I : Inv X pins σ H s) : H s.heap.objs.size = none := I.hok.fresh (Nat.le_refl _)
theorem Inv.lstM (I : Inv X pins σ H s) (hH : H l = some (.lst xs)) : xs.length ≤ sizeLine ∧ ∃ (its : List Value) (n : Nat), Vals xs its ∧ xs.length = its.length ∧ s.heap.get? l = some { cls := .type "list", data := .seq its.toArray n } := by
  obtain ⟨z, its, n, r, e⟩ := I.hok l _ hH
  exact ⟨z, its, n, r, r.length, e⟩

theorem notLongL {n : Nat} (h : n ≤ sizeLine) : Builtin.List.listTooLong n = false := by
  unfold Builtin.List.listTooLong
  exact decide_eq_false (by omega)
end

section
variable {X : Cx}

/-! ### methods -/
def rAppend : V → List V → Hp → VK → Prop := fun x vs H Q => ∃ l xs y, x = .ref l ∧ vs = [y] ∧ H l = some (.lst xs) ∧ xs.length < sizeLine ∧ Q .non (upd H l (.lst (xs ++ [y])))
theorem mt_append : MtM X "list.append" rAppend := by
  intro pins s σ H x vs v us Q I rx rv h
  obtain ⟨l, xs, y, rfl, rfl, hH, hz, q⟩ := h
  cases rx
  obtain ⟨u, rfl, ru⟩ := rv.one
  obtain ⟨z, its, n, r, hl, e⟩ := I.lstM hH
  refine call_meets F.slot_list_append ⟨_, e, rfl⟩ F.entry_list_append (F.args_list_append_2 _ _) (PySem.list_append l its.toArray n u (by rw [List.size_toArray]; omega)) ⟨e, ?_⟩
  refine ⟨.non, _, I.lset (its' := its ++ [u]) hH e (by simp) (r.append (.cons ru .nil)) ?_, rfl, q⟩
  rw [List.length_append, List.length_singleton]
  omega

def rExtend : V → List V → Hp → VK → Prop := fun x vs H Q => ∃ l b xs zs, x = .ref l ∧ vs = [.ref b] ∧ H l = some (.lst xs) ∧ H b = some (.lst zs) ∧ xs.length + zs.length ≤ sizeLine ∧ Q .non (upd H l (.lst (xs ++ zs)))
theorem mt_extend : MtM X "list.extend" rExtend := by
  intro pins s σ H x vs v us Q I rx rv h
  obtain ⟨l, b, xs, zs, rfl, rfl, hH, hB, hz, q⟩ := h
  cases rx
  obtain ⟨u, rfl, ru⟩ := rv.one
  cases ru
  obtain ⟨z, its, n, r, hl, e⟩ := I.lstM hH
  obtain ⟨z2, its2, n2, r2, hl2, e2⟩ := I.lstM hB
  have hsz : its.toArray.size + its2.toArray.size ≤ sizeLine := by rw [List.size_toArray, List.size_toArray]; omega
  have hlong : ¬ (!its.toArray.isEmpty && Builtin.List.listTooLong (its.toArray.size + its2.toArray.size)) = true := by
    rw [notLongL hsz, Bool.and_false]
    exact Bool.false_ne_true
  refine call_meets F.slot_list_extend ⟨_, e, rfl⟩ F.entry_list_extend (F.args_list_extend_2 _ _)
    (AutoSeq1.list_extend_list_list_0 l its.toArray n b its2.toArray n2 hlong (by rw [List.size_toArray]; omega) (by omega)) ⟨e, e2, ?_⟩
  refine ⟨.non, _, I.lset (its' := its ++ its2) hH e (by simp) (r.append r2) ?_, rfl, q⟩
  rw [List.length_append]
  omega

def rPop : V → List V → Hp → VK → Prop := fun x vs H Q => ∃ l xs y, x = .ref l ∧ vs = [] ∧ H l = some (.lst xs) ∧ xs[xs.length - 1]? = some y ∧ Q y (upd H l (.lst xs.dropLast))
theorem mt_pop : MtM X "list.pop" rPop := by
  intro pins s σ H x vs v us Q I rx rv h
  obtain ⟨l, xs, y, rfl, rfl, hH, hy, q⟩ := h
  cases rx
  have hus := rv.zero
  subst hus
  obtain ⟨z, its, n, r, hl, e⟩ := I.lstM hH
  obtain ⟨u, hu, ru⟩ := r.get hy
  have hy' : its.toArray[its.toArray.size - 1]? = some u := by
    show its.toArray[its.length - 1]? = some u
    rw [← Array.getElem?_toList, ← hl]
    exact hu
  refine call_meets F.slot_list_pop ⟨_, e, rfl⟩ F.entry_list_pop (F.args_list_pop_1 _) (MeetsSeq.list_pop_last l its.toArray n u hy' (by rw [List.size_toArray]; omega)) ⟨e, ?_⟩
  refine ⟨y, _, I.lset (its' := its.dropLast) hH e ?_ r.dropLast ?_, ru, q⟩
  · show its.toArray.eraseIdxIfInBounds (its.toArray.size - 1) = its.dropLast.toArray
    rw [List.size_toArray, List.eraseIdxIfInBounds_toArray, erase_last]
  · rw [List.length_dropLast]
    omega

def rPopAt : V → List V → Hp → VK → Prop := fun x vs H Q => ∃ l xs i k y, x = .ref l ∧ vs = [.int i] ∧ H l = some (.lst xs) ∧ -(2 ^ 63) ≤ i ∧ i < 2 ^ 63 ∧ seqIndex? i xs.length = some k ∧ xs[k]? = some y ∧ Q y (upd H l (.lst (xs.eraseIdx k)))
theorem mt_popAt : MtM X "list.pop" rPopAt := by
  intro pins s σ H x vs v us Q I rx rv h
  obtain ⟨l, xs, i, k, y, rfl, rfl, hH, h1, h2, hk, hy, q⟩ := h
  cases rx
  obtain ⟨u, rfl, ru⟩ := rv.one
  obtain ⟨t, rfl⟩ := ru
  obtain ⟨z, its, n, r, hl, e⟩ := I.lstM hH
  obtain ⟨w, hw, rw'⟩ := r.get hy
  refine call_meets F.slot_list_pop ⟨_, e, rfl⟩ F.entry_list_pop (F.args_list_pop_2 _ _)
    (MeetsSeq.list_pop_at l its.toArray n i t k w (fitsIndex_both h1 h2) (by rw [List.size_toArray, ← hl]; exact hk) (by rw [← Array.getElem?_toList]; exact hw) (by rw [List.size_toArray]; omega)) ⟨e, ?_⟩
  refine ⟨y, _, I.lset (its' := its.eraseIdx k) hH e ?_ (r.eraseIdx k) ?_, rw', q⟩
  · show its.toArray.eraseIdxIfInBounds k = (its.eraseIdx k).toArray
    rw [List.eraseIdxIfInBounds_toArray]
  · have := len_erase xs k
    omega

def rReverse : V → List V → Hp → VK → Prop := fun x vs H Q => ∃ l xs, x = .ref l ∧ vs = [] ∧ H l = some (.lst xs) ∧ Q .non (upd H l (.lst xs.reverse))
theorem mt_reverse : MtM X "list.reverse" rReverse := by
  intro pins s σ H x vs v us Q I rx rv h
  obtain ⟨l, xs, rfl, rfl, hH, q⟩ := h
  cases rx
  have hus := rv.zero
  subst hus
  obtain ⟨z, its, n, r, hl, e⟩ := I.lstM hH
  refine call_meets F.slot_list_reverse ⟨_, e, rfl⟩ F.entry_list_reverse (F.args_list_reverse_1 _) (AutoSeq1.list_reverse_list_0 l its.toArray n (by rw [List.size_toArray]; omega)) ⟨e, ?_⟩
  refine ⟨.non, _, I.lset (its' := its.reverse) hH e (by simp) r.reverse ?_, rfl, q⟩
  rw [List.length_reverse]
  omega

def rClear : V → List V → Hp → VK → Prop := fun x vs H Q => ∃ l xs, x = .ref l ∧ vs = [] ∧ H l = some (.lst xs) ∧ Q .non (upd H l (.lst []))
theorem mt_clear : MtM X "list.clear" rClear := by
  intro pins s σ H x vs v us Q I rx rv h
  obtain ⟨l, xs, rfl, rfl, hH, q⟩ := h
  cases rx
  have hus := rv.zero
  subst hus
  obtain ⟨z, its, n, r, hl, e⟩ := I.lstM hH
  refine call_meets F.slot_list_clear ⟨_, e, rfl⟩ F.entry_list_clear (F.args_list_clear_1 _) (AutoSeq1.list_clear_list_0 l its.toArray n (by rw [List.size_toArray]; omega)) ⟨e, ?_⟩
  exact ⟨.non, _, I.lset (its' := []) (ys := []) hH e rfl .nil (Nat.zero_le _), rfl, q⟩

/-! ### list + list, list += list, list * int -/
def rCat : R2 := fun x y H Q => ∃ l b xs zs, x = .ref l ∧ y = .ref b ∧ H l = some (.lst xs) ∧ H b = some (.lst zs) ∧ xs.length + zs.length ≤ sizeLine ∧ ∀ p, H p = none → Q (.ref p) (upd H p (.lst (xs ++ zs)))
theorem op_cat : OpR X (binaryOp .Add) rCat := by
  intro pins s σ H x y v u Q I rx ry h
  obtain ⟨l, b, xs, zs, rfl, rfl, hH, hB, hz, q⟩ := h
  cases rx
  cases ry
  obtain ⟨z, its, n, r, hl, e⟩ := I.lstM hH
  obtain ⟨z2, its2, n2, r2, hl2, e2⟩ := I.lstM hB
  refine PySem.P.add_list e e2 ?_ (by rw [List.size_toArray, List.size_toArray]; omega)
  have ea : its.toArray ++ its2.toArray = (its ++ its2).toArray := by simp
  rw [ea]
  exact ⟨.ref _, _, I.lnew (t' := s.toks) (r.append r2) (by rw [List.length_append]; omega), rfl, q _ I.fresh⟩
/-- a list times an int (a negative one is nothing) -/
def rRep : R2 := fun x y H Q => ∃ l k xs, x = .ref l ∧ y = .int k ∧ H l = some (.lst xs) ∧ -(2 ^ 63) ≤ k ∧ k < 2 ^ 63 ∧ xs.length * k.toNat ≤ sizeLine ∧
  ∀ p, H p = none → Q (.ref p) (upd H p (.lst (List.replicate k.toNat xs).flatten))
theorem len_rep {α : Type} (xs : List α) (k : Nat) : (List.replicate k xs).flatten.length = k * xs.length := by
  induction k with
  | zero => simp
  | succ k ih => rw [List.replicate_succ, List.flatten_cons, List.length_append, ih, Nat.succ_mul, Nat.add_comm]
theorem op_rep : OpR X (binaryOp .Mult) rRep := by
  intro pins s σ H x y v u Q I rx ry h
  obtain ⟨l, k, xs, rfl, rfl, hH, h1, h2, hz, q⟩ := h
  cases rx
  obtain ⟨t, rfl⟩ := ry
  obtain ⟨z, its, n, r, hl, e⟩ := I.lstM hH
  have hlen : its.toArray.size * k.toNat ≤ sizeLine := by rw [List.size_toArray, ← hl]; exact hz
  have hcap : ¬ its.toArray.size * k.toNat > (2 ^ 63 - 1) / 8 := by
    have : (sizeLine : Nat) ≤ (2 ^ 63 - 1) / 8 := by decide
    omega
  have hfit : ¬ (!Builtin.List.listFitsIndex k) = true := by
    rw [fitsIndex_both h1 h2]
    exact Bool.false_ne_true
  have hlong : ¬ Builtin.List.listTooLong (its.toArray.size * k.toNat) = true := by
    rw [notLongL hlen]
    exact Bool.false_ne_true
  have hnew : List.foldl (fun x1 x2 => x1 ++ x2) #[] (List.replicate (if its.toArray.isEmpty = true then 0 else k.toNat) its.toArray) = (List.replicate k.toNat its).flatten.toArray := by
    have f0 : ∀ m : Nat, List.foldl (fun x1 x2 => x1 ++ x2) #[] (List.replicate m its.toArray) = (List.replicate m its).flatten.toArray := fun m => by
      have := foldl_rep its m []
      rw [List.nil_append] at this
      exact this
    rw [f0]
    cases its with
    | nil => simp
    | cons a r' => rw [if_neg (by simp)]
  refine wpAny_binaryOp_repeat_ref (T := "list") (U := "int") (by decide) ⟨_, e, rfl⟩ (fun s' => typeIs_int s' k t) noFill_list_mul F.fills_int_mul F.slot_int_rmul repeat_list F.slot_int_index.lookup
    (call_meets F.slot_int_rmul (typeIs_int s k t) F.entry_int_rmul (F.args_int_rmul_2 _ _) (int___rmul___int_list k t l its.toArray n)
      ⟨e, rfl, ⟨_, e, rfl⟩, call_meets F.slot_list_mul ⟨_, e, rfl⟩ F.entry_list_mul (F.args_list_mul_2 _ _) (AutoListH.list___mul___list_int_3 l its.toArray n k t hfit hcap hlong) ⟨e, ?_⟩⟩)
  rw [hnew]
  exact ⟨.ref _, _, I.lnew (t' := s.toks) (r.rep k.toNat) (by rw [len_rep, Nat.mul_comm]; exact hz), rfl, q _ I.fresh⟩

/-! ### del xs[i] -/
theorem del_list {pins : List (Addr × Obj)} {s : Shared} {σ : St} {H : Hp} {l : Addr} {xs : List V} {i : Int} {t : Tok} {k : Nat} {Q : Unit → Shared → Prop} (I : Inv X pins σ H s) (hH : H l = some (.lst xs))
    (h1 : -(2 ^ 63) ≤ i) (h2 : i < 2 ^ 63) (hk : seqIndex? i xs.length = some k) (h : ∀ s', Inv X pins σ (upd H l (.lst (xs.eraseIdx k))) s' → Q () s') :
    wpAny (model X.prog X.w) X.A (delItem (.ref l) (.int i t)) Q X.xe s := by
  obtain ⟨z, its, n, r, hl, e⟩ := I.lstM hH
  refine PySem.P.delItem_list (k := k) e (fitsIndex_both h1 h2) (by rw [List.size_toArray, ← hl]; exact hk) (h _ ?_) (by rw [List.size_toArray]; omega)
  refine I.lset (its' := its.eraseIdx k) (t' := s.toks) hH e ?_ (r.eraseIdx k) ?_
  · show its.toArray.eraseIdxIfInBounds k = (its.eraseIdx k).toArray
    rw [List.eraseIdxIfInBounds_toArray]
  · have := len_erase xs k
    omega
end

/-! ### xs[a:b] = ys -/
section
variable {prog : Program} {w : World} {A : Around} {E : Value → Shared → Prop} {s : Shared}
theorem splice_eq (its its2 : List Value) (a c : Nat) : its.toArray.extract 0 a ++ its2.toArray ++ its.toArray.extract c its.toArray.size = (its.take a ++ its2 ++ its.drop c).toArray := by
  apply Array.toList_inj.mp
  first
    | (simp
       exact List.take_of_length_le (by simp))
    | simp [List.take_of_length_le]
    | simp
theorem bounds_run {a c n : Nat} (hac : a ≤ c) (hc : c ≤ n) : sliceBounds (some (a : Int)) (some (c : Int)) none n = ((a : Int), (c : Int), 1) := by
  simp only [sliceBounds, Option.getD_none]
  have h1 : ¬ ((a : Int) < 0) := by omega
  have h2 : ¬ ((c : Int) < 0) := by omega
  simp only [h1, h2, if_false, show (1 : Int) > 0 by decide, if_true]
  congr 1
  · omega
  · congr 1; omega
set_option maxRecDepth 100000 in
/-- list.__setitem__ with a slice of step one and another list -/
theorem setItem_slice {l b sl : Addr} {items new : Array Value} {n n2 : Nat} {vl vu : Value} {a c : Nat} {Q : Unit → Shared → Prop}
    (e : s.heap.get? l = some { cls := .type "list", data := .seq items n }) (e2 : s.heap.get? b = some { cls := .type "list", data := .seq new n2 }) (hne : l ≠ b)
    (hs : s.heap.IsSliceOf sl vl vu .none) (pl : IsPart vl (some (a : Int))) (pu : IsPart vu (some (c : Int))) (hac : a ≤ c) (hc : c ≤ items.size)
    (hsz : items.size + new.size ≤ sizeLine) (h : Q () { s with heap := s.heap.update l (Obj.mapSeq fun xs => xs.extract 0 a ++ new ++ xs.extract c xs.size) }) :
    wpAny (model prog w) A (setItem (.ref l) (.ref sl) (.ref b)) Q E s := by
  have hl : s.heap.IsList l items := PySem.IsL.isList e
  have hb : s.heap.IsList b new := PySem.IsL.isList e2
  obtain ⟨os, hos, hcs, hds⟩ := id hs
  have hTs : s.TypeIs (.ref sl) "slice" := ⟨os, hos, hcs⟩
  have hstep : ¬ ((rawPart none == rawInt 0) = true) := Bool.false_ne_true
  have hsame : Builtin.List.listSameRef (.ref l) (.ref b) = false := by
    unfold Builtin.List.listSameRef
    exact beq_eq_false_iff_ne.mpr hne
  have hmax : (max (a : Int) (c : Int)).toNat = c := by omega
  have hz' : ((fun xs : Array Value => xs.extract 0 a ++ new ++ xs.extract c xs.size) items).size ≤ sizeLine + 1 := by
    simp only [Array.size_append, Array.size_extract]
    omega
  unfold setItem
  try with_reducible refine wpAny_holding ?_
  first | refine wpAny_bind (wpAny_pure ?_) | skip
  refine wpAny_bind (wpAny_sequenceKey hl.typeIs (by decide) ?_)
  refine wpAny_bind (wpAny_callSpecial?_slot (name := Str.ofString "__setitem__") hl.typeIs slot_list_setitem
    (wpAny_call_entry slot_list_setitem hl.typeIs entry_list_setitem ?_ (args_list_setitem _ _ _)))
  show wpAny _ _ (Builtin.List.listSubscript? (.ref sl) >>= _) _ _ s
  refine wpAny_bind ?_
  unfold Builtin.List.listSubscript?
  refine wpAny_bind (wpAny_specialOf hTs slice_no_index ?_)
  simp only [Option.isNone_none, if_true]
  refine wpAny_pure ?_
  show wpAny _ _ (typeOf (.ref sl) >>= _) _ _ s
  refine wpAny_bind (wpAny_typeOf hTs ?_)
  first
    | rw [if_neg (by decide)]
    | refine PySem.W.KFB.if_not (by decide) ?_
  rw [listSliceParts_eq]
  refine wpAny_bind (wpAny_bind (wpAny_field hos hds (x := .none) rfl (wpAny_bind (wpAny_listPart .none ?_))))
  rw [if_neg hstep]
  refine wpAny_bind (wpAny_field hos hds (x := vl) rfl (wpAny_bind (wpAny_listPart pl ?_)))
  refine wpAny_bind (wpAny_field hos hds (x := vu) rfl (wpAny_bind (wpAny_listPart pu (wpAny_pure ?_))))
  first
    | simp only [hsame, Bool.false_eq_true, if_false]
    | refine PySem.W.KFB.if_not hsame ?_
    | (dsimp only
       rw [if_neg (by rw [hsame]; exact Bool.false_ne_true)])
  refine wpAny_bind (m := Builtin.List.listAllItems (.ref b) "must assign iterable to extended slice") ?_
  unfold Builtin.List.listAllItems
  refine wpAny_bind (wpAny_typeOf hb.typeIs ?_)
  first
    | refine PySem.W.KFB.if_so (by decide) ?_
    | rw [if_pos (by decide)]
    | simp only [beq_self_eq_true, Bool.true_or, if_true]
  unfold Builtin.List.listItems
  refine wpAny_bind (wpAny_seqItems e2 rfl (wpAny_pure ?_))
  refine wpAny_bind (wpAny_bind (wpAny_seqItems e rfl (wpAny_pure ?_)))
  refine wpAny_bind (wpAny_of_eq ((sliceIndices_raw (some (a : Int)) (some (c : Int)) none items.size (by simp)).trans (congrArg (pure : Int × Int × Int → Sem (Int × Int × Int)) (bounds_run hac hc))) ?_)
  show wpAny _ _ (if ((1 : Int) == 1) = true then _ else _) _ _ s
  rw [if_pos (by decide)]
  refine wpAny_bind (wpAny_rule ?_)
  first
    | simp only [notLongL hsz, Bool.false_eq_true, if_false]
    | refine PySem.W.KFB.if_not (notLongL hsz) ?_
  first | refine wpAny_bind (wpAny_pure ?_) | skip
  show wpAny _ _ (updateSeq l (fun xs => xs.extract 0 ((a : Int)).toNat ++ new ++ xs.extract (max (a : Int) (c : Int)).toNat xs.size) >>= _) _ _ s
  rw [hmax, Int.toNat_natCast]
  refine wpAny_bind (wpAny_updateSeq (hz := Nat.le_trans (Nat.le_add_right _ _) hsz) (_hz' := hz') e rfl ?_)
  refine wpAny_bind (wpAny_letGo ?_)
  first
    | exact wpAny_bind (wpAny_pure (wpAny_pure ⟨.none, rfl, wpAny_pure h⟩))
    | exact wpAny_pure ⟨.none, rfl, wpAny_pure h⟩
end

section
variable {X : Cx}
/-- xs[a:c] = ys of another list, at the value level: sl is the slice object that was just made -/
theorem set_slice {pins : List (Addr × Obj)} {s : Shared} {σ : St} {H : Hp} {l b sl : Addr} {xs ys : List V} {a c : Int} {vl vu : Value} {Q : Unit → Shared → Prop} (I : Inv X pins σ H s)
    (hH : H l = some (.lst xs)) (hB : H b = some (.lst ys)) (hne : l ≠ b) (hs : s.heap.IsSliceOf sl vl vu .none) (ra : RelV (.int a) vl) (rc : RelV (.int c) vu) (h0 : 0 ≤ a) (hac : a ≤ c) (hc : c ≤ xs.length)
    (hz : xs.length + ys.length ≤ sizeLine) (h : ∀ s', Inv X pins σ (upd H l (.lst (xs.take a.toNat ++ ys ++ xs.drop c.toNat))) s' → Q () s') :
    wpAny (model X.prog X.w) X.A (setItem (.ref l) (.ref sl) (.ref b)) Q X.xe s := by
  obtain ⟨ta, rfl⟩ := ra
  obtain ⟨tc, rfl⟩ := rc
  obtain ⟨z, its, n, r, hl, e⟩ := I.lstM hH
  obtain ⟨z2, its2, n2, r2, hl2, e2⟩ := I.lstM hB
  obtain ⟨a', rfl⟩ := Int.eq_ofNat_of_zero_le h0
  obtain ⟨c', rfl⟩ := Int.eq_ofNat_of_zero_le (Int.le_trans h0 hac)
  simp only [Int.toNat_natCast] at h
  refine setItem_slice (a := a') (c := c') e e2 hne hs (.int _ _) (.int _ _) (by omega) (by rw [List.size_toArray]; omega) (by rw [List.size_toArray, List.size_toArray]; omega) (h _ ?_)
  refine I.lset (its' := its.take a' ++ its2 ++ its.drop c') (t' := s.toks) hH e ?_ (Vals.append (Vals.append (r.take _) r2) (r.drop _)) ?_
  · exact splice_eq its its2 a' c'
  · rw [List.length_append, List.length_append, List.length_take, List.length_drop]
    omega
end
end L2

namespace Att
open PySem PySem.W PySem.Calls PyProof.Rows

/-! ### the script -/
theorem ints_of_wellAll {P : Params} {h : Heap} : ∀ (ns : List Int) (vs : List Value), WellAll P h vs (ns.map WData.int) → IntsAre vs ns := by
  intro ns
  induction ns with
  | nil =>
    intro vs w
    rw [List.map_nil] at w
    cases w
    exact .nil
  | cons n ns ih =>
    intro vs w
    rw [List.map_cons] at w
    cases w with
    | cons a b =>
      cases a
      exact .cons _ _ (ih _ b)

theorem script_of {l : OpenLaw} {n : Nat} (hn : l.most = some n) {P : Params} {h : Heap} {args : List WData} {vals : List Value}
    (hpre : l.row.toRowW.claim.pre args = true) (hwl : WellAll P h vals args) :
    ∃ a vs ns, vals = [Value.ref a] ∧ args = [WData.list (ns.map WData.int)] ∧ h.get? a = some { cls := .type "list", data := .seq vs.toArray } ∧ IntsAre vs ns ∧ ns.length ≤ n := by
  have hsh : WShape.hasAll [] args [.list .int] = true := (pre_splitW hpre).1
  have hc : l.pre.holds [] { args := args } = true := (pre_splitW hpre).2
  obtain ⟨d, r, rfl, h1, h2⟩ := hasAllW_cons hsh
  obtain rfl := hasAllW_nil h2
  obtain ⟨xs, rfl, h3⟩ := hasW_list h1
  obtain ⟨ns, rfl⟩ := items_int h3
  have hlen : ns.length ≤ n := by
    unfold OpenLaw.pre at hc
    have h4 : (WTm.not (.lt (.lit (.int (n : Int))) (.len (.arg 0)))).holds [] { args := [.list (ns.map .int)] } = true := by
      have h4 := (holds_andW hc).1
      rw [hn] at h4
      exact h4
    have h5 := condW_of h4 (w_not (w_lt w_lit (w_len_list (w_arg rfl))))
    rw [List.length_map] at h5
    refine Nat.le_of_not_lt fun q => ?_
    have q' : (n : Int) < ((ns.length : Nat) : Int) := by omega
    first
      | (rw [decide_eq_true q'] at h5; exact absurd h5 (by decide))
      | (simp at h5; omega)
  cases hwl with
  | cons w1 w2 =>
    cases w2
    cases w1 with
    | list ho hall => exact ⟨_, _, ns, rfl, rfl, ho, ints_of_wellAll ns _ hall, hlen⟩

theorem post_true (l : OpenLaw) (args : List WData) : l.row.toRowW.claim.post args (.bool true) args = true :=
  postW_of (r := l.row.toRowW) (X := (true == true))
    (show WShape.has [] (.bool true) .bool = true by first | rfl | decide | simp [WShape.has, WShape.arms, WShape.armsAll])
    (show (WTm.eq .res (.lit (.bool true))).value [] { args := args, res := some (.bool true), after := args } = some (.bool (true == true)) from w_eq_bool (w_res rfl) w_lit) rfl

/-! ### the attachment: holds_open's last premise (the goal 'hc' behind k_head) from a wpAny of the law's body -/
theorem attach {l : OpenLaw} {n : Nat} {q : Program} {loose : List Str} {XP : (Str → Option Value) → Heap → Prop} {YP : World → Heap → Prop} {d : DefRec} {x : Str}
    (hn : l.most = some n) (hdf : d.params.defaults = [])
    (hbind : ∀ pm cd doc v : Value, bindArgs (docDef d.name d.params d.body d.scope pm cd doc) ⟨[v], []⟩ = pure [(x, v)])
    (hx : d.scope.names.lookup x = some .local ∨ d.scope.names.lookup x = some .cell)
    (hk : d.scope.kind = .function) (hco : d.scope.isCoroutine = false) (hgen : d.scope.isGenerator = false)
    (body : ∀ (w : World) (s₀ s₁ s : Shared) (mg mb : Str → Option Value) (fa : Addr) (o : Obj) (pm cd doc : Value) (a : Addr) (vs : List Value) (ns : List Int),
      Ground q loose [] XP w s₀ mg mb s₁.heap → YP w s₁.heap →
      s₁.heap.get? fa = some o → o.data = .func (docDef d.name d.params d.body d.scope pm cd doc) → s₁.heap.CodeRec cd d.name → mg d.name = some (.ref fa) →
      s₁.heap.get? a = some { cls := .type "list", data := .seq vs.toArray } → IntsAre vs ns → ns.length ≤ n →
      s.gens = #[] → s.os = s₁.os →
      Fr s₁.heap s₁.heap.objs.size s.heap (bindL (envOfC d.name d.scope s₁.heap.objs.size fa cd).kindOf [(x, .ref a)] fun _ => none) →
      Cl s₁.heap.objs.size (cellsFrom (s₁.heap.objs.size + 1) d.scope.names []) s.heap (bindC (envOfC d.name d.scope s₁.heap.objs.size fa cd).kindOf [(x, .ref a)] fun _ => none) →
      wpAny (model l.prog w) (callerA.deeper (envOfC d.name d.scope s₁.heap.objs.size fa cd)) (execs d.body (envOfC d.name d.scope s₁.heap.objs.size fa cd))
        (fun f s' => f = .ret (.bool true) ∧ OldK s₁.heap s'.heap ∧ s'.os = s₁.os ∧ AllBare s'.gens) (fun _ _ => False) s) :
    WalkO q loose XP YP l.row.toRowW d [] (fun f vs => PySem.call f vs) := by
  intro w s₀ s₁ mg mb G Y fa o pm cd doc dV kV ho hd hcd hD hmg hg args vals as hpre hlay hrd hwl hlo
  obtain rfl : dV = .none := Dflts.none hD hdf
  obtain rfl : kV = .none := Dflts.noKw hD
  obtain ⟨a, vs, ns, rfl, rfl, hobj, hints, hlen⟩ := script_of hn hpre hwl
  refine enter_call ?_
  refine call_cells_ret (o := o) (by rw [depth_caller]; decide) ho (fd_plain hd) G.T.nolimit hcd (hbind pm cd doc (.ref a)) (fun y hy => ?_) (fun h₁ tk F X => ?_) hco hgen hk
  · obtain rfl : y = (x, Value.ref a) := List.mem_singleton.mp hy
    rcases hx with e | e
    · exact .inl e
    · exact .inr ⟨e, cellsFrom_some _ _ _ (.inl e)⟩
  · refine wpAny_mono (body w s₀ s₁ { s₁ with heap := h₁, toks := tk } mg mb fa o pm cd doc a vs ns G Y ho (fd_plain hd) hcd hmg hobj hints hlen hg rfl F X) (fun f s' hq => ?_) (fun _ _ hq => hq)
    obtain ⟨rfl, h2, h3, h4⟩ := hq
    exact ⟨.inl ⟨.bool true, .bool true, [], rfl, fun _ => rfl, .bool true, post_true l _, fun _ => ⟨List.Pairwise.nil, fun _ hm => (nomatch hm)⟩⟩, h2, h3, h4⟩

/-- the same from a codeAny of the CALL (for a layer whose function contracts speak of calls) -/
theorem attach_call {l : OpenLaw} {n : Nat} {q : Program} {loose : List Str} {XP : (Str → Option Value) → Heap → Prop} {YP : World → Heap → Prop} {d : DefRec}
    (hn : l.most = some n) (hdf : d.params.defaults = [])
    (call : ∀ (w : World) (s₀ s₁ : Shared) (mg mb : Str → Option Value) (fa : Addr) (o : Obj) (pm cd doc : Value) (a : Addr) (vs : List Value) (ns : List Int),
      Ground q loose [] XP w s₀ mg mb s₁.heap → YP w s₁.heap →
      s₁.heap.get? fa = some o → o.data = .func (docDef d.name d.params d.body d.scope pm cd doc) → s₁.heap.CodeRec cd d.name → mg d.name = some (.ref fa) →
      s₁.heap.get? a = some { cls := .type "list", data := .seq vs.toArray } → IntsAre vs ns → ns.length ≤ n → s₁.gens = #[] →
      codeAny (model l.prog w) callerA (.call (.ref fa) ⟨[.ref a], []⟩) (fun r s' => r = .ok (.ret (.bool true)) ∧ OldK s₁.heap s'.heap ∧ s'.os = s₁.os ∧ AllBare s'.gens) s₁) :
    WalkO q loose XP YP l.row.toRowW d [] (fun f vs => PySem.call f vs) := by
  intro w s₀ s₁ mg mb G Y fa o pm cd doc dV kV ho hd hcd hD hmg hg args vals as hpre hlay hrd hwl hlo
  obtain rfl : dV = .none := Dflts.none hD hdf
  obtain rfl : kV = .none := Dflts.noKw hD
  obtain ⟨a, vs, ns, rfl, rfl, hobj, hints, hlen⟩ := script_of hn hpre hwl
  refine enter_call (codeAny_mono (call w s₀ s₁ mg mb fa o pm cd doc a vs ns G Y ho (fd_plain hd) hcd hmg hobj hints hlen hg) fun r s' hq => ?_)
  obtain ⟨rfl, h2, h3, h4⟩ := hq
  exact ⟨.inl ⟨.bool true, .bool true, [], rfl, fun _ => rfl, .bool true, post_true l _, fun _ => ⟨List.Pairwise.nil, fun _ hm => (nomatch hm)⟩⟩, h2, h3, h4⟩

/-- the same where the top left finished generators (o_head chose holds_openN): nothing may have changed at all and no generator may be left -/
theorem attachN {l : OpenLaw} {n : Nat} {q : Program} {loose : List Str} {XP : (Str → Option Value) → Heap → Prop} {YP : World → Heap → Prop} {d : DefRec} {x : Str}
    (hn : l.most = some n) (hdf : d.params.defaults = [])
    (hbind : ∀ pm cd doc v : Value, bindArgs (docDef d.name d.params d.body d.scope pm cd doc) ⟨[v], []⟩ = pure [(x, v)])
    (hx : d.scope.names.lookup x = some .local ∨ d.scope.names.lookup x = some .cell)
    (hk : d.scope.kind = .function) (hco : d.scope.isCoroutine = false) (hgen : d.scope.isGenerator = false)
    (body : ∀ (w : World) (s₀ s₁ s : Shared) (mg mb : Str → Option Value) (fa : Addr) (o : Obj) (pm cd doc : Value) (a : Addr) (vs : List Value) (ns : List Int),
      Ground q loose [] XP w s₀ mg mb s₁.heap → YP w s₁.heap →
      s₁.heap.get? fa = some o → o.data = .func (docDef d.name d.params d.body d.scope pm cd doc) → s₁.heap.CodeRec cd d.name → mg d.name = some (.ref fa) →
      s₁.heap.get? a = some { cls := .type "list", data := .seq vs.toArray } → IntsAre vs ns → ns.length ≤ n →
      s.gens = #[] → s.os = s₁.os →
      Fr s₁.heap s₁.heap.objs.size s.heap (bindL (envOfC d.name d.scope s₁.heap.objs.size fa cd).kindOf [(x, .ref a)] fun _ => none) →
      Cl s₁.heap.objs.size (cellsFrom (s₁.heap.objs.size + 1) d.scope.names []) s.heap (bindC (envOfC d.name d.scope s₁.heap.objs.size fa cd).kindOf [(x, .ref a)] fun _ => none) →
      wpAny (model l.prog w) (callerA.deeper (envOfC d.name d.scope s₁.heap.objs.size fa cd)) (execs d.body (envOfC d.name d.scope s₁.heap.objs.size fa cd))
        (fun f s' => f = .ret (.bool true) ∧ (∀ b o, s₁.heap.get? b = some o → s'.heap.get? b = some o) ∧ s'.os = s₁.os ∧ s'.gens = #[]) (fun _ _ => False) s) :
    WalkN q loose XP YP l.row.toRowW d [] (fun f vs => PySem.call f vs) := by
  intro w s₀ s₁ mg mb G Y fa o pm cd doc dV kV ho hd hcd hD hmg hg args vals as hpre hlay hrd hwl hlo
  obtain rfl : dV = .none := Dflts.none hD hdf
  obtain rfl : kV = .none := Dflts.noKw hD
  obtain ⟨a, vs, ns, rfl, rfl, hobj, hints, hlen⟩ := script_of hn hpre hwl
  refine enter_callW ?_
  refine call_cells_ret (o := o) (by rw [depth_caller]; decide) ho (fd_plain hd) G.T.nolimit hcd (hbind pm cd doc (.ref a)) (fun y hy => ?_) (fun h₁ tk F X => ?_) hco hgen hk
  · obtain rfl : y = (x, Value.ref a) := List.mem_singleton.mp hy
    rcases hx with e | e
    · exact .inl e
    · exact .inr ⟨e, cellsFrom_some _ _ _ (.inl e)⟩
  · refine wpAny_mono (body w s₀ s₁ { s₁ with heap := h₁, toks := tk } mg mb fa o pm cd doc a vs ns G Y ho (fd_plain hd) hcd hmg hobj hints hlen hg rfl F X) (fun f s' hq => ?_) (fun _ _ hq => hq)
    obtain ⟨rfl, h2, h3, h4⟩ := hq
    exact ⟨.inl ⟨.bool true, .bool true, [], rfl, fun _ => rfl, .bool true, post_true l _, fun _ => ⟨List.Pairwise.nil, fun _ hm => (nomatch hm)⟩⟩, h2, h3, h4⟩

/-! ### rules over ANY heap (no ledger) from facts about the written part K: the library's own take a ledger (News) for what they write -/
section
variable {prog : Program} {w : World} {A : Around} {E : Value → Shared → Prop} {s : Shared} {K : Frag}

/-- a def of the module, or a method (qual 'C.m'), entered: the frame is the next address; cells behind it -/
theorem call_fn {R : Result → Shared → Prop} {name qual : Str} {params : Arguments} {body : List Stmt} {scope : Scope} {dV kV doc pm cdv ct oc : Value} {an od : Option Addr} {osl : Array (Option Value)} {f : Addr} {args : Args} {binds : List (Str × Value)}
    (X : K.In s.heap) (hlim : s.heap.NoLimit) (ho : K.lookup f = some ⟨oc, od, .func (fnOf name qual params body scope dV kV doc pm an cdv ct), osl⟩) (hcd : codeIn K cdv qual = true) (hroom : A.depth < recursionLimit)
    (hbind : BindsTo s (fnOf name qual params body scope dV kV doc pm an cdv ct) args binds)
    (hkind : (binds.all fun y => scope.names.lookup y.1 == some .local || scope.names.lookup y.1 == some .cell) = true)
    (h : ∀ s₁, InCallC s s.heap.objs.size (bindL (envOfC qual scope s.heap.objs.size f cdv).kindOf binds fun _ => none) (cellsFrom (s.heap.objs.size + 1) scope.names [])
        (bindC (envOfC qual scope s.heap.objs.size f cdv).kindOf binds fun _ => none) s₁ →
      wpAny (model prog w) (A.deeper (envOfC qual scope s.heap.objs.size f cdv)) (execs body (envOfC qual scope s.heap.objs.size f cdv))
        (fun fl s' => R (.ok (.ret (match fl with | .ret v => v | _ => .none))) s')
        (fun e s' => wpAny (model prog w) (A.deeper (envOfC qual scope s.heap.objs.size f cdv)) (leaving (envOfC qual scope s.heap.objs.size f cdv) e) (fun _ s'' => R (.error e) s'') (fun e' s'' => R (.error e') s'') s') s₁)
    (hco : scope.isCoroutine = false) (hgen : scope.isGenerator = false) (hk : scope.kind = .function) : codeAny (model prog w) A (.call (.ref f) args) R s := by
  refine codeAny_call_function hroom (X _ _ ho) rfl hco hgen rfl (codeRec_of X hcd) (hbind _ _ _ _ ?_)
  refine wpAny_newFunctionEnv_cells hk (kindsX hkind _) fun env he s₁ x => ?_
  subst he
  exact ⟨hlim.keeps x.toInCall.keep, codeAny_func (h s₁ x)⟩

/-- C(..): dict at size, instance at size + 1, then __init__ -/
theorem make_obj {R : Result → Shared → Prop} {C fI : Addr} {rest : List Value} {kw : List (Str × Value)}
    (X : K.In s.heap) (hm : makesIn K C = true) (hi : findIn K (.ref C) "__init__" = some (some (.ref fI))) (hf : isFn K (.ref fI) = true)
    (h : codeAny (model prog w) (A.under (.builtin "type.__call__" ⟨.ref C :: rest, kw⟩)) (.call (.ref fI) ⟨.ref (s.heap.objs.size + 1) :: rest, kw⟩) (InitBack (s.heap.objs.size + 1) R)
      { s with heap := (s.heap.push emptyDict).push (instObj C s.heap.objs.size) }) : codeAny (model prog w) A (.call (.ref C) ⟨rest, kw⟩) R s := by
  obtain ⟨hh, g, d, t, os⟩ := s
  exact make_core (makes_of X hm) (looks_findIn X hi) (fun self => bind_fn X self (beq_iff_eq.mp hf)) (.inl rfl) h

/-- x.name where the instance's dict holds the name and the class does not -/
theorem get_field {x C : Addr} {ox : Obj} {es : List DictEntry} {n : Nat} {name : Str} {expr : Bool} {v : Value} {Q : Value → Shared → Prop}
    (X : K.In s.heap) (I : PySem.W.InstAt s.heap x ox C (some (dictOf es n))) (hg : plainGet K C name = true) (hh : hasDictIn K C = true) (ha : findIn K (.ref C) name = some none)
    (hl : getL name es = some (some v)) (hv : handedIn v = true) (h : Q v { s with toks := s.toks + 1 }) : wpAny (model prog w) A (getAttr (.ref x) name expr) Q E s :=
  get_value X I (plainGet_of hg).1 (findObj_own hh ha rfl hl) hv h

/-- x.m(..): the method found in the class -/
theorem get_method {x C f : Addr} {ox : Obj} {es : List DictEntry} {n : Nat} {name : Str} {pl : Sem Bool} {Q : Value × List Value → Shared → Prop}
    (X : K.In s.heap) (I : PySem.W.InstAt s.heap x ox C (some (dictOf es n))) (hg : plainGet K C name = true) (hf : findIn K (.ref C) name = some (some (.ref f))) (ht : isFn K (.ref f) = true)
    (hl : getL name es = some none) (h : Q (.ref f, [.ref x]) s) : wpAny (model prog w) A (getMethod (.ref x) name pl) Q E s :=
  method_fn X I (plainGet_of hg).1 (plainGet_of hg).2 hf (beq_iff_eq.mp ht) (by show (lookIn name (dictOf es n)).map _ = _; rw [lookIn_dict, hl]; rfl) h

/-! the whole heap as the ledger: makes every rule that writes through a ledger a rule over any heap -/
def noObjs (h : Heap) : Heap := { h with objs := #[] }
theorem noObjs_get (h : Heap) (b : Addr) : (noObjs h).get? b = none := by
  cases e : (noObjs h).get? b with
  | none => rfl
  | some o => exact absurd (Heap.lt_size e) (Nat.not_lt_zero _)
def ledger (h : Heap) (L d : Addr) : List (Addr × Obj) := (List.range h.objs.size).filterMap fun a => if a = L ∨ a = d then none else (h.get? a).map fun o => (a, o)
theorem mem_ledger {h : Heap} {L d a : Addr} {o : Obj} : (a, o) ∈ ledger h L d ↔ a ≠ L ∧ a ≠ d ∧ h.get? a = some o := by
  unfold ledger
  rw [List.mem_filterMap]
  constructor
  · rintro ⟨b, _, e⟩
    split at e
    · cases e
    · rename_i hb
      obtain ⟨o', ho, e'⟩ := Option.map_eq_some_iff.mp e
      cases e'
      exact ⟨fun q => hb (.inl q), fun q => hb (.inr q), ho⟩
  · rintro ⟨n1, n2, ho⟩
    refine ⟨a, List.mem_range.mpr (Heap.lt_size ho), ?_⟩
    rw [if_neg (show ¬ (a = L ∨ a = d) from fun q => q.elim n1 n2), ho] <;> rfl
theorem news_ledger {h : Heap} {L d : Addr} {od : Obj} (hne : d ≠ L) (ho : h.get? d = some od) : News (noObjs h) L h ([] ++ (d, od) :: ledger h L d) := by
  rintro ⟨a, o⟩ hp
  rcases List.mem_cons.mp hp with e | hp
  · cases e
    exact ⟨ho, hne, noObjs_get _ _⟩
  · obtain ⟨n1, n2, e⟩ := mem_ledger.mp hp
    exact ⟨e, n1, noObjs_get _ _⟩
theorem fr_all {h : Heap} {L : Addr} {m : Str → Option Value} (n : h.Ns L m) : Fr (noObjs h) L h m :=
  ⟨n, fun b o e => (by rw [noObjs_get] at e; cases e), Nat.zero_le _⟩
/-- Upd of the head entry (for append_K, setItem_K ..) -/
theorem upd_ledger {h : Heap} {L d : Addr} {o o' : Obj} : Upd d o o' ((d, o) :: ledger h L d) ((d, o') :: ledger h L d) :=
  .head fun ⟨_, _⟩ hp => (mem_ledger.mp hp).2.1

/-- x.name = v over any heap: L is any namespace of the heap (the frame's, say): its map stays, its object is not told; all else but the dict stays -/
theorem set_field {x C dx L : Addr} {ox : Obj} {m : Str → Option Value} {es es' : List DictEntry} {n n' : Nat} {name : Str} {v : Value} {Q : Unit → Shared → Prop}
    (X : K.In s.heap) (I : PySem.W.InstAt s.heap x ox C (some (dictOf es n))) (hd : ox.dict = some dx) (hL : s.heap.Ns L m) (hne : dx ≠ L)
    (hs : findIn K (.ref C) "__setattr__" = some (some (.builtin "object.__setattr__"))) (hp : plainOver K C = true) (ht : takerIn K C name = some none) (hh : hasDictIn K C = true) (hl : (getL name es).isSome = true)
    (e : (putL name (PyData.keyHash w.params name) (.str name (s.toks + 1)) v es, putN name es n) = (es', n')) (hz : es'.length ≤ 1000)
    (h : ∀ h' : Heap, h'.Ns L m → h'.get? dx = some (dictOf es' n') → (∀ b o, b ≠ dx → b ≠ L → s.heap.get? b = some o → h'.get? b = some o) → Q () { s with heap := h', toks := s.toks + 2 }) :
    wpAny (model prog w) A (setAttr (.ref x) name v) Q E s := by
  obtain ⟨e1, e2⟩ := Prod.mk.inj e
  have hdx : s.heap.get? dx = some (dictOf es n) := by
    have := I.dict
    rw [hd] at this
    exact this
  refine set_plain X I hs (osa_dict (s := { s with toks := s.toks + 1 }) (h₀ := noObjs s.heap) (L := L) (m := m) (od := dictOf es n) (od' := dictOf es' n') (es := es') (n := n') (pre := []) (post := ledger s.heap L dx)
    (fr_all hL) (news_ledger hne hdx) X I hd hp ht hh hl (fun _ q => nomatch q) (fun ⟨_, _⟩ q => (mem_ledger.mp q).2.1) (by rw [putName_dict, e1, e2]) rfl hz fun h' F' N' => ?_)
  exact h h' F'.ns (N'.get (List.Mem.head _)) fun b o n1 n2 ho => N'.get (List.Mem.tail _ (mem_ledger.mpr ⟨n2, n1, ho⟩))
end
end Att

namespace L2
open PySem PySem.Spec PyProof.Rows

theorem vals_ints : ∀ {vs : List Value} {ns : List Int}, IntsAre vs ns → Vals (ns.map V.int) vs
  | _, _, .nil => .nil
  | _, _, .cons n t h => .cons ⟨t, rfl⟩ (vals_ints h)

/-- nothing is tracked but the script, known to the object (or it is an object of the module) -/
def Only (H : Hp) : Prop := ∀ b, H b = none ∨ ∃ o xs, H b = some (.frz o (.lst xs))

/-- THE HEAD: the law's promise, at the heap behind the top. F, the promise of the law's def, may use that base is part of the heap (so K.In base, base.Ns mainGlobals mg stand in Mod) -/
theorem law_call {P : Program} {w : World} {K : PySem.W.Frag} {mg mb : Str → Option Value} {CX : CXT} {k : Nat} {fa a : Addr} {fd : FuncData} {x : Str} {sp : Sp} {s₁ : Shared} {vs : List Value} {ns : List Int}
    (KX : K.In s₁.heap) (hns : s₁.heap.Ns mainGlobals mg) (hb : s₁.heap.Ns builtinsNs mb) (hbb : ∀ x : Str, x ≠ "__name__" → mb x = bootBuiltins x) (hlim : s₁.heap.NoLimit) (hg : s₁.gens = #[])
    (ha : s₁.heap.get? a = some { cls := .type "list", data := .seq vs.toArray }) (hi : IntsAre vs ns) (hl : ns.length ≤ sizeLine) (hr : Room k callerA)
    (F : ∀ base : Heap, K.In base → base.Ns mainGlobals mg → FnOk P w K mg base CX k fa fd [x] sp) (hbind : ∀ (s : Shared) (u : Value), BindsTo s fd ⟨[u], []⟩ [(x, u)])
    (hsp : ∀ H : Hp, Only H → SqL K H a (ns.map V.int) → sp [.ref a] H (fun v _ => v = .bl true) fun _ _ _ => False)
    (hCX : ∀ H e s', CX [] H s₁ (fun _ _ _ => False) e s' → False) :
    codeAny (model P w) callerA (.call (.ref fa) ⟨[.ref a], []⟩) (fun r s' => r = .ok (.ret (.bool true)) ∧ OldK s₁.heap s'.heap ∧ s'.os = s₁.os ∧ AllBare s'.gens) s₁ := by
  have rv := vals_ints hi
  have lenV := hi.length
  -- from an abstract heap in which nothing but the script may be tracked
  have core : ∀ H : Hp, Only H → SqL K H a (ns.map V.int) → HOk P w H s₁.heap → (∀ b, H b ≠ none → b = a) → (H a ≠ none → K.lookup a = none) →
      codeAny (model P w) callerA (.call (.ref fa) ⟨[.ref a], []⟩) (fun r s' => r = .ok (.ret (.bool true)) ∧ OldK s₁.heap s'.heap ∧ s'.os = s₁.os ∧ AllBare s'.gens) s₁ := by
    intro H hO hS hok hA hK
    have base_of : ∀ {b : Addr} {o : Obj}, s₁.heap.get? b = some o → H b = none → (hidT s₁.heap H).get? b = some o := fun e n => hidT_get e n
    have noA : ∀ {b : Addr} {o : Obj} {es : Array DictEntry} {ep : Nat}, s₁.heap.get? b = some o → o.data = .dict es ep → H b = none := fun {b o es ep} e d => by
      cases q : H b with
      | none => rfl
      | some u =>
        have e' : b = a := hA b (by rw [q]; simp)
        subst e'
        rw [ha] at e; cases e
        have d' : Data.seq vs.toArray _ = Data.dict es ep := d
        cases d'
    have nsK : ∀ {b : Addr} {m : Str → Option Value}, s₁.heap.Ns b m → (hidT s₁.heap H).Ns b m := fun {b m} ⟨o, es, ep, e, d, r⟩ => ⟨o, es, ep, base_of e (noA e d), d, r⟩
    have hKb : K.In (hidT s₁.heap H) := fun b o e => base_of (KX b o e) (by
      cases q : H b with
      | none => rfl
      | some u =>
        have e' : b = a := hA b (by rw [q]; simp)
        subst e'
        rw [hK (by rw [q]; simp)] at e; cases e)
    have hM : Mod K mg (hidT s₁.heap H) := ⟨hKb, nsK hns, ⟨mb, nsK hb, hbb⟩, let ⟨mc, h1, h2⟩ := hlim; ⟨mc, nsK h1, h2⟩⟩
    have e0 : Env0 P w K mg (hidT s₁.heap H) callerA [] s₁ H := ⟨rfl, hM, fun b o e => of_hidT e, Nat.le_of_eq (hidT_size _ _), trivial, fun b hb => absurd (show b ∈ ([] : List Addr) from hb) (by simp), hok, .of_eq hg⟩
    refine codeAny_mono ((F _ hKb (nsK hns)).run callerA [] s₁ H ⟨[.ref a], []⟩ [.ref a] [.ref a] _ _ hr e0 (hbind s₁ (.ref a)) (.cons rfl .nil) (hsp H hO hS)) fun r s' h => ?_
    cases r with
    | error e => exact (hCX H e s' h).elim
    | ok fl =>
      cases fl with
      | next => exact False.elim h
      | brk => exact False.elim h
      | cont => exact False.elim h
      | ret u =>
        obtain ⟨v, H', os, bare, un, hok', r', q⟩ := h
        have q' : v = .bl true := q
        subst q'
        obtain rfl : u = Value.bool true := r'
        refine ⟨rfl, OldK.of_keep fun b o e => ?_, os, bare⟩
        cases q : H b with
        | none => exact un.keep b o e q (by intro z; exact absurd (show b ∈ ([] : List Addr) from z) (by simp)) (by simp)
        | some u =>
          rcases hO b with z | ⟨ob, xs, z⟩
          · rw [q] at z; cases z
          · have z2 := un.frzs b ob _ z
            obtain ⟨e1, _⟩ := hok b _ z
            obtain ⟨e2, _⟩ := hok' b _ z2
            rw [e] at e1; cases e1
            exact e2
  cases hk : K.lookup a with
  | some o =>
    -- the script is one of the module's own objects
    have e := KX a o hk
    rw [ha] at e
    cases e
    refine core (fun _ => none) (fun _ => .inl rfl) (.inr ⟨_, vs.toArray, _, hk, rfl, rfl, rfl, by rw [List.size_toArray, lenV]; exact hl, by simpa using rv⟩) (fun b u z => by have z' : (none : Option HO) = some u := z; cases z') (fun b z => absurd rfl z) fun z => absurd rfl z
  | none =>
    refine core (fun b => if b = a then some (.frz { cls := .type "list", data := .seq vs.toArray } (.lst (ns.map V.int))) else none) (fun b => ?_) (.inl (.inr ⟨{ cls := .type "list", data := .seq vs.toArray }, if_pos rfl⟩)) (fun b u z => ?_) (fun b z => ?_) fun _ => hk
    · by_cases hb : b = a
      · exact .inr ⟨_, _, if_pos hb⟩
      · exact .inl (if_neg hb)
    · by_cases hb : b = a
      · have z' := (if_pos hb).symm.trans z
        cases z'
        subst hb
        exact ⟨ha, by rw [List.length_map]; exact hl, vs, _, rv, ha⟩
      · have z' := (if_neg hb).symm.trans z
        cases z'
    · by_cases hb : b = a
      · exact hb
      · exact absurd (if_neg hb) z
end L2

namespace L2
open PySem PySem.Spec PyProof.Rows

abbrev KOf {K : PySem.W.Frag} {h : Heap} (_ : K.In h) : PySem.W.Frag := K

/-- the goal that k_head leaves (case hc), from the law's promise. F gives the function object fd (K's own) once, then the promise over every base -/
theorem walk_of {l : PySem.W.OpenLaw} {n k : Nat} {q : Program} {loose : List Str} {XP : (Str → Option Value) → Heap → Prop} {YP : World → Heap → Prop} {d : DefRec} {K : Params → PySem.W.Frag} {CX : World → CXT} {sp : World → Sp} {x : Str}
    (hn : l.most = some n) (hn2 : n ≤ sizeLine) (hdf : d.params.defaults = []) (hr : Room k callerA)
    (hY : ∀ (w : World) (h : Heap), YP w h → (K w.params).In h)
    (F : ∀ (w : World) (mg : Str → Option Value) (fa : Addr) (h : Heap), (K w.params).In h → h.Ns mainGlobals mg → mg d.name = some (.ref fa) →
      ∃ fd : FuncData, (∀ (s : Shared) (u : Value), BindsTo s fd ⟨[u], []⟩ [(x, u)]) ∧
        ∀ base : Heap, (K w.params).In base → base.Ns mainGlobals mg → FnOk l.prog w (K w.params) mg base (CX w) k fa fd [x] (sp w))
    (hsp : ∀ (w : World) (H : Hp) (a : Addr) (ns : List Int), ns.length ≤ n → Only H → SqL (K w.params) H a (ns.map V.int) → sp w [.ref a] H (fun v _ => v = .bl true) fun _ _ _ => False)
    (hCX : ∀ (w : World) (H : Hp) (s : Shared) (e : Value) (s' : Shared), CX w [] H s (fun _ _ _ => False) e s' → False) :
    PySem.W.WalkO q loose XP YP l.row.toRowW d [] (fun f vs => PySem.call f vs) := by
  refine Att.attach_call hn hdf fun w s₀ s₁ mg mb fa o pm cd doc a vs ns G Y ho hd hcd hmg hobj hints hlen hg => ?_
  have KX := hY w _ Y
  obtain ⟨fd, hb, hF⟩ := F w mg fa _ KX G.T.g hmg
  exact law_call KX G.T.g G.T.b G.T.builtins G.T.nolimit hg hobj hints (Nat.le_trans hlen hn2) hr hF hb (fun H hO hS => hsp w H a ns hlen hO hS) fun H e s' => hCX w H s₁ e s'
/-- the same where the promise hangs on the written part alone: (sp := My.sp_law), no hole under a binder -/
theorem walk_ofK {l : PySem.W.OpenLaw} {n k : Nat} {q : Program} {loose : List Str} {XP : (Str → Option Value) → Heap → Prop} {YP : World → Heap → Prop} {d : DefRec} {K : Params → PySem.W.Frag} {CX : CXT} {sp : PySem.W.Frag → Sp} {x : Str}
    (hn : l.most = some n) (hn2 : n ≤ sizeLine) (hdf : d.params.defaults = []) (hr : Room k callerA)
    (hY : ∀ (w : World) (h : Heap), YP w h → (K w.params).In h)
    (F : ∀ (w : World) (mg : Str → Option Value) (fa : Addr) (h : Heap), (K w.params).In h → h.Ns mainGlobals mg → mg d.name = some (.ref fa) →
      ∃ fd : FuncData, (∀ (s : Shared) (u : Value), BindsTo s fd ⟨[u], []⟩ [(x, u)]) ∧
        ∀ base : Heap, (K w.params).In base → base.Ns mainGlobals mg → FnOk l.prog w (K w.params) mg base CX k fa fd [x] (sp (K w.params)))
    (hsp : ∀ (K : PySem.W.Frag) (H : Hp) (a : Addr) (ns : List Int), ns.length ≤ n → Only H → SqL K H a (ns.map V.int) → sp K [.ref a] H (fun v _ => v = .bl true) fun _ _ _ => False)
    (hCX : ∀ (H : Hp) (s : Shared) (e : Value) (s' : Shared), CX [] H s (fun _ _ _ => False) e s' → False) :
    PySem.W.WalkO q loose XP YP l.row.toRowW d [] (fun f vs => PySem.call f vs) :=
  walk_of (K := K) (CX := fun _ => CX) (sp := fun w => sp (K w.params)) hn hn2 hdf hr hY F (fun w H a ns h1 h2 h3 => hsp (K w.params) H a ns h1 h2 h3) fun _ H s e s' => hCX H s e s'
end L2

/-! SHORT WORDS over the layer: a def of the text, its body, what a loop and a test want. -/
namespace L2
open PySem PySem.Spec PyProof.Rows

/-! ### the text by places -/
/-- the j-th statement of a class's body -/
def inClass (s : Stmt) (j : Nat) : Stmt := match s with
  | .ClassDef _ _ _ body _ _ _ _ _ _ _ => body.getD j (.Pass ⟨0, 0, 0, 0⟩)
  | _ => .Pass ⟨0, 0, 0, 0⟩
def defArgs (s : Stmt) : Arguments := match s with
  | .FunctionDef _ a _ _ _ _ _ _ _ _ => a
  | _ => { posonlyargs := [], args := [], vararg := none, kwonlyargs := [], kw_defaults := [], kwarg := none, defaults := [] }
def defBody (s : Stmt) : List Stmt := match s with
  | .FunctionDef _ _ b _ _ _ _ _ _ _ => b
  | _ => []
def defScope (s : Stmt) : Scope := match s with
  | .FunctionDef _ _ _ _ _ _ sc _ _ _ => sc
  | _ => { kind := .function, names := [], isGenerator := false, isCoroutine := false }

/-! ### no exception leaves a def -/
abbrev CX0 : CXT := fun _ _ _ _ _ _ => False
abbrev E0 : XK := fun _ _ _ => False
theorem pass0 {X : Cx} : Passes CX0 X E0 := fun _ _ _ _ _ _ _ h => h.elim

/-! ### a def (or method) of the text as it stands behind the top -/
structure Fun (K : PySem.W.Frag) (x qual : Str) (st : Stmt) (f : Addr) (fd : FuncData) : Prop where
  ex : ∃ (oc : Value) (od : Option Addr) (kV doc pm : Value) (an : Option Addr) (cdv ct : Value) (osl : Array (Option Value)),
    fd = PySem.W.fnOf x qual (defArgs st) (defBody st) (defScope st) .none kV doc pm an cdv ct ∧ K.lookup f = some ⟨oc, od, .func fd, osl⟩ ∧ PySem.W.codeIn K cdv qual = true
  kp : PySem.W.keepIn K (.ref f) = true
section
variable {P : Program} {w : World} {K : PySem.W.Frag} {mg : Str → Option Value} {base : Heap}
/-- THE RULE for a def: its body as a term of rules, and the reading of that term -/
theorem Fun.ok {x qual : Str} {st : Stmt} {f : Addr} {fd : FuncData} {N ps : List Str} {k : Nat} {sp : Sp} (F : Fun K x qual st f fd) (S : FnScope N ps (defScope st)) (len : ∀ vs H Q E, sp vs H Q E → vs.length = ps.length)
    (hbody : ∀ (cdv : Value) (A : Around) (outer : List Env) (s : Shared) (H : Hp) (vs : List V) (Q : VK) (E : XK), Room k (A.deeper (envOfC qual (defScope st) s.heap.objs.size f cdv)) → sp vs H Q E →
      ∃ t, PSs (cxOf CX0 P w K mg base N qual (defScope st) f cdv A outer s H E).nox (defBody st) t ∧ t { nx := fun _ H' => Q .non H', rt := Q } (start N vs) H) : FnOk P w K mg base CX0 (k + 1) f fd ps sp := by
  obtain ⟨oc, od, kV, doc, pm, an, cdv, ct, osl, rfl, lk, hcd⟩ := F.ex
  refine fn_of lk hcd S len fun A outer s H vs Q E hr hsp => ?_
  obtain ⟨t, h, q⟩ := hbody cdv A outer s H vs Q E hr hsp
  exact ⟨t, h.nox, q⟩
/-- how its arguments bind (no defaults): h is «fun _ _ _ _ _ _ us hl => match us, hl with | [_, _], _ => rfl», one _ a parameter -/
theorem Fun.binds {x qual : Str} {st : Stmt} {f : Addr} {fd : FuncData} {ps : List Str} (F : Fun K x qual st f fd)
    (h : ∀ (kV doc pm : Value) (an : Option Addr) (cdv ct : Value) (us : List Value), us.length = ps.length → bindArgs (PySem.W.fnOf x qual (defArgs st) (defBody st) (defScope st) .none kV doc pm an cdv ct) ⟨us, []⟩ = pure (ps.zip us)) : Binds K fd ps [] := by
  obtain ⟨oc, od, kV, doc, pm, an, cdv, ct, osl, rfl, lk, hcd⟩ := F.ex
  exact .all (h kV doc pm an cdv ct)
theorem fun_mk {x qual : Str} {st : Stmt} {f : Addr} {oc : Value} {od an : Option Addr} {osl : Array (Option Value)} {kV doc pm cdv ct : Value} (l : K.lookup f = some ⟨oc, od, .func (PySem.W.fnOf x qual (defArgs st) (defBody st) (defScope st) .none kV doc pm an cdv ct), osl⟩)
    (c : PySem.W.codeIn K cdv qual = true) (k : PySem.W.keepIn K (.ref f) = true) : Fun K x qual st f (PySem.W.fnOf x qual (defArgs st) (defBody st) (defScope st) .none kV doc pm an cdv ct) := ⟨⟨oc, od, kV, doc, pm, an, cdv, ct, osl, rfl, l, c⟩, k⟩
end
theorem hu_of {A : Around} {k : Nat} (hr : Room k A) : A.units + 1 < cLine := Nat.lt_of_le_of_lt (Nat.add_le_add_left (by decide : 1 ≤ 64) _) hr.units
theorem small1000 {n : Nat} (h : n ≤ 1000) : n < sizeLine := Nat.lt_of_le_of_lt h (by decide)

/-! ### expressions in short: the name that stands in the i-th slot -/
section
variable {X : Cx}
theorem pv (i : Nat) {x : Str} {pos : Pos} (hN : X.N[i]? = some x := by rfl) (hv : Vis X.env.scope x := by first | exact Or.inl rfl | exact Or.inr (Or.inl rfl) | exact Or.inr (Or.inr rfl)) (hd : (x == ("__debug__" : Str)) = false := by decide)
    (hcd : (x == ("__classdict__" : Str)) = false := by decide) : PE X (.Name x pos) (tVar i) := pe_var hN hv hd hcd
end

/-! ### tests -/
theorem iteF {A B : Prop} (h : B) : if false = true then A else B := by
  rw [if_neg Bool.false_ne_true]
  exact h
theorem iteT {A B : Prop} (h : A) : if true = true then A else B := by
  rw [if_pos rfl]
  exact h
theorem ite2 {c A B : Prop} [Decidable c] (h1 : c → A) (h2 : ¬ c → B) : if c then A else B := by
  by_cases h : c
  · rw [if_pos h]
    exact h1 h
  · rw [if_neg h]
    exact h2 h
theorem iteNS {c A B : Prop} [Decidable c] (hc : c) (h : B) : if (!decide c) = true then A else B := by
  rw [decide_eq_true hc]
  exact iteF h

/-! ### heaps -/
/-- all that was tracked is as it was -/
def Same (H H' : Hp) : Prop := ∀ b o, H b = some o → H' b = some o
theorem Same.refl (H : Hp) : Same H H := fun _ _ h => h
theorem Same.trans {H H1 H2 : Hp} (a : Same H H1) (b : Same H1 H2) : Same H H2 := fun c o h => b c o (a c o h)
theorem Same.free {H H' : Hp} (e : Same H H') {l : Addr} (h : H' l = Option.none) : H l = Option.none := by
  cases q : H l with
  | none => rfl
  | some o =>
    rw [e l o q] at h
    cases h
theorem Same.seq {K : PySem.W.Frag} {H H' : Hp} {a : Addr} {xs : List V} (e : Same H H') (h : SqL K H a xs) : SqL K H' a xs := by
  rcases h with (h | ⟨o, h⟩) | h
  · exact .inl (.inl (e _ _ h))
  · exact .inl (.inr ⟨o, e _ _ h⟩)
  · exact .inr h

end L2


namespace L2
open PySem PySem.Spec PyProof.Rows
section
variable {X : Cx}
/-- len of a dict -/
theorem call_lenD : CallR X (.builtin "len") (fun xs H Q => ∃ a kvs, xs = [V.ref a] ∧ H a = some (.dK kvs) ∧ Q (.int kvs.length) H) := by
  intro pins s σ H xs us Q I r h
  obtain ⟨a, kvs, rfl, ha, q⟩ := h
  obtain ⟨u, rfl, ru⟩ := vals1 r
  cases ru
  exact d_len I (.inl ha) fun t s' I' => ⟨.int kvs.length, H, I', ⟨t, rfl⟩, q⟩
end
/-! ### a dict's pairs: keys that differ -/
section
variable {κ : Type} [DecidableEq κ]
theorem valV_not {kvs : List (κ × V)} {k : κ} (h : valV kvs k = none) : ¬ k ∈ kvs.map (·.1) := by
  intro m
  obtain ⟨p, hp, e⟩ := List.mem_map.mp m
  have q : (kvs.any fun kv => decide (kv.1 = k)) = true := List.any_eq_true.mpr ⟨p, hp, decide_eq_true e⟩
  rw [valV_any, h] at q
  exact absurd q (by simp)
theorem valV_in {kvs : List (κ × V)} {k : κ} {v : V} (h : valV kvs k = some v) : k ∈ kvs.map (·.1) := by
  have q : (kvs.any fun kv => decide (kv.1 = k)) = true := by
    rw [valV_any, h]
    all_goals rfl
  obtain ⟨p, hp, e⟩ := List.any_eq_true.mp q
  exact List.mem_map.mpr ⟨p, hp, of_decide_eq_true e⟩
theorem nd_snoc : ∀ {l : List κ} {k : κ}, l.Nodup → ¬ k ∈ l → (l ++ [k]).Nodup
  | [], k, _, _ => by simp
  | a :: r, k, h, hk => by
    obtain ⟨h1, h2⟩ := List.nodup_cons.mp h
    show (a :: (r ++ [k])).Nodup
    refine List.nodup_cons.mpr ⟨fun m => ?_, nd_snoc h2 fun m => hk (List.mem_cons.mpr (Or.inr m))⟩
    rcases List.mem_append.mp m with q | q
    · exact h1 q
    · exact hk (List.mem_cons.mpr (Or.inl (List.mem_singleton.mp q).symm))
theorem nd_putK {kvs : List (κ × V)} {k : κ} (v : V) (hn : (kvs.map (·.1)).Nodup) (h : valV kvs k = none) : ((putK kvs k v).map (·.1)).Nodup := by
  rw [putK_new v h, List.map_append]
  exact nd_snoc hn (valV_not h)
theorem dropK_pos {p : κ × V} {r : List (κ × V)} {k : κ} (e : p.1 = k) : dropK (p :: r) k = dropK r k := by
  unfold dropK
  rw [List.filter_cons, if_neg (by simp [e])]
theorem dropK_neg {p : κ × V} {r : List (κ × V)} {k : κ} (e : ¬ p.1 = k) : dropK (p :: r) k = p :: dropK r k := by
  unfold dropK
  rw [List.filter_cons, if_pos (by simp [e])]
theorem dropK_no : ∀ {kvs : List (κ × V)} {k : κ}, ¬ k ∈ kvs.map (·.1) → dropK kvs k = kvs
  | [], _, _ => rfl
  | p :: r, k, h => by
    have h' : ¬ k ∈ r.map (·.1) := fun m => by
      obtain ⟨q, hq, e⟩ := List.mem_map.mp m
      exact h (List.mem_map.mpr ⟨q, List.mem_cons.mpr (Or.inr hq), e⟩)
    rw [dropK_neg fun e => h (List.mem_map.mpr ⟨p, List.mem_cons.mpr (Or.inl rfl), e⟩), dropK_no h']
theorem dropK_mem {kvs : List (κ × V)} {k : κ} {p : κ × V} (h : p ∈ dropK kvs k) : p ∈ kvs := (List.mem_filter.mp h).1
theorem nd_dropK : ∀ {kvs : List (κ × V)} {k : κ}, (kvs.map (·.1)).Nodup → ((dropK kvs k).map (·.1)).Nodup
  | [], _, _ => List.nodup_nil
  | p :: r, k, h => by
    have h : (p.1 :: r.map (·.1)).Nodup := h
    obtain ⟨h1, h2⟩ := List.nodup_cons.mp h
    by_cases e : p.1 = k
    · rw [dropK_pos e]
      exact nd_dropK h2
    · rw [dropK_neg e]
      show (p.1 :: (dropK r k).map (·.1)).Nodup
      refine List.nodup_cons.mpr ⟨fun m => h1 ?_, nd_dropK h2⟩
      obtain ⟨q, hq, eq⟩ := List.mem_map.mp m
      exact List.mem_map.mpr ⟨q, dropK_mem hq, eq⟩
theorem dropK_len : ∀ {kvs : List (κ × V)} {k : κ}, (kvs.map (·.1)).Nodup → k ∈ kvs.map (·.1) → (dropK kvs k).length + 1 = kvs.length
  | [], _, _, m => by simp at m
  | p :: r, k, h, m => by
    have h : (p.1 :: r.map (·.1)).Nodup := h
    have m : k = p.1 ∨ k ∈ r.map (·.1) := List.mem_cons.mp m
    obtain ⟨h1, h2⟩ := List.nodup_cons.mp h
    by_cases e : p.1 = k
    · subst e
      rw [dropK_pos rfl, dropK_no h1]
      all_goals rfl
    · have m' : k ∈ r.map (·.1) := m.resolve_left fun z => e z.symm
      have q := dropK_len h2 m'
      rw [dropK_neg e, List.length_cons, List.length_cons]
      omega
end
end L2


set_option Elab.async false
set_option linter.all false
set_option maxRecDepth 100000
/-! exceptions over the hand layer: raise of an own class, passing through frames, try with named handlers -/
namespace L2
open PySem PySem.Spec PyProof.Rows

/-- an exception in the air, the frames at outer still to be passed; it came out of a call that began at H, s -/
def CXE (P : Program) (w : World) : CXT := fun outer H s E e s' =>
  ∃ (ea : Addr) (cls a0 : Value) (B : Heap) (H' : Hp) (dx : Option Addr), e = .ref ea ∧ s'.os = s.os ∧ AllBare s'.gens ∧
    Heap.FlyingW B outer ea cls a0 s'.heap ∧ HOk P w H' B ∧
    (∀ b o, s.heap.get? b = some o → H b = none → b ∉ frs outer → B.get? b = some o) ∧
    (∀ b o, s.heap.get? b = some o → H b = none → b ∈ frs outer → ∃ sl, s'.heap.get? b = some { o with slots := sl }) ∧
    (∀ b o, s.heap.get? b = some o → H b = none → H' b = none) ∧
    (∀ b o, s.heap.get? b = some o → b ∉ frs outer → ∃ o', B.get? b = some o') ∧
    (∀ b xs, H b = some (.tup xs) → H' b = some (.tup xs)) ∧ (∀ b o u, H b = some (.frz o u) → H' b = some (.frz o u)) ∧
    (∀ b ps, H b = some (.tbl ps) → ∃ more, H' b = some (.tbl (ps ++ more))) ∧ E cls dx H'

/-- a tracked heap does not lean on the frames -/
theorem HOk.hide {P : Program} {w : World} {H : Hp} {h : Heap} {l : List Addr} (ok : HOk P w H h) (hl : ∀ b ∈ l, H b = none) : HOk P w H (PySem.W.hideAll h l) := fun a o e =>
  (ok a o e).stay (fun b u hb q => PySem.W.hideAll_get _ q fun m => by
    rcases hb with z | z
    · rw [z] at m; rw [hl a m] at e; cases e
    · rw [hl b m] at z; cases z) (fun _ q => q) fun _ _ q => q

/-- what a raise in this context must reach -/
def RaisesTo (X : Cx) (E : XK) : Prop := ∀ (pins : List (Addr × Obj)) (σ : St) (H : Hp) (s : Shared) (ea C : Addr) (vs : List Value) (h' : Heap), Inv X pins σ H s →
  Heap.MadeExcOf s.heap h' ea (.ref C) vs → E (.ref C) none H → X.xe (.ref ea) { s with heap := h' }

section
variable {P : Program} {w : World} {K : PySem.W.Frag} {mg : Str → Option Value} {base : Heap} {N : List Str} {qual : Str} {scope : Scope} {f : Addr} {cd : Value} {A : Around} {outer : List Env} {s₀ : Shared} {H₀ : Hp} {E : XK}
theorem raises_fn : RaisesTo (cxOf (CXE P w) P w K mg base N qual scope f cd A outer s₀ H₀ E) E := by
  intro pins σ H s ea C vs h' I hm hE
  let X := cxOf (CXE P w) P w K mg base N qual scope f cd A outer s₀ H₀ E
  have hst : X.stack = X.env :: outer := rfl
  have hfrl : ∀ b, b ∈ frs X.stack ↔ b = X.env.locals ∨ b ∈ frs outer := fun b => by
    show b ∈ X.env.locals :: frs outer ↔ _
    exact List.mem_cons
  have hF : s.heap.FunFrames (PySem.W.hideAll s.heap (frs X.stack)) X.stack := PySem.W.funFrames_hide I.stack fun env he a ha => List.mem_filterMap.mpr ⟨env, he, ha⟩
  show wpAny (model P w) X.A (leaving X.env (.ref ea)) _ _ _
  refine wpAny_leaves_madeW (s := { s with heap := h' }) (base := PySem.W.hideAll s.heap (frs X.stack)) (h := s.heap) (env := X.env) (outer := outer) (L := X.env.locals) I.ok.frames rfl (fun b o q => PySem.W.of_hideAll _ q) hF hm fun h1 t x1 x2 x3 x4 => ?_
  have up : ∀ b o, s.heap.get? b = some o → b ∈ frs X.stack → ∃ sl, h1.get? b = some { o with slots := sl } := fun b o e hb => by
    obtain ⟨o', e', nd⟩ := (I.stack.mem hb).2
    rw [e] at e'; cases e'
    exact x4 b o (hm.keeps b o e) nd
  refine ⟨ea, .ref C, .ref t, _, H, none, rfl, I.os, I.bare, x1, I.hok.hide I.stkFree, fun b o e n hb => ?_, fun b o e n hb => ?_, fun b o e n => I.base.free b o e n (by simp [cxOf]), fun b o e hb => ?_, I.base.tups, I.base.frzs, I.base.tbls, hE⟩
  · have hL : b ≠ X.env.locals := Nat.ne_of_lt (Nat.lt_of_lt_of_le (Heap.lt_size e) I.ok.above)
    refine PySem.W.hideAll_get _ (I.base.keep b o e n hb (by simp [cxOf])) fun m => ?_
    rcases (hfrl b).mp m with z | z
    · exact hL z
    · exact hb z
  · obtain ⟨sl, e1⟩ := I.base.slot b o e n hb (by simp [cxOf])
    obtain ⟨sl', e2⟩ := up b _ e1 ((hfrl b).mpr (.inr hb))
    exact ⟨sl', e2⟩
  · have hL : b ≠ X.env.locals := Nat.ne_of_lt (Nat.lt_of_lt_of_le (Heap.lt_size e) I.ok.above)
    obtain ⟨o', e1⟩ := I.base.there b o e (by simp [cxOf])
    refine ⟨o', PySem.W.hideAll_get _ e1 fun m => ?_⟩
    rcases (hfrl b).mp m with z | z
    · exact hL z
    · exact hb z

/-- an exception of a callee leaves this def too -/
theorem pass_fn : Passes (CXE P w) (cxOf (CXE P w) P w K mg base N qual scope f cd A outer s₀ H₀ E) E := by
  intro pins σ H s e s' I h
  obtain ⟨ea, cls, a0, B, H', dx, rfl, ho, hb, fly, hok, keep, slot, free, there, tups, frzs, tbls, hE⟩ := h
  let X := cxOf (CXE P w) P w K mg base N qual scope f cd A outer s₀ H₀ E
  have hfrl : ∀ b, b ∈ frs X.stack ↔ b = X.env.locals ∨ b ∈ frs outer := fun b => by
    show b ∈ X.env.locals :: frs outer ↔ _
    exact List.mem_cons
  show wpAny (model P w) X.A (leaving X.env (.ref ea)) _ _ _
  refine wpAny_leaves_onW (base := B) (env := X.env) (outer := outer) (L := X.env.locals) I.ok.frames rfl fly fun h1 x1 x4 => ?_
  have ndata : ∀ b, b ∈ frs X.stack → ∀ o, s'.heap.get? b = some o → ∃ sl, h1.get? b = some { o with slots := sl } := fun b hb o e => by
    obtain ⟨o', e', nd⟩ := (fly.2.2.1.mem hb).2
    rw [e] at e'; cases e'
    exact x4 b o e nd
  refine ⟨ea, cls, a0, B, H', dx, rfl, ho.trans I.os, hb, x1, hok, fun b o e n hb => ?_, fun b o e n hb => ?_, fun b o e n => ?_, fun b o e hb => ?_, fun b xs q => tups b xs (I.base.tups b xs q), fun b o u q => frzs b o u (I.base.frzs b o u q), fun b ps q => ?_, hE⟩
  · have hL : b ≠ X.env.locals := Nat.ne_of_lt (Nat.lt_of_lt_of_le (Heap.lt_size e) I.ok.above)
    refine keep b o (I.base.keep b o e n hb (by simp [cxOf])) (I.base.free b o e n (by simp [cxOf])) fun m => ?_
    rcases (hfrl b).mp m with z | z
    · exact hL z
    · exact hb z
  · obtain ⟨sl, e1⟩ := I.base.slot b o e n hb (by simp [cxOf])
    obtain ⟨sl', e2⟩ := slot b _ e1 (I.base.free b o e n (by simp [cxOf])) ((hfrl b).mpr (.inr hb))
    obtain ⟨sl2, e3⟩ := ndata b ((hfrl b).mpr (.inr hb)) _ e2
    exact ⟨sl2, e3⟩
  · obtain ⟨o', e1⟩ := I.base.there b o e (by simp [cxOf])
    exact free b o' e1 (I.base.free b o e n (by simp [cxOf]))
  · have hL : b ≠ X.env.locals := Nat.ne_of_lt (Nat.lt_of_lt_of_le (Heap.lt_size e) I.ok.above)
    obtain ⟨o', e1⟩ := I.base.there b o e (by simp [cxOf])
    refine there b o' e1 fun m => ?_
    rcases (hfrl b).mp m with z | z
    · exact hL z
    · exact hb z
  · obtain ⟨m1, q1⟩ := I.base.tbls b ps q
    obtain ⟨m2, q2⟩ := tbls b _ q1
    exact ⟨m1 ++ m2, by rw [q2, Array.append_assoc]⟩
end

/-! ### own exception classes -/
abbrev bmVE : List Value := [.type "ValueError", .type "Exception", .type "BaseException", .type "object"]
/-- the classes above C, where it is a class made by a class statement, of exceptions -/
def excMro (K : PySem.W.Frag) (C : Addr) : Option (List Value) := match K.lookup C with
  | some ⟨.type "type", _, .cls cd, sl⟩ => (match cd.mro, sl.toList with
    | .ref C' :: bm, [_, _, _, _, some (.builtin _), _] => bif (C' == C) && !cd.hasDel && bm.contains (.type "BaseException") then some bm else none
    | _, _ => none)
  | _ => none
theorem exc_at {K : PySem.W.Frag} {h : Heap} {C : Addr} {bm : List Value} (X : K.In h) (q : excMro K C = some bm) :
    bm.contains (.type "BaseException") = true ∧ ∃ nm qn N bs hdct sn sub ab col dd k0 k1 k2 k3 k5 newId, h.get? C = some (excClassObj nm qn C N bs bm hdct sn sub ab col dd k0 k1 k2 k3 k5 newId) := by
  unfold excMro at q
  split at q
  · rename_i dct cdt slt look
    split at q
    · rename_i C2 bm2 j0 j1 j2 j3 nid j5 em es
      cases c : ((C2 == C) && !cdt.hasDel && bm2.contains (.type "BaseException")) with
      | false => rw [c] at q; cases q
      | true =>
        rw [c] at q
        have e2 : bm2 = bm := Option.some.inj q
        simp only [Bool.and_eq_true, beq_iff_eq, Bool.not_eq_true'] at c
        obtain ⟨⟨c1, c2⟩, c3⟩ := c
        subst c1 e2
        refine ⟨c3, ?_⟩
        have ob := X _ _ look
        obtain ⟨a1, a2, a3, a4, a5, a6, a7, a8, a9, b1, b2⟩ := cdt
        have em : a3 = .ref C2 :: bm2 := em
        have c2 : b2 = false := c2
        have hsl : slt = #[j0, j1, j2, j3, some (.builtin nid), j5] := by
          obtain ⟨l⟩ := slt
          exact congrArg Array.mk es
        rw [em, c2, hsl] at ob
        exact ⟨_, _, _, _, _, _, _, _, _, _, _, _, _, _, _, _, ob⟩
    · cases q
  · cases q
theorem exc_make {K : PySem.W.Frag} {h : Heap} {C : Addr} {bmB : List Value} {newId : String} (X : K.In h) (q : PySem.W.excIn K C bmB newId = true) :
    ∃ bm N nm qn bs hdct sn sub ab col dd k0 k1 k2 k3 k5 mN, h.get? C = some (excClassObj nm qn C N bs bm hdct sn sub ab col dd k0 k1 k2 k3 k5 newId) ∧ h.Ns N mN ∧ mN "__init__" = none ∧ OwnTail h bmB bm := by
  unfold PySem.W.excIn at q
  split at q
  · rename_i dct cdt slt look
    split at q
    · rename_i C2 bm2 j0 j1 j2 j3 nid j5 em es
      simp only [Bool.and_eq_true, beq_iff_eq, Bool.not_eq_true'] at q
      obtain ⟨⟨⟨⟨⟨c1, c2⟩, c3⟩, tl⟩, okN⟩, noI⟩ := q
      subst c1 c2
      have ob := X _ _ look
      obtain ⟨a1, a2, a3, a4, a5, a6, a7, a8, a9, b1, b2⟩ := cdt
      have em : a3 = .ref C2 :: bm2 := em
      have c3 : b2 = false := c3
      have hsl : slt = #[j0, j1, j2, j3, some (.builtin nid), j5] := by
        obtain ⟨l⟩ := slt
        exact congrArg Array.mk es
      rw [em, c3, hsl] at ob
      exact ⟨_, _, _, _, _, _, _, _, _, _, _, _, _, _, _, _, _, ob, .of_isNs (PySem.W.isNs_of_in X okN), PySem.W.nsMap_none_of_in X okN noI, PySem.W.tail_of_in X tl⟩
    · cases q
  · cases q

/-- does the exception at e, of the class at C, match the class at D -/
theorem excMatches_own {M : Model} {A : Around} {E : Value → Shared → Prop} {K : PySem.W.Frag} {s : Shared} {e C D : Addr} {oe : Obj} {bmC bmD : List Value} {Q : Bool → Shared → Prop} (X : K.In s.heap) (qC : excMro K C = some bmC) (qD : excMro K D = some bmD)
    (he : s.heap.get? e = some oe) (hcls : oe.cls = .ref C) (hq : Q ((Value.ref C :: bmC).contains (.ref D)) s) : wpAny M A (excMatches (.ref e) (.ref D)) Q E s := by
  obtain ⟨h, g, d, t, os⟩ := s
  obtain ⟨bC, _, _, _, _, _, _, _, _, _, _, _, _, _, _, _, _, hC⟩ := exc_at X qC
  obtain ⟨bD, _, _, _, _, _, _, _, _, _, _, _, _, _, _, _, _, hD⟩ := exc_at X qD
  have hDB : (Value.ref D :: bmD).contains (.type "BaseException") = true := by rw [List.contains_cons, bD, Bool.or_true]
  have f := tc_notTuple
  unfold excMatches
  generalize hv : (Value.ref C :: bmC).contains (.ref D) = v at hq
  repeat (first | (with_reducible refine wpAny_loadPart_at he ?_; rw [hcls]) | with_reducible refine wpAny_loadPart_at hD ?_ | (with_reducible refine wpAny_isSubtype_exc hD ?_; rw [hDB]) | (with_reducible refine wpAny_isSubtype_exc hC ?_; rw [hv]) | wp_step)
  cases v <;> (wp_walk; exact hq)

section
variable {X : Cx}
/-- raise C(e, ..) -/
def sRaise (C : Addr) (E : XK) (t : TA) : TS := fun _ σ H => t σ H fun vs H1 => vs.length ≤ sizeLine ∧ E (.ref C) none H1
theorem ps_raise {C : Addr} {E : XK} {x : Str} {np cpos pos : Pos} {e : Expr} {es : List Expr} {t : TA} (hx : RaisesTo X E) (hc : X.calm = true) (q : PySem.W.excIn X.K C bmVE "ValueError.__new__" = true) (hg : Gl X x) (hm : X.mg x = some (.ref C)) (ha : PA X (e :: es) t)
    (hdb : (x == ("__debug__" : Str)) = false := by decide) (he : starEach (e :: es) X.env = (false, eval e X.env) :: starEach es X.env := by rfl) (hpl : (backTo cpos (starEach es X.env)).any (·.1) = false := by rfl) :
    PS X (.Raise (some (.Call (.Name x np) (e :: es) [] cpos)) none pos) (sRaise C E t) := by
  intro pins s σ H D I h
  obtain ⟨bm, N, nm, qn, bs, hdct, sn, sub, ab, col, dd, k0, k1, k2, k3, k5, mN, hC, hN, hni, T⟩ := exc_make I.ok.mod.kin q
  refine wpAny_Raise_call_subT (C := C) (nm := nm) (q := qn) (N := N) (bs := bs) (bm := bm) (hdct := hdct) (sn := sn) (sub := sub) (ab := ab) (col := col) (dd := dd) (k0 := k0) (k1 := k1) (k2 := k2) (k3 := k3) (k5 := k5)
    PySem.F.excBase_ValueError (mN := mN) (T.hasType PySem.F.excBase_ValueError.hasBase) (I.ok.hd hc) (by rw [he]; show (false || (backTo cpos (starEach es X.env)).any (·.1)) = false; rw [hpl]; rfl) hni (ld_glob I hg hm ⟨rfl, ?_⟩ hdb)
  have a := ha cpos pins s σ H _ I h
  rw [he] at a ⊢
  exact Calls.evalArgs_plain (thn a fun us s2 ⟨vs, H2, I2, r, l, z⟩ => ⟨rfl, by show us.length ≤ sizeLine; rw [← r.length]; exact l, I2.bk _ _ hC, hN.keeps I2.bk, T.keeps I2.bk, fun h' ea mk => hx pins σ H2 s2 ea C us h' I2 mk z⟩)

/-! ### try -/
abbrev Cx.tryIn (X : Cx) (pn : List (Addr × Obj)) (kn : St) (xe : Value → Shared → Prop) : Cx := { X with pn := pn, kn := kn, xe := xe }
abbrev Cx.inExc (X : Cx) (ea : Addr) : Cx := { X with A := X.A.mark (some (.ref ea)), calm := false, xe := fun _ _ => False }
theorem Cx.Ok.tryIn (ok : X.Ok) (pn : List (Addr × Obj)) (kn : St) (xe : Value → Shared → Prop) : (X.tryIn pn kn xe).Ok :=
  ⟨ok.mod, ok.kind, ok.glob, ok.blt, ok.above, ok.inj, ok.has, ok.cab, ok.hd, ok.frames, ok.stk, ok.exf, ok.bs, ok.bsz, ok.noex, ok.exfs, ok.funs, ok.frf⟩
theorem Cx.Ok.inExc (ok : X.Ok) (ea : Addr) : (X.inExc ea).Ok :=
  ⟨ok.mod, ok.kind, ok.glob, ok.blt, ok.above, ok.inj, ok.has, ok.cab, (fun h => nomatch h), ok.frames, ok.stk, ok.exf, ok.bs, ok.bsz, ok.noex, ok.exfs, ok.funs, ok.frf⟩
theorem Inv.inExc {pins : List (Addr × Obj)} {σ : St} {H : Hp} {s : Shared} (I : Inv X pins σ H s) (ea : Addr) : Inv (X.inExc ea) pins σ H s :=
  ⟨I.ok.inExc ea, I.os, I.bare, I.base, I.loc, I.cell, I.free, I.freeC, I.pin, I.hok, I.len, I.kn⟩
theorem Inv.outExc {pins : List (Addr × Obj)} {σ : St} {H : Hp} {s : Shared} {ea : Addr} (ok : X.Ok) (I : Inv (X.inExc ea) pins σ H s) : Inv X pins σ H s :=
  ⟨ok, I.os, I.bare, I.base, I.loc, I.cell, I.free, I.freeC, I.pin, I.hok, I.len, I.kn⟩

/-- handlers: the exception's class, its dict, its address -/
abbrev THd := Value → Option Addr → Addr → Ends → St → Hp → Prop
def PH (X : Cx) (hs : List ExceptHandler) (t : THd) : Prop :=
  ∀ (pins : List (Addr × Obj)) (s : Shared) (σ : St) (H : Hp) (D : Ends) (ea : Addr) (cls a0 : Value) (dx : Option Addr) (B : Heap), X.Ok → (∀ h', B.StaysIn h' → s.heap.UpToSlots h' → Inv X pins σ H { s with heap := h' }) →
    Heap.FlyingW B X.stack ea cls a0 s.heap → t cls dx ea D σ H → wpAny (model X.prog X.w) X.A (handleBy (.ref ea) X.env hs) (SP X pins D) X.xe s
/-- no handler takes it: not told -/
def hNone : THd := fun _ _ _ _ _ _ => False
theorem ph_none {hs : List ExceptHandler} : PH X hs hNone := fun _ _ _ _ _ _ _ _ _ _ _ _ _ h => h.elim
/-- except D: suite -/
def hOwn (K : PySem.W.Frag) (D : Addr) (ts : TS) (tr : THd) : THd := fun cls dx ea En σ H => ∃ C bmC, cls = .ref C ∧ excMro K C = some bmC ∧
  if (Value.ref C :: bmC).contains (.ref D) = true then ts En σ H else tr cls dx ea En σ H
theorem ph_own {D : Addr} {bmD : List Value} {x : Str} {np pos : Pos} {b₀ : Stmt} {suite : List Stmt} {rest : List ExceptHandler} {ts : TS} {tr : THd} (hg : Gl X x) (hm : X.mg x = some (.ref D)) (qD : excMro X.K D = some bmD)
    (hs : ∀ ea, PSs (X.inExc ea) (b₀ :: suite) ts) (hr : PH X rest tr) (hdb : (x == ("__debug__" : Str)) = false := by decide) :
    PH X (.ExceptHandler (some (.Name x np)) none (b₀ :: suite) pos :: rest) (hOwn X.K D ts tr) := by
  intro pins s σ H En ea cls a0 dx B ok car fly h
  obtain ⟨C, bmC, rfl, qC, h⟩ := h
  have I : Inv X pins σ H s := car s.heap fly.1 (.refl _)
  have I' := I.inExc ea
  obtain ⟨oe, hoe, hoc⟩ := fly.there
  refine wpAny_handleBy_cons (codeAny_handlers_test ?_) (by intro q; cases q)
  refine ld_glob (X := X.inExc ea) I' hg hm ?_ hdb
  refine excMatches_own I.kIn qC qD hoe hoc ?_
  cases c : (Value.ref C :: bmC).contains (.ref D) with
  | false =>
    rw [c] at h
    exact hr pins s σ H En ea _ a0 dx B ok car fly (by simpa using h)
  | true =>
    rw [c] at h
    have h : ts En σ H := by simpa using h
    refine codeAny_handlers_suite (lands_againW fly fun h6 fly6 sm6 => ?_)
    refine wpAny_mono (hs ea pins { s with heap := h6 } σ H En ((car h6 fly6.1 sm6).inExc ea) h) (fun f s2 q => ?_) fun _ _ z => z.elim
    cases f with
    | next => obtain ⟨a, b, c, d⟩ := q; exact ⟨a, b, c.outExc ok, d⟩
    | brk => obtain ⟨a, b, c, d⟩ := q; exact ⟨a, b, c.outExc ok, d⟩
    | cont => obtain ⟨a, b, c, d⟩ := q; exact ⟨a, b, c.outExc ok, d⟩
    | ret u => obtain ⟨v, a, b, c, d⟩ := q; exact ⟨v, a, b, c.outExc ok, d⟩

/-- try: body, handlers. kn: the slots that the body does not store, as they are; R: what is thrown in the body -/
def tTry (X : Cx) (body : List Stmt) (th : THd) : TS := fun D σ H => ∃ (kn : St) (R : XK) (tb : TS), kn.length = σ.length ∧ (∀ (i : Nat) (v : V), kn[i]? = some (some v) → σ[i]? = some (some v)) ∧
  (∀ (i : Nat) (v : V), X.kn[i]? = some (some v) → kn[i]? = some (some v)) ∧
  (∀ (pn : List (Addr × Obj)) (xe : Value → Shared → Prop), Passes (CXE X.prog X.w) (X.tryIn pn kn xe) R → PassesOwn (model X.prog X.w) X.A X.env xe → PSs (X.tryIn pn kn xe) body tb) ∧
  tb D σ H ∧ ∀ cls dx ea H', R cls dx H' → th cls dx ea D kn H'
theorem ps_try {body : List Stmt} {h₀ : ExceptHandler} {hs : List ExceptHandler} {th : THd} {pos : Pos} (hph : PH X (h₀ :: hs) th) (hst : X.stack = X.env :: X.outer := by rfl) (hfr : X.env.frame = some X.env.locals := by rfl) :
    PS X (.Try body (h₀ :: hs) [] [] pos) (tTry X body th) := by
  intro pins s σ H D I h
  obtain ⟨kn, R, tb, hl, hk, hk2, hb, h, hth⟩ := h
  refine wpAny_Try_except ?_
  have own := PassesOwn.looking (M := model X.prog X.w) (A := X.A) (env := X.env) (E₁ := X.xe) (K := fun e s₂ => wpAny (model X.prog X.w) X.A (setFlight e none) (fun _ s₃ => wpAny (model X.prog X.w) X.A (handleBy e X.env (h₀ :: hs)) (SP X pins D) X.xe s₃) X.xe s₂)
  have back : ∀ {pn : List (Addr × Obj)} {xe : Value → Shared → Prop} {pins' : List (Addr × Obj)} {σ' : St} {H' : Hp} {s' : Shared}, (∀ p ∈ X.pn ++ pins, p ∈ pn) → Inv (X.tryIn pn kn xe) pins' σ' H' s' → Inv X pins σ' H' s' := fun {pn xe pins' σ' H' s'} hp J =>
    ⟨I.ok, J.os, J.bare, J.base, J.loc, J.cell, J.free, J.freeC, fun p z => J.pin p (List.mem_append_left _ (hp p z)), J.hok, J.len, fun i v e => J.kn i v (hk2 i v e)⟩
  have pas : Passes (CXE X.prog X.w) (X.tryIn (X.pn ++ pins) kn fun e s₁ => wpAny (model X.prog X.w) X.A (noteFrame e X.env) (fun _ s₂ => wpAny (model X.prog X.w) X.A (setFlight e none) (fun _ s₃ => wpAny (model X.prog X.w) X.A (handleBy e X.env (h₀ :: hs)) (SP X pins D) X.xe s₃) X.xe s₂) X.xe s₁) R := by
    intro pins' σ' H1 s1 e s' I1 T
    obtain ⟨ea, cls, a0, B, H', dx, rfl, ho, hbare, fly, hok, keep, slot, free, there, tups, frzs, tbls, hE⟩ := T
    have I2 : Inv X pins kn H1 s1 := (back (fun _ z => z) I1).weak (by rw [hl, I.len]; exact (I1.len).symm) (fun i v e => I1.kn i v e) hk2
    have car : ∀ h', B.StaysIn h' → s'.heap.UpToSlots h' → Inv X pins kn H' { s' with heap := h' } := fun h' st up => by
      have slot2 : ∀ b o, s1.heap.get? b = some o → H1 b = none → b ∈ frs X.stack → ∃ sl, h'.get? b = some { o with slots := sl } := fun b o e n hb => by
        obtain ⟨sl, e1⟩ := slot b o e n hb
        obtain ⟨o', e', nd⟩ := (fly.2.2.1.mem hb).2
        rw [e1] at e'
        cases e'
        obtain ⟨sl2, e2⟩ := up b _ e1 nd
        exact ⟨sl2, e2⟩
      refine I2.call' (s' := { s' with heap := h' }) (ch := []) ho ⟨fun b o e n hb _ => st b o (keep b o e n hb), fun b o e n hb _ => slot2 b o e n hb, fun b o e n _ => free b o e n, fun b o e _ => ?_, tups, frzs, tbls⟩ (hok.kept fun b u z => st b u z) hbare (fun _ z => nomatch z)
      by_cases hb : b ∈ frs X.stack
      · obtain ⟨sl, e2⟩ := slot2 b o e (I2.stkFree b hb) hb
        exact ⟨_, e2⟩
      · obtain ⟨o', e2⟩ := there b o e hb
        exact ⟨o', st b o' e2⟩
    have hfr2 : X.A.frames = some (X.env :: X.outer) := hst ▸ I.ok.frames
    have fly1 : Heap.FlyingW B (X.env :: X.outer) ea cls a0 s'.heap := hst ▸ fly
    show wpAny (model X.prog X.w) X.A (noteFrame (.ref ea) X.env) _ _ _
    refine wpAny_looks_onW hfr2 hfr fly1 fun h4 held4 sm4 => ?_
    refine wpAny_landsW held4 fun h5 fly5 sm5 => ?_
    exact hph pins { s' with heap := h5 } kn H' D ea cls a0 dx B I.ok (fun h' st up => car h' st ((sm4.trans sm5).trans up)) (hst ▸ fly5) (hth cls dx ea H' hE)
  have I' : Inv (X.tryIn (X.pn ++ pins) kn fun e s₁ => wpAny (model X.prog X.w) X.A (noteFrame e X.env) (fun _ s₂ => wpAny (model X.prog X.w) X.A (setFlight e none) (fun _ s₃ => wpAny (model X.prog X.w) X.A (handleBy e X.env (h₀ :: hs)) (SP X pins D) X.xe s₃) X.xe s₂) X.xe s₁) [] σ H s :=
    ⟨I.ok.tryIn _ _ _, I.os, I.bare, I.base, I.loc, I.cell, I.free, I.freeC, fun p z => I.pin p (by simpa using z), I.hok, I.len, hk⟩
  refine wpAny_mono (hb _ _ pas own [] s σ H D I' h) (fun f s1 q => ?_) fun _ _ z => z
  cases f with
  | next => obtain ⟨a, b, c, d⟩ := q; exact wpAny_execs_nil ⟨a, b, back (fun _ z => z) c, d⟩
  | brk => obtain ⟨a, b, c, d⟩ := q; exact ⟨a, b, back (fun _ z => z) c, d⟩
  | cont => obtain ⟨a, b, c, d⟩ := q; exact ⟨a, b, back (fun _ z => z) c, d⟩
  | ret u => obtain ⟨v, a, b, c, d⟩ := q; exact ⟨v, a, b, back (fun _ z => z) c, d⟩
end

/-! ### a def that may raise; a def with defaults -/
structure FunV (K : PySem.W.Frag) (x qual : Str) (st : Stmt) (dV : Value) (f : Addr) (fd : FuncData) : Prop where
  ex : ∃ (oc : Value) (od : Option Addr) (kV doc pm : Value) (an : Option Addr) (cdv ct : Value) (osl : Array (Option Value)),
    fd = PySem.W.fnOf x qual (defArgs st) (defBody st) (defScope st) dV kV doc pm an cdv ct ∧ K.lookup f = some ⟨oc, od, .func fd, osl⟩ ∧ PySem.W.codeIn K cdv qual = true
  kp : PySem.W.keepIn K (.ref f) = true
section
variable {P : Program} {w : World} {K : PySem.W.Frag} {mg : Str → Option Value} {base : Heap}
theorem Fun.toV {x qual : Str} {st : Stmt} {f : Addr} {fd : FuncData} (F : Fun K x qual st f fd) : FunV K x qual st .none f fd := ⟨F.ex, F.kp⟩
/-- the body may raise: E -/
theorem FunV.okE {x qual : Str} {st : Stmt} {dV : Value} {f : Addr} {fd : FuncData} {N ps : List Str} {k : Nat} {sp : Sp} (F : FunV K x qual st dV f fd) (S : FnScope N ps (defScope st)) (len : ∀ vs H Q E, sp vs H Q E → vs.length = ps.length)
    (hbody : ∀ (cdv : Value) (A : Around) (outer : List Env) (s : Shared) (H : Hp) (vs : List V) (Q : VK) (E : XK), Room k (A.deeper (envOfC qual (defScope st) s.heap.objs.size f cdv)) → sp vs H Q E →
      ∃ t, PSs (cxOf (CXE P w) P w K mg base N qual (defScope st) f cdv A outer s H E) (defBody st) t ∧ t { nx := fun _ H' => Q .non H', rt := Q } (start N vs) H) : FnOk P w K mg base (CXE P w) (k + 1) f fd ps sp := by
  obtain ⟨oc, od, kV, doc, pm, an, cdv, ct, osl, rfl, lk, hcd⟩ := F.ex
  exact fn_of lk hcd S len fun A outer s H vs Q E hr hsp => hbody cdv A outer s H vs Q E hr hsp
/-- the body raises nothing -/
theorem FunV.ok0 {x qual : Str} {st : Stmt} {dV : Value} {f : Addr} {fd : FuncData} {N ps : List Str} {k : Nat} {sp : Sp} (F : FunV K x qual st dV f fd) (S : FnScope N ps (defScope st)) (len : ∀ vs H Q E, sp vs H Q E → vs.length = ps.length)
    (hbody : ∀ (cdv : Value) (A : Around) (outer : List Env) (s : Shared) (H : Hp) (vs : List V) (Q : VK) (E : XK), Room k (A.deeper (envOfC qual (defScope st) s.heap.objs.size f cdv)) → sp vs H Q E →
      ∃ t, PSs (cxOf CX0 P w K mg base N qual (defScope st) f cdv A outer s H E).nox (defBody st) t ∧ t { nx := fun _ H' => Q .non H', rt := Q } (start N vs) H) : FnOk P w K mg base CX0 (k + 1) f fd ps sp := by
  obtain ⟨oc, od, kV, doc, pm, an, cdv, ct, osl, rfl, lk, hcd⟩ := F.ex
  refine fn_of lk hcd S len fun A outer s H vs Q E hr hsp => ?_
  obtain ⟨t, h, q⟩ := hbody cdv A outer s H vs Q E hr hsp
  exact ⟨t, h.nox, q⟩
/-- a promise that no exception leaves, from one that tells which does: E0 -/
theorem FnOk.calm {k : Nat} {f : Addr} {fd : FuncData} {ps : List Str} {sp : Sp} (F : FnOk P w K mg base (CXE P w) k f fd ps sp) : FnOk P w K mg base CX0 k f fd ps (fun vs H Q _ => sp vs H Q E0) :=
  ⟨fun vs H Q _ h => F.len vs H Q E0 h, fun A outer s H args us vs Q E hr e0 hb r h => codeAny_mono (F.run A outer s H args us vs Q E0 hr e0 hb r h) fun res s' q => by
    cases res with
    | ok fl => cases fl <;> exact q
    | error e =>
      obtain ⟨_, _, _, _, _, _, _, _, _, _, _, _, _, _, _, _, _, _, z⟩ := q
      exact z⟩
end
end L2

set_option Elab.async false
set_option linter.all false
set_option maxRecDepth 100000
/-! walks over dicts, comprehensions, small built-ins over the hand layer -/
namespace L2
open PySem PySem.Spec PyProof.Rows

section
variable {X : Cx} {pins : List (Addr × Obj)} {σ : St} {H : Hp} {s : Shared} {a : Addr}
/-- the description of one tracked thing is turned, the heap is not -/
theorem Inv.swap {o1 o2 : HO} (I : Inv X pins σ H s) (e : H a = some o1) (n1 : ∀ xs, o1 ≠ .tup xs) (n2 : ∀ x, o1 ≠ .own x) (n3 : ∀ ps, o1 ≠ .tbl ps) (hz : ∀ o u, X.H₀ a = some (.frz o u) → o2 = .frz o u)
    (new : ObjOk X.prog X.w (upd H a o2) s.heap a o2) : Inv X pins σ (upd H a o2) s := by
  have hf : ∀ b, H b = none → upd H a o2 b = none := fun b n => by rw [upd_ne (by rintro rfl; rw [e] at n; cases n)]; exact n
  have tu : ∀ b xs, H b = some (.tup xs) → upd H a o2 b = some (.tup xs) := fun b xs n => by rw [upd_ne (by rintro rfl; rw [e] at n; exact n1 xs (Option.some.inj n))]; exact n
  refine ⟨I.ok, I.os, I.bare, ⟨I.base.keep, I.base.slot, fun b o q n hx => hf b (I.base.free b o q n hx), I.base.there, fun b xs q => tu b xs (I.base.tups b xs q), fun b o u q => ?_, fun b ps q => ?_⟩, I.loc, I.cell, hf _ I.free, fun x c q => hf c (I.freeC x c q), fun p hp => ?_, fun b u q => ?_, I.len, I.kn⟩
  · by_cases hb : b = a
    · subst hb; rw [upd_same, hz o u q]
    · rw [upd_ne hb]; exact I.base.frzs b o u q
  · obtain ⟨m, q'⟩ := I.base.tbls b ps q
    exact ⟨m, by rw [upd_ne (by rintro rfl; rw [e] at q'; exact n3 _ (Option.some.inj q'))]; exact q'⟩
  · obtain ⟨a1, a2, a3, a4, a5⟩ := I.pin p hp
    exact ⟨a1, hf _ a2, a3, a4, a5⟩
  · by_cases hb : b = a
    · subst hb; rw [upd_same] at q; cases q; exact new
    · rw [upd_ne hb] at q
      exact (I.hok b u q).stay (fun _ _ _ z => z) (fun c z => by rw [upd_ne (by rintro rfl; rw [e] at z; exact n2 _ (Option.some.inj z))]; exact z) tu
/-- a dict is known to the object while it is walked -/
theorem Inv.freeze {kvs : List (Key × V)} (I : Inv X pins σ H s) (e : H a = some (.dK kvs)) : (∀ o u, X.H₀ a ≠ some (.frz o u)) ∧ ∃ o, s.heap.get? a = some o ∧ Inv X pins σ (upd H a (.frz o (.dK kvs))) s := by
  have nf : ∀ o u, X.H₀ a ≠ some (.frz o u) := fun o u q => by
    have z := I.base.frzs a o u q
    rw [e] at z
    cases z
  obtain ⟨z, y, vs, r, o, es, ep, q, c⟩ := I.hok a _ e
  exact ⟨nf, o, q, I.swap e (fun _ h => nomatch h) (fun _ h => nomatch h) (fun _ h => nomatch h) (fun o u q => absurd q (nf o u)) ⟨q, z, y, vs, r, o, es, ep, q, c⟩⟩
theorem Inv.thaw {o : Obj} {kvs : List (Key × V)} (I : Inv X pins σ H s) (nf : ∀ o u, X.H₀ a ≠ some (.frz o u)) (e : H a = some (.frz o (.dK kvs))) : Inv X pins σ (upd H a (.dK kvs)) s := by
  obtain ⟨_, z⟩ := I.hok a _ e
  exact I.swap e (fun _ h => nomatch h) (fun _ h => nomatch h) (fun _ h => nomatch h) (fun o u q => absurd q (nf o u)) z
/-- a frozen dict's entries -/
theorem Inv.frozen {o : Obj} {kvs : List (Key × V)} {es : Array DictEntry} {ep : Nat} (I : Inv X pins σ H s) (e : H a = some (.frz o (.dK kvs))) (hd : o.data = .dict es ep) :
    kvs.length ≤ sizeLine ∧ (a == sysModules) = false ∧ ∃ vs, KV kvs vs ∧ s.heap.DictAt (mixKind X.prog X.w) a vs ep := by
  obtain ⟨q, z, y, vs, r, o', es', ep', q', c1, c2, c3⟩ := I.hok a _ e
  rw [q] at q'
  cases q'
  rw [hd] at c2
  cases c2
  exact ⟨z, y, vs, r, o, es, q, c1, hd, c3⟩
end
theorem KV.at {kvs : List (Key × V)} {vs : List (Key × Value)} (r : KV kvs vs) {i : Nat} {k : Key} {v : V} (e : kvs[i]? = some (k, v)) : ∃ u, vs[i]? = some (k, u) ∧ RelV v u := by
  induction r generalizing i with
  | nil => simp at e
  | cons p t ih =>
    cases i with
    | zero =>
      simp at e
      rename_i a b _ _
      obtain ⟨p1, p2⟩ := p
      refine ⟨b.2, ?_, ?_⟩
      · simp only [List.getElem?_cons_zero, Option.some.injEq]
        rw [e] at p1
        exact Prod.ext p1.symm rfl
      · rw [e] at p2; exact p2
    | succ j =>
      obtain ⟨u, h1, h2⟩ := ih (i := j) (by simpa using e)
      exact ⟨u, by simpa using h1, h2⟩
theorem key_rel {P : Program} {w : World} {k : Key} {u : Value} (h : (mixKind P w).is k u = true) : RelV (kV k) u := by
  rcases keyIs_shape h with ⟨i, t, rfl, rfl⟩ | ⟨x, t, rfl, rfl⟩
  · exact ⟨t, rfl⟩
  · exact ⟨t, rfl⟩

/-! ### iterators over a frozen dict -/
/-- its pairs: a new tuple a turn -/
def Itd (a : Addr) (o : Obj) (kvs : List (Key × V)) : It :=
  ⟨fun i H => H a = some (.frz o (.dK kvs)) ∧ i < kvs.length, fun i H x H' => ∃ p k v, kvs[i]? = some (k, v) ∧ H p = none ∧ x = .ref p ∧ H' = upd H p (.tup [kV k, v]), fun i H => H a = some (.frz o (.dK kvs)) ∧ kvs.length ≤ i⟩
/-- its keys -/
def Itk (a : Addr) (o : Obj) (kvs : List (Key × V)) : It :=
  ⟨fun i H => H a = some (.frz o (.dK kvs)) ∧ i < kvs.length, fun i H x H' => ∃ k v, kvs[i]? = some (k, v) ∧ x = kV k ∧ H' = H, fun i H => H a = some (.frz o (.dK kvs)) ∧ kvs.length ≤ i⟩
theorem turn_items {P : Program} {w : World} {K : PySem.W.Frag} {elts : List Expr} {kk : Nat} {tp : Pos} {a it : Addr} {o : Obj} {es : Array DictEntry} {ep : Nat} {kvs : List (Key × V)} (hd : o.data = .dict es ep) :
    Turn P w K (.Tuple elts kk tp) (Itd a o kvs) [it] it (fun i h => ∃ ok ov, IsItemIter h it a i kvs.length ep ok ov) where
  mem := by simp
  obj := fun i h ⟨ok, ov, e⟩ b hb => by
    obtain rfl : b = it := by simpa using hb
    exact ⟨_, e, (fun v z => nomatch z)⟩
  keep := fun i h h' ⟨ok, ov, e⟩ k => ⟨ok, ov, k it (by simp) _ e⟩
  item := by
    intro X e1 e2 e3 hc i pins s σ H E I fp ⟨ok, ov, e⟩ ⟨hz, hi⟩
    subst e1 e2 e3
    obtain ⟨f1, f2, f3, f4, f5, f6⟩ := fp it (by simp)
    obtain ⟨zl, _, vs, r, da⟩ := I.frozen hz hd
    obtain ⟨⟨k, v⟩, hk⟩ : ∃ p, kvs[i]? = some p := ⟨kvs[i], by simp [hi]⟩
    obtain ⟨u, hu, ru⟩ := r.at hk
    have hl : vs.length = kvs.length := r.length.symm
    refine wpAny_pyNext_items_item (knd := mixKind X.prog X.w) (kvs := vs) (ok := ok) (ov := ov) (by rw [hl]; exact e) da hu fun key h1 hkey io ht hsz keep => ⟨_, rfl, ?_⟩
    refine wpAny_letOwnedTupleGo_items (i := i + 1) (n := vs.length) io fun h2 io2 sb => ?_
    have hp : s.heap.objs.size ≠ it := Nat.ne_of_gt (Heap.lt_size e)
    have I1 : Inv X pins σ (upd H s.heap.objs.size (.tup [kV k, v])) { s with heap := s.heap.push { cls := .type "tuple", data := .seq #[key, u] } } :=
      I.laid (t' := s.toks) (fun b q z => Heap.get?_push_of_some _ z) (Nat.le_refl _) ⟨by show 2 ≤ sizeLine; decide, [key, u], .cons (key_rel hkey) (.cons ru .nil), _, Heap.get?_push_size _ rfl, rfl, _, rfl⟩
    have I2 := I1.turned (h' := h2) (t' := s.toks) (it := it) (fun b q hb z => by
      refine sb.extBut b q hb ?_
      by_cases hbp : b = s.heap.objs.size
      · rw [hbp] at z ⊢
        rw [Heap.get?_push_size _ rfl] at z
        cases z
        exact ht
      · exact keep b q hb (by
          have := Heap.lt_size z
          rw [Heap.size_push] at this
          have lt : b < s.heap.objs.size := Nat.lt_of_le_of_ne (Nat.le_of_lt_succ this) hbp
          cases z' : s.heap.get? b with
          | some q' => rw [Heap.get?_push_of_some _ z'] at z; exact z
          | none =>
            exfalso
            have : (s.heap.push { cls := .type "tuple", data := .seq #[key, u] }).get? b = none := by
              simp only [Heap.get?, Heap.push] at z' ⊢
              rw [Array.getElem?_push_lt lt]
              rw [Array.getElem?_eq_getElem lt] at z'
              exact z'
            rw [this] at z; cases z)) (by rw [upd_ne (Ne.symm hp)]; exact f1) f2 f4 f5 f6
    exact ⟨.ref s.heap.objs.size, _, I2, rfl, ⟨_, k, v, hk, I.hok.fresh (Nat.le_refl _), rfl, rfl⟩, ⟨_, _, by rw [← hl]; exact io2⟩, fun b hb => by
      obtain rfl : b = it := by simpa using hb
      rw [upd_ne (Ne.symm hp)]; exact f1⟩
  done := by
    intro X e1 e2 e3 hc i pins s σ H E I fp ⟨ok, ov, e⟩ ⟨hz, hi⟩
    subst e1 e2 e3
    obtain ⟨f1, f2, f3, f4, f5, f6⟩ := fp it (by simp)
    obtain ⟨zl, _, vs, r, da⟩ := I.frozen hz hd
    have hl : vs.length = kvs.length := r.length.symm
    exact wpAny_pyNext_items_end (knd := mixKind X.prog X.w) (kvs := vs) (ok := ok) (ov := ov) (I.ok.hd hc) (by rw [hl]; exact e) da (List.getElem?_eq_none_iff.mpr (by omega)) fun h' hx => ⟨rfl, I.turned (t' := s.toks) (fun b q hb z => hx b q hb z) f1 f2 f4 f5 f6⟩
  self := fun A i s Q E ⟨ok, ov, e⟩ h => PySem.W.kcp_self e h
theorem turn_keys {P : Program} {w : World} {K : PySem.W.Frag} {tg : Expr} {a it : Addr} {o : Obj} {es : Array DictEntry} {ep : Nat} {kvs : List (Key × V)} (hd : o.data = .dict es ep) :
    Turn P w K tg (Itk a o kvs) [it] it (fun i h => h.IsKeyIter it a i kvs.length ep) where
  mem := by simp
  obj := fun i h ⟨q, e, c, d⟩ b hb => by
    obtain rfl : b = it := by simpa using hb
    exact ⟨_, e, fun v z => by rw [d] at z; cases z⟩
  keep := fun i h h' ⟨q, e, c⟩ k => ⟨q, k it (by simp) _ e, c⟩
  item := by
    intro X e1 e2 e3 hc i pins s σ H E I fp e ⟨hz, hi⟩
    subst e1 e2 e3
    obtain ⟨f1, f2, f3, f4, f5, f6⟩ := fp it (by simp)
    obtain ⟨zl, _, vs, r, da⟩ := I.frozen hz hd
    obtain ⟨⟨k, v⟩, hk⟩ : ∃ p, kvs[i]? = some p := ⟨kvs[i], by simp [hi]⟩
    obtain ⟨u, hu, ru⟩ := r.at hk
    have hl : vs.length = kvs.length := r.length.symm
    refine wpAny_pyNext_dict_item (knd := mixKind X.prog X.w) (kvs := vs) (by rw [hl]; exact e) da hu fun key h1 hkey io sb => ⟨_, rfl, ?_⟩
    have I2 : Inv X pins σ H { s with heap := h1 } := I.turned (h' := h1) (t' := s.toks) (it := it) (fun b q hb z => sb.extBut b q hb z) f1 f2 f4 f5 f6
    refine PyProof.Rows.letGo_keyiter io ⟨kV k, H, I2, key_rel hkey, ⟨k, v, hk, rfl, rfl⟩, by rw [← hl]; exact io, fun b hb => ?_⟩
    obtain rfl : b = it := by simpa using hb
    exact f1
  done := by
    intro X e1 e2 e3 hc i pins s σ H E I fp e ⟨hz, hi⟩
    subst e1 e2 e3
    obtain ⟨f1, f2, f3, f4, f5, f6⟩ := fp it (by simp)
    obtain ⟨zl, _, vs, r, da⟩ := I.frozen hz hd
    have hl : vs.length = kvs.length := r.length.symm
    exact wpAny_pyNext_dict_end (knd := mixKind X.prog X.w) (kvs := vs) (I.ok.hd hc) (by rw [hl]; exact e) da (List.getElem?_eq_none_iff.mpr (by omega)) fun h' hx => ⟨rfl, I.turned (t' := s.toks) (fun b q hb z => hx b q hb z) f1 f2 f4 f5 f6⟩
  self := fun A i s Q E e h => wpAny_pyIter_keyiter e h

section
variable {X : Cx} {tg : Expr}
/-- d.items(), the dict frozen ahead of the walk (or frozen already) -/
def iItems (X : Cx) (te : TE) : TI := fun σ H R => te σ H fun x H1 => ∃ a kvs, x = .ref a ∧
  ((H1 a = some (.dK kvs) ∧ ∀ o, (∀ o' u, X.H₀ a ≠ some (.frz o' u)) → R (Itd a o kvs) (upd H1 a (.frz o (.dK kvs)))) ∨ ∃ o, H1 a = some (.frz o (.dK kvs)) ∧ R (Itd a o kvs) H1)
def iKeys (X : Cx) (te : TE) : TI := fun σ H R => te σ H fun x H1 => ∃ a kvs, x = .ref a ∧
  ((H1 a = some (.dK kvs) ∧ ∀ o, (∀ o' u, X.H₀ a ≠ some (.frz o' u)) → R (Itk a o kvs) (upd H1 a (.frz o (.dK kvs)))) ∨ ∃ o, H1 a = some (.frz o (.dK kvs)) ∧ R (Itk a o kvs) H1)
theorem frz_data {pins : List (Addr × Obj)} {σ : St} {H : Hp} {s : Shared} {a : Addr} {o : Obj} {kvs : List (Key × V)} (I : Inv X pins σ H s) (e : H a = some (.frz o (.dK kvs))) : s.heap.get? a = some o ∧ ∃ es ep, o.data = .dict es ep := by
  obtain ⟨q, z, y, vs, r, o', es', ep', q', c1, c2, c3⟩ := I.hok a _ e
  rw [q] at q'
  cases q'
  exact ⟨q, es', ep', c2⟩
theorem pi_keys {l : Expr} {tl : TE} (hl : PE X l tl) : PI X tg l (iKeys X tl) := by
  intro pins s σ H R I h
  refine thn (hl pins s σ H _ I h) fun u s1 ⟨x, H1, I1, r1, a, kvs, e, q⟩ => ?_
  subst e
  obtain rfl : u = Value.ref a := r1
  have go : ∀ (o : Obj) (H2 : Hp), Inv X pins σ H2 s1 → H2 a = some (.frz o (.dK kvs)) → R (Itk a o kvs) H2 → wpAny (model X.prog X.w) X.A (pyIter (.ref a)) (PIE X pins σ tg R) X.xe s1 := fun o H2 I2 e2 q2 => by
    obtain ⟨g, es, ep, hd⟩ := frz_data I2 e2
    obtain ⟨zl, zm, vs, r, da⟩ := I2.frozen e2 hd
    have hlen : vs.length = kvs.length := r.length.symm
    refine wpAny_pyIter_dict (knd := mixKind X.prog X.w) zm da ?_
    have I3 := I2.kept (h' := s1.heap.push { cls := .type "dict_keyiterator", data := .fields #[.ref a, .int 0 0, .int vs.length 0, .int ep 0] }) (t' := s1.toks) fun b q z => Heap.get?_push_of_some _ z
    refine ⟨s1.heap.objs.size, [s1.heap.objs.size], _, Itk a o kvs, H2, rfl, I3, turn_keys hd, ⟨_, Heap.get?_push_size _ rfl, rfl, by rw [hlen]; rfl⟩, fun b hb => ?_, q2⟩
    obtain rfl : b = s1.heap.objs.size := by simpa using hb
    exact I2.fpOk (Nat.le_refl _) (I2.hok.fresh (Nat.le_refl _))
  rcases q with ⟨e1, q⟩ | ⟨o, e1, q⟩
  · obtain ⟨nf, o, g, I2⟩ := I1.freeze e1
    exact go o _ I2 upd_same (q o nf)
  · exact go o _ I1 e1 q
theorem pi_items {l : Expr} {tl : TE} {elts : List Expr} {kk : Nat} {tp apos cpos : Pos} (hl : PE X l tl) (hbase : attributeBase l "items" X.env (eval l X.env) = eval l X.env := by rfl) (hline : (apos.endLine == cpos.line) = true := by rfl) :
    PI X (.Tuple elts kk tp) (.Call (.Attribute l "items" apos) [] [] cpos) (iItems X tl) := by
  intro pins s σ H R I h
  refine wpAny_Call_method0_late hbase hline (thn (hl pins s σ H _ I h) fun u s1 ⟨x, H1, I1, r1, a, kvs, e, q⟩ => ?_)
  subst e
  obtain rfl : u = Value.ref a := r1
  have go : ∀ (o : Obj) (H2 : Hp), Inv X pins σ H2 s1 → H2 a = some (.frz o (.dK kvs)) → R (Itd a o kvs) H2 → MethodOn X.prog X.w X.A "items" cpos (.ref a) [] (fun v s2 => wpAny (model X.prog X.w) X.A (pyIter v) (PIE X pins σ (.Tuple elts kk tp) R) X.xe s2) X.xe s1 := fun o H2 I2 e2 q2 => by
    obtain ⟨g, es, ep, hd⟩ := frz_data I2 e2
    obtain ⟨zl, zm, vs, r, da⟩ := I2.frozen e2 hd
    have hlen : vs.length = kvs.length := r.length.symm
    obtain ⟨t1, t2, _⟩ := isD_at I2 (.inl ⟨kvs, .inr ⟨o, e2⟩⟩)
    refine ⟨"dict", _, PySem.F.plainAttrs_dict, PySem.F.slot_dict_items, PySem.F.type_dict_items, t1, t2, Calls.callWith_builtin rfl (PySem.evalArgs_none ?_)⟩
    refine call_meetsIn PySem.F.slot_dict_items t1 PySem.F.entry_dict_items (PySem.F.args_dict_items_1 _) (meets_dict_items (mixKind X.prog X.w) a zm) ⟨⟨vs, da.dictOf⟩, ?_⟩
    have I3 := I2.kept (h' := s1.heap.push { cls := .type "dict_items", data := .fields #[.ref a] }) (t' := s1.toks) fun b q z => Heap.get?_push_of_some _ z
    refine wpAny_pyIter_items (d := a) (kvs := vs) (ep := ep) (knd := mixKind X.prog X.w) ⟨_, Heap.get?_push_size _ rfl, rfl, rfl⟩ (da.push _) ?_
    have I4 := I3.kept (h' := (s1.heap.push { cls := .type "dict_items", data := .fields #[.ref a] }).push { cls := .type "dict_itemiterator", data := .fields #[.none, .bool false, .ref a, .int 0 0, .int vs.length 0, .int ep 0, .none, .none] }) (t' := s1.toks) fun b q z => Heap.get?_push_of_some _ z
    refine ⟨_, [_], _, Itd a o kvs, H2, rfl, I4, turn_items hd, ⟨.none, .none, by rw [← hlen]; exact Heap.get?_push_size _ rfl⟩, fun b hb => ?_, q2⟩
    rw [List.mem_singleton.mp hb]
    exact I3.fpOk (Nat.le_refl _) (I3.hok.fresh (Nat.le_refl _))
  rcases q with ⟨e1, q⟩ | ⟨o, e1, q⟩
  · obtain ⟨nf, o, g, I2⟩ := I1.freeze e1
    exact go o _ I2 upd_same (q o nf)
  · exact go o _ I1 e1 q

/-- behind a walk the dict may be changed again -/
def Th (X : Cx) (H : Hp) (R : Hp → Prop) : Prop := ∃ a o kvs, H a = some (.frz o (.dK kvs)) ∧ (∀ o' u, X.H₀ a ≠ some (.frz o' u)) ∧ R (upd H a (.dK kvs))
theorem ps_thaw {st : Stmt} {t : TS} (h : PS X st t) : PS X st (fun D σ H => t { D with nx := fun σ' H' => Th X H' fun H'' => D.nx σ' H'', rt := fun v H' => Th X H' fun H'' => D.rt v H'' } σ H) := by
  intro pins s σ H D I q
  refine thn (h pins s σ H _ I q) fun f s1 z => ?_
  cases f with
  | next => obtain ⟨σ1, H1, I1, a, o, kvs, e, nf, r⟩ := z; exact ⟨σ1, _, I1.thaw nf e, r⟩
  | ret u => obtain ⟨v, σ1, H1, I1, rv, a, o, kvs, e, nf, r⟩ := z; exact ⟨v, σ1, _, I1.thaw nf e, rv, r⟩
  | brk => exact z
  | cont => exact z
theorem pe_thaw {e : Expr} {t : TE} (h : PE X e t) : PE X e (fun σ H Q => t σ H fun v H' => Th X H' fun H'' => Q v H'') := by
  intro pins s σ H Q I q
  refine thn (h pins s σ H _ I q) fun u s1 z => ?_
  obtain ⟨v, H1, I1, rv, a, o, kvs, e, nf, r⟩ := z
  exact ⟨v, _, I1.thaw nf e, rv, r⟩
end
end L2

set_option Elab.async false
set_option linter.all false
set_option maxRecDepth 100000
/-! comprehensions over the hand layer -/
namespace L2
open PySem PySem.Spec PyProof.Rows

/-- the block's names: targets, then captured ones -/
def capOk (X : Cx) (scope : Scope) (cl : List (Str × Addr)) : List Str → List Nat → Prop
  | [], [] => True
  | x :: xs, j :: js => (X.N[j]? = some x ∧ Vis X.env.scope x ∧ (X.env.kindOf x = some .cell ∨ X.env.kindOf x = some .free) ∧ ((relabel scope X.env).names.lookup x = some .cell ∨ (relabel scope X.env).names.lookup x = some .free) ∧ cl.lookup x = X.env.cells.lookup x) ∧ capOk X scope cl xs js
  | _, _ => False
def capSt (σ : St) (js : List Nat) : St := js.map fun j => (σ[j]?).join
theorem capOk.len {X : Cx} {scope : Scope} {cl : List (Str × Addr)} : ∀ {xs : List Str} {js : List Nat}, capOk X scope cl xs js → xs.length = js.length
  | [], [], _ => rfl
  | _ :: xs, _ :: js, h => by simp [capOk.len h.2]
theorem capOk.get {X : Cx} {scope : Scope} {cl : List (Str × Addr)} : ∀ {xs : List Str} {js : List Nat} {k : Nat} {x : Str}, capOk X scope cl xs js → xs[k]? = some x → ∃ j, js[k]? = some j ∧ X.N[j]? = some x ∧ Vis X.env.scope x ∧
    (X.env.kindOf x = some .cell ∨ X.env.kindOf x = some .free) ∧ ((relabel scope X.env).names.lookup x = some .cell ∨ (relabel scope X.env).names.lookup x = some .free) ∧ cl.lookup x = X.env.cells.lookup x
  | [], [], _, _, _, e => by simp at e
  | y :: xs, j :: js, 0, x, h, e => by
    simp at e
    subst e
    exact ⟨j, rfl, h.1⟩
  | y :: xs, j :: js, k + 1, x, h, e => by
    obtain ⟨j', h1, h2⟩ := capOk.get (k := k) h.2 (by simpa using e)
    exact ⟨j', by simpa using h1, h2⟩

abbrev compCx (X : Cx) (scope : Scope) (cl : List (Str × Addr)) (N' : List Str) (fp : List Addr) (s3 : Shared) (H2 : Hp) : Cx :=
  { X with N := N', s₀ := s3, H₀ := H2, env := compEnvC scope cl s3.heap.objs.size X.env, outer := X.stack, stack := X.stack, ex := fp, fn := fun _ => false, pn := [], xe := fun _ _ => False, kn := [] }

/-- what is seen of the text of a comprehension -/
structure CompTxt (X : Cx) (scope : Scope) (cl : List (Str × Addr)) (ts xs : List Str) (js : List Nat) : Prop where
  clos : closureFor scope X.env = pure cl
  ncell : ∀ y ∈ scope.names, y.2 ≠ .cell
  kind : scope.kind = .function
  names : ∀ y ∈ scope.names, y.2 = .local → scope.names.lookup y.1 = some .local
  sub : ∀ p ∈ cl, X.env.cells.lookup p.1 = some p.2
  has : (scope.names.filter fun y => y.2 == .free).all (fun y => (cl.map (·.1)).contains y.1) = true
  cap : capOk X scope cl xs js

def tYes : TT := fun _ H Q => Q true H
/-- the reading's part behind the walk's begin -/
def CompGo (p : Addr) (J : It) (g : TG) (tc : TT) (te : TE) (Q : VK) (W : Nat → Nat → St → Hp → List V → Prop) : Prop :=
  ∀ i m σ2 H2 acc, W i m σ2 H2 acc → H2 p = some (.lst acc) ∧ ((J.stop i H2 ∧ Q (.ref p) H2) ∨ (J.go i H2 ∧ ∃ N : St → Hp → List V → Prop, (∀ σ' H' acc', N σ' H' acc' → ∃ m', m' < m ∧ W (i + 1) m' σ' H' acc') ∧ ∀ x H3, J.yld i H2 x H3 → g x σ2 H3 fun σ4 H4 => tc σ4 H4 fun ok H5 =>
      if ok = true then te σ4 H5 fun y H6 => H6 p = some (.lst acc) ∧ acc.length < sizeLine ∧ N σ4 (upd H6 p (.lst (acc ++ [y]))) (acc ++ [y]) else N σ4 H5 acc))
/-- [elt for g in wi if tc] -/
def tComp (nt : Nat) (js : List Nat) (wi : TI) (g : TG) (tc : TT) (te : TE) : TE := fun σ H Q => wi σ H fun J H1 => ∀ p, H1 p = none →
  ∃ W : Nat → Nat → St → Hp → List V → Prop, (∃ m, W 0 m (List.replicate nt none ++ capSt σ js) (upd H1 p (.lst [])) []) ∧ CompGo p J g tc te Q W

section
variable {X : Cx} {pins : List (Addr × Obj)} {σ : St} {H1 : Hp} {s2 : Shared} {scope : Scope} {cl : List (Str × Addr)} {ts xs : List Str} {js : List Nat} {fp : List Addr} {it : Addr} {tn : Nat → Heap → Prop} {J : It} {tg : Expr}
/-- the block begins -/
theorem comp_start {s3 : Shared} {h4 : Heap} {tk : Nat} {H2 : Hp} (C : CompTxt X scope cl ts xs js) (I3 : Inv X pins σ H2 s3) (fo : ∀ b ∈ fp, FpOk X pins H2 b) (fl : ∀ b ∈ fp, b < s3.heap.objs.size)
    (ns : ∃ m, h4.Ns s3.heap.objs.size m) (k : ∀ b o, s3.heap.get? b = some o → h4.get? b = some o) :
    Inv (compCx X scope cl (ts ++ xs) fp s3 H2) [] (List.replicate ts.length none ++ capSt σ js) H2 { s3 with heap := h4, toks := tk } := by
  have lk : ∀ x c, cl.lookup x = some c → X.env.cells.lookup x = some c := fun x c e => C.sub (x, c) (PySem.mem_of_lookup e)
  have clt : ∀ x c, X.env.cells.lookup x = some c → c < s3.heap.objs.size := fun x c e => by
    obtain ⟨v, o, ho, _⟩ := I3.cell x c e
    exact Heap.lt_size ho
  have hasC : ∀ x, ((relabel scope X.env).names.lookup x = some .cell ∨ (relabel scope X.env).names.lookup x = some .free) → ∃ c, cl.lookup x = some c := fun x h => by
    have hfree : (x, NameKind.free) ∈ scope.names := by
      obtain ⟨k, hk, hm⟩ : ∃ k, (k = .cell ∨ k = .free) ∧ (x, k) ∈ (relabel scope X.env).names := by
        rcases h with h | h
        · exact ⟨_, .inl rfl, PySem.mem_of_lookup h⟩
        · exact ⟨_, .inr rfl, PySem.mem_of_lookup h⟩
      obtain ⟨⟨n, k'⟩, hm', e⟩ := List.mem_map.mp hm
      have nc := C.ncell _ hm'
      dsimp only at e nc
      split at e
      · rename_i c
        cases e
        simp only [Bool.and_eq_true, beq_iff_eq] at c
        rw [← c.1.1]
        exact hm'
      · cases e
        rcases hk with rfl | rfl
        · exact absurd rfl nc
        · exact hm'
    have q := List.all_eq_true.mp C.has _ (List.mem_filter.mpr ⟨hfree, rfl⟩)
    have q : x ∈ cl.map (·.1) := by simpa using q
    obtain ⟨⟨y, c⟩, hy, rfl⟩ := List.mem_map.mp q
    cases z : cl.lookup y with
    | some c' => exact ⟨c', rfl⟩
    | none =>
      exfalso
      have := List.lookup_eq_none_iff.mp z (y, c) hy
      simp at this
  obtain ⟨m, hm⟩ := ns
  refine ⟨⟨I3.ok.mod, C.kind, I3.ok.glob, I3.ok.blt, Nat.le_refl _, fun x y c h1 h2 => I3.ok.inj x y c (lk x c h1) (lk y c h2), fun x h => hasC x h, (fun x c h => nomatch h), I3.ok.hd, I3.ok.frames, .inl rfl, fun b hb => ⟨Nat.ne_of_lt (fl b hb), fun x c e => (fo b hb).2.2.2.2.1 x c (lk x c e)⟩,
      I3.bs, Nat.le_trans I3.ok.bsz I3.sz, fun b o e hb => ?_, fun b hb hf => ?_, I3.stack, I3.stkFree⟩,
    rfl, I3.bare, Un.kept k, ⟨m, hm, fun i x v e1 e2 e3 => ?_⟩, fun x c e => ?_, I3.hok.fresh (Nat.le_refl _), fun x c e => I3.freeC x c (lk x c e), fun p hp => absurd hp (by simp), I3.hok.kept k, ?_, (fun i v e => nomatch (show (none : Option (Option V)) = some (some v) from e))⟩
  · rcases (fo b hb).2.2.2.1 with z | z
    · exact I3.ok.noex b o e z
    · exact absurd (Nat.lt_of_lt_of_le (Heap.lt_size (I3.ok.bs b o e).1) z) (Nat.lt_irrefl _)
  · rcases List.mem_cons.mp (I3.stkSub b hf) with z | z
    · exact (fo b hb).2.1 z
    · exact (fo b hb).2.2.1 z
  · by_cases hi : i < ts.length
    · rw [List.getElem?_append_left (by simpa using hi), List.getElem?_replicate] at e2
      split at e2 <;> cases e2
    · have hi : ts.length ≤ i := Nat.not_lt.mp hi
      rw [List.getElem?_append_right hi] at e1
      rw [List.getElem?_append_right (by simpa using hi), List.length_replicate] at e2
      obtain ⟨j, hj, hN, hv, hk, hk2, hc⟩ := C.cap.get e1
      unfold capSt at e2
      rw [List.getElem?_map, hj] at e2
      have e2 : (σ[j]?).join = some v := by simpa using e2
      have e4 : σ[j]? = some (some v) := by
        cases q : σ[j]? with
        | none => rw [q] at e2; cases e2
        | some o => rw [q] at e2; exact congrArg some e2
      obtain ⟨m0, _, hl⟩ := I3.loc
      obtain ⟨u, ru, l⟩ := hl j x v hN e4 hv
      refine ⟨u, ru, .inr ⟨hk2, ?_⟩⟩
      rcases l with ⟨z, _⟩ | ⟨_, c, ec, cc⟩
      · rcases hk with hk | hk <;> (rw [z] at hk; cases hk)
      · obtain ⟨oc, ho, hd⟩ := cc
        exact ⟨c, hc.trans ec, oc, k _ _ ho, hd⟩
  · obtain ⟨v, o, ho, hd⟩ := I3.cell x c (lk x c e)
    exact ⟨v, o, k _ _ ho, hd⟩
  · show (List.replicate ts.length none ++ capSt σ js).length = (ts ++ xs).length
    rw [List.length_append, List.length_replicate, List.length_append, C.cap.len]
    simp [capSt]
/-- the block's end, for the frame around it -/
theorem comp_end {s3 : Shared} {H2 H' : Hp} {s' : Shared} {σ' : St} (I3 : Inv X pins σ H2 s3) (fo : ∀ b ∈ fp, FpOk X pins H2 b) (Ic : Inv (compCx X scope cl (ts ++ xs) fp s3 H2) [] σ' H' s') :
    Inv X pins σ H' s' ∧ (∃ m, s'.heap.Ns s3.heap.objs.size m) ∧ H' s3.heap.objs.size = none :=
  ⟨I3.call' Ic.os Ic.base Ic.hok Ic.bare fun b hb => let ⟨_, f2, _, f4, f5, f6⟩ := fo b hb; ⟨f4, f2, f5, f6⟩, let ⟨m, hm, _⟩ := Ic.loc; ⟨m, hm⟩, Ic.free⟩

variable {elt iter c : Expr} {pos : Pos} {g : TG} {tc : TT} {te : TE} {Q : VK}
/-- what holds between two turns -/
def CompInv (Xc : Cx) (fp : List Addr) (tn : Nat → Heap → Prop) (W : Nat → Nat → St → Hp → List V → Prop) (n : Nat) (s' : Shared) : Prop :=
  ∃ i σ' H' acc, Inv Xc [] σ' H' s' ∧ tn i s'.heap ∧ (∀ b ∈ fp, H' b = none) ∧ W i n σ' H' acc
/-- one turn: to the test -/
theorem comp_turn {Xc : Cx} {p : Addr} {W : Nat → Nat → St → Hp → List V → Prop} {n : Nat} {s' : Shared} {E : Value → Shared → Prop} {R : Option Value → Shared → Prop} (hc : Xc.calm = true) (T : Turn Xc.prog Xc.w Xc.K tg J fp it tn) (go : CompGo p J g tc te Q W)
    (hg : PG Xc tg g) (hxe : Xc.xe = fun _ _ => False) (fo : ∀ {H' : Hp} {b : Addr}, H' b = none → b ∈ fp → FpOk Xc [] H' b) (h : CompInv Xc fp tn W n s')
    (hend : ∀ σ' H' s1, Inv Xc [] σ' H' s1 → Q (.ref p) H' → R none s1)
    (hsome : ∀ v s1, wpAny (model Xc.prog Xc.w) Xc.A (letOwnedTupleGo tg (.ref it) v) (fun _ s2 => wpAny (model Xc.prog Xc.w) Xc.A (assign tg Xc.env v) (fun _ s3 => ∃ (i : Nat) (pins : List (Addr × Obj)) (acc : List V) (σ4 : St) (H4 : Hp) (N : St → Hp → List V → Prop), Inv Xc pins σ4 H4 s3 ∧ (∀ σ' H' acc', N σ' H' acc' → ∃ m', m' < n ∧ W (i + 1) m' σ' H' acc') ∧
        (∀ b ∈ fp, ∃ o, (b, o) ∈ pins ∧ s3.heap.get? b = some o) ∧ (∀ h', (∀ b ∈ fp, ∀ o, s3.heap.get? b = some o → h'.get? b = some o) → tn (i + 1) h') ∧
        tc σ4 H4 fun ok H5 => if ok = true then te σ4 H5 fun y H6 => H6 p = some (.lst acc) ∧ acc.length < sizeLine ∧ N σ4 (upd H6 p (.lst (acc ++ [y]))) (acc ++ [y]) else N σ4 H5 acc) E s2) E s1 → R (some v) s1) :
    wpAny (model Xc.prog Xc.w) Xc.A (pyNext (.ref it)) R E s' := by
  obtain ⟨i, σ', H', acc, I, st, fr, w⟩ := h
  obtain ⟨hp, cs⟩ := go i n σ' H' acc w
  rcases cs with ⟨stop, q⟩ | ⟨gg, N, hN, step⟩
  · refine thn (T.done Xc rfl rfl rfl hc i [] s' σ' H' E I (fun b hb => fo (fr b hb) hb) st stop) fun r s1 ⟨hr, I1⟩ => ?_
    subst hr
    exact hend σ' H' s1 I1 q
  · refine thn (T.item Xc rfl rfl rfl hc i [] s' σ' H' E I (fun b hb => fo (fr b hb) hb) st gg) fun r s1 ⟨u, hr, h1⟩ => ?_
    subst hr
    refine hsome u s1 (thn h1 fun _ s2 ⟨x, H3, I3, r3, y3, st3, fr3⟩ => ?_)
    have I3' := I3.pinned (fun b hb => fo (fr3 b hb) hb) (T.obj _ _ st3)
    refine wpAny_mono (hg _ s2 σ' H3 x u _ I3' r3 (step x H3 y3)) (fun _ s3 ⟨σ4, H4, I4, q4⟩ => ?_) fun e s z => by rw [hxe] at z; exact z.elim
    have pn : ∀ b ∈ fp, ∀ o, s2.heap.get? b = some o → s3.heap.get? b = some o := fun b hb o e => (I4.pin (b, o) (List.mem_append_right _ (List.mem_append_right _ (mem_pinsAt hb e)))).1
    refine ⟨i, _, acc, σ4, H4, N, I4, hN, fun b hb => ?_, fun h' k => T.keep _ _ _ st3 fun b hb o e => k b hb o (pn b hb o e), q4⟩
    obtain ⟨o, e, _⟩ := T.obj _ _ st3 b hb
    exact ⟨o, List.mem_append_right _ (mem_pinsAt hb e), pn b hb o e⟩

theorem comp_coreT (hc : X.calm = true) (C : CompTxt X scope cl ts xs js) (I2 : Inv X pins σ H1 s2) (T : Turn X.prog X.w X.K tg J fp it tn) (st : tn 0 s2.heap) (fo : ∀ b ∈ fp, FpOk X pins H1 b)
    (q : ∀ p, H1 p = none → ∃ W : Nat → Nat → St → Hp → List V → Prop, (∃ m, W 0 m (List.replicate ts.length none ++ capSt σ js) (upd H1 p (.lst [])) []) ∧ CompGo p J g tc te Q W)
    (hg : ∀ fp s3 H2, PG (compCx X scope cl (ts ++ xs) fp s3 H2) tg g) (ht : ∀ fp s3 H2, PT (compCx X scope cl (ts ++ xs) fp s3 H2) c tc) (he : ∀ fp s3 H2, PE (compCx X scope cl (ts ++ xs) fp s3 H2) elt te)
    {RR : Value → Addr → Result → Shared → Prop} (hRR : ∀ p C H' s', Inv X pins σ H' s' → (∃ m, s'.heap.Ns C m) → H' C = none → s2.heap.objs.size ≤ C → Q (.ref p) H' → RR (.ref p) C (.ok .next) s') :
    wpAny (model X.prog X.w) X.A (newList []) (fun acc s3 => wpAny (model X.prog X.w) X.A (newFunctionEnv scope X.env.globals cl [] X.env.qual none .none (some X.env)) (fun cenv s4 =>
      codeAny (model X.prog X.w) X.A (.compStart (.ListComp elt [⟨tg, iter, [c], 0⟩] scope pos) 0 (.ref it) acc { cenv with scope := relabel scope X.env }) (RR acc cenv.locals) s4) X.xe s3) X.xe s2 := by
  refine wpAny_newObj_type (wpAny_newFunctionEnv C.ncell (by intro y hy; simp at hy) (fun h4 ns4 sb4 => ?_) C.kind)
  dsimp only at ns4 sb4 ⊢
  have I3 : Inv X pins σ (upd H1 s2.heap.objs.size (.lst [])) { s2 with heap := s2.heap.push { cls := .type "list", data := .seq ([] : List Value).toArray } } :=
    I2.laid (t' := s2.toks) (fun b o e => Heap.get?_push_of_some _ e) (Nat.le_refl _) ⟨Nat.zero_le _, [], _, .nil, Heap.get?_push_size _ rfl⟩
  generalize hs3 : ({ s2 with heap := s2.heap.push { cls := .type "list", data := .seq ([] : List Value).toArray } } : Shared) = s3 at I3
  have hsz : s3.heap.objs.size = s2.heap.objs.size + 1 := by rw [← hs3]; exact Heap.size_push ..
  have hp3 : s2.heap.push { cls := .type "list", data := .seq ([] : List Value).toArray } = s3.heap := by rw [← hs3]
  obtain ⟨W, ⟨m0, w0⟩, go⟩ := q s2.heap.objs.size (I2.hok.fresh (Nat.le_refl _))
  have fl : ∀ b ∈ fp, b < s2.heap.objs.size := fun b hb => by
    obtain ⟨o, e, _⟩ := T.obj _ _ st b hb
    exact Heap.lt_size e
  have fo3 : ∀ b ∈ fp, FpOk X pins (upd H1 s2.heap.objs.size (.lst [])) b := fun b hb => ⟨by rw [upd_ne (Nat.ne_of_lt (fl b hb))]; exact (fo b hb).1, (fo b hb).2⟩
  have k4 : ∀ b o, s3.heap.get? b = some o → h4.get? b = some o := fun b o e => by
    have hb : b ≠ s3.heap.objs.size := Nat.ne_of_lt (Heap.lt_size e)
    rw [hp3] at sb4
    exact sb4.extBut b o hb (Heap.get?_push_of_some _ e)
  rw [hp3] at ns4
  have k24 : ∀ b o, s2.heap.get? b = some o → h4.get? b = some o := fun b o e => k4 b o (by rw [← hp3]; exact Heap.get?_push_of_some _ e)
  have st4 : tn 0 h4 := T.keep _ _ _ st fun b _ o e => k24 b o e
  have Ic : Inv (compCx X scope cl (ts ++ xs) fp s3 (upd H1 s2.heap.objs.size (.lst []))) [] _ (upd H1 s2.heap.objs.size (.lst [])) { s3 with heap := h4, toks := s3.toks + ([] : List (Str × Value)).length } :=
    comp_start C I3 fo3 (fun b hb => by rw [hsz]; exact Nat.lt_succ_of_lt (fl b hb)) ⟨_, ns4⟩ k4
  have fo' : ∀ {H' : Hp} {b : Addr}, H' b = none → b ∈ fp → FpOk (compCx X scope cl (ts ++ xs) fp s3 (upd H1 s2.heap.objs.size (.lst []))) [] H' b := fun {H' b} n hb =>
    ⟨n, Nat.ne_of_lt (show b < s3.heap.objs.size by rw [hsz]; exact Nat.lt_succ_of_lt (fl b hb)), fun hf => (Ic.ok.exfs b hb) hf, .inl hb, fun x c e => (Ic.ok.exf b hb).2 x c e, fun p hp => absurd hp (by simp)⟩
  have loop : ∀ s4 : Shared, s4 = { s3 with heap := h4, toks := s3.toks + ([] : List (Str × Value)).length } → codeAny (model X.prog X.w) X.A (.compLoop (.ListComp elt [⟨tg, iter, [c], 0⟩] scope pos) 0 (.ref it) (.ref s2.heap.objs.size) (compEnvC scope cl s3.heap.objs.size X.env)) (RR (.ref s2.heap.objs.size) s3.heap.objs.size) s4 := by
    rintro s4 rfl
    refine PySem.W.kct_loop (CompInv (compCx X scope cl (ts ++ xs) fp s3 (upd H1 s2.heap.objs.size (.lst []))) fp tn W) (fun n s' hI => ?_) m0 ⟨0, _, _, [], Ic, st4, fun b hb => (fo3 b hb).1, w0⟩
    refine comp_turn (Xc := compCx X scope cl (ts ++ xs) fp s3 (upd H1 s2.heap.objs.size (.lst []))) hc T go (hg _ _ _) rfl fo' hI (fun σ' H' s1 I1 q1 => ?_) (fun v s1 h1 => ?_)
    · obtain ⟨J1, J2, J3⟩ := comp_end I3 fo3 I1
      exact hRR _ _ H' s1 J1 J2 J3 (by rw [hsz]; exact Nat.le_succ _) q1
    · refine thn h1 fun _ s5 h5 => thn h5 fun _ s6 h6 => ?_
      obtain ⟨i, pins', acc, σ4, H4, N, I4, hN, pin4, keep4, q4⟩ := h6
      have fin : ∀ {H7 : Hp} {s7 : Shared} {acc' : List V}, Inv (compCx X scope cl (ts ++ xs) fp s3 (upd H1 s2.heap.objs.size (.lst []))) pins' σ4 H7 s7 → N σ4 H7 acc' → ∃ m, m < n ∧ CompInv (compCx X scope cl (ts ++ xs) fp s3 (upd H1 s2.heap.objs.size (.lst []))) fp tn W m s7 := fun {H7 s7 acc'} I7 n7 => by
        obtain ⟨m', hm, w7⟩ := hN _ _ _ n7
        refine ⟨m', hm, i + 1, σ4, H7, acc', I7.pins_of (fun p hp => absurd hp (by simp)), keep4 _ fun b hb o e => ?_, fun b hb => ?_, w7⟩
        · obtain ⟨o', hm', e'⟩ := pin4 b hb
          rw [e] at e'
          cases e'
          exact (I7.pin (b, o) (List.mem_append_right _ hm')).1
        · obtain ⟨o', hm', e'⟩ := pin4 b hb
          exact (I7.pin (b, o') (List.mem_append_right _ hm')).2.1
      refine wpAny_mono (ht fp s3 _ pins' s6 σ4 H4 _ I4 q4) (fun ok s7 ⟨H7, I7, q7⟩ => ?_) fun _ _ z => z.elim
      cases ok with
      | false =>
        have n7 : N σ4 H7 acc := by simpa using q7
        have := fin I7 n7
        simpa using this
      | true =>
        have q7 := (if_pos (c := (true = true)) rfl).mp q7
        show wpAny _ _ (eval elt _) _ _ _
        refine wpAny_mono (he fp s3 _ pins' s7 σ4 H7 _ I7 q7) (fun y s8 ⟨yv, H8, I8, ry, e8, l8, n8⟩ => ?_) fun _ _ z => z.elim
        refine wpAny_mono (mt_append (X := compCx X scope cl (ts ++ xs) fp s3 (upd H1 s2.heap.objs.size (.lst []))) pins' s8 σ4 H8 (.ref s2.heap.objs.size) [yv] (.ref s2.heap.objs.size) [y] (fun _ H9 => H9 = upd H8 s2.heap.objs.size (.lst (acc ++ [yv]))) I8 rfl (.cons ry .nil) ⟨_, acc, yv, rfl, rfl, e8, l8, rfl⟩) (fun _ s9 ⟨_, H9, I9, _, e9⟩ => ?_) fun _ _ z => z.elim
        subst e9
        exact fin I9 n8

  have hself := T.self X.A 0 { s3 with heap := h4, toks := s3.toks + ([] : List (Str × Value)).length } (fun it' s' => codeAny (model X.prog X.w) X.A (.compLoop (.ListComp elt [⟨tg, iter, [c], 0⟩] scope pos) 0 it' (.ref s2.heap.objs.size) (compEnvC scope cl s3.heap.objs.size X.env)) (RR (.ref s2.heap.objs.size) s3.heap.objs.size) s') (notedBy (model X.prog X.w) X.A (compEnvC scope cl s3.heap.objs.size X.env) fun x s' => RR (.ref s2.heap.objs.size) s3.heap.objs.size (.error x) s') st4 (loop _ rfl)
  subst hs3
  exact codeAny_compStart_list (loop _ rfl) hself

theorem comp_core0 (hc : X.calm = true) (C : CompTxt X scope cl ts xs js) (I2 : Inv X pins σ H1 s2) (T : Turn X.prog X.w X.K tg J fp it tn) (st : tn 0 s2.heap) (fo : ∀ b ∈ fp, FpOk X pins H1 b)
    (q : ∀ p, H1 p = none → ∃ W : Nat → Nat → St → Hp → List V → Prop, (∃ m, W 0 m (List.replicate ts.length none ++ capSt σ js) (upd H1 p (.lst [])) []) ∧ CompGo p J g tYes te Q W)
    (hg : ∀ fp s3 H2, PG (compCx X scope cl (ts ++ xs) fp s3 H2) tg g) (he : ∀ fp s3 H2, PE (compCx X scope cl (ts ++ xs) fp s3 H2) elt te)
    {RR : Value → Addr → Result → Shared → Prop} (hRR : ∀ p C H' s', Inv X pins σ H' s' → (∃ m, s'.heap.Ns C m) → H' C = none → s2.heap.objs.size ≤ C → Q (.ref p) H' → RR (.ref p) C (.ok .next) s') :
    wpAny (model X.prog X.w) X.A (newList []) (fun acc s3 => wpAny (model X.prog X.w) X.A (newFunctionEnv scope X.env.globals cl [] X.env.qual none .none (some X.env)) (fun cenv s4 =>
      codeAny (model X.prog X.w) X.A (.compStart (.ListComp elt [⟨tg, iter, [], 0⟩] scope pos) 0 (.ref it) acc { cenv with scope := relabel scope X.env }) (RR acc cenv.locals) s4) X.xe s3) X.xe s2 := by
  refine wpAny_newObj_type (wpAny_newFunctionEnv C.ncell (by intro y hy; simp at hy) (fun h4 ns4 sb4 => ?_) C.kind)
  dsimp only at ns4 sb4 ⊢
  have I3 : Inv X pins σ (upd H1 s2.heap.objs.size (.lst [])) { s2 with heap := s2.heap.push { cls := .type "list", data := .seq ([] : List Value).toArray } } :=
    I2.laid (t' := s2.toks) (fun b o e => Heap.get?_push_of_some _ e) (Nat.le_refl _) ⟨Nat.zero_le _, [], _, .nil, Heap.get?_push_size _ rfl⟩
  generalize hs3 : ({ s2 with heap := s2.heap.push { cls := .type "list", data := .seq ([] : List Value).toArray } } : Shared) = s3 at I3
  have hsz : s3.heap.objs.size = s2.heap.objs.size + 1 := by rw [← hs3]; exact Heap.size_push ..
  have hp3 : s2.heap.push { cls := .type "list", data := .seq ([] : List Value).toArray } = s3.heap := by rw [← hs3]
  obtain ⟨W, ⟨m0, w0⟩, go⟩ := q s2.heap.objs.size (I2.hok.fresh (Nat.le_refl _))
  have fl : ∀ b ∈ fp, b < s2.heap.objs.size := fun b hb => by
    obtain ⟨o, e, _⟩ := T.obj _ _ st b hb
    exact Heap.lt_size e
  have fo3 : ∀ b ∈ fp, FpOk X pins (upd H1 s2.heap.objs.size (.lst [])) b := fun b hb => ⟨by rw [upd_ne (Nat.ne_of_lt (fl b hb))]; exact (fo b hb).1, (fo b hb).2⟩
  have k4 : ∀ b o, s3.heap.get? b = some o → h4.get? b = some o := fun b o e => by
    have hb : b ≠ s3.heap.objs.size := Nat.ne_of_lt (Heap.lt_size e)
    rw [hp3] at sb4
    exact sb4.extBut b o hb (Heap.get?_push_of_some _ e)
  rw [hp3] at ns4
  have k24 : ∀ b o, s2.heap.get? b = some o → h4.get? b = some o := fun b o e => k4 b o (by rw [← hp3]; exact Heap.get?_push_of_some _ e)
  have st4 : tn 0 h4 := T.keep _ _ _ st fun b _ o e => k24 b o e
  have Ic : Inv (compCx X scope cl (ts ++ xs) fp s3 (upd H1 s2.heap.objs.size (.lst []))) [] _ (upd H1 s2.heap.objs.size (.lst [])) { s3 with heap := h4, toks := s3.toks + ([] : List (Str × Value)).length } :=
    comp_start C I3 fo3 (fun b hb => by rw [hsz]; exact Nat.lt_succ_of_lt (fl b hb)) ⟨_, ns4⟩ k4
  have fo' : ∀ {H' : Hp} {b : Addr}, H' b = none → b ∈ fp → FpOk (compCx X scope cl (ts ++ xs) fp s3 (upd H1 s2.heap.objs.size (.lst []))) [] H' b := fun {H' b} n hb =>
    ⟨n, Nat.ne_of_lt (show b < s3.heap.objs.size by rw [hsz]; exact Nat.lt_succ_of_lt (fl b hb)), fun hf => (Ic.ok.exfs b hb) hf, .inl hb, fun x c e => (Ic.ok.exf b hb).2 x c e, fun p hp => absurd hp (by simp)⟩
  have loop : ∀ s4 : Shared, s4 = { s3 with heap := h4, toks := s3.toks + ([] : List (Str × Value)).length } → codeAny (model X.prog X.w) X.A (.compLoop (.ListComp elt [⟨tg, iter, [], 0⟩] scope pos) 0 (.ref it) (.ref s2.heap.objs.size) (compEnvC scope cl s3.heap.objs.size X.env)) (RR (.ref s2.heap.objs.size) s3.heap.objs.size) s4 := by
    rintro s4 rfl
    refine PySem.W.kcp_loop (CompInv (compCx X scope cl (ts ++ xs) fp s3 (upd H1 s2.heap.objs.size (.lst []))) fp tn W) (fun n s' hI => ?_) m0 ⟨0, _, _, [], Ic, st4, fun b hb => (fo3 b hb).1, w0⟩
    refine comp_turn (Xc := compCx X scope cl (ts ++ xs) fp s3 (upd H1 s2.heap.objs.size (.lst []))) hc T go (hg _ _ _) rfl fo' hI (fun σ' H' s1 I1 q1 => ?_) (fun v s1 h1 => ?_)
    · obtain ⟨J1, J2, J3⟩ := comp_end I3 fo3 I1
      exact hRR _ _ H' s1 J1 J2 J3 (by rw [hsz]; exact Nat.le_succ _) q1
    · refine thn h1 fun _ s5 h5 => thn h5 fun _ s6 h6 => ?_
      obtain ⟨i, pins', acc, σ4, H4, N, I4, hN, pin4, keep4, q4⟩ := h6
      have fin : ∀ {H7 : Hp} {s7 : Shared} {acc' : List V}, Inv (compCx X scope cl (ts ++ xs) fp s3 (upd H1 s2.heap.objs.size (.lst []))) pins' σ4 H7 s7 → N σ4 H7 acc' → ∃ m, m < n ∧ CompInv (compCx X scope cl (ts ++ xs) fp s3 (upd H1 s2.heap.objs.size (.lst []))) fp tn W m s7 := fun {H7 s7 acc'} I7 n7 => by
        obtain ⟨m', hm, w7⟩ := hN _ _ _ n7
        refine ⟨m', hm, i + 1, σ4, H7, acc', I7.pins_of (fun p hp => absurd hp (by simp)), keep4 _ fun b hb o e => ?_, fun b hb => ?_, w7⟩
        · obtain ⟨o', hm', e'⟩ := pin4 b hb
          rw [e] at e'
          cases e'
          exact (I7.pin (b, o) (List.mem_append_right _ hm')).1
        · obtain ⟨o', hm', e'⟩ := pin4 b hb
          exact (I7.pin (b, o') (List.mem_append_right _ hm')).2.1
      have q4 : te σ4 H4 (fun y H6 => H6 s2.heap.objs.size = some (.lst acc) ∧ acc.length < sizeLine ∧ N σ4 (upd H6 s2.heap.objs.size (.lst (acc ++ [y]))) (acc ++ [y])) := by
        have z := q4
        unfold tYes at z
        dsimp only at z
        rw [if_pos rfl] at z
        exact z
      refine wpAny_mono (he fp s3 _ pins' s6 σ4 H4 _ I4 q4) (fun y s8 ⟨yv, H8, I8, ry, e8, l8, n8⟩ => ?_) fun _ _ z => z.elim
      refine wpAny_mono (mt_append (X := compCx X scope cl (ts ++ xs) fp s3 (upd H1 s2.heap.objs.size (.lst []))) pins' s8 σ4 H8 (.ref s2.heap.objs.size) [yv] (.ref s2.heap.objs.size) [y] (fun _ H9 => H9 = upd H8 s2.heap.objs.size (.lst (acc ++ [yv]))) I8 rfl (.cons ry .nil) ⟨_, acc, yv, rfl, rfl, e8, l8, rfl⟩) (fun _ s9 ⟨_, H9, I9, _, e9⟩ => ?_) fun _ _ z => z.elim
      subst e9
      exact fin I9 n8

  have hself := T.self X.A 0 { s3 with heap := h4, toks := s3.toks + ([] : List (Str × Value)).length } (fun it' s' => codeAny (model X.prog X.w) X.A (.compLoop (.ListComp elt [⟨tg, iter, [], 0⟩] scope pos) 0 it' (.ref s2.heap.objs.size) (compEnvC scope cl s3.heap.objs.size X.env)) (RR (.ref s2.heap.objs.size) s3.heap.objs.size) s') (notedBy (model X.prog X.w) X.A (compEnvC scope cl s3.heap.objs.size X.env) fun x s' => RR (.ref s2.heap.objs.size) s3.heap.objs.size (.error x) s') st4 (loop _ rfl)
  subst hs3
  exact codeAny_compStart_list (loop _ rfl) hself

/-- behind the block the variables of the block go -/
theorem comp_after {C : Addr} {H' : Hp} {s' : Shared} {h' : Heap} (I2 : Inv X pins σ H1 s2) (I : Inv X pins σ H' s') (n : H' C = none) (hC : s2.heap.objs.size ≤ C) (hs : Heap.SameBut C s'.heap h') : Inv X pins σ H' { s' with heap := h' } := by
  refine I.turned (t' := s'.toks) (it := C) (fun b o hb e => hs.extBut b o hb e) n (Nat.ne_of_gt (Nat.lt_of_lt_of_le I2.lt hC)) (.inr (Nat.le_trans I2.sz hC)) (fun x c e => ?_) fun p hp => ?_
  · obtain ⟨v, o, ho, _⟩ := I2.cell x c e
    exact Nat.ne_of_lt (Nat.lt_of_lt_of_le (Heap.lt_size ho) hC)
  · exact Nat.ne_of_lt (Nat.lt_of_lt_of_le (Heap.lt_size (I2.pin p hp).1) hC)
end
section
variable {X : Cx} {elt iter c tg : Expr} {pos : Pos} {g : TG} {tc : TT} {te : TE} {wi : TI} {scope : Scope} {cl : List (Str × Addr)} {ts xs : List Str} {js : List Nat}
/-- [elt for tg in iter if c] -/
theorem pe_compT (hc : X.calm = true) (C : CompTxt X scope cl ts xs js) (hi : PI X tg iter wi) (hg : ∀ fp s3 H2, PG (compCx X scope cl (ts ++ xs) fp s3 H2) tg g) (ht : ∀ fp s3 H2, PT (compCx X scope cl (ts ++ xs) fp s3 H2) c tc) (he : ∀ fp s3 H2, PE (compCx X scope cl (ts ++ xs) fp s3 H2) elt te)
    (hs : ∀ x, foldedSetIterable iter X.env x = pure x := by intro _; rfl) : PE X (.ListComp elt [⟨tg, iter, [c], 0⟩] scope pos) (tComp ts.length js wi g tc te) := by
  intro pins s σ H Q I h
  rw [eval_ListComp]
  refine wpAny_comprehension_free (use := none) rfl hs C.clos C.kind C.names (thn (hi pins s σ H _ I h) fun xv s1 h1 => thn h1 fun itv s2 h2 => ?_)
  obtain ⟨it, fp, tn, J, H1, rfl, I2, T, st2, fo, q⟩ := h2
  exact comp_coreT (RR := compPost (model X.prog X.w) X.A X.xe none (EP X pins σ Q)) hc C I2 T st2 fo q hg ht he fun p D H' s' I' ns n hD q' => by
    obtain ⟨m, hm⟩ := ns
    exact ⟨m, hm, fun h' sb => ⟨.ref p, H', comp_after I2 I' n hD sb, rfl, q'⟩⟩
/-- [elt for tg in iter] -/
theorem pe_comp (hc : X.calm = true) (C : CompTxt X scope cl ts xs js) (hi : PI X tg iter wi) (hg : ∀ fp s3 H2, PG (compCx X scope cl (ts ++ xs) fp s3 H2) tg g) (he : ∀ fp s3 H2, PE (compCx X scope cl (ts ++ xs) fp s3 H2) elt te)
    (hs : ∀ x, foldedSetIterable iter X.env x = pure x := by intro _; rfl) : PE X (.ListComp elt [⟨tg, iter, [], 0⟩] scope pos) (tComp ts.length js wi g tYes te) := by
  intro pins s σ H Q I h
  rw [eval_ListComp]
  refine wpAny_comprehension_free (use := none) rfl hs C.clos C.kind C.names (thn (hi pins s σ H _ I h) fun xv s1 h1 => thn h1 fun itv s2 h2 => ?_)
  obtain ⟨it, fp, tn, J, H1, rfl, I2, T, st2, fo, q⟩ := h2
  exact comp_core0 (RR := compPost (model X.prog X.w) X.A X.xe none (EP X pins σ Q)) hc C I2 T st2 fo q hg he fun p D H' s' I' ns n hD q' => by
    obtain ⟨m, hm⟩ := ns
    exact ⟨m, hm, fun h' sb => ⟨.ref p, H', comp_after I2 I' n hD sb, rfl, q'⟩⟩
/-- name = [elt for tg in iter] -/
theorem ps_setComp {i : Nat} {y : Str} {py spos : Pos} (hc : X.calm = true) (C : CompTxt X scope cl ts xs js) (hi : PI X tg iter wi) (hg : ∀ fp s3 H2, PG (compCx X scope cl (ts ++ xs) fp s3 H2) tg g) (he : ∀ fp s3 H2, PE (compCx X scope cl (ts ++ xs) fp s3 H2) elt te)
    (hN : X.N.Nodup) (hy : X.N[i]? = some y) (hx : Loc X.env.scope y) (hkn : ∀ u : V, X.kn[i]? ≠ some (some u)) (hf : X.fn y = true ∨ X.env.scope.names.lookup y = some .local := by first | exact .inl rfl | exact .inr rfl | assumption)
    (hsw : swapsWith (.ListComp elt [⟨tg, iter, [], 0⟩] scope pos) (some (.Name y py)) spos.line X.env = pure true := by rfl)
    (hs : ∀ x, foldedSetIterable iter X.env x = pure x := by intro _; rfl) : PS X (.Assign [.Name y py] (.ListComp elt [⟨tg, iter, [], 0⟩] scope pos) spos) (tAsg (tComp ts.length js wi g tYes te) (gName i)) := by
  intro pins s σ H D I h
  rw [exec_Assign_Name_used _ _ _ _ hsw]
  refine wpAny_bind (wpAny_standAt (wpAny_bind ?_))
  show wpAny _ X.A (do let _ ← comprehension (.ListComp elt [⟨tg, iter, [], 0⟩] scope pos) scope X.env _ (newList []) false (eval iter X.env) (some (assign (.Name y py) X.env))) _ _ s
  refine wpAny_bind (wpAny_mono (wpAny_comprehension_free (use := some (assign (.Name y py) X.env)) (Q := fun _ s' => SP X pins D .next s') rfl hs C.clos C.kind C.names (thn (hi pins s σ H _ I h) fun xv s1 h1 => thn h1 fun itv s2 h2 => ?_)) (fun _ s' hq => wpAny_pure (wpAny_pure hq)) fun _ _ e => e)
  obtain ⟨it, fp, tn, J, H1, rfl, I2, T, st2, fo, q⟩ := h2
  refine comp_core0 (Q := fun x H1 => gName i x σ H1 D.nx) (g := g) (te := te) (RR := compPost (model X.prog X.w) X.A X.xe (some (assign (.Name y py) X.env)) (fun _ s' => SP X pins D .next s')) hc C I2 T st2 fo q hg he fun p E H' s' I' ns n hE q' => ?_
  obtain ⟨m, hm⟩ := ns
  show wpAny _ X.A (assign (.Name y py) X.env (.ref p)) _ _ _
  refine wpAny_assign_Name (store_ok2 I' hN hy hx (show RelV (.ref p) (.ref p) from rfl) (fun s3 I3 ⟨b, sb, hb⟩ => ?_) hf hkn)
  refine ⟨m, hm.sameBut sb (fun z => ?_), fun h' sb' => ⟨_, H', ?_, q'⟩⟩
  · rcases hb with hb | hb
    · exact absurd (Nat.lt_of_lt_of_le I2.lt hE) (by rw [z, hb]; exact Nat.lt_irrefl _)
    · obtain ⟨v, o, ho, _⟩ := I2.cell y b hb
      exact absurd (Nat.lt_of_lt_of_le (Heap.lt_size ho) hE) (by rw [z]; exact Nat.lt_irrefl _)
  · refine I3.turned (t' := s3.toks) (it := E) (fun b o hb e => sb'.extBut b o hb e) n (Nat.ne_of_gt (Nat.lt_of_lt_of_le I2.lt hE)) (.inr (Nat.le_trans I2.sz hE)) (fun x c e => ?_) fun p hp => ?_
    · obtain ⟨v, o, ho, _⟩ := I2.cell x c e
      exact Nat.ne_of_lt (Nat.lt_of_lt_of_le (Heap.lt_size ho) hE)
    · exact Nat.ne_of_lt (Nat.lt_of_lt_of_le (Heap.lt_size (I2.pin p hp).1) hE)
end
/-! ### the forms one uses -/
theorem comp_items {a p : Addr} {o : Obj} {kvs : List (Key × V)} {g : TG} {tc : TT} {te : TE} {Q : VK} {σ0 : St} {H0 : Hp} (Pv : Nat → St → Hp → List V → Prop) (h0 : Pv 0 σ0 H0 [])
    (hl : ∀ i σ H acc, Pv i σ H acc → H a = some (.frz o (.dK kvs)) ∧ H p = some (.lst acc))
    (hs : ∀ i k v σ H acc q, kvs[i]? = some (k, v) → Pv i σ H acc → H q = none → g (.ref q) σ (upd H q (.tup [kV k, v])) fun σ4 H4 => tc σ4 H4 fun ok H5 =>
      if ok = true then te σ4 H5 fun y H6 => H6 p = some (.lst acc) ∧ acc.length < sizeLine ∧ Pv (i + 1) σ4 (upd H6 p (.lst (acc ++ [y]))) (acc ++ [y]) else Pv (i + 1) σ4 H5 acc)
    (hd : ∀ σ H acc, Pv kvs.length σ H acc → Q (.ref p) H) :
    ∃ W : Nat → Nat → St → Hp → List V → Prop, (∃ m, W 0 m σ0 H0 []) ∧ CompGo p (Itd a o kvs) g tc te Q W := by
  refine ⟨fun i m σ H acc => i ≤ kvs.length ∧ m = kvs.length - i ∧ Pv i σ H acc, ⟨_, Nat.zero_le _, rfl, h0⟩, fun i m σ H acc ⟨w1, w2, w3⟩ => ?_⟩
  obtain ⟨l1, l2⟩ := hl i σ H acc w3
  refine ⟨l2, ?_⟩
  by_cases hi : i < kvs.length
  · refine .inr ⟨⟨l1, hi⟩, fun σ' H' acc' => Pv (i + 1) σ' H' acc', fun σ' H' acc' n => ⟨kvs.length - (i + 1), by omega, hi, rfl, n⟩, fun x H3 y => ?_⟩
    obtain ⟨q, k, v, e1, e2, rfl, rfl⟩ := y
    exact hs i k v σ H acc q e1 w3 e2
  · have : i = kvs.length := by omega
    subst this
    exact .inl ⟨⟨l1, Nat.le_refl _⟩, hd σ H acc w3⟩
theorem comp_list {K : PySem.W.Frag} {a p : Addr} {xs : List V} {g : TG} {tc : TT} {te : TE} {Q : VK} {σ0 : St} {H0 : Hp} (Pv : Nat → St → Hp → List V → Prop) (h0 : Pv 0 σ0 H0 [])
    (hl : ∀ i σ H acc, i ≤ xs.length → Pv i σ H acc → SqL K H a xs ∧ H p = some (.lst acc))
    (hs : ∀ i x σ H acc, xs[i]? = some x → Pv i σ H acc → g x σ H fun σ4 H4 => tc σ4 H4 fun ok H5 =>
      if ok = true then te σ4 H5 fun y H6 => H6 p = some (.lst acc) ∧ acc.length < sizeLine ∧ Pv (i + 1) σ4 (upd H6 p (.lst (acc ++ [y]))) (acc ++ [y]) else Pv (i + 1) σ4 H5 acc)
    (hd : ∀ σ H acc, Pv xs.length σ H acc → Q (.ref p) H) :
    ∃ W : Nat → Nat → St → Hp → List V → Prop, (∃ m, W 0 m σ0 H0 []) ∧ CompGo p (Itl K a) g tc te Q W := by
  refine ⟨fun i m σ H acc => i ≤ xs.length ∧ m = xs.length - i ∧ Pv i σ H acc, ⟨_, Nat.zero_le _, rfl, h0⟩, fun i m σ H acc ⟨w1, w2, w3⟩ => ?_⟩
  obtain ⟨l1, l2⟩ := hl i σ H acc w1 w3
  refine ⟨l2, ?_⟩
  by_cases hi : i < xs.length
  · refine .inr ⟨⟨xs, xs[i], l1, by simp [hi]⟩, fun σ' H' acc' => Pv (i + 1) σ' H' acc', fun σ' H' acc' n => ⟨xs.length - (i + 1), by omega, hi, rfl, n⟩, fun x H3 y => ?_⟩
    obtain ⟨rfl, e⟩ := y
    exact hs i x σ _ acc (e xs l1) w3
  · have : i = xs.length := by omega
    subst this
    exact .inl ⟨⟨xs, l1, Nat.le_refl _⟩, hd σ H acc w3⟩
theorem comp_range {lo : Int} {n : Nat} {p : Addr} {g : TG} {tc : TT} {te : TE} {Q : VK} {σ0 : St} {H0 : Hp} (Pv : Nat → St → Hp → List V → Prop) (h0 : Pv 0 σ0 H0 [])
    (hl : ∀ i σ H acc, i ≤ n → Pv i σ H acc → H p = some (.lst acc))
    (hs : ∀ i σ H acc, i < n → Pv i σ H acc → g (.int (lo + i)) σ H fun σ4 H4 => tc σ4 H4 fun ok H5 =>
      if ok = true then te σ4 H5 fun y H6 => H6 p = some (.lst acc) ∧ acc.length < sizeLine ∧ Pv (i + 1) σ4 (upd H6 p (.lst (acc ++ [y]))) (acc ++ [y]) else Pv (i + 1) σ4 H5 acc)
    (hd : ∀ σ H acc, Pv n σ H acc → Q (.ref p) H) :
    ∃ W : Nat → Nat → St → Hp → List V → Prop, (∃ m, W 0 m σ0 H0 []) ∧ CompGo p (Itr lo n) g tc te Q W := by
  refine ⟨fun i m σ H acc => i ≤ n ∧ m = n - i ∧ Pv i σ H acc, ⟨_, Nat.zero_le _, rfl, h0⟩, fun i m σ H acc ⟨w1, w2, w3⟩ => ?_⟩
  refine ⟨hl i σ H acc w1 w3, ?_⟩
  by_cases hi : i < n
  · refine .inr ⟨hi, fun σ' H' acc' => Pv (i + 1) σ' H' acc', fun σ' H' acc' n' => ⟨n - (i + 1), by omega, hi, rfl, n'⟩, fun x H3 y => ?_⟩
    obtain ⟨rfl, rfl⟩ := y
    exact hs i σ _ acc hi w3
  · have : i = n := by omega
    subst this
    exact .inl ⟨Nat.le_refl _, hd σ H acc w3⟩
/-- for k, v in d.items(): the dict frozen -/
theorem for_items {a : Addr} {o : Obj} {kvs : List (Key × V)} {g : TG} {tb : TS} {D : Ends} {σ : St} {H : Hp} (Pv : Nat → St → Hp → Prop) (h0 : Pv 0 σ H) (hl : ∀ i σ H, i ≤ kvs.length → Pv i σ H → H a = some (.frz o (.dK kvs)))
    (hs : ∀ i k v σ H q, kvs[i]? = some (k, v) → Pv i σ H → H q = none → g (.ref q) σ (upd H q (.tup [kV k, v])) fun σ2 H2 => tb { D with nx := Pv (i + 1), ct := Pv (i + 1), bk := D.nx } σ2 H2) (hd : ∀ σ H, Pv kvs.length σ H → D.nx σ H) :
    ∃ W : Nat → Nat → St → Hp → Prop, (∃ m, W 0 m σ H) ∧ ∀ i m σ H, W i m σ H →
      ((Itd a o kvs).stop i H ∧ D.nx σ H) ∨ ((Itd a o kvs).go i H ∧ ∃ N : St → Hp → Prop, (∀ σ' H', N σ' H' → ∃ m', m' < m ∧ W (i + 1) m' σ' H') ∧ ∀ x H', (Itd a o kvs).yld i H x H' → g x σ H' fun σ2 H2 => tb { D with nx := N, ct := N, bk := D.nx } σ2 H2) := by
  refine ⟨fun i m σ H => i ≤ kvs.length ∧ m = kvs.length - i ∧ Pv i σ H, ⟨_, Nat.zero_le _, rfl, h0⟩, fun i m σ H ⟨w1, w2, w3⟩ => ?_⟩
  have l1 := hl i σ H w1 w3
  by_cases hi : i < kvs.length
  · refine .inr ⟨⟨l1, hi⟩, Pv (i + 1), fun σ' H' n => ⟨kvs.length - (i + 1), by omega, hi, rfl, n⟩, fun x H3 y => ?_⟩
    obtain ⟨q, k, v, e1, e2, rfl, rfl⟩ := y
    exact hs i k v σ H q e1 w3 e2
  · have : i = kvs.length := by omega
    subst this
    exact .inl ⟨⟨l1, Nat.le_refl _⟩, hd σ H w3⟩
/-- for k in d -/
theorem for_keys {a : Addr} {o : Obj} {kvs : List (Key × V)} {g : TG} {tb : TS} {D : Ends} {σ : St} {H : Hp} (Pv : Nat → St → Hp → Prop) (h0 : Pv 0 σ H) (hl : ∀ i σ H, i ≤ kvs.length → Pv i σ H → H a = some (.frz o (.dK kvs)))
    (hs : ∀ i k v σ H, kvs[i]? = some (k, v) → Pv i σ H → g (kV k) σ H fun σ2 H2 => tb { D with nx := Pv (i + 1), ct := Pv (i + 1), bk := D.nx } σ2 H2) (hd : ∀ σ H, Pv kvs.length σ H → D.nx σ H) :
    ∃ W : Nat → Nat → St → Hp → Prop, (∃ m, W 0 m σ H) ∧ ∀ i m σ H, W i m σ H →
      ((Itk a o kvs).stop i H ∧ D.nx σ H) ∨ ((Itk a o kvs).go i H ∧ ∃ N : St → Hp → Prop, (∀ σ' H', N σ' H' → ∃ m', m' < m ∧ W (i + 1) m' σ' H') ∧ ∀ x H', (Itk a o kvs).yld i H x H' → g x σ H' fun σ2 H2 => tb { D with nx := N, ct := N, bk := D.nx } σ2 H2) := by
  refine ⟨fun i m σ H => i ≤ kvs.length ∧ m = kvs.length - i ∧ Pv i σ H, ⟨_, Nat.zero_le _, rfl, h0⟩, fun i m σ H ⟨w1, w2, w3⟩ => ?_⟩
  have l1 := hl i σ H w1 w3
  by_cases hi : i < kvs.length
  · refine .inr ⟨⟨l1, hi⟩, Pv (i + 1), fun σ' H' n => ⟨kvs.length - (i + 1), by omega, hi, rfl, n⟩, fun x H3 y => ?_⟩
    obtain ⟨k, v, e1, rfl, rfl⟩ := y
    exact hs i k v σ _ e1 w3
  · have : i = kvs.length := by omega
    subst this
    exact .inl ⟨⟨l1, Nat.le_refl _⟩, hd σ H w3⟩
end L2

set_option Elab.async false
set_option linter.all false
set_option maxRecDepth 100000
/-! small built-ins over the hand layer -/
namespace L2
open PySem PySem.Spec PyProof.Rows
section
variable {X : Cx}
/-- list(d): its keys -/
theorem call_list_dict (hc : X.calm = true) : CallR X (.type "list") (fun xs H Q => ∃ a kvs, xs = [.ref a] ∧ Rd H a (.dK kvs) ∧ ∀ l, H l = none → Q (.ref l) (upd H l (.lst (kvs.map fun p => kV p.1)))) := by
  intro pins s σ H xs us Q I r h
  obtain ⟨a, kvs, rfl, rd, q⟩ := h
  obtain ⟨u, rfl, ru⟩ := vals1 r
  cases ru
  obtain ⟨zl, zm, vs, rv, d⟩ := dk_rd I.hok rd
  obtain ⟨ep, da⟩ := d.dictAt
  have hl : kvs.length = vs.length := rv.length
  refine PySem.W.kdl_call (PySem.W.kdl_dict (knd := mixKind X.prog X.w) (kvs := vs) (ep := ep) zm) (I.ok.hd hc) da (by omega) fun h' tk acc c k e items => ?_
  refine ⟨.ref s.heap.objs.size, _, I.laid (t' := tk) (o := .lst (kvs.map fun p => kV p.1)) k (Nat.le_refl _) ⟨by rw [List.length_map]; exact zl, acc.toList, c, ?_, by simpa using e⟩, rfl, q _ (I.hok.fresh (Nat.le_refl _))⟩
  obtain ⟨n1, n2⟩ := items
  have go : ∀ (ks : List (Key × V)) (as : List Value), ks.length = as.length → (∀ (j : Nat) (u : Value), as[j]? = some u → ∃ p : Key × V, ks[j]? = some p ∧ RelV (kV p.1) u) → Vals (ks.map fun p => kV p.1) as := by
    intro ks
    induction ks with
    | nil => intro as hl _; cases as with | nil => exact .nil | cons _ _ => simp at hl
    | cons p ks ih =>
      intro as hl h
      cases as with
      | nil => simp at hl
      | cons u as =>
        obtain ⟨p', e1, r1⟩ := h 0 u rfl
        simp at e1
        subst e1
        exact .cons r1 (ih as (by simpa using hl) fun j w' e => by simpa using h (j + 1) w' (by simpa using e))
  refine go kvs acc.toList (by have z : acc.toList.length = acc.size := Array.length_toList; omega) fun j u e => ?_
  obtain ⟨k', x', e1, e2⟩ := n2 j u (by rw [← Array.getElem?_toList]; exact e)
  have hj : j < kvs.length := by rw [hl]; exact (List.getElem?_eq_some_iff.mp e1).1
  obtain ⟨w', e3, _⟩ := rv.at (i := j) (k := (kvs[j]).1) (v := (kvs[j]).2) (by simp [hj])
  rw [e1] at e3
  cases e3
  exact ⟨kvs[j], by simp [hj], key_rel e2⟩
/-- isinstance(x, C), one class -/
theorem call_isinst : CallR X (.builtin "isinstance") (fun xs H Q => ∃ x c cu t b, xs = [x, c] ∧ RelV c cu ∧ (∀ u, RelV c u → u = cu) ∧ TyOf X.K H x t ∧ PySem.W.kitOne X.K t cu = some b ∧ Q (.bl b) H) := by
  intro pins s σ H xs us Q I r h
  obtain ⟨x, c, cu, t, b, rfl, _, hu, ty, e, q⟩ := h
  obtain ⟨u, w', rfl, rx, rc⟩ := vals2 r
  cases hu w' rc
  exact isinst_ok I rx ty e fun tk => ⟨.bl b, H, I.tok tk, rfl, q⟩
/-- ''.join(texts) -/
theorem vals_strs : ∀ {ys : List Str} {us : List Value}, Vals (ys.map V.str) us → StrsAre us ys
  | [], [], _ => .nil
  | y :: ys, u :: us, h => by
    cases h with
    | cons p t =>
      obtain ⟨tk, rfl⟩ := p
      exact .cons _ _ (vals_strs t)
  | [], _ :: _, h => nomatch h
  | _ :: _, [], h => nomatch h
theorem mt_join : MtR X "str.join" (fun x xs H Q => ∃ z l ys, x = .str z ∧ xs = [.ref l] ∧ SqL X.K H l (ys.map V.str) ∧ (ys.map (·.length)).sum + ys.length * z.length ≤ 16777216 ∧ Q (.str (Txt.join z ys)) H) := by
  intro pins s σ H x xs v us Q I rx rv h
  obtain ⟨z, l, ys, rfl, rfl, sq, hz, q⟩ := h
  obtain ⟨t, rfl⟩ := rx
  obtain ⟨u, rfl, ru⟩ := rv.one
  cases ru
  obtain ⟨its, r, pl, _⟩ := I.list sq
  exact join_list pl.isList (vals_strs r) hz fun t' k => ⟨.str _, H, I.tok k, ⟨t', rfl⟩, q⟩
/-! ### f-strings -/
theorem pe_repr {e : Expr} {te : TE} {pos : Pos} (he : PE X e te) : PE X (.FormattedValue e 114 none pos) (fun σ H Q => te σ H fun v H1 => ∃ y, v = .str y ∧ (reprText y).length ≤ sizeLine ∧ Q (.str (reprText y)) H1) := by
  intro pins s σ H Q I h
  refine wpAny_FormattedValue_repr (thn (he pins s σ H _ I h) fun v s1 ⟨x, H1, I1, r, y, e, l, q⟩ => ?_)
  subst e
  obtain ⟨t, rfl⟩ := r
  refine wpAny_pyReprObj_str (hsz := l) ?_
  exact formatField_str (hsz := l) fun t' tk => ⟨.str _, H1, I1.tok tk, ⟨t', rfl⟩, q⟩
def tJ : Str → List TE → TE
  | acc, [] => fun _ H Q => acc.length ≤ sizeLine ∧ Q (.str acc) H
  | acc, t :: ts => fun σ H Q => t σ H fun v H1 => ∃ y, v = .str y ∧ (acc ++ y).length ≤ sizeLine ∧ tJ (acc ++ y) ts σ H1 Q
inductive PJ (X : Cx) : List Expr → List TE → Prop where
  | nil : PJ X [] []
  | cons {e : Expr} {es : List Expr} {t : TE} {ts : List TE} : PE X e t → PJ X es ts → PJ X (e :: es) (t :: ts)
theorem joins_of {es : List Expr} {ts : List TE} (hj : PJ X es ts) : ∀ {acc : Str} {pins : List (Addr × Obj)} {s : Shared} {σ : St} {H : Hp} {Q : VK}, Inv X pins σ H s → tJ acc ts σ H Q →
    wpAny (model X.prog X.w) X.A (joinParts acc (evalEach es X.env)) (EP X pins σ Q) X.xe s := by
  induction hj with
  | nil => intro acc pins s σ H Q I h; exact joinParts_nil (hsz := h.1) ⟨.str acc, H, I.tok _, ⟨_, rfl⟩, h.2⟩
  | @cons e es t ts he hj ih =>
    intro acc pins s σ H Q I h
    show wpAny _ _ (joinParts acc (eval e X.env :: evalEach es X.env)) _ _ _
    refine joinParts_cons (thn (he pins s σ H _ I h) fun v s1 ⟨x, H1, I1, r, y, e, l, q⟩ => ?_)
    subst e
    obtain ⟨tk, rfl⟩ := r
    exact ⟨l, ih I1 q⟩
theorem pe_joined {a b : Expr} {r : List Expr} {ts : List TE} {pos : Pos} (h : PJ X (a :: b :: r) ts) : PE X (.JoinedStr (a :: b :: r) pos) (tJ Str.empty ts) := fun pins s σ H Q I q => JoinedStr_many (joins_of h I q)
end
end L2

set_option Elab.async false
set_option linter.all false
set_option maxRecDepth 100000
/-! None asked of a dict of ints and texts -/
namespace L2
open PySem PySem.Spec PyProof.Rows
theorem hash_none {prog : Program} {w : World} {A : Around} {E : Value → Shared → Prop} {s : Shared} {Q : Int → Shared → Prop} (h : Q 0xFCA86420 { s with toks := s.toks + 1 }) : wpAny (model prog w) A (pyHash .none) Q E s := by
  have hT : s.TypeIs .none "NoneType" := rfl
  show wpAny _ _ (pyHashByItsType .none) Q E s
  unfold pyHashByItsType
  refine wpAny_bind ?_
  rw [cRoomFor, if_neg (by decide)]
  refine wpAny_pure ?_
  refine wpAny_bind (wpAny_specialOf hT PySem.F.slot_NoneType_hash.lookup ?_)
  rw [if_neg (by decide)]
  refine wpAny_bind (wpAny_specialOf hT PySem.F.slot_NoneType_hash.lookup ?_)
  show wpAny _ _ (callSpecialIfBoundUnlessNone? .none "__hash__" _ >>= _) Q E s
  refine wpAny_bind (wpAny_callSpecialIfBoundUnlessNone?_slot hT PySem.F.slot_NoneType_hash (wpAny_call_entry PySem.F.slot_NoneType_hash hT PySem.F.entry_NoneType_hash
    (show wpAny _ _ (do ret (← mkInt 0xFCA86420)) _ _ s from wpAny_ret_mkInt ?_) (PySem.F.args_NoneType_hash_1 _)))
  show wpAny _ _ (if (decide (-(2 : Int) ^ 63 ≤ 0xFCA86420) && decide ((0xFCA86420 : Int) < 2 ^ 63)) = true then _ else _) Q E _
  rw [if_pos (by decide)]
  exact wpAny_pure h
def optIs : Option Key → Value → Bool
  | none, .none => true
  | none, _ => false
  | some k, v => keyIs k v
def optH (w : World) : Option Key → Int
  | none => 0xFCA86420
  | some k => keyH w k
theorem optIs_none {v : Value} (h : optIs none v = true) : v = .none := by
  cases v <;> first | rfl | cases h
theorem not_both {k : Key} (h : keyIs k .none = true) : False := by
  rcases keyIs_shape h with ⟨_, _, _, e⟩ | ⟨_, _, _, e⟩ <;> cases e
def optKind (prog : Program) (w : World) : PySem.KeyKind prog w (Option Key) where
  is := optIs
  hash := optH w
  inj := fun v a b ha hb => by
    cases a with
    | none =>
      cases b with
      | none => rfl
      | some b => cases optIs_none ha; exact (not_both hb).elim
    | some a =>
      cases b with
      | none => cases optIs_none hb; exact (not_both ha).elim
      | some b => exact congrArg some ((mixKind prog w).inj v a b ha hb)
  byValue := fun k v h => by
    cases k with
    | none => cases optIs_none h; rfl
    | some k => exact (mixKind prog w).byValue k v h
  pyHash := fun {A E s k v Q} hv h => by
    cases k with
    | none => cases optIs_none hv; exact hash_none h
    | some k => exact (mixKind prog w).pyHash (k := k) hv h
  eqBool := fun {A E s a b u v Q} hu hv h => by
    cases a with
    | none =>
      cases optIs_none hu
      cases b with
      | none => cases optIs_none hv; exact SeqAt.EqAt.same _ _ _ _ _ (by simpa using h)
      | some b =>
        rcases keyIs_shape hv with ⟨i, t, rfl, rfl⟩ | ⟨x, t, rfl, rfl⟩
        · exact SeqAt.EqAt.none_int _ _ _ _ _ _ (by simpa using h)
        · exact SeqAt.EqAt.none_str _ _ _ _ _ _ (by simpa using h)
    | some a =>
      cases b with
      | none =>
        cases optIs_none hv
        rcases keyIs_shape hu with ⟨i, t, rfl, rfl⟩ | ⟨x, t, rfl, rfl⟩
        · exact SeqAt.EqAt.int_none _ _ _ _ _ _ (by simpa using h)
        · exact SeqAt.EqAt.str_none _ _ _ _ _ _ (by simpa using h)
      | some b => exact (mixKind prog w).eqBool (a := a) (b := b) hu hv (by simpa using h)
  «strs» := fun k x t v h => by
    cases k with
    | none => cases h
    | some k => exact (mixKind prog w).strs k x t v h
theorem opt_map {P : Program} {w : World} {h : Heap} {a : Addr} {vs : List (Key × Value)} (d : h.DictOf (mixKind P w) a vs) : ∃ f, h.MapOf (optKind P w) a f ∧ f none = none := by
  obtain ⟨o, es, ep, ho, ex, hd, keys, r⟩ := id d
  refine ⟨fun k => findBy (optKind P w).is es k, ⟨o, es, ep, ho, ex, hd, fun e he => ?_, fun k => rfl⟩, ?_⟩
  · obtain ⟨k, h1, h2⟩ := keys e he
    exact ⟨some k, h1, h2⟩
  · show findBy optIs es none = none
    unfold findBy
    rw [Option.map_eq_none_iff, Array.find?_eq_none]
    intro e he z
    obtain ⟨k, h1, _⟩ := keys e he
    rw [optIs_none z] at h1
    exact not_both h1
section
variable {X : Cx} {o i : Expr} {td ty : TE}
/-- y in d, y a text, an int or None -/
def tDInN (ty td : TE) : TE := fun σ H Q => ty σ H fun y H1 => td σ H1 fun x H2 => ∃ a, x = .ref a ∧ ((∃ r, DGet H2 a y r ∧ Q (.bl r.isSome) H2) ∨ (y = .non ∧ (∃ kvs, Rd H2 a (.dK kvs)) ∧ Q (.bl false) H2))
theorem pc_dinN (hu : X.A.units + 1 < cLine) (hi : PE X i ty) (ho : PE X o td) : PC X .In i o (tDInN ty td) := by
  intro pins s σ H Q I h
  refine thn (hi pins s σ H _ I h) fun v s1 ⟨y, H1, I1, ry, q1⟩ => thn (ho pins s1 σ H1 _ I1 q1) fun u s2 ⟨x, H2, I2, rx, a, ex, q2⟩ => ?_
  subst ex
  cases (show u = Value.ref a from rx)
  rcases q2 with ⟨r, g, q⟩ | ⟨ey, ⟨kvs, rd⟩, q⟩
  · exact d_in hu I2 g ry fun s' I' => ⟨.bl _, H2, I', rfl, q⟩
  · subst ey
    cases (show v = Value.none from ry)
    obtain ⟨z, hd, vs, rel, dd⟩ := dk_rd I2.hok rd
    obtain ⟨f, mf, fn⟩ := opt_map dd
    refine wpAny_in_of (knd := optKind X.prog X.w) (k := none) (f := f) rfl hd mf ?_
    rw [fn]
    exact ⟨.bl false, H2, I2.tok _, rfl, q⟩
end
end L2

set_option Elab.async false
set_option linter.all false
set_option maxRecDepth 100000
/-! == of lists and tuples of flat values, is of bools -/
namespace L2
open PySem PySem.Spec PyProof.Rows
section
variable {X : Cx}
theorem op_isB : OpR X (compareOp .Is) (fun x y H Q => ∃ a b, x = .bl a ∧ y = .bl b ∧ Q (.bl (a == b)) H) := by
  intro pins s σ H x y v u Q I rx ry h
  obtain ⟨a, b, rfl, rfl, q⟩ := h
  cases rx
  cases ry
  refine wpAny_is_plain rfl ⟨.bl (a == b), H, I, ?_, q⟩
  show Value.bool (Value.bool a == Value.bool b) = Value.bool (a == b)
  cases a <;> cases b <;> rfl
/-- [] == [] -/
theorem op_eq_nil (hu : X.A.units < cLine) : OpR X (compareOp .Eq) (fun x y H Q => ∃ a b, x = .ref a ∧ y = .ref b ∧ SqL X.K H a [] ∧ SqL X.K H b [] ∧ Q (.bl true) H) := by
  intro pins s σ H x y v u Q I rx ry h
  obtain ⟨a, b, rfl, rfl, sa, sb, q⟩ := h
  cases rx
  cases ry
  obtain ⟨ia, ra, pa, la⟩ := I.list sa
  obtain ⟨ib, rb, pb, lb⟩ := I.list sb
  cases ra
  cases rb
  exact SeqAt.eq_listAt (e := fun _ => true) pa.isList pb.isList rfl hu (fun j h1 h2 => absurd h1 (Nat.not_lt_zero _)) ⟨.bl true, H, I, rfl, q⟩
end
end L2

set_option Elab.async false
set_option linter.all false
set_option maxRecDepth 100000
/-! the hall's objects, for every law -/
namespace HB
open PySem L2

theorem lk1 {k : Str} {v : V} {r : List (Str × V)} : List.lookup k ((k, v) :: r) = some v := by simp [List.lookup]
theorem lk2 {k k' : Str} {v : V} {r : List (Str × V)} (h : (k == k') = false) : List.lookup k ((k', v) :: r) = List.lookup k r := by simp [List.lookup, h]
theorem lk0 {k : Str} : List.lookup k ([] : List (Str × V)) = none := rfl
theorem putF_app {f : Str} {v : V} : ∀ {fs : List (Str × V)}, (fs.map (·.1)).contains f = false → putF f v fs = fs ++ [(f, v)]
  | [], _ => rfl
  | (g, x) :: r, h => by
    have h1 : ¬ g = f := fun e => by
      subst e
      simp at h
    have h2 : (r.map (·.1)).contains f = false := by
      cases q : (r.map (·.1)).contains f with
      | false => rfl
      | true => rw [List.map_cons, List.contains_cons, q, Bool.or_true] at h; cases h
    show (if g = f then (g, v) :: r else (g, x) :: putF f v r) = _
    rw [if_neg h1, putF_app h2]
    rfl

/-! ### the fields -/
def fHall (dp dq : Addr) : List (Str × V) := [("places", .ref dp), ("pieces", .ref dq)]
def fPlace (k r : V) : List (Str × V) := [("kind", k), ("rule", r)]
def fPiece (pl de by_ : V) (on : Bool) (la lb ln lr : Addr) : List (Str × V) :=
  [("place", pl), ("deed", de), ("by", by_), ("on", .bl on), ("ahead", .ref la), ("behind", .ref lb), ("needs", .ref ln), ("bars", .ref lr)]
theorem hall_places {dp dq : Addr} : (fHall dp dq).lookup ("places" : Str) = some (.ref dp) := lk1
theorem hall_pieces {dp dq : Addr} : (fHall dp dq).lookup ("pieces" : Str) = some (.ref dq) := (lk2 (by decide +kernel)).trans lk1
theorem hall_no {dp dq : Addr} {m : Str} (h1 : (m == "places") = false) (h2 : (m == "pieces") = false) : (fHall dp dq).lookup m = none := (lk2 h1).trans (lk2 h2)
theorem piece_place {pl de by_ : V} {on : Bool} {la lb ln lr : Addr} : (fPiece pl de by_ on la lb ln lr).lookup ("place" : Str) = some pl := lk1
theorem piece_deed {pl de by_ : V} {on : Bool} {la lb ln lr : Addr} : (fPiece pl de by_ on la lb ln lr).lookup ("deed" : Str) = some de := (lk2 (by decide +kernel)).trans lk1
theorem piece_by {pl de by_ : V} {on : Bool} {la lb ln lr : Addr} : (fPiece pl de by_ on la lb ln lr).lookup ("by" : Str) = some by_ := (lk2 (by decide +kernel)).trans ((lk2 (by decide +kernel)).trans lk1)
theorem piece_on {pl de by_ : V} {on : Bool} {la lb ln lr : Addr} : (fPiece pl de by_ on la lb ln lr).lookup ("on" : Str) = some (.bl on) := (lk2 (by decide +kernel)).trans ((lk2 (by decide +kernel)).trans ((lk2 (by decide +kernel)).trans lk1))

/-- one piece: what is told of it, and where it lies -/
structure Pc where
  nm : Str
  pl : Str
  de : V
  by_ : Option Str
  on : Bool
  ah : List Str
  be : List Str
  ne : List Str
  ba : List Str
  at_ : Addr
  la : Addr
  lb : Addr
  ln : Addr
  lr : Addr
def vBy : Option Str → V
  | none => .non
  | some x => .str x
def PcAt (C : Addr) (H : Hp) (m : Pc) : Prop :=
  (∃ dx, H m.at_ = some (.ins C dx (fPiece (.str m.pl) m.de (vBy m.by_) m.on m.la m.lb m.ln m.lr))) ∧
  H m.la = some (.lst (m.ah.map V.str)) ∧ H m.lb = some (.lst (m.be.map V.str)) ∧ H m.ln = some (.lst (m.ne.map V.str)) ∧ H m.lr = some (.lst (m.ba.map V.str))
/-- a place: name, kind, rule, where it lies -/
structure Pl where
  nm : Str
  ki : Str
  ru : Str
  at_ : Addr
def PlAt (C : Addr) (H : Hp) (m : Pl) : Prop := ∃ dx, H m.at_ = some (.ins C dx (fPlace (.str m.ki) (.str m.ru)))
def kvPc (ps : List Pc) : List (Key × V) := ps.map fun m => (Sum.inr m.nm, V.ref m.at_)
def kvPl (ps : List Pl) : List (Key × V) := ps.map fun m => (Sum.inr m.nm, V.ref m.at_)
/-- where the hall's own things lie -/
structure HA where
  p : Addr
  dp : Addr
  dq : Addr
/-- the classes -/
structure Cs where
  hall : Addr
  place : Addr
  piece : Addr
structure HallAt (c : Cs) (H : Hp) (h : HA) (pls : List Pl) (pcs : List Pc) : Prop where
  ob : ∃ dx, H h.p = some (.ins c.hall dx (fHall h.dp h.dq))
  dpl : H h.dp = some (.dK (kvPl pls))
  dpc : H h.dq = some (.dK (kvPc pcs))
  ne : h.dp ≠ h.dq
  pl : ∀ m ∈ pls, PlAt c.place H m
  pc : ∀ m ∈ pcs, PcAt c.piece H m
  npl : (pls.map (·.nm)).Nodup
  npc : (pcs.map (·.nm)).Nodup
  lpl : pls.length ≤ 8
  lpc : pcs.length ≤ 24

/-! ### the promises -/
structure Es where
  nameThere : Addr
  noPlace : Addr
  noPiece : Addr
  tooMany : Addr
/-- what a name is here: short, of signs that can be shown -/
def NameOk (x : Str) : Prop := x.length ≤ 200 ∧ ∀ ch ∈ x.cps.toList, ch < 16 ^ 8
/-- all that was tracked is as it was, but at these -/
def KeepBut (l : List Addr) (H H' : Hp) : Prop := ∀ b o, H b = some o → b ∉ l → H' b = some o
def hasPl (pls : List Pl) (x : Str) : Bool := pls.any fun m => decide (m.nm = x)
def hasPc (pcs : List Pc) (x : Str) : Bool := pcs.any fun m => decide (m.nm = x)
def spPlaceInit (c : Cs) : Sp := fun vs H Q _ => ∃ (p dx : Addr) (k r : V), vs = [.ref p, k, r] ∧ H p = some (.ins c.place dx []) ∧ ∀ H' : Hp, H' p = some (.ins c.place dx (fPlace k r)) → KeepBut [p] H H' → Q .non H'
def spPieceInit (c : Cs) : Sp := fun vs H Q _ => ∃ (p dx : Addr) (pl de by_ : V), vs = [.ref p, pl, de, by_] ∧ H p = some (.ins c.piece dx []) ∧
  ∀ (la lb ln lr : Addr) (H' : Hp), H la = none → H lb = none → H ln = none → H lr = none → [la, lb, ln, lr].Nodup → H' p = some (.ins c.piece dx (fPiece pl de by_ true la lb ln lr)) →
    H' la = some (.lst []) → H' lb = some (.lst []) → H' ln = some (.lst []) → H' lr = some (.lst []) → KeepBut [p] H H' → Q .non H'
def spHallInit (c : Cs) : Sp := fun vs H Q _ => ∃ (p dx : Addr), vs = [.ref p] ∧ H p = some (.ins c.hall dx []) ∧
  ∀ (dp dq : Addr) (H' : Hp), H dp = none → H dq = none → HallAt c H' ⟨p, dp, dq⟩ [] [] → KeepBut [p] H H' → Q .non H'
def spFindPlace (c : Cs) (e : Es) : Sp := fun vs H Q E => ∃ (h : HA) (pls : List Pl) (pcs : List Pc) (x : Str), vs = [.ref h.p, .str x] ∧ HallAt c H h pls pcs ∧ NameOk x ∧
  (∀ m ∈ pls, m.nm = x → Q (.ref m.at_) H) ∧ (hasPl pls x = false → E (.ref e.noPlace) none H)
def spFindPiece (c : Cs) (e : Es) : Sp := fun vs H Q E => ∃ (h : HA) (pls : List Pl) (pcs : List Pc) (x : Str), vs = [.ref h.p, .str x] ∧ HallAt c H h pls pcs ∧ NameOk x ∧
  (∀ m ∈ pcs, m.nm = x → Q (.ref m.at_) H) ∧ (hasPc pcs x = false → E (.ref e.noPiece) none H)
def spOpen (c : Cs) (e : Es) : Sp := fun vs H Q E => ∃ (h : HA) (pls : List Pl) (pcs : List Pc) (x k r : Str), vs = [.ref h.p, .str x, .str k, .str r] ∧ HallAt c H h pls pcs ∧ NameOk x ∧
  (hasPl pls x = true → E (.ref e.nameThere) none H) ∧ (hasPl pls x = false → pls.length = 8 → E (.ref e.tooMany) none H) ∧
  (hasPl pls x = false → pls.length < 8 → ∀ (a : Addr) (H' : Hp), H a = none → HallAt c H' h (pls ++ [⟨x, k, r, a⟩]) pcs → KeepBut [h.dp] H H' → Q .non H')
def spHang (c : Cs) (e : Es) : Sp := fun vs H Q E => ∃ (h : HA) (pls : List Pl) (pcs : List Pc) (x y : Str) (de : V) (b : Option Str), vs = [.ref h.p, .str x, .str y, de, vBy b] ∧ HallAt c H h pls pcs ∧ NameOk x ∧ NameOk y ∧ (∀ z, b = some z → NameOk z) ∧
  (hasPc pcs x = true → E (.ref e.nameThere) none H) ∧ (hasPc pcs x = false → hasPl pls y = false → E (.ref e.noPlace) none H) ∧
  (hasPc pcs x = false → hasPl pls y = true → (∀ z, b = some z → hasPc pcs z = false → E (.ref e.noPiece) none H)) ∧
  (hasPc pcs x = false → hasPl pls y = true → (∀ z, b = some z → hasPc pcs z = true) → pcs.length = 24 → E (.ref e.tooMany) none H) ∧
  (hasPc pcs x = false → hasPl pls y = true → (∀ z, b = some z → hasPc pcs z = true) → pcs.length < 24 → ∀ (m : Pc) (H' : Hp), m.nm = x → m.pl = y → m.de = de → m.by_ = b → m.on = true → m.ah = [] → m.be = [] → m.ne = [] → m.ba = [] →
    H m.at_ = none → H m.la = none → H m.lb = none → H m.ln = none → H m.lr = none → [m.la, m.lb, m.ln, m.lr].Nodup → HallAt c H' h pls (pcs ++ [m]) → KeepBut [h.dq] H H' → Q .non H')
def spHas (c : Cs) : Sp := fun vs H Q _ => ∃ (h : HA) (pls : List Pl) (pcs : List Pc) (x : Str), vs = [.ref h.p, .str x] ∧ HallAt c H h pls pcs ∧ Q (.bl (hasPc pcs x)) H
def spNames (c : Cs) : Sp := fun vs H Q _ => ∃ (h : HA) (pls : List Pl) (pcs : List Pc), vs = [.ref h.p] ∧ HallAt c H h pls pcs ∧ ∀ l, H l = none → Q (.ref l) (upd H l (.lst (pcs.map fun m => .str m.nm)))
def spAt (c : Cs) (e : Es) : Sp := fun vs H Q E => ∃ (h : HA) (pls : List Pl) (pcs : List Pc) (y : Str), vs = [.ref h.p, .str y] ∧ HallAt c H h pls pcs ∧ NameOk y ∧ (hasPl pls y = false → E (.ref e.noPlace) none H) ∧
  (hasPl pls y = true → ∀ (l : Addr) (H' : Hp), H l = none → H' l = some (.lst ((pcs.filter fun m => decide (m.pl = y) && m.on).map fun m => .str m.nm)) → Same H H' → Q (.ref l) H')
/-- the names that go with x, in the order in which the walk meets them -/
def goneTest (g : List Str) (m : Pc) : Bool := (match m.by_ with | some z => g.contains z | none => false) && !g.contains m.nm
def goneStep (g : List Str) (m : Pc) : List Str := if goneTest g m = true then g ++ [m.nm] else g
def goneOf (x : Str) (pcs : List Pc) : List Str := pcs.foldl goneStep [x]
def spDrop (c : Cs) (e : Es) : Sp := fun vs H Q E => ∃ (h : HA) (pls : List Pl) (pcs : List Pc) (x : Str), vs = [.ref h.p, .str x] ∧ HallAt c H h pls pcs ∧ NameOk x ∧ (hasPc pcs x = false → E (.ref e.noPiece) none H) ∧
  (hasPc pcs x = true → ∀ (l : Addr) (H' : Hp), H l = none → H' l = some (.lst ((goneOf x pcs).map V.str)) → HallAt c H' h pls (pcs.filter fun m => !(goneOf x pcs).contains m.nm) → KeepBut [h.dq] H H' → Q (.ref l) H')

/-! ### lookups in the hall's dicts -/
theorem val_pc {pcs : List Pc} {x : Str} : valV (kvPc pcs) (Sum.inr x : Key) = (pcs.find? fun m => decide (m.nm = x)).map fun m => V.ref m.at_ := by
  induction pcs with
  | nil => rfl
  | cons m r ih =>
    by_cases h : m.nm = x
    · rw [show kvPc (m :: r) = (Sum.inr m.nm, V.ref m.at_) :: kvPc r from rfl, valV_pos (by rw [h])]
      simp [List.find?_cons, h]
    · rw [show kvPc (m :: r) = (Sum.inr m.nm, V.ref m.at_) :: kvPc r from rfl, valV_neg (fun e => h (Sum.inr.inj e)), ih]
      simp [List.find?_cons, h]
theorem val_pl {pls : List Pl} {x : Str} : valV (kvPl pls) (Sum.inr x : Key) = (pls.find? fun m => decide (m.nm = x)).map fun m => V.ref m.at_ := by
  induction pls with
  | nil => rfl
  | cons m r ih =>
    by_cases h : m.nm = x
    · rw [show kvPl (m :: r) = (Sum.inr m.nm, V.ref m.at_) :: kvPl r from rfl, valV_pos (by rw [h])]
      simp [List.find?_cons, h]
    · rw [show kvPl (m :: r) = (Sum.inr m.nm, V.ref m.at_) :: kvPl r from rfl, valV_neg (fun e => h (Sum.inr.inj e)), ih]
      simp [List.find?_cons, h]
theorem val_pc_no {pcs : List Pc} {x : Str} : valV (kvPc pcs) (Sum.inr x : Key) = none ↔ hasPc pcs x = false := by
  rw [val_pc, Option.map_eq_none_iff, List.find?_eq_none, hasPc, List.any_eq_false]
theorem val_pl_no {pls : List Pl} {x : Str} : valV (kvPl pls) (Sum.inr x : Key) = none ↔ hasPl pls x = false := by
  rw [val_pl, Option.map_eq_none_iff, List.find?_eq_none, hasPl, List.any_eq_false]
theorem val_pc_some {pcs : List Pc} {x : Str} {v : V} (h : valV (kvPc pcs) (Sum.inr x : Key) = some v) : ∃ m ∈ pcs, m.nm = x ∧ v = .ref m.at_ := by
  rw [val_pc] at h
  obtain ⟨m, hm, rfl⟩ := Option.map_eq_some_iff.mp h
  exact ⟨m, List.mem_of_find?_eq_some hm, by simpa using List.find?_some hm, rfl⟩
theorem val_pl_some {pls : List Pl} {x : Str} {v : V} (h : valV (kvPl pls) (Sum.inr x : Key) = some v) : ∃ m ∈ pls, m.nm = x ∧ v = .ref m.at_ := by
  rw [val_pl] at h
  obtain ⟨m, hm, rfl⟩ := Option.map_eq_some_iff.mp h
  exact ⟨m, List.mem_of_find?_eq_some hm, by simpa using List.find?_some hm, rfl⟩
theorem has_pc {pcs : List Pc} {x : Str} {v : V} (h : valV (kvPc pcs) (Sum.inr x : Key) = some v) : hasPc pcs x = true := by
  cases q : hasPc pcs x with
  | true => rfl
  | false => rw [val_pc_no.mpr q] at h; cases h
theorem has_pl {pls : List Pl} {x : Str} {v : V} (h : valV (kvPl pls) (Sum.inr x : Key) = some v) : hasPl pls x = true := by
  cases q : hasPl pls x with
  | true => rfl
  | false => rw [val_pl_no.mpr q] at h; cases h
theorem put_pc {pcs : List Pc} {m : Pc} (h : hasPc pcs m.nm = false) : putK (kvPc pcs) (Sum.inr m.nm : Key) (V.ref m.at_) = kvPc (pcs ++ [m]) := by
  rw [putK_new _ (val_pc_no.mpr h)]
  simp [kvPc]
theorem put_pl {pls : List Pl} {m : Pl} (h : hasPl pls m.nm = false) : putK (kvPl pls) (Sum.inr m.nm : Key) (V.ref m.at_) = kvPl (pls ++ [m]) := by
  rw [putK_new _ (val_pl_no.mpr h)]
  simp [kvPl]
theorem nd_pc {pcs : List Pc} {m : Pc} (n : (pcs.map (·.nm)).Nodup) (h : hasPc pcs m.nm = false) : ((pcs ++ [m]).map (·.nm)).Nodup := by
  rw [List.map_append]
  refine nd_snoc n fun z => ?_
  obtain ⟨m', hm, e⟩ := List.mem_map.mp z
  have := List.any_eq_false.mp h m' hm
  simp [e] at this
theorem nd_pl {pls : List Pl} {m : Pl} (n : (pls.map (·.nm)).Nodup) (h : hasPl pls m.nm = false) : ((pls ++ [m]).map (·.nm)).Nodup := by
  rw [List.map_append]
  refine nd_snoc n fun z => ?_
  obtain ⟨m', hm, e⟩ := List.mem_map.mp z
  have := List.any_eq_false.mp h m' hm
  simp [e] at this
theorem PcAt.keep {C : Addr} {H H' : Hp} {m : Pc} {l : List Addr} (h : PcAt C H m) (k : KeepBut l H H') (hl : ∀ b ∈ l, ∃ kvs, H b = some (.dK kvs)) : PcAt C H' m := by
  obtain ⟨⟨dx, h1⟩, h2, h3, h4, h5⟩ := h
  have go : ∀ {b o}, H b = some o → (∀ kvs, o ≠ .dK kvs) → H' b = some o := fun {b o} e n => k b o e fun z => by
    obtain ⟨kvs, q⟩ := hl b z
    rw [e] at q
    exact n kvs (Option.some.inj q)
  exact ⟨⟨dx, go h1 (fun _ q => nomatch q)⟩, go h2 (fun _ q => nomatch q), go h3 (fun _ q => nomatch q), go h4 (fun _ q => nomatch q), go h5 (fun _ q => nomatch q)⟩
theorem PlAt.keep {C : Addr} {H H' : Hp} {m : Pl} {l : List Addr} (h : PlAt C H m) (k : KeepBut l H H') (hl : ∀ b ∈ l, ∃ kvs, H b = some (.dK kvs)) : PlAt C H' m := by
  obtain ⟨dx, h1⟩ := h
  refine ⟨dx, k _ _ h1 fun z => ?_⟩
  obtain ⟨kvs, q⟩ := hl _ z
  rw [h1] at q
  cases q
theorem upd_none {H : Hp} {a b : Addr} {o : HO} (h : upd H a o b = none) : b ≠ a ∧ H b = none := by
  by_cases e : b = a
  · subst e; rw [upd_same] at h; cases h
  · rw [upd_ne e] at h; exact ⟨e, h⟩
theorem one_dK {H : Hp} {d : Addr} {kvs : List (Key × V)} (e : H d = some (.dK kvs)) : ∀ b ∈ [d], ∃ kvs, H b = some (.dK kvs) := fun b hb => by
  rw [List.mem_singleton] at hb
  subst hb
  exact ⟨_, e⟩
theorem iteNN {c A B : Prop} [Decidable c] (hc : ¬ c) (h : A) : if (!decide c) = true then A else B := by
  rw [if_pos (by simp [hc])]
  exact h
theorem repr_ok {x : Str} (h : NameOk x) : (reprText x).length ≤ 2002 := by
  have := PySem.StrLaws.reprText_len x h.2
  have := h.1
  omega
/-! ### what goes with a piece -/
def kvG (gl : List Str) : List (Key × V) := gl.map fun z => (Sum.inr z, V.bl true)
theorem val_g {gl : List Str} {z : Str} : (valV (kvG gl) (Sum.inr z : Key)).isSome = gl.contains z := by
  induction gl with
  | nil => rfl
  | cons a r ih =>
    by_cases h : a = z
    · rw [show kvG (a :: r) = (Sum.inr a, V.bl true) :: kvG r from rfl, valV_pos (by rw [h])]
      simp [h]
    · rw [show kvG (a :: r) = (Sum.inr a, V.bl true) :: kvG r from rfl, valV_neg (fun e => h (Sum.inr.inj e)), ih]
      have h' : ¬ z = a := fun e => h e.symm
      simp [h']
theorem put_g {gl : List Str} {z : Str} : putK (kvG gl) (Sum.inr z : Key) (V.bl true) = kvG (if gl.contains z then gl else gl ++ [z]) := by
  have hv := val_g (gl := gl) (z := z)
  cases c : gl.contains z with
  | false =>
    rw [c] at hv
    have : valV (kvG gl) (Sum.inr z : Key) = none := by
      cases q : valV (kvG gl) (Sum.inr z : Key) with
      | none => rfl
      | some u => rw [q] at hv; cases hv
    rw [putK_new _ this]
    simp [kvG]
  | true =>
    unfold putK
    rw [valV_any, hv, c, if_pos rfl]
    simp only [if_true]
    unfold kvG
    rw [List.map_map]
    refine List.map_congr_left fun a _ => ?_
    simp only [Function.comp]
    split <;> rfl
theorem gone_snoc {x : Str} {l : List Pc} {m : Pc} : goneOf x (l ++ [m]) = goneStep (goneOf x l) m := by
  unfold goneOf
  rw [List.foldl_append]
  rfl
theorem gone_ind (x : Str) (Pr : List Str → List Pc → Prop) (h0 : Pr [x] []) (hs : ∀ g l m, Pr g l → Pr (goneStep g m) (l ++ [m])) : ∀ l, Pr (goneOf x l) l := by
  intro l
  suffices h : ∀ (r l : List Pc) (g : List Str), Pr g l → Pr (r.foldl goneStep g) (l ++ r) by
    have := h l [] [x] h0
    rw [List.nil_append] at this
    exact this
  intro r
  induction r with
  | nil => intro l g h; simpa using h
  | cons m r ih => intro l g h; have := ih (l ++ [m]) _ (hs g l m h); simpa using this
theorem gone_nodup (x : Str) (l : List Pc) : (goneOf x l).Nodup := by
  refine gone_ind x (fun g _ => g.Nodup) (by simp) (fun g l m h => ?_) l
  unfold goneStep
  by_cases c : goneTest g m = true
  · rw [if_pos c]
    unfold goneTest at c
    rw [Bool.and_eq_true] at c
    exact nd_snoc h (by simpa using c.2)
  · rw [if_neg c]
    exact h
theorem gone_len (x : Str) (l : List Pc) : (goneOf x l).length ≤ l.length + 1 := by
  refine gone_ind x (fun g l => g.length ≤ l.length + 1) (by simp) (fun g l m h => ?_) l
  unfold goneStep
  by_cases c : goneTest g m = true
  · rw [if_pos c, List.length_append, List.length_append, List.length_singleton, List.length_singleton]
    omega
  · rw [if_neg c, List.length_append, List.length_singleton]
    omega
theorem gone_in (x : Str) (l : List Pc) : ∀ z ∈ goneOf x l, z = x ∨ hasPc l z = true := by
  refine gone_ind x (fun g l => ∀ z ∈ g, z = x ∨ hasPc l z = true) (by simp) (fun g l m h => ?_) l
  have up : ∀ z, hasPc l z = true → hasPc (l ++ [m]) z = true := fun z q => by unfold hasPc at q ⊢; rw [List.any_append, q]; rfl
  intro z hz
  unfold goneStep at hz
  by_cases c : goneTest g m = true
  · rw [if_pos c] at hz
    rcases List.mem_append.mp hz with q | q
    · rcases h z q with r | r
      · exact .inl r
      · exact .inr (up z r)
    · rw [List.mem_singleton.mp q]
      exact .inr (by unfold hasPc; simp)
  · rw [if_neg c] at hz
    rcases h z hz with r | r
    · exact .inl r
    · exact .inr (up z r)
theorem drop_pc {ps : List Pc} {z : Str} : dropK (kvPc ps) (Sum.inr z : Key) = kvPc (ps.filter fun m => !decide (m.nm = z)) := by
  induction ps with
  | nil => rfl
  | cons m r ih =>
    by_cases h : m.nm = z
    · rw [show kvPc (m :: r) = (Sum.inr m.nm, V.ref m.at_) :: kvPc r from rfl, dropK_pos (by rw [h]), ih]
      simp [h]
    · rw [show kvPc (m :: r) = (Sum.inr m.nm, V.ref m.at_) :: kvPc r from rfl, dropK_neg (fun e => h (Sum.inr.inj e)), ih]
      simp [h, kvPc]
end HB

set_option Elab.async false
set_option linter.all false
set_option maxRecDepth 100000
namespace HK
open PySem L2 HB
def top (i : Nat) : Stmt := PySem.Challenge.pw_hookhall_k01_places_and_pieces.main.body.getD i (.Pass ⟨0, 0, 0, 0⟩)
abbrev sPlaceInit : Stmt := inClass (top 10) 0
abbrev sPieceInit : Stmt := inClass (top 11) 0
abbrev sInit : Stmt := inClass (top 12) 0
abbrev sOpen : Stmt := inClass (top 12) 1
abbrev sHang : Stmt := inClass (top 12) 2
abbrev sHas : Stmt := inClass (top 12) 4
abbrev sNames : Stmt := inClass (top 12) 5
abbrev sDrop : Stmt := inClass (top 12) 6
abbrev sAt : Stmt := inClass (top 12) 8
abbrev sFindPlace : Stmt := inClass (top 12) 9
abbrev sFindPiece : Stmt := inClass (top 12) 10
/-- what the walk asks of the classes and the module -/
structure TxtC (K : PySem.W.Frag) (mg : Str → Option Value) (c : Cs) (e : Es) : Prop where
  clH : Cls K c.hall
  clP : Cls K c.place
  clQ : Cls K c.piece
  hPlaces : NoAttr K c.hall "places"
  hPieces : NoAttr K c.hall "pieces"
  pKind : NoAttr K c.place "kind"
  pRule : NoAttr K c.place "rule"
  qPlace : NoAttr K c.piece "place"
  qDeed : NoAttr K c.piece "deed"
  qBy : NoAttr K c.piece "by"
  qOn : NoAttr K c.piece "on"
  qAhead : NoAttr K c.piece "ahead"
  qBehind : NoAttr K c.piece "behind"
  qNeeds : NoAttr K c.piece "needs"
  qBars : NoAttr K c.piece "bars"
  mgPlace : mg "Place" = some (.ref c.place)
  mgPiece : mg "Piece" = some (.ref c.piece)
  mgHall : mg "Hall" = some (.ref c.hall)
  mg8 : ∃ t, mg "MOST_PLACES" = some (.int 8 t)
  mg24 : ∃ t, mg "MOST_PIECES" = some (.int 24 t)
  len : mg "len" = none
  list : mg "list" = none
  xN : PySem.W.excIn K e.nameThere bmVE "ValueError.__new__" = true
  xP : PySem.W.excIn K e.noPlace bmVE "ValueError.__new__" = true
  xQ : PySem.W.excIn K e.noPiece bmVE "ValueError.__new__" = true
  xT : PySem.W.excIn K e.tooMany bmVE "ValueError.__new__" = true
  mgN : mg "NameThere" = some (.ref e.nameThere)
  mgP : mg "NoPlace" = some (.ref e.noPlace)
  mgQ : mg "NoPiece" = some (.ref e.noPiece)
  mgT : mg "TooMany" = some (.ref e.tooMany)
section
variable {P : Program} {w : World} {K : PySem.W.Frag} {mg : Str → Option Value} {base : Heap} {c : Cs} {e : Es}
theorem scPlaceInit : FnScope ["self", "kind", "rule"] ["self", "kind", "rule"] (defScope sPlaceInit) := ⟨rfl, rfl, rfl, by decide +kernel, rfl, by decide +kernel, by decide +kernel⟩
theorem ok_placeInit {f : Addr} {fd : FuncData} (F : Fun K "__init__" "Place.__init__" sPlaceInit f fd) (T : TxtC K mg c e) : FnOk P w K mg base CX0 1 f fd ["self", "kind", "rule"] (spPlaceInit c) := by
  refine F.ok scPlaceInit (fun vs H Q E h => ?_) (fun cdv A outer s H vs Q E hr h => ?_)
  · obtain ⟨p, dx, k, r, rfl, _⟩ := h
    rfl
  · obtain ⟨p, dx, k, r, rfl, hp, q⟩ := h
    refine ⟨_, pss_cons (ps_fld (pv 0) (pv 1) rfl) (pss_one (ps_fld (pv 0) (pv 2) rfl)), ?_⟩
    refine ⟨_, rfl, _, rfl, p, c.place, dx, [], rfl, hp, T.clP, T.pKind, (by show 0 < 1000; decide), _, rfl, _, rfl, p, c.place, dx, _, rfl, upd_same, T.clP, T.pRule, (by show 1 < 1000; decide), ?_⟩
    refine q _ (Eq.trans upd_same ?_) fun b o z hb => ?_
    · rw [putF_app (fs := putF "kind" k []) (by show (["kind"] : List Str).contains "rule" = false; decide +kernel)]
      rfl
    · have hb : b ≠ p := by simpa using hb
      rw [upd_ne hb, upd_ne hb]
      exact z
theorem scPieceInit : FnScope ["self", "place", "deed", "by"] ["self", "place", "deed", "by"] (defScope sPieceInit) := ⟨rfl, rfl, rfl, by decide +kernel, rfl, by decide +kernel, by decide +kernel⟩
theorem ok_pieceInit {f : Addr} {fd : FuncData} (F : Fun K "__init__" "Piece.__init__" sPieceInit f fd) (T : TxtC K mg c e) : FnOk P w K mg base CX0 1 f fd ["self", "place", "deed", "by"] (spPieceInit c) := by
  refine F.ok scPieceInit (fun vs H Q E h => ?_) (fun cdv A outer s H vs Q E hr h => ?_)
  · obtain ⟨p, dx, k, r, b, rfl, _⟩ := h
    rfl
  · obtain ⟨p, dx, pl, de, by_, rfl, hp, q⟩ := h
    refine ⟨_, pss_cons (ps_fld (pv 0) (pv 1) rfl) (pss_cons (ps_fld (pv 0) (pv 2) rfl) (pss_cons (ps_fld (pv 0) (pv 3) rfl) (pss_cons (ps_fld (pv 0) pe_bl rfl)
      (pss_cons (ps_fld (pv 0) (pe_lst pa_nil) rfl) (pss_cons (ps_fld (pv 0) (pe_lst pa_nil) rfl) (pss_cons (ps_fld (pv 0) (pe_lst pa_nil) rfl) (pss_one (ps_fld (pv 0) (pe_lst pa_nil) rfl)))))))), ?_⟩
    refine ⟨_, rfl, _, rfl, p, c.piece, dx, [], rfl, hp, T.clQ, T.qPlace, (by show 0 < 1000; decide), ?_⟩
    refine ⟨_, rfl, _, rfl, p, c.piece, dx, _, rfl, upd_same, T.clQ, T.qDeed, (by show 1 < 1000; decide), ?_⟩
    refine ⟨_, rfl, _, rfl, p, c.piece, dx, _, rfl, upd_same, T.clQ, T.qBy, ?l2, ?_⟩
    case l2 => rw [putF_app (fs := putF "place" pl []) (by show (["place"] : List Str).contains "deed" = false; decide +kernel)]; show 2 < 1000; decide
    rw [putF_app (fs := putF "place" pl []) (by show (["place"] : List Str).contains "deed" = false; decide +kernel)]
    rw [putF_app (fs := putF "place" pl [] ++ [(("deed" : Str), de)]) (by show (["place", "deed"] : List Str).contains "by" = false; decide +kernel)]
    refine ⟨_, rfl, p, c.piece, dx, _, rfl, upd_same, T.clQ, T.qOn, (by show 3 < 1000; decide), ?_⟩
    rw [putF_app (fs := (putF "place" pl [] ++ [(("deed" : Str), de)]) ++ [(("by" : Str), by_)]) (by show (["place", "deed", "by"] : List Str).contains "on" = false; decide +kernel)]
    refine ⟨Nat.zero_le _, fun la na => ?_⟩
    refine ⟨_, rfl, p, c.piece, dx, _, rfl, (by rw [upd_ne (ne_of_none upd_same na)]; exact upd_same), T.clQ, T.qAhead, (by show 4 < 1000; decide), ?_⟩
    rw [putF_app (fs := ((putF "place" pl [] ++ [(("deed" : Str), de)]) ++ [(("by" : Str), by_)]) ++ [(("on" : Str), V.bl true)]) (by show (["place", "deed", "by", "on"] : List Str).contains "ahead" = false; decide +kernel)]
    refine ⟨Nat.zero_le _, fun lb nb => ?_⟩
    refine ⟨_, rfl, p, c.piece, dx, _, rfl, (by rw [upd_ne (ne_of_none upd_same nb)]; exact upd_same), T.clQ, T.qBehind, (by show 5 < 1000; decide), ?_⟩
    rw [putF_app (fs := (((putF "place" pl [] ++ [(("deed" : Str), de)]) ++ [(("by" : Str), by_)]) ++ [(("on" : Str), V.bl true)]) ++ [(("ahead" : Str), V.ref la)]) (by show (["place", "deed", "by", "on", "ahead"] : List Str).contains "behind" = false; decide +kernel)]
    refine ⟨Nat.zero_le _, fun ln nn => ?_⟩
    refine ⟨_, rfl, p, c.piece, dx, _, rfl, (by rw [upd_ne (ne_of_none upd_same nn)]; exact upd_same), T.clQ, T.qNeeds, (by show 6 < 1000; decide), ?_⟩
    rw [putF_app (fs := ((((putF "place" pl [] ++ [(("deed" : Str), de)]) ++ [(("by" : Str), by_)]) ++ [(("on" : Str), V.bl true)]) ++ [(("ahead" : Str), V.ref la)]) ++ [(("behind" : Str), V.ref lb)]) (by show (["place", "deed", "by", "on", "ahead", "behind"] : List Str).contains "needs" = false; decide +kernel)]
    refine ⟨Nat.zero_le _, fun lr nr => ?_⟩
    refine ⟨_, rfl, p, c.piece, dx, _, rfl, (by rw [upd_ne (ne_of_none upd_same nr)]; exact upd_same), T.clQ, T.qBars, (by show 7 < 1000; decide), ?_⟩
    rw [putF_app (fs := (((((putF "place" pl [] ++ [(("deed" : Str), de)]) ++ [(("by" : Str), by_)]) ++ [(("on" : Str), V.bl true)]) ++ [(("ahead" : Str), V.ref la)]) ++ [(("behind" : Str), V.ref lb)]) ++ [(("needs" : Str), V.ref ln)]) (by show (["place", "deed", "by", "on", "ahead", "behind", "needs"] : List Str).contains "bars" = false; decide +kernel)]
    obtain ⟨ap, na⟩ := upd_none na
    obtain ⟨_, na⟩ := upd_none na
    obtain ⟨_, na⟩ := upd_none na
    obtain ⟨_, na⟩ := upd_none na
    obtain ⟨bp, nb⟩ := upd_none nb
    obtain ⟨ba, nb⟩ := upd_none nb
    obtain ⟨_, nb⟩ := upd_none nb
    obtain ⟨_, nb⟩ := upd_none nb
    obtain ⟨_, nb⟩ := upd_none nb
    obtain ⟨_, nb⟩ := upd_none nb
    obtain ⟨np, nn⟩ := upd_none nn
    obtain ⟨nb', nn⟩ := upd_none nn
    obtain ⟨_, nn⟩ := upd_none nn
    obtain ⟨na', nn⟩ := upd_none nn
    obtain ⟨_, nn⟩ := upd_none nn
    obtain ⟨_, nn⟩ := upd_none nn
    obtain ⟨_, nn⟩ := upd_none nn
    obtain ⟨_, nn⟩ := upd_none nn
    obtain ⟨rp, nr⟩ := upd_none nr
    obtain ⟨rn, nr⟩ := upd_none nr
    obtain ⟨_, nr⟩ := upd_none nr
    obtain ⟨rb, nr⟩ := upd_none nr
    obtain ⟨_, nr⟩ := upd_none nr
    obtain ⟨ra, nr⟩ := upd_none nr
    obtain ⟨_, nr⟩ := upd_none nr
    obtain ⟨_, nr⟩ := upd_none nr
    obtain ⟨_, nr⟩ := upd_none nr
    obtain ⟨_, nr⟩ := upd_none nr
    refine q la lb ln lr _ na nb nn nr ?_ upd_same ?_ ?_ ?_ ?_ fun b o z hb => ?_
    · simp [ba.symm, na'.symm, nb'.symm, rn.symm, rb.symm, ra.symm]
    · rw [upd_ne ap, upd_ne ra.symm, upd_ne ap, upd_ne na'.symm, upd_ne ap, upd_ne ba.symm, upd_ne ap, upd_same]
    · rw [upd_ne bp, upd_ne rb.symm, upd_ne bp, upd_ne nb'.symm, upd_ne bp, upd_same]
    · rw [upd_ne np, upd_ne rn.symm, upd_ne np, upd_same]
    · rw [upd_ne rp, upd_same]
    · have hb : b ≠ p := by simpa using hb
      rw [upd_ne hb, upd_ne (ne_of_none z nr), upd_ne hb, upd_ne (ne_of_none z nn), upd_ne hb, upd_ne (ne_of_none z nb), upd_ne hb, upd_ne (ne_of_none z na), upd_ne hb, upd_ne hb, upd_ne hb, upd_ne hb]
      exact z
theorem scInit : FnScope ["self"] ["self"] (defScope sInit) := ⟨rfl, rfl, rfl, by decide +kernel, rfl, by decide +kernel, by decide +kernel⟩
theorem ok_init {f : Addr} {fd : FuncData} (F : Fun K "__init__" "Hall.__init__" sInit f fd) (T : TxtC K mg c e) : FnOk P w K mg base CX0 1 f fd ["self"] (spHallInit c) := by
  refine F.ok scInit (fun vs H Q E h => ?_) (fun cdv A outer s H vs Q E hr h => ?_)
  · obtain ⟨p, dx, rfl, _⟩ := h
    rfl
  · obtain ⟨p, dx, rfl, hp, q⟩ := h
    refine ⟨_, pss_cons (ps_fld (pv 0) pe_dnewK rfl) (pss_one (ps_fld (pv 0) pe_dnewK rfl)), ?_⟩
    intro dp hdp
    have n1 : p ≠ dp := ne_of_none hp hdp
    refine ⟨_, rfl, p, c.hall, dx, [], rfl, (by rw [upd_ne n1]; exact hp), T.clH, T.hPlaces, (by show 0 < 1000; decide), ?_⟩
    intro dq hdq
    obtain ⟨n2, hdq⟩ := upd_none hdq
    obtain ⟨n3, hdq⟩ := upd_none hdq
    refine ⟨_, rfl, p, c.hall, dx, _, rfl, (by rw [upd_ne n2.symm, upd_same]), T.clH, T.hPieces, (by show 1 < 1000; decide), ?_⟩
    rw [putF_app (fs := putF "places" (V.ref dp) []) (by show (["places"] : List Str).contains "pieces" = false; decide +kernel)]
    refine q dp dq _ hdp hdq ⟨⟨dx, upd_same⟩, ?_, ?_, n3.symm, (fun m z => nomatch z), (fun m z => nomatch z), List.nodup_nil, List.nodup_nil, Nat.zero_le _, Nat.zero_le _⟩ fun b o z hb => ?_
    · rw [upd_ne n1.symm, upd_ne n3.symm, upd_ne n1.symm, upd_same]
      rfl
    · rw [upd_ne n2, upd_same]
      rfl
    · have hb : b ≠ p := by simpa using hb
      rw [upd_ne hb, upd_ne (ne_of_none z hdq), upd_ne hb, upd_ne (ne_of_none z hdp)]
      exact z
/-! ### finding -/
theorem fs2 {l : Str} {x : Str} (hl : l.length ≤ 1000) (h : NameOk x) : ((Str.empty ++ l) ++ reprText x).length ≤ sizeLine := by
  have := repr_ok h
  rw [strLen_append, strLen_append, sizeLine_eq]
  have : Str.empty.length = 0 := rfl
  omega
theorem fs3 {l r : Str} {x : Str} (hl : l.length ≤ 1000) (hr : r.length ≤ 1000) (h : NameOk x) : (((Str.empty ++ l) ++ reprText x) ++ r).length ≤ sizeLine := by
  have := repr_ok h
  rw [strLen_append, strLen_append, strLen_append, sizeLine_eq]
  have : Str.empty.length = 0 := rfl
  omega
theorem reprLine {x : Str} (h : NameOk x) : (reprText x).length ≤ sizeLine := by
  have := repr_ok h
  rw [sizeLine_eq]
  omega
theorem scFindPlace : FnScope ["self", "name"] ["self", "name"] (defScope sFindPlace) := ⟨rfl, rfl, rfl, by decide +kernel, rfl, by decide +kernel, by decide +kernel⟩
theorem ok_findPlace {f : Addr} {fd : FuncData} (F : Fun K "find_place" "Hall.find_place" sFindPlace f fd) (T : TxtC K mg c e) : FnOk P w K mg base (CXE P w) 1 f fd ["self", "name"] (spFindPlace c e) := by
  refine F.toV.okE scFindPlace (fun vs H Q E h => ?_) (fun cdv A outer s H vs Q E hr h => ?_)
  · obtain ⟨h, pls, pcs, x, rfl, _⟩ := h
    rfl
  · obtain ⟨h, pls, pcs, x, rfl, S, nx, q1, q2⟩ := h
    have hu := hu_of hr
    obtain ⟨dx, h1⟩ := S.ob
    refine ⟨_, pss_cons (ps_if (pt_cmp (pc_dnotin hu (pv 1) (pe_fld (pv 0) rfl))) (pss_one (ps_raise raises_fn rfl T.xP rfl T.mgP (pa_cons (pe_joined (PJ.cons pe_str (PJ.cons (pe_repr (pv 1)) PJ.nil))) pa_nil))) pss_nil)
      (pss_one (ps_ret (pe_dget hu (pe_fld (pv 0) rfl) (pv 1) (fun _ _ => rfl)))), ?_⟩
    refine ⟨_, rfl, _, rfl, h.p, c.hall, dx, _, _, rfl, h1, T.clH, T.hPlaces, hall_places, h.dp, _, rfl, DGet.k (k := Sum.inr x) S.dpl, _, rfl, ?_⟩
    cases v : valV (kvPl pls) (Sum.inr x : Key) with
    | none =>
      refine iteT ?_
      exact ⟨_, rfl, (by decide +kernel), _, rfl, x, rfl, reprLine nx, _, rfl, fs2 (by decide +kernel) nx, fs2 (by decide +kernel) nx, (by show 1 ≤ sizeLine; decide), q2 (val_pl_no.mp v)⟩
    | some u =>
      refine iteF ?_
      obtain ⟨m, hm, e1, rfl⟩ := val_pl_some v
      exact ⟨_, rfl, h.p, c.hall, dx, _, _, rfl, h1, T.clH, T.hPlaces, hall_places, _, rfl, h.dp, _, rfl, v ▸ DGet.k (k := Sum.inr x) S.dpl, q1 m hm e1⟩
theorem scFindPiece : FnScope ["self", "name"] ["self", "name"] (defScope sFindPiece) := ⟨rfl, rfl, rfl, by decide +kernel, rfl, by decide +kernel, by decide +kernel⟩
theorem ok_findPiece {f : Addr} {fd : FuncData} (F : Fun K "find_piece" "Hall.find_piece" sFindPiece f fd) (T : TxtC K mg c e) : FnOk P w K mg base (CXE P w) 1 f fd ["self", "name"] (spFindPiece c e) := by
  refine F.toV.okE scFindPiece (fun vs H Q E h => ?_) (fun cdv A outer s H vs Q E hr h => ?_)
  · obtain ⟨h, pls, pcs, x, rfl, _⟩ := h
    rfl
  · obtain ⟨h, pls, pcs, x, rfl, S, nx, q1, q2⟩ := h
    have hu := hu_of hr
    obtain ⟨dx, h1⟩ := S.ob
    refine ⟨_, pss_cons (ps_if (pt_cmp (pc_dnotin hu (pv 1) (pe_fld (pv 0) rfl))) (pss_one (ps_raise raises_fn rfl T.xQ rfl T.mgQ (pa_cons (pe_joined (PJ.cons pe_str (PJ.cons (pe_repr (pv 1)) (PJ.cons pe_str PJ.nil)))) pa_nil))) pss_nil)
      (pss_one (ps_ret (pe_dget hu (pe_fld (pv 0) rfl) (pv 1) (fun _ _ => rfl)))), ?_⟩
    refine ⟨_, rfl, _, rfl, h.p, c.hall, dx, _, _, rfl, h1, T.clH, T.hPieces, hall_pieces, h.dq, _, rfl, DGet.k (k := Sum.inr x) S.dpc, _, rfl, ?_⟩
    cases v : valV (kvPc pcs) (Sum.inr x : Key) with
    | none =>
      refine iteT ?_
      exact ⟨_, rfl, (by decide +kernel), _, rfl, x, rfl, reprLine nx, _, rfl, fs2 (by decide +kernel) nx, _, rfl, fs3 (by decide +kernel) (by decide +kernel) nx, fs3 (by decide +kernel) (by decide +kernel) nx, (by show 1 ≤ sizeLine; decide), q2 (val_pc_no.mp v)⟩
    | some u =>
      refine iteF ?_
      obtain ⟨m, hm, e1, rfl⟩ := val_pc_some v
      exact ⟨_, rfl, h.p, c.hall, dx, _, _, rfl, h1, T.clH, T.hPieces, hall_pieces, _, rfl, h.dq, _, rfl, v ▸ DGet.k (k := Sum.inr x) S.dpc, q1 m hm e1⟩
theorem scHas : FnScope ["self", "name"] ["self", "name"] (defScope sHas) := ⟨rfl, rfl, rfl, by decide +kernel, rfl, by decide +kernel, by decide +kernel⟩
theorem ok_has {f : Addr} {fd : FuncData} (F : Fun K "has" "Hall.has" sHas f fd) (T : TxtC K mg c e) : FnOk P w K mg base CX0 1 f fd ["self", "name"] (spHas c) := by
  refine F.ok scHas (fun vs H Q E h => ?_) (fun cdv A outer s H vs Q E hr h => ?_)
  · obtain ⟨h, pls, pcs, x, rfl, _⟩ := h
    rfl
  · obtain ⟨h, pls, pcs, x, rfl, S, q⟩ := h
    have hu := hu_of hr
    obtain ⟨dx, h1⟩ := S.ob
    refine ⟨_, pss_one (ps_ret (pe_cmp (pc_din hu (pv 1) (pe_fld (pv 0) rfl)))), ?_⟩
    refine ⟨_, rfl, _, rfl, h.p, c.hall, dx, _, _, rfl, h1, T.clH, T.hPieces, hall_pieces, h.dq, _, rfl, DGet.k (k := Sum.inr x) S.dpc, ?_⟩
    have e1 : (valV (kvPc pcs) (Sum.inr x : Key)).isSome = hasPc pcs x := by
      cases v : valV (kvPc pcs) (Sum.inr x : Key) with
      | none => exact (val_pc_no.mp v).symm
      | some u => exact (has_pc v).symm
    show Q (.bl (valV (kvPc pcs) (Sum.inr x : Key)).isSome) H
    rw [e1]
    exact q
theorem scNames : FnScope ["self"] ["self"] (defScope sNames) := ⟨rfl, rfl, rfl, by decide +kernel, rfl, by decide +kernel, by decide +kernel⟩
theorem ok_names {f : Addr} {fd : FuncData} (F : Fun K "names" "Hall.names" sNames f fd) (T : TxtC K mg c e) : FnOk P w K mg base CX0 1 f fd ["self"] (spNames c) := by
  refine F.ok scNames (fun vs H Q E h => ?_) (fun cdv A outer s H vs Q E hr h => ?_)
  · obtain ⟨h, pls, pcs, rfl, _⟩ := h
    rfl
  · obtain ⟨h, pls, pcs, rfl, S, q⟩ := h
    obtain ⟨dx, h1⟩ := S.ob
    refine ⟨_, pss_one (ps_ret (pe_callTy (call_list_dict rfl) rfl T.list (show bootBuiltins "list" = some (.type "list") by decide +kernel) (pa_cons (pe_fld (pv 0) rfl) pa_nil))), ?_⟩
    refine ⟨_, rfl, h.p, c.hall, dx, _, _, rfl, h1, T.clH, T.hPieces, hall_pieces, h.dq, _, rfl, .inl S.dpc, fun l hl => ?_⟩
    have e1 : ((kvPc pcs).map fun p => kV p.1) = pcs.map fun m => V.str m.nm := by simp [kvPc, kV]
    rw [e1]
    exact q l hl
theorem scOpen : FnScope ["self", "name", "kind", "rule"] ["self", "name", "kind", "rule"] (defScope sOpen) := ⟨rfl, rfl, rfl, by decide +kernel, rfl, by decide +kernel, by decide +kernel⟩
theorem ok_open {f fI : Addr} {fd fdI : FuncData} (F : Fun K "open_place" "Hall.open_place" sOpen f fd) (T : TxtC K mg c e) (M : Mk K c.place fI) (FI : Fun K "__init__" "Place.__init__" sPlaceInit fI fdI) (bI : Binds K fdI ["self", "kind", "rule"] []) :
    FnOk P w K mg base (CXE P w) 3 f fd ["self", "name", "kind", "rule"] (spOpen c e) := by
  have GI : FnOk P w K mg base CX0 1 fI fdI ["self", "kind", "rule"] (spPlaceInit c) := ok_placeInit FI T
  obtain ⟨t8, m8⟩ := T.mg8
  refine F.toV.okE scOpen (fun vs H Q E h => ?_) (fun cdv A outer s H vs Q E hr h => ?_)
  · obtain ⟨h, pls, pcs, x, k, r, rfl, _⟩ := h
    rfl
  · obtain ⟨h, pls, pcs, x, k, r, rfl, S, nx, q1, q2, q3⟩ := h
    have hu := hu_of hr
    obtain ⟨dx, h1⟩ := S.ob
    refine ⟨_, pss_cons (ps_if (pt_cmp (pc_din hu (pv 1) (pe_fld (pv 0) rfl))) (pss_one (ps_raise raises_fn rfl T.xN rfl T.mgN (pa_cons (pe_joined (PJ.cons pe_str (PJ.cons (pe_repr (pv 1)) (PJ.cons pe_str PJ.nil)))) pa_nil))) pss_nil)
      (pss_cons (ps_if (pt_cmpR op_ge (pe_callB call_lenD (by rfl) T.len PySem.boot_len (pa_cons (pe_fld (pv 0) rfl) pa_nil)) (pe_glob (v := .int 8) rfl m8 ⟨_, rfl⟩) (nomark _)) (pss_one (ps_raise raises_fn rfl T.xT rfl T.mgT (pa_cons pe_str pa_nil))) pss_nil)
      (pss_one (ps_dput hu (pe_fld (pv 0) rfl) (pv 1) (pe_make M GI hr rfl T.mgPlace bI .nil pass0 (pa_cons (pv 2) (pa_cons (pv 3) pa_nil))) rfl))), ?_⟩
    refine ⟨_, rfl, _, rfl, h.p, c.hall, dx, _, _, rfl, h1, T.clH, T.hPlaces, hall_places, h.dp, _, rfl, DGet.k (k := Sum.inr x) S.dpl, _, rfl, ?_⟩
    cases v : valV (kvPl pls) (Sum.inr x : Key) with
    | some u =>
      refine iteT ?_
      exact ⟨_, rfl, (by decide +kernel), _, rfl, x, rfl, reprLine nx, _, rfl, fs2 (by decide +kernel) nx, _, rfl, fs3 (by decide +kernel) (by decide +kernel) nx, fs3 (by decide +kernel) (by decide +kernel) nx, (by show 1 ≤ sizeLine; decide), q1 (has_pl v)⟩
    | none =>
      refine iteF ?_
      have hn := val_pl_no.mp v
      have hlen : (kvPl pls).length = pls.length := List.length_map _
      refine ⟨_, rfl, h.p, c.hall, dx, _, _, rfl, h1, T.clH, T.hPlaces, hall_places, h.dp, _, rfl, S.dpl, _, _, rfl, rfl, _, rfl, ?_⟩
      refine ite2 (fun hl => ?_) (fun hl => ?_)
      · have hl : pls.length = 8 := by
          have := S.lpl
          have := of_decide_eq_true hl
          rw [hlen] at this
          omega
        exact ⟨by show 1 ≤ sizeLine; decide, q2 hn hl⟩
      · have hl : pls.length < 8 := by
          rw [decide_eq_true_iff, hlen] at hl
          omega
        -- Place(kind, rule)
        refine ⟨_, rfl, _, rfl, fun a da na nda nad => ?_⟩
        refine ⟨a, da, .str k, .str r, rfl, upd_same, fun H2 hp2 kb => ⟨rfl, ?_⟩⟩
        have hk : ∀ b o, H b = some o → H2 b = some o := fun b o z => kb b o (by rw [upd_ne (ne_of_none z na), upd_ne (ne_of_none z nda)]; exact z) (by simpa using ne_of_none z na)
        refine ⟨_, rfl, h.p, c.hall, dx, _, _, rfl, hk _ _ h1, T.clH, T.hPlaces, hall_places, _, rfl, h.dp, _, rfl, DPut.k (k := Sum.inr x) (hk _ _ S.dpl) (small1000 (by rw [hlen]; omega)), ?_⟩
        have ea : (V.ref a) = V.ref (Pl.mk x k r a).at_ := rfl
        have e1 := put_pl (m := ⟨x, k, r, a⟩) hn
        have kd : ∀ b, b ≠ h.dp → ∀ o, H b = some o → upd H2 h.dp (.dK (putK (kvPl pls) (Sum.inr x) (V.ref a))) b = some o := fun b hb o z => by rw [upd_ne hb]; exact hk b o z
        have kb2 : KeepBut [h.dp] H (upd H2 h.dp (.dK (putK (kvPl pls) (Sum.inr x) (V.ref a)))) := fun b o z hb => kd b (by simpa using hb) o z
        have dkv := one_dK S.dpl
        refine q3 hn hl a _ na ⟨⟨dx, kd _ (ne_of h1 S.dpl (by intro z; cases z)) _ h1⟩, by rw [upd_same]; exact congrArg (fun z => some (HO.dK z)) e1, kd _ S.ne.symm _ S.dpc, S.ne, fun m hm => ?_, fun m hm => (S.pc m hm).keep kb2 dkv, nd_pl S.npl hn, S.npc, by rw [List.length_append]; show pls.length + 1 ≤ 8; omega, S.lpc⟩ kb2
        rcases List.mem_append.mp hm with z | z
        · exact (S.pl m z).keep kb2 dkv
        · rw [List.mem_singleton.mp z]
          refine ⟨da, ?_⟩
          rw [upd_ne (show a ≠ h.dp from (ne_of_none S.dpl na).symm)]
          exact hp2
theorem scHang : FnScope ["self", "name", "place", "deed", "by"] ["self", "name", "place", "deed", "by"] (defScope sHang) := ⟨rfl, rfl, rfl, by decide +kernel, rfl, by decide +kernel, by decide +kernel⟩
theorem ok_hang {f fI fP fQ : Addr} {fd fdI fdP fdQ : FuncData} {dV : Value} (F : FunV K "hang" "Hall.hang" sHang dV f fd) (T : TxtC K mg c e) (M : Mk K c.piece fI) (FI : Fun K "__init__" "Piece.__init__" sPieceInit fI fdI) (bI : Binds K fdI ["self", "place", "deed", "by"] [])
    (FP : Fun K "find_place" "Hall.find_place" sFindPlace fP fdP) (bP : Binds K fdP ["self", "name"] []) (mP : Meth K c.hall "find_place" fP) (FQ : Fun K "find_piece" "Hall.find_piece" sFindPiece fQ fdQ) (bQ : Binds K fdQ ["self", "name"] []) (mQ : Meth K c.hall "find_piece" fQ) :
    FnOk P w K mg base (CXE P w) 3 f fd ["self", "name", "place", "deed", "by"] (spHang c e) := by
  have GI : FnOk P w K mg base CX0 1 fI fdI ["self", "place", "deed", "by"] (spPieceInit c) := ok_pieceInit FI T
  have GP : FnOk P w K mg base (CXE P w) 1 fP fdP ["self", "name"] (spFindPlace c e) := ok_findPlace FP T
  have GQ : FnOk P w K mg base (CXE P w) 1 fQ fdQ ["self", "name"] (spFindPiece c e) := ok_findPiece FQ T
  obtain ⟨t24, m24⟩ := T.mg24
  refine F.okE scHang (fun vs H Q E h => ?_) (fun cdv A outer s H vs Q E hr h => ?_)
  · obtain ⟨h, pls, pcs, x, y, de, b, rfl, _⟩ := h
    rfl
  · obtain ⟨h, pls, pcs, x, y, de, b, rfl, S, nx, ny, nb, q1, q2, q3, q4, q5⟩ := h
    have hu := hu_of hr
    have hr1 : Room 1 _ := hr.mono (by decide)
    obtain ⟨dx, h1⟩ := S.ob
    refine ⟨_, pss_cons (ps_if (pt_cmp (pc_din hu (pv 1) (pe_fld (pv 0) rfl))) (pss_one (ps_raise raises_fn rfl T.xN rfl T.mgN (pa_cons (pe_joined (PJ.cons pe_str (PJ.cons (pe_repr (pv 1)) (PJ.cons pe_str PJ.nil)))) pa_nil))) pss_nil)
      (pss_cons (ps_expr (pe_meth (pv 0) T.clH mP GP hr1 bP .nil pass_fn (pa_cons (pv 2) pa_nil)))
      (pss_cons (ps_if (pt_cmp (pc_notN (pv 4))) (pss_one (ps_expr (pe_meth (pv 0) T.clH mQ GQ hr1 bQ .nil pass_fn (pa_cons (pv 4) pa_nil)))) pss_nil)
      (pss_cons (ps_if (pt_cmpR op_ge (pe_callB call_lenD (by rfl) T.len PySem.boot_len (pa_cons (pe_fld (pv 0) rfl) pa_nil)) (pe_glob (v := .int 24) rfl m24 ⟨_, rfl⟩) (nomark _)) (pss_one (ps_raise raises_fn rfl T.xT rfl T.mgT (pa_cons pe_str pa_nil))) pss_nil)
      (pss_one (ps_dput hu (pe_fld (pv 0) rfl) (pv 1) (pe_make M GI hr rfl T.mgPiece bI .nil pass0 (pa_cons (pv 2) (pa_cons (pv 3) (pa_cons (pv 4) pa_nil)))) rfl))))), ?_⟩
    refine ⟨_, rfl, _, rfl, h.p, c.hall, dx, _, _, rfl, h1, T.clH, T.hPieces, hall_pieces, h.dq, _, rfl, DGet.k (k := Sum.inr x) S.dpc, _, rfl, ?_⟩
    cases v : valV (kvPc pcs) (Sum.inr x : Key) with
    | some u =>
      refine iteT ?_
      exact ⟨_, rfl, (by decide +kernel), _, rfl, x, rfl, reprLine nx, _, rfl, fs2 (by decide +kernel) nx, _, rfl, fs3 (by decide +kernel) (by decide +kernel) nx, fs3 (by decide +kernel) (by decide +kernel) nx, (by show 1 ≤ sizeLine; decide), q1 (has_pc v)⟩
    | none =>
      refine iteF ?_
      have hn := val_pc_no.mp v
      have hlen : (kvPc pcs).length = pcs.length := List.length_map _
      -- self.find_place(place)
      refine ⟨_, rfl, h.p, dx, _, rfl, h1, hall_no (by decide +kernel) (by decide +kernel), _, rfl, h, pls, pcs, y, rfl, S, ny, fun m hm em => ?_, fun hy => q2 hn hy⟩
      have hy : hasPl pls y = true := List.any_eq_true.mpr ⟨m, hm, by simpa using em⟩
      -- if by is not None
      by_cases hbn : b = none
      case' pos =>
        refine ⟨_, rfl, _, rfl, ?_⟩
        refine iteNS (by rw [hbn]; rfl) ?_
        have hb : ∀ z, b = some z → hasPc pcs z = true := fun z ez => by rw [hbn] at ez; cases ez
      case' neg =>
        obtain ⟨z, hz⟩ := Option.ne_none_iff_exists'.mp hbn
        refine ⟨_, rfl, _, rfl, ?_⟩
        refine iteNN (by rw [hz]; intro q; cases q) ?_
        refine ⟨_, rfl, h.p, dx, _, rfl, h1, hall_no (by decide +kernel) (by decide +kernel), _, rfl, h, pls, pcs, z, by rw [hz]; rfl, S, nb z hz, fun m2 hm2 em2 => ?_, fun hf => q3 hn hy z hz hf⟩
        have hb : ∀ z', b = some z' → hasPc pcs z' = true := fun z' ez => by
          rw [hz] at ez
          cases ez
          exact List.any_eq_true.mpr ⟨m2, hm2, by simpa using em2⟩
      all_goals
        refine ⟨_, rfl, h.p, c.hall, dx, _, _, rfl, h1, T.clH, T.hPieces, hall_pieces, h.dq, _, rfl, S.dpc, _, _, rfl, rfl, _, rfl, ?_⟩
        refine ite2 (fun hl => ?_) (fun hl => ?_)
        · have hl : pcs.length = 24 := by
            have := S.lpc
            have := of_decide_eq_true hl
            rw [hlen] at this
            omega
          exact ⟨by show 1 ≤ sizeLine; decide, q4 hn hy hb hl⟩
        · have hl : pcs.length < 24 := by
            rw [decide_eq_true_iff, hlen] at hl
            omega
          refine ⟨_, rfl, _, rfl, _, rfl, fun a da na nda nad => ?_⟩
          refine ⟨a, da, .str y, de, vBy b, rfl, upd_same, fun la lb ln lr H2 n1 n2 n3 n4 nd hp2 k1 k2 k3 k4 kb => ⟨rfl, ?_⟩⟩
          have hk : ∀ b o, H b = some o → H2 b = some o := fun b o z => kb b o (by rw [upd_ne (ne_of_none z na), upd_ne (ne_of_none z nda)]; exact z) (by simpa using ne_of_none z na)
          refine ⟨_, rfl, h.p, c.hall, dx, _, _, rfl, hk _ _ h1, T.clH, T.hPieces, hall_pieces, _, rfl, h.dq, _, rfl, DPut.k (k := Sum.inr x) (hk _ _ S.dpc) (small1000 (by rw [hlen]; omega)), ?_⟩
          have e1 := put_pc (m := ⟨x, y, de, b, true, [], [], [], [], a, la, lb, ln, lr⟩) hn
          have kd : ∀ b', b' ≠ h.dq → ∀ o, H b' = some o → upd H2 h.dq (.dK (putK (kvPc pcs) (Sum.inr x) (V.ref a))) b' = some o := fun b' hb' o z => by rw [upd_ne hb']; exact hk b' o z
          have kb2 : KeepBut [h.dq] H (upd H2 h.dq (.dK (putK (kvPc pcs) (Sum.inr x) (V.ref a)))) := fun b' o z hb' => kd b' (by simpa using hb') o z
          have dkv := one_dK S.dpc
          obtain ⟨_, n1⟩ := upd_none n1
          obtain ⟨_, n1⟩ := upd_none n1
          obtain ⟨_, n2⟩ := upd_none n2
          obtain ⟨_, n2⟩ := upd_none n2
          obtain ⟨_, n3⟩ := upd_none n3
          obtain ⟨_, n3⟩ := upd_none n3
          obtain ⟨_, n4⟩ := upd_none n4
          obtain ⟨_, n4⟩ := upd_none n4
          have off : ∀ {l : Addr}, H l = none → l ≠ h.dq := fun {l} n => (ne_of_none S.dpc n).symm
          refine q5 hn hy hb hl ⟨x, y, de, b, true, [], [], [], [], a, la, lb, ln, lr⟩ _ rfl rfl rfl rfl rfl rfl rfl rfl rfl na n1 n2 n3 n4 nd ⟨⟨dx, kd _ (ne_of h1 S.dpc (by intro z; cases z)) _ h1⟩, kd _ S.ne _ S.dpl, by rw [upd_same]; exact congrArg (fun z => some (HO.dK z)) e1, S.ne, fun m hm => (S.pl m hm).keep kb2 dkv, fun m hm => ?_, S.npl, nd_pc S.npc hn, S.lpl, by rw [List.length_append]; show pcs.length + 1 ≤ 24; omega⟩ kb2
          rcases List.mem_append.mp hm with z | z
          · exact (S.pc m z).keep kb2 dkv
          · rw [List.mem_singleton.mp z]
            refine ⟨⟨da, ?_⟩, ?_, ?_, ?_, ?_⟩
            · rw [upd_ne (off na)]; exact hp2
            · rw [upd_ne (off n1)]; exact k1
            · rw [upd_ne (off n2)]; exact k2
            · rw [upd_ne (off n3)]; exact k3
            · rw [upd_ne (off n4)]; exact k4
/-- the pairs walked so far, filtered -/
def atSel (y : Str) (pcs : List Pc) : List V := (pcs.filter fun m => decide (m.pl = y) && m.on).map fun m => V.str m.nm
theorem kv_get {pcs : List Pc} {i : Nat} {k : Key} {v : V} (h : (kvPc pcs)[i]? = some (k, v)) : ∃ m, pcs[i]? = some m ∧ k = Sum.inr m.nm ∧ v = V.ref m.at_ := by
  unfold kvPc at h
  rw [List.getElem?_map] at h
  obtain ⟨m, e1, e2⟩ := Option.map_eq_some_iff.mp h
  cases e2
  exact ⟨m, e1, rfl, rfl⟩
theorem take_snoc {α : Type} {l : List α} {i : Nat} {m : α} (h : l[i]? = some m) : l.take (i + 1) = l.take i ++ [m] := by
  rw [List.take_succ, h]
  rfl
theorem ndAt : (["name", "piece", "place"] : List Str).Nodup := by decide +kernel
theorem scAt : FnScope ["self", "place"] ["self", "place"] (defScope sAt) := ⟨rfl, rfl, rfl, by decide +kernel, rfl, by decide +kernel, by decide +kernel⟩
theorem ok_at {f fP : Addr} {fd fdP : FuncData} (F : Fun K "at" "Hall.at" sAt f fd) (T : TxtC K mg c e) (FP : Fun K "find_place" "Hall.find_place" sFindPlace fP fdP) (bP : Binds K fdP ["self", "name"] []) (mP : Meth K c.hall "find_place" fP) :
    FnOk P w K mg base (CXE P w) 2 f fd ["self", "place"] (spAt c e) := by
  have GP : FnOk P w K mg base (CXE P w) 1 fP fdP ["self", "name"] (spFindPlace c e) := ok_findPlace FP T
  refine F.toV.okE scAt (fun vs H Q E h => ?_) (fun cdv A outer s H vs Q E hr h => ?_)
  · obtain ⟨h, pls, pcs, y, rfl, _⟩ := h
    rfl
  · obtain ⟨h, pls, pcs, y, rfl, S, ny, q1, q2⟩ := h
    have hu := hu_of hr
    obtain ⟨dx, h1⟩ := S.ob
    refine ⟨_, pss_cons (ps_expr (pe_meth (pv 0) T.clH mP GP hr bP .nil pass_fn (pa_cons (pv 1) pa_nil)))
      (pss_one (ps_ret (pe_thaw (pe_compT (ts := ["name", "piece"]) (xs := ["place"]) (js := [1]) (g := gTup K 2 (gCons (gName 0) (gCons (gName 1) gNil))) (tc := tAnd (tTest (tOp rEq (tFld K (tVar 1) "place") (tVar 2))) (tB (tFld K (tVar 1) "on"))) (te := tVar 0) rfl ⟨rfl, by decide +kernel, rfl, by decide +kernel, (fun p hp => by rcases List.mem_singleton.mp hp with rfl; rfl), rfl, ⟨rfl, Or.inr (Or.inl rfl), Or.inl rfl, Or.inl rfl, rfl⟩, trivial⟩
        (pi_items (pe_fld (pv 0) rfl)) (fun _ _ _ => pg_tup rfl (pgs_cons (pg_name (i := 0) ndAt rfl (Or.inl rfl)) (pgs_cons (pg_name (i := 1) ndAt rfl (Or.inl rfl)) pgs_nil)))
        (fun _ _ _ => (pw_and (pt_cmpR op_eq (pe_fld (pv 1) rfl) (pv 2) (nomark _)) (pw_and1 (pt_val (pe_fld (pv 1) rfl)))).pt) (fun _ _ _ => pv 0))))), ?_⟩
    refine ⟨_, rfl, h.p, dx, _, rfl, h1, hall_no (by decide +kernel) (by decide +kernel), _, rfl, h, pls, pcs, y, rfl, S, ny, fun m hm em => ?_, fun hy => q1 hy⟩
    have hy : hasPl pls y = true := List.any_eq_true.mpr ⟨m, hm, by simpa using em⟩
    refine ⟨_, rfl, h.p, c.hall, dx, _, _, rfl, h1, T.clH, T.hPieces, hall_pieces, h.dq, _, rfl, .inl ⟨S.dpc, fun o nf p hp => ?_⟩⟩
    obtain ⟨pd, hp⟩ := upd_none hp
    have hlen : (kvPc pcs).length = pcs.length := List.length_map _
    refine comp_items (fun i σ2 H2 acc => (∃ n p2 : Option V, σ2 = [n, p2, some (.str y)]) ∧ H2 h.dq = some (.frz o (.dK (kvPc pcs))) ∧ H2 p = some (.lst acc) ∧ acc = atSel y (pcs.take i) ∧ ∀ b o, H b = some o → b ≠ h.dq → H2 b = some o)
      ?_ (fun i σ2 H2 acc z => ⟨z.2.1, z.2.2.1⟩) ?_ ?_
    · exact ⟨⟨none, none, rfl⟩, by rw [upd_ne pd.symm, upd_same], upd_same, rfl, fun b o z hb => by rw [upd_ne (ne_of_none z hp), upd_ne hb]; exact z⟩
    · rintro i k v σ2 H2 acc q e ⟨⟨n, p2, rfl⟩, z1, z2, rfl, z3⟩ nq
      obtain ⟨m, em, rfl, rfl⟩ := kv_get e
      have hm : m ∈ pcs := List.mem_of_getElem? em
      obtain ⟨⟨dm, g1⟩, _⟩ := S.pc m hm
      have g2 : H2 m.at_ = some (.ins c.piece dm (fPiece (.str m.pl) m.de (vBy m.by_) m.on m.la m.lb m.ln m.lr)) := z3 _ _ g1 (ne_of g1 S.dpc (by intro z; cases z))
      have g3 : upd H2 q (.tup [.str m.nm, .ref m.at_]) m.at_ = some (.ins c.piece dm (fPiece (.str m.pl) m.de (vBy m.by_) m.on m.la m.lb m.ln m.lr)) := by rw [upd_ne (ne_of_none g2 nq)]; exact g2
      have k1 : upd H2 q (.tup [.str m.nm, .ref m.at_]) h.dq = some (.frz o (.dK (kvPc pcs))) := by rw [upd_ne (ne_of_none z1 nq)]; exact z1
      have k2 : upd H2 q (.tup [.str m.nm, .ref m.at_]) p = some (.lst (atSel y (pcs.take i))) := by rw [upd_ne (ne_of_none z2 nq)]; exact z2
      have k3 : ∀ b o, H b = some o → b ≠ h.dq → upd H2 q (.tup [.str m.nm, .ref m.at_]) b = some o := fun b o z hb => by rw [upd_ne (ne_of_none (z3 b o z hb) nq)]; exact z3 b o z hb
      have ll : (atSel y (pcs.take i)).length < sizeLine := small1000 (by
        have h1 : (atSel y (pcs.take i)).length ≤ (pcs.take i).length := by unfold atSel; rw [List.length_map]; exact List.length_filter_le _ _
        have h2 : (pcs.take i).length ≤ pcs.length := by rw [List.length_take]; omega
        have h3 := S.lpc
        omega)
      refine ⟨q, _, rfl, SqT.of upd_same, rfl, _, _, rfl, _, _, rfl, rfl, ?_⟩
      -- piece.place == place
      refine ⟨_, rfl, m.at_, c.piece, dm, _, _, rfl, g3, T.clQ, T.qPlace, piece_place, _, rfl, rfl, _, rfl, ?_⟩
      have dS : decide (V.str m.pl = V.str y) = decide (m.pl = y) := by simp
      rw [dS]
      by_cases hy' : m.pl = y
      · rw [decide_eq_true hy']
        refine iteT ?_
        refine ⟨_, rfl, m.at_, c.piece, dm, _, _, rfl, g3, T.clQ, T.qOn, piece_on, _, rfl, ?_⟩
        cases hon : m.on with
        | true =>
          refine iteT ?_
          refine ⟨_, rfl, k2, ll, ⟨_, _, rfl⟩, by rw [upd_ne (ne_of k1 k2 (by intro z; cases z))]; exact k1, upd_same, ?_, fun b o z hb => ?_⟩
          · rw [take_snoc em]; simp [atSel, hy', hon, kV]
          · have := k3 b o z hb
            rw [upd_ne (fun eb => by rw [eb, hp] at z; cases z)]
            exact this
        | false =>
          refine iteF ?_
          exact ⟨⟨_, _, rfl⟩, k1, k2, by rw [take_snoc em]; simp [atSel, hy', hon], k3⟩
      · rw [decide_eq_false hy']
        refine iteF ?_
        refine iteF ?_
        exact ⟨⟨_, _, rfl⟩, k1, k2, by rw [take_snoc em]; simp [atSel, hy'], k3⟩
    · rintro σ2 H2 acc ⟨_, z1, z2, rfl, z3⟩
      refine ⟨h.dq, o, kvPc pcs, z1, nf, ?_⟩
      rw [hlen, List.take_length] at z2
      refine q2 hy p _ hp (by rw [upd_ne (ne_of z2 z1 (by intro z; cases z))]; exact z2) fun b o z => ?_
      by_cases hb : b = h.dq
      · subst hb
        rw [upd_same]
        exact S.dpc.symm.trans z
      · rw [upd_ne hb]; exact z3 b o z hb
theorem kvG_get {gl : List Str} {i : Nat} {k : Key} {v : V} (h : (kvG gl)[i]? = some (k, v)) : ∃ z, gl[i]? = some z ∧ k = Sum.inr z ∧ v = V.bl true := by
  unfold kvG at h
  rw [List.getElem?_map] at h
  obtain ⟨m, e1, e2⟩ := Option.map_eq_some_iff.mp h
  cases e2
  exact ⟨m, e1, rfl, rfl⟩
theorem scDrop : FnScope ["self", "name", "gone", "other", "piece"] ["self", "name"] (defScope sDrop) := ⟨rfl, rfl, rfl, by decide +kernel, rfl, by decide +kernel, by decide +kernel⟩
theorem ok_drop {f fQ : Addr} {fd fdQ : FuncData} (F : Fun K "drop" "Hall.drop" sDrop f fd) (T : TxtC K mg c e) (FQ : Fun K "find_piece" "Hall.find_piece" sFindPiece fQ fdQ) (bQ : Binds K fdQ ["self", "name"] []) (mQ : Meth K c.hall "find_piece" fQ) :
    FnOk P w K mg base (CXE P w) 2 f fd ["self", "name"] (spDrop c e) := by
  have GQ : FnOk P w K mg base (CXE P w) 1 fQ fdQ ["self", "name"] (spFindPiece c e) := ok_findPiece FQ T
  refine F.toV.okE scDrop (fun vs H Q E h => ?_) (fun cdv A outer s H vs Q E hr h => ?_)
  · obtain ⟨h, pls, pcs, x, rfl, _⟩ := h
    rfl
  · obtain ⟨h, pls, pcs, x, rfl, S, nx, q1, q2⟩ := h
    have hu := hu_of hr
    obtain ⟨dx, h1⟩ := S.ob
    refine ⟨_, pss_cons (ps_expr (pe_meth (pv 0) T.clH mQ GQ hr bQ .nil pass_fn (pa_cons (pv 1) pa_nil)))
      (pss_cons (ps_set (i := 2) scDrop.nd rfl (Or.inl rfl) (pe_disp (pps_cons (pv 1) pe_bl pps_nil) rfl rfl (by simp) (show 1 ≤ 15 by decide)))
      (pss_cons (ps_thaw (ps_for PassesOwn.leaving rfl (pi_items (pe_fld (pv 0) rfl)) (pg_tup rfl (pgs_cons (pg_name (i := 3) scDrop.nd rfl (Or.inl rfl)) (pgs_cons (pg_name (i := 4) scDrop.nd rfl (Or.inl rfl)) pgs_nil)))
        (pss_one (ps_if (pt_cmp (pc_dinN hu (pe_fld (pv 4) rfl) (pv 2))) (pss_one (ps_dput hu (pv 2) (pv 3) pe_bl rfl)) pss_nil))))
      (pss_cons (ps_thaw (ps_for PassesOwn.leaving rfl (pi_keys (pv 2)) (pg_name (i := 3) scDrop.nd rfl (Or.inl rfl)) (pss_one (ps_expr (pe_dpop1 (pe_fld (pv 0) rfl) (pv 3) ⟨rfl, rfl, rfl, rfl⟩)))))
      (pss_one (ps_ret (pe_callTy (call_list_dict rfl) rfl T.list (show bootBuiltins "list" = some (.type "list") by decide +kernel) (pa_cons (pv 2) pa_nil))))))), ?_⟩
    refine ⟨_, rfl, h.p, dx, _, rfl, h1, hall_no (by decide +kernel) (by decide +kernel), _, rfl, h, pls, pcs, x, rfl, S, nx, fun m hm em => ?_, fun hy => q1 hy⟩
    have hx : hasPc pcs x = true := List.any_eq_true.mpr ⟨m, hm, by simpa using em⟩
    -- gone = {name: True}
    intro g hg
    refine ⟨_, rfl, upd_same, [(Sum.inr x, .bl true)], rfl, (show 1 ≤ 15 by decide), ?_⟩
    rw [upd_upd, show mergeK [] [((Sum.inr x : Key), V.bl true)] = kvG [x] from rfl]
    -- for other, piece in self.pieces.items()
    have hgd : h.dq ≠ g := ne_of_none S.dpc hg
    have hgp : h.p ≠ g := ne_of_none h1 hg
    refine ⟨_, rfl, h.p, c.hall, dx, _, _, rfl, (by rw [upd_ne hgp]; exact h1), T.clH, T.hPieces, hall_pieces, h.dq, _, rfl, .inl ⟨(by rw [upd_ne hgd]; exact S.dpc), fun o nf => ?_⟩⟩
    have hlen : (kvPc pcs).length = pcs.length := List.length_map _
    refine for_items (fun i σ2 H2 => (∃ n p2 : Option V, σ2 = [some (.ref h.p), some (.str x), some (.ref g), n, p2]) ∧ H2 h.dq = some (.frz o (.dK (kvPc pcs))) ∧ H2 g = some (.dK (kvG (goneOf x (pcs.take i)))) ∧ ∀ b o, H b = some o → b ≠ h.dq → H2 b = some o)
      ?_ (fun i σ2 H2 _ z => z.2.1) ?_ ?_
    · exact ⟨⟨none, none, rfl⟩, upd_same, by rw [upd_ne hgd.symm, upd_same]; rfl, fun b o z hb => by rw [upd_ne hb, upd_ne (ne_of_none z hg)]; exact z⟩
    · rintro i k v σ2 H2 q e ⟨⟨n, p2, rfl⟩, z1, z2, z3⟩ nq
      obtain ⟨m, em, rfl, rfl⟩ := kv_get e
      have hm : m ∈ pcs := List.mem_of_getElem? em
      obtain ⟨⟨dm, g1⟩, _⟩ := S.pc m hm
      have g2 := z3 _ _ g1 (ne_of g1 S.dpc (by intro z; cases z))
      have g3 : upd H2 q (.tup [.str m.nm, .ref m.at_]) m.at_ = some (.ins c.piece dm (fPiece (.str m.pl) m.de (vBy m.by_) m.on m.la m.lb m.ln m.lr)) := by rw [upd_ne (ne_of_none g2 nq)]; exact g2
      have k1 : upd H2 q (.tup [.str m.nm, .ref m.at_]) h.dq = some (.frz o (.dK (kvPc pcs))) := by rw [upd_ne (ne_of_none z1 nq)]; exact z1
      have k2 : upd H2 q (.tup [.str m.nm, .ref m.at_]) g = some (.dK (kvG (goneOf x (pcs.take i)))) := by rw [upd_ne (ne_of_none z2 nq)]; exact z2
      have k3 : ∀ b o, H b = some o → b ≠ h.dq → upd H2 q (.tup [.str m.nm, .ref m.at_]) b = some o := fun b o z hb => by rw [upd_ne (ne_of_none (z3 b o z hb) nq)]; exact z3 b o z hb
      have ll : (kvG (goneOf x (pcs.take i))).length < sizeLine := small1000 (by
        have h1 := gone_len x (pcs.take i)
        have h2 : (pcs.take i).length ≤ pcs.length := by rw [List.length_take]; omega
        have h3 := S.lpc
        rw [show (kvG (goneOf x (pcs.take i))).length = (goneOf x (pcs.take i)).length from List.length_map _]
        omega)
      refine ⟨q, _, rfl, SqT.of upd_same, rfl, _, _, rfl, _, _, rfl, rfl, ?_⟩
      -- if piece.by in gone
      refine ⟨_, rfl, m.at_, c.piece, dm, _, _, rfl, g3, T.clQ, T.qBy, piece_by, _, rfl, g, rfl, ?_⟩
      have stay : goneStep (goneOf x (pcs.take i)) m = goneOf x (pcs.take i) → (∃ n p2 : Option V, [some (V.ref h.p), some (.str x), some (.ref g), some (.str m.nm), some (.ref m.at_)] = [some (.ref h.p), some (.str x), some (.ref g), n, p2]) ∧ upd H2 q (.tup [.str m.nm, .ref m.at_]) h.dq = some (.frz o (.dK (kvPc pcs))) ∧
          upd H2 q (.tup [.str m.nm, .ref m.at_]) g = some (.dK (kvG (goneOf x (pcs.take (i + 1))))) ∧ ∀ b o, H b = some o → b ≠ h.dq → upd H2 q (.tup [.str m.nm, .ref m.at_]) b = some o := fun z => ⟨⟨_, _, rfl⟩, k1, by rw [take_snoc em, gone_snoc, z]; exact k2, k3⟩
      cases hb : m.by_ with
      | none =>
        refine .inr ⟨rfl, ⟨_, .inl k2⟩, _, rfl, iteF ?_⟩
        exact stay (by unfold goneStep goneTest; rw [hb]; rfl)
      | some z =>
        refine .inl ⟨_, DGet.k (k := Sum.inr z) k2, _, rfl, ?_⟩
        rw [val_g]
        cases hc : (goneOf x (pcs.take i)).contains z with
        | false =>
          refine iteF ?_
          exact stay (by unfold goneStep goneTest; rw [hb]; simp only [hc, Bool.false_and]; rfl)
        | true =>
          refine iteT ?_
          refine ⟨_, rfl, _, rfl, g, _, rfl, DPut.k (k := Sum.inr m.nm) k2 ll, ⟨_, _, rfl⟩, by rw [upd_ne hgd]; exact k1, ?_, fun b o y hb' => ?_⟩
          · rw [upd_same, put_g, take_snoc em, gone_snoc]
            unfold goneStep goneTest
            rw [hb]
            simp only [hc, Bool.true_and]
            cases hd : (goneOf x (pcs.take i)).contains m.nm <;> simp
          · rw [upd_ne (ne_of_none y hg)]
            exact k3 b o y hb'
    · rintro σ2 H2 ⟨⟨n, p2, rfl⟩, z1, z2, z3⟩
      rw [hlen, List.take_length] at z2
      refine ⟨h.dq, o, kvPc pcs, z1, nf, ?_⟩
      -- for other in gone
      refine ⟨_, rfl, g, _, rfl, .inl ⟨by rw [upd_ne hgd.symm]; exact z2, fun o2 nf2 => ?_⟩⟩
      have hlg : (kvG (goneOf x pcs)).length = (goneOf x pcs).length := List.length_map _
      have nfd : ∀ o' u, H g ≠ some (.frz o' u) := fun o' u z => by rw [hg] at z; cases z
      refine for_keys (fun i σ3 H3 => (∃ n p2 : Option V, σ3 = [some (.ref h.p), some (.str x), some (.ref g), n, p2]) ∧ H3 g = some (.frz o2 (.dK (kvG (goneOf x pcs)))) ∧ H3 h.dq = some (.dK (kvPc (pcs.filter fun m => !((goneOf x pcs).take i).contains m.nm))) ∧ ∀ b o, H b = some o → b ≠ h.dq → H3 b = some o)
        ?_ (fun i σ3 H3 _ z => z.2.1) ?_ ?_
      · refine ⟨⟨_, _, rfl⟩, upd_same, ?_, fun b o y hb => ?_⟩
        · rw [upd_ne hgd, upd_same]
          exact congrArg (fun l => some (HO.dK (kvPc l))) (List.filter_eq_self.mpr fun m' _ => by simp).symm
        · rw [upd_ne (ne_of_none y hg), upd_ne hb]
          exact z3 b o y hb
      · rintro i k v σ3 H3 e ⟨⟨n, p2, rfl⟩, y1, y2, y3⟩
        obtain ⟨z, ez, rfl, rfl⟩ := kvG_get e
        have hz : z ∈ goneOf x pcs := List.mem_of_getElem? ez
        have hin : hasPc pcs z = true := by
          rcases gone_in x pcs z hz with q | q
          · rw [q]; exact hx
          · exact q
        have hnt : ((goneOf x pcs).take i).contains z = false := by
          cases q : ((goneOf x pcs).take i).contains z with
          | false => rfl
          | true =>
            exfalso
            have q' : z ∈ (goneOf x pcs).take i := by simpa using q
            obtain ⟨j, hj⟩ := List.getElem?_of_mem q'
            have hji : j < i := by
              have := (List.getElem?_eq_some_iff.mp hj).1
              rw [List.length_take] at this
              omega
            rw [List.getElem?_take_of_lt hji] at hj
            exact absurd (nodup_ix (gone_nodup x pcs) hj ez) (Nat.ne_of_lt hji)
        have hin2 : ∃ u, valV (kvPc (pcs.filter fun m => !((goneOf x pcs).take i).contains m.nm)) (Sum.inr z : Key) = some u := by
          cases q : valV (kvPc (pcs.filter fun m => !((goneOf x pcs).take i).contains m.nm)) (Sum.inr z : Key) with
          | some u => exact ⟨u, rfl⟩
          | none =>
            exfalso
            have q' := val_pc_no.mp q
            obtain ⟨m', hm', em'⟩ := List.any_eq_true.mp hin
            have em' : m'.nm = z := by simpa using em'
            have := List.any_eq_false.mp q' m' (List.mem_filter.mpr ⟨hm', by rw [em', hnt]; rfl⟩)
            simp [em'] at this
        obtain ⟨u, hu2⟩ := hin2
        have h1' := y3 _ _ h1 (ne_of h1 S.dpc (by intro z; cases z))
        refine ⟨_, rfl, h.p, c.hall, dx, _, _, rfl, h1', T.clH, T.hPieces, hall_pieces, h.dq, rfl, .inl ⟨_, .inl y2⟩, _, rfl, _, Sum.inr z, u, y2, rfl, hu2, ⟨_, _, rfl⟩, by rw [upd_ne hgd.symm]; exact y1, ?_, fun b o y hb => by rw [upd_ne hb]; exact y3 b o y hb⟩
        rw [upd_same, drop_pc, List.filter_filter, take_snoc ez]
        refine congrArg (fun l => some (HO.dK (kvPc l))) (List.filter_congr fun m' _ => ?_)
        by_cases q : m'.nm = z
        · simp [q]
        · simp [q]
      · rintro σ3 H3 ⟨⟨n, p2, rfl⟩, y1, y2, y3⟩
        rw [hlg, List.take_length] at y2
        refine ⟨g, o2, kvG (goneOf x pcs), y1, nfd, ?_⟩
        refine ⟨_, rfl, g, _, rfl, .inl upd_same, fun l hl => ?_⟩
        obtain ⟨nlg, hl3⟩ := upd_none hl
        have hln : H l = none := by
          cases q : H l with
          | none => rfl
          | some o =>
            by_cases e : l = h.dq
            · rw [e, y2] at hl3; cases hl3
            · rw [y3 l o q e] at hl3; cases hl3
        have kb : KeepBut [h.dq] H (upd (upd H3 g (.dK (kvG (goneOf x pcs)))) l (.lst ((kvG (goneOf x pcs)).map fun p => kV p.1))) := fun b o y hb => by
          have hb : b ≠ h.dq := by simpa using hb
          rw [upd_ne (ne_of_none y hln), upd_ne (ne_of_none y hg)]
          exact y3 b o y hb
        have dkv := one_dK S.dpc
        have eL : ((kvG (goneOf x pcs)).map fun p => kV p.1) = (goneOf x pcs).map V.str := by unfold kvG; rw [List.map_map]; rfl
        refine q2 hx l _ hln (by rw [upd_same, eL]) ⟨⟨dx, kb _ _ h1 (by simpa using ne_of h1 S.dpc (by intro z; cases z))⟩, kb _ _ S.dpl (by simpa using S.ne), ?_, S.ne, fun m hm => (S.pl m hm).keep kb dkv, fun m hm => (S.pc m (List.mem_filter.mp hm).1).keep kb dkv, S.npl, S.npc.sublist (List.Sublist.map _ List.filter_sublist), S.lpl, Nat.le_trans (List.length_filter_le _ _) S.lpc⟩ kb
        rw [upd_ne (fun z => by rw [← z, S.dpc] at hln; cases hln), upd_ne hgd]
        exact y2
end
end HK

set_option Elab.async false
set_option linter.all false
set_option maxRecDepth 100000
namespace HK
open PySem L2 HB
abbrev sCell : Stmt := top 14
abbrev sName : Stmt := top 15
abbrev sTexts : Stmt := top 16
abbrev sRefusal : Stmt := top 17
abbrev sDue : Stmt := top 18
abbrev sDeedBy : Stmt := top 19
abbrev sRight : Stmt := top 20
abbrev sLaw : Stmt := top 21
/-! ### the law's own functions, in Lean -/
def letters : Str := "abcdefghijklmnopqrstuvwxyz"
def letter (l : Str) (i : Int) : Str := ⟨#[l.cps.toList.getD i.toNat 0]⟩
theorem at_letter {l : Str} {i : Int} (h0 : 0 ≤ i) (h1 : i < l.cps.toList.length) : atI l.cps.toList i = some (l.cps.toList.getD i.toNat 0) := by
  have h2 : i.toNat < l.cps.toList.length := by omega
  have e : l.cps.toList[i.toNat]? = some (l.cps.toList.getD i.toNat 0) := by
    unfold List.getD
    rw [List.getElem?_eq_getElem h2]
    rfl
  have := atI_nat (j := i.toNat) e
  rw [Int.toNat_of_nonneg h0] at this
  exact this
def lawName (k : Int) : Str := if k % 3 = 1 then letter letters (k % 26) else PySem.Txt.join Str.empty ((List.range (2 + k % 11).toNat).map fun (j : Nat) => letter letters ((k + 5 * (j : Int)) % 26))
theorem lettersLen : (letters.cps.toList.length : Int) = 26 := by decide +kernel
theorem lettersLine : letters.length ≤ sizeLine := by decide +kernel
theorem lawName_ok : ∀ k : Nat, k < 26 → NameOk (lawName k) := by unfold NameOk; decide +kernel
structure TxtL (mg : Str → Option Value) : Prop where
  len : mg "len" = none
  range : mg "range" = none
  isinst : mg "isinstance" = none
  list : mg "list" = none
  str : mg "str" = none
  int : mg "int" = none
  bool : mg "bool" = none
section
variable {P : Program} {w : World} {K : PySem.W.Frag} {mg : Str → Option Value} {base : Heap} {c : Cs} {e : Es}
def spCell (K : PySem.W.Frag) : Sp := fun vs H Q _ => ∃ (a : Addr) (ns : List Int) (k : Int), vs = [.ref a, .int k] ∧ SqL K H a (ns.map V.int) ∧ 0 ≤ k ∧ Q (.int (ns.getD k.toNat 0)) H
theorem scCell : FnScope ["script", "k"] ["script", "k"] (defScope sCell) := ⟨rfl, rfl, rfl, by decide +kernel, rfl, by decide +kernel, by decide +kernel⟩
theorem ok_cell {f : Addr} {fd : FuncData} (F : Fun K "_law_cell_at" "_law_cell_at" sCell f fd) (T : TxtL mg) : FnOk P w K mg base CX0 1 f fd ["script", "k"] (spCell K) := by
  refine F.ok scCell (fun vs H Q E h => ?_) (fun cdv A outer s H vs Q E hr h => ?_)
  · obtain ⟨a, ns, k, rfl, _⟩ := h
    rfl
  · obtain ⟨a, ns, k, rfl, sq, hk, q⟩ := h
    refine ⟨_, pss_cons (ps_if (pt_cmpR op_lt (pv 1) (pe_callB call_len_seq (by rfl) T.len PySem.boot_len (pa_cons (pv 0) pa_nil)) (nomark _)) (pss_one (ps_ret (pe_ix ix_list (pv 0) (pv 1) (fun _ _ => rfl)))) pss_nil) (pss_one (ps_ret pe_int)), ?_⟩
    refine ⟨_, rfl, _, rfl, a, _, rfl, .inl sq, _, _, rfl, rfl, _, rfl, ?_⟩
    refine ite2 (fun hl => ?_) (fun hl => ?_)
    · have hl : k < ns.length := by simpa using hl
      have e1 : (ns.map V.int)[k.toNat]? = some (.int (ns.getD k.toNat 0)) := by
        have : k.toNat < ns.length := by omega
        simp [this]
      refine ⟨_, rfl, _, rfl, a, _, k, _, rfl, rfl, sq, ?_, q⟩
      have := atI_nat e1
      rw [Int.toNat_of_nonneg hk] at this
      exact this
    · have hl : ns.length ≤ k.toNat := by
        have : ¬ k < ns.length := by simpa using hl
        omega
      have e1 : ns.getD k.toNat 0 = 0 := by simp [hl]
      rw [e1] at q
      exact q
def spName : Sp := fun vs H Q _ => ∃ k : Int, vs = [.int k] ∧ ∀ H', Same H H' → Q (.str (lawName k)) H'
theorem ndName : (["j", "k", "letters"] : List Str).Nodup := by decide +kernel
theorem scName : FnScope ["k", "letters"] ["k"] (defScope sName) := ⟨rfl, rfl, rfl, by decide +kernel, rfl, by decide +kernel, by decide +kernel⟩
set_option maxHeartbeats 2000000 in
theorem ok_name {f : Addr} {fd : FuncData} (F : Fun K "_law_name" "_law_name" sName f fd) (T : TxtL mg) : FnOk P w K mg base CX0 1 f fd ["k"] spName := by
  refine F.ok scName (fun vs H Q E h => ?_) (fun cdv A outer s H vs Q E hr h => ?_)
  · obtain ⟨k, rfl, _⟩ := h
    rfl
  · obtain ⟨k, rfl, q⟩ := h
    refine ⟨_, pss_cons (ps_set (i := 1) scName.nd rfl (Or.inr rfl) pe_str)
      (pss_cons (ps_if (pt_cmpR op_eq (pe_op op_mod (pv 0) pe_int) pe_int (nomark _)) (pss_one (ps_ret (pe_ix ix_str (pv 1) (pe_op op_mod (pv 0) pe_int) (fun _ _ => rfl)))) pss_nil)
      (pss_one (ps_ret (pe_bm PySem.F.plainAttrs_str PySem.F.slot_str_join PySem.F.type_str_join mt_join pe_str
        (pa_cons (pe_comp (ts := ["j"]) (xs := ["k", "letters"]) (js := [0, 1]) (g := gName 0) (te := tOp rIxS (tVar 2) (tOp (rI (fun _ j => 0 < j) fun i j => .int (i % j)) (tOp (rI0 fun i j => .int (i + j)) (tVar 1) (tOp (rI CMul fun i j => .int (i * j)) (tC (.int 5)) (tVar 0))) (tC (.int 26)))) rfl
          ⟨rfl, by decide +kernel, rfl, by decide +kernel, (fun p hp => by simp at hp; rcases hp with rfl | rfl <;> rfl), rfl, ⟨rfl, Or.inr (Or.inl rfl), Or.inl rfl, Or.inl rfl, rfl⟩, ⟨rfl, Or.inr (Or.inl rfl), Or.inl rfl, Or.inl rfl, rfl⟩, trivial⟩
          (pi_range1 rfl T.range (pa_cons (pe_op op_add pe_int (pe_op op_mod (pv 0) pe_int)) pa_nil)) (fun _ _ _ => pg_name (i := 0) ndName rfl (Or.inl rfl))
          (fun _ _ _ => pe_ix ix_str (pv 2) (pe_op op_mod (pe_op op_add (pv 1) (pe_op op_mul pe_int (pv 0))) pe_int) (fun _ _ => rfl))) pa_nil))))), ?_⟩
    refine ⟨_, rfl, _, _, rfl, rfl, (by show (0 : Int) < 3; decide), rfl, _, rfl, ?_⟩
    have dI : decide (V.int (k % 3) = V.int 1) = decide (k % 3 = 1) := by simp
    rw [dI]
    have h26 := Int.emod_nonneg k (show (26 : Int) ≠ 0 by decide)
    have h26' := Int.emod_lt_of_pos k (show (0 : Int) < 26 by decide)
    refine ite2 (fun hk => ?_) (fun hk => ?_)
    · have hk : k % 3 = 1 := of_decide_eq_true hk
      refine ⟨_, rfl, _, rfl, _, _, rfl, rfl, (by show (0 : Int) < 26; decide), letters, k % 26, _, rfl, rfl, lettersLine, at_letter h26 (by rw [lettersLen]; exact h26'), ?_⟩
      have := q H (Same.refl H)
      unfold lawName at this
      rw [if_pos hk] at this
      exact this
    · have hk : ¬ k % 3 = 1 := fun z => hk (decide_eq_true z)
      have h11 := Int.emod_nonneg k (show (11 : Int) ≠ 0 by decide)
      have h11' := Int.emod_lt_of_pos k (show (0 : Int) < 11 by decide)
      refine ⟨rfl, _, rfl, _, _, rfl, rfl, (by show (0 : Int) < 11; decide), _, _, rfl, rfl, _, rfl, (by omega), (by omega), fun p hp => ?_⟩
      refine comp_range (fun i σ2 H2 acc => (∃ n : Option V, σ2 = [n, some (.int k), some (.str letters)]) ∧ H2 = upd H p (.lst acc) ∧ acc = (List.range i).map fun (j : Nat) => V.str (letter letters ((k + 5 * (j : Int)) % 26))) ?_ (fun i σ2 H2 acc _ z => by rw [z.2.1]; exact upd_same) ?_ ?_
      · exact ⟨⟨none, rfl⟩, rfl, rfl⟩
      · rintro i σ2 H2 acc hi ⟨⟨n, rfl⟩, rfl, rfl⟩
        have hi' : (i : Int) < 13 := by omega
        have m1 := Int.emod_nonneg (k + 5 * (i : Int)) (show (26 : Int) ≠ 0 by decide)
        have m2 := Int.emod_lt_of_pos (k + 5 * (i : Int)) (show (0 : Int) < 26 by decide)
        refine ⟨_, rfl, _, rfl, _, rfl, _, _, rfl, rfl, .inl ⟨by decide, by decide⟩, _, _, rfl, rfl, _, _, rfl, rfl, (by show (0 : Int) < 26; decide), letters, _, _, rfl, rfl, lettersLine, at_letter (i := (k + 5 * (0 + (i : Int))) % 26) (by rw [Int.zero_add]; exact m1) (by rw [lettersLen, Int.zero_add]; exact m2), upd_same, ?_, ⟨_, rfl⟩, ?_, ?_⟩
        · refine small1000 ?_
          rw [List.length_map, List.length_range]
          omega
        · rw [upd_upd]
        · rw [List.range_succ, List.map_append, Int.zero_add]
          rfl
      · rintro σ2 H2 acc ⟨_, rfl, rfl⟩
        refine ⟨Str.empty, p, (List.range (2 + k % 11).toNat).map fun (j : Nat) => letter letters ((k + 5 * (j : Int)) % 26), rfl, rfl, SqL.of ?_, ?_, ?_⟩
        · rw [upd_same, List.map_map]
          rfl
        · have hz : ∀ l : List Nat, ((l.map fun (j : Nat) => letter letters ((k + 5 * (j : Int)) % 26)).map (·.length)).sum = l.length := fun l => by
            induction l with
            | nil => rfl
            | cons a r ih =>
              rw [List.map_cons, List.map_cons, List.sum_cons, ih, List.length_cons]
              show 1 + r.length = r.length + 1
              omega
          rw [hz, List.length_map, List.length_range, show Str.empty.length = 0 from rfl]
          omega
        · have := q (upd H p (.lst ((List.range (2 + k % 11).toNat).map fun (j : Nat) => V.str (letter letters ((k + 5 * (j : Int)) % 26))))) fun b o z => by rw [upd_ne (ne_of_none z hp)]; exact z
          unfold lawName at this
          rw [if_neg hk] at this
          exact this
end
end HK

set_option Elab.async false
set_option linter.all false
set_option maxRecDepth 100000
namespace HK
open PySem L2 HB
section
variable {P : Program} {w : World} {K : PySem.W.Frag} {mg : Str → Option Value} {base : Heap} {c : Cs} {e : Es}
theorem bIsi : bootBuiltins "isinstance" = some (.builtin "isinstance") := by decide +kernel
theorem bLst : bootBuiltins "list" = some (.type "list") := by decide +kernel
theorem bStr : bootBuiltins "str" = some (.type "str") := by decide +kernel
theorem bInt : bootBuiltins "int" = some (.type "int") := by decide +kernel
theorem bBool : bootBuiltins "bool" = some (.type "bool") := by decide +kernel
def spTexts (K : PySem.W.Frag) : Sp := fun vs H Q _ => ∃ (a b : Addr) (xs : List Str), vs = [.ref a, .ref b] ∧ H a = some (.lst (xs.map V.str)) ∧ H b = some (.lst (xs.map V.str)) ∧ xs.length ≤ 1000 ∧ Q (.bl true) H
theorem scTexts : FnScope ["found", "due", "k"] ["found", "due"] (defScope sTexts) := ⟨rfl, rfl, rfl, by decide +kernel, rfl, by decide +kernel, by decide +kernel⟩
set_option maxHeartbeats 1000000 in
theorem ok_texts {f : Addr} {fd : FuncData} (F : Fun K "_law_texts" "_law_texts" sTexts f fd) (T : TxtL mg) : FnOk P w K mg base CX0 1 f fd ["found", "due"] (spTexts K) := by
  refine F.ok scTexts (fun vs H Q E h => ?_) (fun cdv A outer s H vs Q E hr h => ?_)
  · obtain ⟨a, b, xs, rfl, _⟩ := h
    rfl
  · obtain ⟨a, b, xs, rfl, ha, hb, hl, q⟩ := h
    refine ⟨_, pss_cons (ps_if (pw_or (pt_not (pt_val (pe_callB call_isinst (by rfl) T.isinst bIsi (pa_cons (pv 0) (pa_cons (pe_bltn (v := .ty "list") (by rfl) T.list bLst rfl) pa_nil)))))
        (pw_or1 (pt_cmpR op_ne (pe_callB call_len_seq (by rfl) T.len PySem.boot_len (pa_cons (pv 0) pa_nil)) (pe_callB call_len_seq (by rfl) T.len PySem.boot_len (pa_cons (pv 1) pa_nil)) (nomark _)))).pt (pss_one (ps_ret pe_bl)) pss_nil)
      (pss_cons (ps_for PassesOwn.never rfl (pi_range1 rfl T.range (pa_cons (pe_callB call_len_seq (by rfl) T.len PySem.boot_len (pa_cons (pv 1) pa_nil)) pa_nil)) (pg_name (i := 2) scTexts.nd rfl (Or.inl rfl))
        (pss_one (ps_if (pw_or (pt_not (pt_val (pe_callB call_isinst (by rfl) T.isinst bIsi (pa_cons (pe_ix ix_list (pv 0) (pv 2) (fun _ _ => rfl)) (pa_cons (pe_bltn (v := .ty "str") (by rfl) T.str bStr rfl) pa_nil)))))
          (pw_or1 (pt_cmpR op_ne (pe_ix ix_list (pv 0) (pv 2) (fun _ _ => rfl)) (pe_ix ix_list (pv 1) (pv 2) (fun _ _ => rfl)) (nomark _)))).pt (pss_one (ps_ret pe_bl)) pss_nil)))
      (pss_one (ps_ret pe_bl))), ?_⟩
    refine ⟨_, rfl, _, _, .type "list", _, true, rfl, rfl, (fun _ z => z), TyOf.lst ha, rfl, _, rfl, ?_⟩
    refine ⟨_, rfl, a, _, rfl, .inl (SqL.of ha), _, rfl, b, _, rfl, .inl (SqL.of hb), rfl, _, rfl, ?_⟩
    refine iteNS rfl ?_
    refine ⟨_, rfl, b, _, rfl, .inl (SqL.of hb), _, rfl, (by rw [List.length_map]; omega), (by rw [List.length_map]; omega), for_range (fun i σ2 H2 => (∃ n : Option V, σ2 = [some (.ref a), some (.ref b), n]) ∧ H2 = H) ⟨⟨none, rfl⟩, rfl⟩ ?_ ?_⟩
    · rintro i σ2 H2 hi ⟨⟨n, rfl⟩, rfl⟩
      have hi : i < xs.length := by
        rw [List.length_map] at hi
        omega
      have e1 : (xs.map V.str)[i]? = some (.str xs[i]) := by simp [hi]
      have e2 : atI (xs.map V.str) (0 + (i : Int)) = some (.str xs[i]) := by rw [Int.zero_add]; exact atI_nat e1
      refine ⟨_, rfl, _, rfl, a, _, _, _, rfl, rfl, SqL.of ha, e2, _, _, .type "str", _, true, rfl, rfl, (fun _ z => z), TyOf.str _, rfl, _, rfl, ?_⟩
      refine ⟨_, rfl, _, rfl, a, _, _, _, rfl, rfl, SqL.of ha, e2, _, rfl, _, rfl, b, _, _, _, rfl, rfl, SqL.of hb, e2, rfl, _, rfl, ?_⟩
      refine iteNS rfl ?_
      exact ⟨⟨_, rfl⟩, rfl⟩
    · rintro σ2 H2 ⟨_, rfl⟩
      exact q
/-! ### deeds -/
inductive Deed where
  | place (x k r : Str)
  | piece (x y : Str) (b : Option Str)
def vDeed : Deed → List V
  | .place x k r => [.str "place", .str x, .str k, .str r]
  | .piece x y b => [.str "piece", .str x, .str y, vBy b]
def dName : Deed → Str
  | .place x _ _ => x
  | .piece x _ _ => x
def noBy (R : List (Str × Str)) : Option Str → Bool
  | some z => !(R.map (·.1)).contains z
  | none => false
/-- what is due: the word, the places, the pieces -/
def due : Deed → List Str → List (Str × Str) → Str × List Str × List (Str × Str)
  | .place x _ _, P, R => if P.contains x = true then ("name", P, R) else if P.length = 8 then ("many", P, R) else ("done", P ++ [x], R)
  | .piece x y b, P, R => if (R.map (·.1)).contains x = true then ("name", P, R) else if P.contains y = false then ("place", P, R) else if noBy R b = true then ("piece", P, R)
      else if R.length = 24 then ("many", P, R) else ("done", P, R ++ [(x, y)])
def lawNames : List Str := (List.range 26).map fun (k : Nat) => lawName k
def ten : Str := "abcdefghij"
def eleven : Str := "abcdefghijk"
def plName (l : Str) (i : Int) : Str := ("place" : Str) ++ letter l i
def ten10 : List Str := (List.range 10).map fun (k : Nat) => plName ten k
def el11 : List Str := (List.range 11).map fun (k : Nat) => plName eleven k
/-- the deeds that the law draws -/
def GoodDeed : Deed → Prop
  | .place x _ _ => x ∈ ten10
  | .piece x y b => (x ∈ lawNames ∨ x ∈ ten10) ∧ y ∈ el11 ∧ ∀ z, b = some z → z ∈ lawNames
theorem ok_lawNames : ∀ x ∈ lawNames, NameOk x := by unfold NameOk; decide +kernel
theorem ok_ten10 : ∀ x ∈ ten10, NameOk x := by unfold NameOk; decide +kernel
theorem ok_el11 : ∀ x ∈ el11, NameOk x := by unfold NameOk; decide +kernel
theorem tenLen : (ten.cps.toList.length : Int) = 10 := by decide +kernel
theorem tenLine : ten.length ≤ sizeLine := by decide +kernel
theorem elLen : (eleven.cps.toList.length : Int) = 11 := by decide +kernel
theorem elLine : eleven.length ≤ sizeLine := by decide +kernel
theorem mem_law {k : Int} (h0 : 0 ≤ k) (h1 : k < 26) : lawName k ∈ lawNames := List.mem_map.mpr ⟨k.toNat, List.mem_range.mpr (by omega), by rw [Int.toNat_of_nonneg h0]⟩
theorem mem_ten {k : Int} (h0 : 0 ≤ k) (h1 : k < 10) : plName ten k ∈ ten10 := List.mem_map.mpr ⟨k.toNat, List.mem_range.mpr (by omega), by rw [Int.toNat_of_nonneg h0]⟩
theorem mem_el {k : Int} (h0 : 0 ≤ k) (h1 : k < 11) : plName eleven k ∈ el11 := List.mem_map.mpr ⟨k.toNat, List.mem_range.mpr (by omega), by rw [Int.toNat_of_nonneg h0]⟩
end
end HK

set_option Elab.async false
set_option linter.all false
set_option maxRecDepth 100000
namespace HK
open PySem L2 HB
/-- a def of the law's text -/
structure DefAt (K : PySem.W.Frag) (mg : Str → Option Value) (x : Str) (st : Stmt) (f : Addr) (fd : FuncData) (ps : List Str) : Prop where
  F : Fun K x x st f fd
  b : Binds K fd ps []
  m : mg x = some (.ref f)
theorem Same.upd {H : Hp} {p : Addr} {o : HO} (n : H p = none) : Same H (L2.upd H p o) := fun b u z => by rw [upd_ne (ne_of_none z n)]; exact z
theorem at_strs {l : List Str} {i : Int} (h0 : 0 ≤ i) (h1 : i < l.length) : atI (l.map V.str) i = some (.str (l.getD i.toNat Str.empty)) := by
  have h2 : i.toNat < l.length := by omega
  have e : (l.map V.str)[i.toNat]? = some (.str (l.getD i.toNat Str.empty)) := by
    rw [List.getElem?_map, List.getElem?_eq_getElem h2]
    unfold List.getD
    rw [List.getElem?_eq_getElem h2]
    rfl
  have := atI_nat e
  rw [Int.toNat_of_nonneg h0] at this
  exact this
theorem mod_lt (a : Int) {b : Int} (h : 0 < b) : 0 ≤ a % b ∧ a % b < b := ⟨Int.emod_nonneg a (by omega), Int.emod_lt_of_pos a h⟩
def four : List Str := ["all", "first", "chain", "round"]
def twoR : List Str := ["hold", "hand"]
theorem plLine {l : Str} {i : Int} : (("place" : Str)).length + (letter l i).length ≤ sizeLine := by
  show (("place" : Str)).length + 1 ≤ sizeLine
  decide +kernel
section
variable {P : Program} {w : World} {K : PySem.W.Frag} {mg : Str → Option Value} {base : Heap} {c : Cs} {e : Es}
def spDeedBy : Sp := fun vs H Q _ => ∃ one two : Int, vs = [.int one, .int two] ∧ ∀ (dd : Deed) (d : Addr) (H' : Hp), GoodDeed dd → H' d = some (.tup (vDeed dd)) → Same H H' → Q (.ref d) H'
theorem scDeedBy : FnScope ["one", "two", "kind", "by", "name"] ["one", "two"] (defScope sDeedBy) := ⟨rfl, rfl, rfl, by decide +kernel, rfl, by decide +kernel, by decide +kernel⟩
set_option maxHeartbeats 4000000 in
theorem ok_deedBy {f fN : Addr} {fd fdN : FuncData} (F : Fun K "_law_deed_by" "_law_deed_by" sDeedBy f fd) (T : TxtL mg) (DN : DefAt K mg "_law_name" sName fN fdN ["k"]) : FnOk P w K mg base CX0 2 f fd ["one", "two"] spDeedBy := by
  have GN : FnOk P w K mg base CX0 1 fN fdN ["k"] spName := ok_name DN.F T
  refine F.ok scDeedBy (fun vs H Q E h => ?_) (fun cdv A outer s H vs Q E hr h => ?_)
  · obtain ⟨one, two, rfl, _⟩ := h
    rfl
  · obtain ⟨one, two, rfl, q⟩ := h
    refine ⟨_, pss_cons (ps_if (pt_cmpR op_eq (pe_op op_mod (pv 0) pe_int) pe_int (nomark _))
        (pss_cons (ps_set (i := 2) scDeedBy.nd rfl (Or.inl rfl) (pe_ix ix_list (pe_lst (pa_cons pe_str (pa_cons pe_str (pa_cons pe_str (pa_cons pe_str pa_nil))))) (pe_op op_mod (pv 1) pe_int) (fun _ _ => rfl)))
        (pss_one (ps_ret (pe_tup (pa_cons pe_str (pa_cons (pe_op op_add_str pe_str (pe_ix ix_str pe_str (pe_op op_mod (pe_op op_fdiv (pv 0) pe_int) pe_int) (fun _ _ => rfl))) (pa_cons (pv 2) (pa_cons (pe_ix ix_list (pe_lst (pa_cons pe_str (pa_cons pe_str pa_nil))) (pe_op op_mod (pe_op op_fdiv (pv 1) pe_int) pe_int) (fun _ _ => rfl)) pa_nil))))))))
        pss_nil)
      (pss_cons (ps_set (i := 3) scDeedBy.nd rfl (Or.inl rfl) pe_non)
      (pss_cons (ps_if (pt_cmpR op_eq (pe_op op_mod (pv 1) pe_int) pe_int (nomark _)) (pss_one (ps_set (i := 3) scDeedBy.nd rfl (Or.inl rfl) (pe_call GN hr (by rfl) DN.m DN.F.kp DN.b .nil pass0 (pa_cons (pe_op op_mod (pe_op op_fdiv (pv 1) pe_int) pe_int) pa_nil)))) pss_nil)
      (pss_cons (ps_set (i := 4) scDeedBy.nd rfl (Or.inl rfl) (pe_call GN hr (by rfl) DN.m DN.F.kp DN.b .nil pass0 (pa_cons (pe_op op_mod (pe_op op_fdiv (pv 0) pe_int) pe_int) pa_nil)))
      (pss_cons (ps_if (pt_cmpR op_eq (pe_op op_mod (pe_op op_fdiv (pv 0) pe_int) pe_int) pe_int (nomark _)) (pss_one (ps_set (i := 4) scDeedBy.nd rfl (Or.inl rfl) (pe_op op_add_str pe_str (pe_ix ix_str pe_str (pe_op op_mod (pe_op op_fdiv (pv 0) pe_int) pe_int) (fun _ _ => rfl))))) pss_nil)
      (pss_one (ps_ret (pe_tup (pa_cons pe_str (pa_cons (pv 4) (pa_cons (pe_op op_add_str pe_str (pe_ix ix_str pe_str (pe_op op_mod (pe_op op_fdiv (pv 1) pe_int) pe_int) (fun _ _ => rfl))) (pa_cons (pv 3) pa_nil))))))))))), ?_⟩
    refine ⟨_, rfl, _, _, rfl, rfl, (by show (0 : Int) < 4; decide), rfl, _, rfl, ?_⟩
    refine ite2 (fun _ => ?_) (fun _ => ?_)
    · -- a place
      refine ⟨(by show 4 ≤ sizeLine; decide), fun l1 n1 => ⟨_, rfl, _, _, rfl, rfl, (by show (0 : Int) < 4; decide), l1, four.map V.str, two % 4, _, rfl, rfl, SqL.of upd_same, at_strs (mod_lt two (by decide)).1 (mod_lt two (b := 4) (by decide)).2, ?_⟩⟩
      refine ⟨_, rfl, _, _, rfl, rfl, ⟨by decide, by decide⟩, _, _, rfl, rfl, (by show (0 : Int) < 10; decide), ten, _, _, rfl, rfl, tenLine, at_letter (mod_lt _ (by decide)).1 (by rw [tenLen]; exact (mod_lt _ (by decide)).2), _, _, rfl, rfl, plLine, ?_⟩
      refine ⟨_, rfl, (by show 2 ≤ sizeLine; decide), fun l2 n2 => ⟨_, rfl, _, _, rfl, rfl, ⟨by decide, by decide⟩, _, _, rfl, rfl, (by show (0 : Int) < 2; decide), l2, twoR.map V.str, _, _, rfl, rfl, SqL.of upd_same, at_strs (mod_lt _ (by decide)).1 (mod_lt _ (b := 2) (by decide)).2, ?_⟩⟩
      refine ⟨(by show 4 ≤ sizeLine; decide), fun d nd => ?_⟩
      have nd2 := upd_none nd
      have nd1 := upd_none nd2.2
      exact q (.place (plName ten (one / 4 % 10)) _ _) d _ (mem_ten (mod_lt _ (by decide)).1 (mod_lt _ (by decide)).2) upd_same ((Same.upd n1).trans ((Same.upd n2).trans (Same.upd nd)))
    · -- a piece
      refine ⟨_, rfl, _, _, rfl, rfl, (by show (0 : Int) < 3; decide), rfl, _, rfl, ?_⟩
      refine ite2 (fun _ => ?a) (fun _ => ?b)
      case' a =>
        refine ⟨_, rfl, _, _, rfl, rfl, ⟨by decide, by decide⟩, _, _, rfl, rfl, (by show (0 : Int) < 26; decide), _, rfl, fun H2 s2 => ?_⟩
        let b : { b : Option Str // ∀ z, b = some z → z ∈ lawNames } := ⟨some (lawName (two / 3 % 26)), fun z e => by cases e; exact mem_law (mod_lt _ (by decide)).1 (mod_lt _ (by decide)).2⟩
      case' b =>
        have s2 := Same.refl H
        let b : { b : Option Str // ∀ z, b = some z → z ∈ lawNames } := ⟨none, fun z e => nomatch e⟩
      all_goals
        refine ⟨_, rfl, _, _, rfl, rfl, ⟨by decide, by decide⟩, _, _, rfl, rfl, (by show (0 : Int) < 26; decide), _, rfl, fun H3 s3 => ?_⟩
        refine ⟨_, rfl, _, _, rfl, rfl, ⟨by decide, by decide⟩, _, _, rfl, rfl, (by show (0 : Int) < 6; decide), rfl, _, rfl, ?_⟩
        refine ite2 (fun _ => ?_) (fun _ => ?_)
        all_goals
          first
          | refine ⟨_, rfl, _, _, rfl, rfl, ⟨by decide, by decide⟩, _, _, rfl, rfl, (by show (0 : Int) < 10; decide), ten, _, _, rfl, rfl, tenLine, at_letter (mod_lt _ (by decide)).1 (by rw [tenLen]; exact (mod_lt _ (by decide)).2), _, _, rfl, rfl, plLine, ?_⟩
            let n : { x : Str // x ∈ lawNames ∨ x ∈ ten10 } := ⟨plName ten (one / 4 % 10), .inr (mem_ten (mod_lt _ (by decide)).1 (mod_lt _ (by decide)).2)⟩
          | let n : { x : Str // x ∈ lawNames ∨ x ∈ ten10 } := ⟨lawName (one / 4 % 26), .inl (mem_law (mod_lt _ (by decide)).1 (mod_lt _ (by decide)).2)⟩
          refine ⟨_, rfl, _, rfl, _, _, rfl, rfl, ⟨by decide, by decide⟩, _, _, rfl, rfl, (by show (0 : Int) < 11; decide), eleven, _, _, rfl, rfl, elLine, at_letter (mod_lt _ (by decide)).1 (by rw [elLen]; exact (mod_lt _ (by decide)).2), _, _, rfl, rfl, plLine, ?_⟩
          refine ⟨_, rfl, (by show 4 ≤ sizeLine; decide), fun d nd => ?_⟩
          exact q (.piece n.1 (plName eleven (two / 5 % 11)) b.1) d _ ⟨n.2, mem_el (mod_lt _ (by decide)).1 (mod_lt _ (by decide)).2, b.2⟩ upd_same (s2.trans (s3.trans (Same.upd nd)))
end
end HK

set_option Elab.async false
set_option linter.all false
set_option maxRecDepth 100000
namespace HK
open PySem L2 HB
theorem iteS {c A B : Prop} [Decidable c] (hc : c) (h : A) : if decide c = true then A else B := by
  rw [if_pos (decide_eq_true hc)]
  exact h
theorem iteSN {c A B : Prop} [Decidable c] (hc : ¬ c) (h : B) : if decide c = true then A else B := by
  rw [if_neg (by simp [hc])]
  exact h
theorem iteB {b : Bool} {A B : Prop} (h1 : b = true → A) (h2 : b = false → B) : if b = true then A else B := by
  cases b with
  | true => exact iteT (h1 rfl)
  | false => exact iteF (h2 rfl)
theorem inV_strs {x : Str} : ∀ {l : List Str}, inV (.str x) (l.map V.str) = l.contains x
  | [] => rfl
  | a :: r => by
    rw [List.contains_cons, ← inV_strs (l := r)]
    show ((a == x) || _) = _
    rw [BEq.comm]
    rfl
theorem flat_strs : ∀ {l : List Str}, (l.map V.str).all flatV = true
  | [] => rfl
  | a :: r => by
    rw [List.map_cons, List.all_cons, flat_strs]
    rfl
abbrev Rw := (Str × Str) × Addr
structure PiecesAt (H : Hp) (q : Addr) (R : List Rw) : Prop where
  l : H q = some (.lst (R.map fun r => .ref r.2))
  t : ∀ r ∈ R, H r.2 = some (.tup [.str r.1.1, .str r.1.2])
theorem PiecesAt.same {H H' : Hp} {q : Addr} {R : List Rw} (h : PiecesAt H q R) (s : Same H H') : PiecesAt H' q R := ⟨s _ _ h.l, fun r hr => s _ _ (h.t r hr)⟩
theorem PiecesAt.keep {H H' : Hp} {q : Addr} {R : List Rw} {L : List Addr} (h : PiecesAt H q R) (s : KeepBut L H H') (hq : q ∉ L) (hL : ∀ b ∈ L, ∀ xs, H b ≠ some (.tup xs)) : PiecesAt H' q R :=
  ⟨s _ _ h.l hq, fun r hr => s _ _ (h.t r hr) fun z => hL _ z _ (h.t r hr)⟩
theorem ndP : (["piece"] : List Str).Nodup := by decide +kernel
theorem ndPP : (["piece", "place"] : List Str).Nodup := by decide +kernel
def tNames0 (K : PySem.W.Frag) : TE := tOp (rIxT K) (tVar 0) (tC (.int 0))
def tNamesOf (K : PySem.W.Frag) (i : Nat) : TE := tComp 1 [] (iList K (tVar i)) (gName 0) tYes (tNames0 K)
theorem names_of {K : PySem.W.Frag} {i : Nat} {σ : St} {H : Hp} {q : Addr} {R : List Rw} {Q : VK} (hσ : σ[i]? = some (some (.ref q))) (hp : PiecesAt H q R) (hl : R.length ≤ 100)
    (k : ∀ l, H l = none → Q (.ref l) (upd H l (.lst ((R.map (·.1.1)).map V.str)))) : tNamesOf K i σ H Q := by
  refine ⟨_, hσ, q, rfl, ⟨_, SqL.of hp.l⟩, fun p hn => ?_⟩
  have nq : q ≠ p := ne_of_none hp.l hn
  refine comp_list (xs := R.map fun r => .ref r.2) (fun j σ2 H2 acc => (∃ n, σ2 = [n]) ∧ H2 = upd H p (.lst acc) ∧ acc = ((R.take j).map (·.1.1)).map V.str) ⟨⟨none, rfl⟩, rfl, rfl⟩ ?_ ?_ ?_
  · rintro j σ2 H2 acc _ ⟨_, rfl, rfl⟩
    exact ⟨SqL.of (by rw [upd_ne nq]; exact hp.l), upd_same⟩
  · rintro j x σ2 H2 acc e ⟨⟨n, rfl⟩, rfl, rfl⟩
    rw [List.getElem?_map] at e
    obtain ⟨r, er, rfl⟩ := Option.map_eq_some_iff.mp e
    have hr := hp.t r (List.mem_of_getElem? er)
    refine ⟨_, rfl, r.2, _, 0, .str r.1.1, rfl, rfl, SqT.of (by rw [upd_ne (ne_of_none hr hn)]; exact hr), rfl, upd_same, ?_, ⟨_, rfl⟩, upd_upd, ?_⟩
    · refine small1000 ?_
      rw [List.length_map, List.length_map, List.length_take]
      omega
    · rw [take_snoc er, List.map_append, List.map_append]
      rfl
  · rintro σ2 H2 acc ⟨_, rfl, rfl⟩
    rw [List.length_map, List.take_length]
    exact k p hn
def tNamesC (K : PySem.W.Frag) : TT := tTest (tOp rEq (tOp (rIxT K) (tVar 0) (tC (.int 1))) (tVar 1))
def tNamesAt (K : PySem.W.Frag) (i j : Nat) : TE := tComp 1 [j] (iList K (tVar i)) (gName 0) (tNamesC K) (tNames0 K)
theorem names_at {K : PySem.W.Frag} {i j : Nat} {σ : St} {H : Hp} {q : Addr} {y : Str} {R : List Rw} {Q : VK} (hσ : σ[i]? = some (some (.ref q))) (hy : σ[j]? = some (some (.str y))) (hp : PiecesAt H q R) (hl : R.length ≤ 100)
    (k : ∀ l, H l = none → Q (.ref l) (upd H l (.lst (((R.filter fun r => decide (r.1.2 = y)).map (·.1.1)).map V.str)))) : tNamesAt K i j σ H Q := by
  refine ⟨_, hσ, q, rfl, ⟨_, SqL.of hp.l⟩, fun p hn => ?_⟩
  have nq : q ≠ p := ne_of_none hp.l hn
  refine comp_list (xs := R.map fun r => .ref r.2) (fun j σ2 H2 acc => (∃ n, σ2 = [n, some (.str y)]) ∧ H2 = upd H p (.lst acc) ∧ acc = (((R.take j).filter fun r => decide (r.1.2 = y)).map (·.1.1)).map V.str) ⟨⟨none, ?_⟩, rfl, rfl⟩ ?_ ?_ ?_
  · show [none] ++ [(σ[j]?).join] = _
    rw [hy]
    rfl
  · rintro j σ2 H2 acc _ ⟨_, rfl, rfl⟩
    exact ⟨SqL.of (by rw [upd_ne nq]; exact hp.l), upd_same⟩
  · rintro j x σ2 H2 acc e ⟨⟨n, rfl⟩, rfl, rfl⟩
    rw [List.getElem?_map] at e
    obtain ⟨r, er, rfl⟩ := Option.map_eq_some_iff.mp e
    have hr := hp.t r (List.mem_of_getElem? er)
    have hr' := (upd_ne (o := .lst ((((R.take j).filter fun r => decide (r.1.2 = y)).map (·.1.1)).map V.str)) (ne_of_none hr hn)).trans hr
    refine ⟨_, rfl, r.2, _, 1, .str r.1.2, rfl, rfl, SqT.of hr', rfl, _, rfl, rfl, _, rfl, ?_⟩
    have dS : decide (V.str r.1.2 = V.str y) = decide (r.1.2 = y) := by simp
    rw [dS, take_snoc er, List.filter_append]
    refine iteB (fun h => ?_) (fun h => ?_)
    · refine ⟨_, rfl, r.2, _, 0, .str r.1.1, rfl, rfl, SqT.of hr', rfl, upd_same, ?_, ⟨_, rfl⟩, upd_upd, ?_⟩
      · refine small1000 ?_
        have := List.length_filter_le (fun r : Rw => decide (r.1.2 = y)) (R.take j)
        rw [List.length_take] at this
        rw [List.length_map, List.length_map]
        omega
      · simp [h] at h ⊢
    · refine ⟨⟨_, rfl⟩, ?_⟩
      simp [h] at h ⊢
  · rintro σ2 H2 acc ⟨_, rfl, rfl⟩
    rw [List.length_map, List.take_length]
    exact k p hn
section
variable {P : Program} {w : World} {K : PySem.W.Frag} {mg : Str → Option Value} {base : Heap} {c : Cs} {e : Es}
theorem due_place {x k r : Str} {P : List Str} {R : List (Str × Str)} : due (.place x k r) P R = if P.contains x = true then (("name" : Str), P, R) else if P.length = 8 then (("many" : Str), P, R) else (("done" : Str), P ++ [x], R) := rfl
theorem due_piece {x y : Str} {b : Option Str} {P : List Str} {R : List (Str × Str)} : due (.piece x y b) P R = if (R.map (·.1)).contains x = true then (("name" : Str), P, R) else if P.contains y = false then (("place" : Str), P, R) else if noBy R b = true then (("piece" : Str), P, R)
      else if R.length = 24 then (("many" : Str), P, R) else (("done" : Str), P, R ++ [(x, y)]) := rfl
def spDue : Sp := fun vs H Q _ => ∃ (d a q : Addr) (dd : Deed) (P : List Str) (R : List Rw), vs = [.ref d, .ref a, .ref q] ∧ a ≠ q ∧ H d = some (.tup (vDeed dd)) ∧ H a = some (.lst (P.map V.str)) ∧ PiecesAt H q R ∧ P.length ≤ 100 ∧ R.length ≤ 100 ∧
  ∀ (w : Str) (P' : List Str) (R' : List Rw) (H' : Hp), due dd P (R.map (·.1)) = (w, P', R'.map (·.1)) → H' a = some (.lst (P'.map V.str)) → PiecesAt H' q R' → KeepBut [a, q] H H' → Q (.str w) H'
theorem scDue : FnScope ["deed", "places", "pieces", "names"] ["deed", "places", "pieces"] (defScope sDue) := ⟨rfl, rfl, rfl, by decide +kernel, rfl, by decide +kernel, by decide +kernel⟩
theorem hknNil {i : Nat} : ∀ u : V, ([] : St)[i]? ≠ some (some u) := fun u h => nomatch (show (none : Option (Option V)) = some (some u) from h)
set_option maxHeartbeats 4000000 in
theorem ok_due {f : Addr} {fd : FuncData} (F : Fun K "_law_due" "_law_due" sDue f fd) (T : TxtL mg) : FnOk P w K mg base CX0 1 f fd ["deed", "places", "pieces"] spDue := by
  refine F.ok scDue (fun vs H Q E h => ?_) (fun cdv A outer s H vs Q E hr h => ?_)
  · obtain ⟨d, a, q, dd, P, R, rfl, _⟩ := h
    rfl
  · obtain ⟨d, a, q, dd, P, R, rfl, naq, hd, ha, hp, lP, lR, k⟩ := h
    refine ⟨_, pss_cons (ps_setComp (i := 3) (ts := ["piece"]) (xs := []) (js := []) (g := gName 0) (te := tNames0 K) rfl ⟨rfl, by decide +kernel, rfl, by decide +kernel, (fun p hp => nomatch hp), rfl, trivial⟩
        (pi_list (pv 2)) (fun _ _ _ => pg_name (i := 0) ndP rfl (Or.inl rfl)) (fun _ _ _ => pe_ix ix_tup (pv 0) pe_int (fun _ _ => rfl)) scDue.nd rfl (Or.inl rfl) hknNil)
      (pss_cons (ps_if (pt_cmpR op_eq (pe_ix ix_tup (pv 0) pe_int (fun _ _ => rfl)) pe_str (nomark _))
        (pss_cons (ps_if (pt_cmpR op_in_seq (pe_ix ix_tup (pv 0) pe_int (fun _ _ => rfl)) (pv 1) rfl) (pss_one (ps_ret pe_str)) pss_nil)
        (pss_cons (ps_if (pt_cmpR op_eq (pe_callB call_len_seq (by rfl) T.len PySem.boot_len (pa_cons (pv 1) pa_nil)) pe_int (nomark _)) (pss_one (ps_ret pe_str)) pss_nil)
        (pss_cons (ps_expr (pe_bm PySem.F.plainAttrs_list PySem.F.slot_list_append PySem.F.type_list_append mt_append (pv 1) (pa_cons (pe_ix ix_tup (pv 0) pe_int (fun _ _ => rfl)) pa_nil)))
        (pss_one (ps_ret pe_str))))) pss_nil)
      (pss_cons (ps_if (pt_cmpR op_in_seq (pe_ix ix_tup (pv 0) pe_int (fun _ _ => rfl)) (pv 3) rfl) (pss_one (ps_ret pe_str)) pss_nil)
      (pss_cons (ps_if (pt_cmpR op_notIn_seq (pe_ix ix_tup (pv 0) pe_int (fun _ _ => rfl)) (pv 1) rfl) (pss_one (ps_ret pe_str)) pss_nil)
      (pss_cons (ps_if (pw_and (pt_cmp (pc_notN (pe_ix ix_tup (pv 0) pe_int (fun _ _ => rfl)))) (pw_and1 (pt_cmpR op_notIn_seq (pe_ix ix_tup (pv 0) pe_int (fun _ _ => rfl)) (pv 3) rfl))).pt (pss_one (ps_ret pe_str)) pss_nil)
      (pss_cons (ps_if (pt_cmpR op_eq (pe_callB call_len_seq (by rfl) T.len PySem.boot_len (pa_cons (pv 2) pa_nil)) pe_int (nomark _)) (pss_one (ps_ret pe_str)) pss_nil)
      (pss_cons (ps_expr (pe_bm PySem.F.plainAttrs_list PySem.F.slot_list_append PySem.F.type_list_append mt_append (pv 2) (pa_cons (pe_tup (pa_cons (pe_ix ix_tup (pv 0) pe_int (fun _ _ => rfl)) (pa_cons (pe_ix ix_tup (pv 0) pe_int (fun _ _ => rfl)) pa_nil))) pa_nil)))
      (pss_one (ps_ret pe_str)))))))), ?_⟩
    refine names_of (i := 2) rfl hp lR fun l nl => ?_
    have sm : Same H (upd H l (.lst ((R.map (·.1.1)).map V.str))) := Same.upd nl
    have hd1 := sm _ _ hd
    have ha1 := sm _ _ ha
    have hp1 := hp.same sm
    have kb : KeepBut [a, q] H (upd H l (.lst ((R.map (·.1.1)).map V.str))) := fun b o z _ => sm b o z
    have eN : (R.map (·.1)).map (·.1) = R.map (·.1.1) := by rw [List.map_map]; rfl
    cases dd with
    | place x ki ru =>
      refine ⟨_, rfl, d, _, 0, .str "place", rfl, rfl, SqT.of hd1, rfl, rfl, _, rfl, iteS rfl ?_⟩
      refine ⟨_, rfl, d, _, 1, .str x, rfl, rfl, SqT.of hd1, rfl, _, rfl, a, _, rfl, .inl (SqL.of ha1), rfl, flat_strs, _, rfl, ?_⟩
      show if inV (.str x) (P.map V.str) = true then _ else _
      rw [inV_strs]
      refine iteB (fun hc => ?_) (fun hc => ?_)
      · exact k "name" P R _ (by rw [due_place, if_pos hc]) ha1 hp1 kb
      refine ⟨_, rfl, a, _, rfl, .inl (SqL.of ha1), rfl, _, rfl, ?_⟩
      refine ite2 (fun h8 => ?_) (fun h8 => ?_)
      · have h8 : P.length = 8 := by simp at h8; omega
        exact k "many" P R _ (by rw [due_place, if_neg (by rw [hc]; decide), if_pos h8]) ha1 hp1 kb
      have h8 : ¬ P.length = 8 := by simp at h8; omega
      refine ⟨_, rfl, .inl ⟨rfl, _, SqL.of ha1⟩, _, rfl, d, _, 1, .str x, rfl, rfl, SqT.of hd1, rfl, a, _, _, rfl, rfl, ha1, ?_, ?_⟩
      · refine small1000 ?_
        rw [List.length_map]
        omega
      · refine k "done" (P ++ [x]) R _ (by rw [due_place, if_neg (by rw [hc]; decide), if_neg h8]) ?_ ?_ ?_
        · rw [upd_same, List.map_append]
          rfl
        · exact hp1.keep (L := [a]) (fun b o z hb => by rw [upd_ne (by simpa using hb)]; exact z) (by simpa using naq.symm) (fun b hb xs z => by rw [List.mem_singleton.mp hb, ha1] at z; cases z)
        · intro b o z hb
          have hb : b ≠ a ∧ b ≠ q := by simpa using hb
          rw [upd_ne hb.1]
          exact sm b o z
    | piece x y b =>
      refine ⟨_, rfl, d, _, 0, .str "piece", rfl, rfl, SqT.of hd1, rfl, rfl, _, rfl, iteSN (by intro z; cases z) ?_⟩
      refine ⟨_, rfl, d, _, 1, .str x, rfl, rfl, SqT.of hd1, rfl, _, rfl, l, _, rfl, .inl (SqL.of upd_same), rfl, flat_strs, _, rfl, ?_⟩
      show if inV (.str x) ((R.map (·.1.1)).map V.str) = true then _ else _
      rw [inV_strs]
      refine iteB (fun hc => ?_) (fun hc => ?_)
      · exact k "name" P R _ (by rw [due_piece, eN, if_pos hc]) ha1 hp1 kb
      refine ⟨_, rfl, d, _, 2, .str y, rfl, rfl, SqT.of hd1, rfl, _, rfl, a, _, rfl, .inl (SqL.of ha1), rfl, flat_strs, _, rfl, ?_⟩
      show if (!inV (.str y) (P.map V.str)) = true then _ else _
      rw [inV_strs]
      refine iteB (fun hy => ?_) (fun hy => ?_)
      · have hy : P.contains y = false := by simpa using hy
        exact k "place" P R _ (by rw [due_piece, eN, if_neg (by rw [hc]; decide), if_pos hy]) ha1 hp1 kb
      have hy : P.contains y = true := by simpa using hy
      refine ⟨_, rfl, d, _, 3, vBy b, rfl, rfl, SqT.of hd1, rfl, _, rfl, ?_⟩
      have hd2 := hd1
      cases b
      case' none =>
        refine iteNS rfl (iteF ?_)
        have nb : noBy (R.map (·.1)) none = false := rfl
      case' some z =>
        refine iteNN (fun e => nomatch e) ?_
        refine ⟨_, rfl, d, _, 3, .str z, rfl, rfl, SqT.of hd1, rfl, _, rfl, l, _, rfl, .inl (SqL.of upd_same), rfl, flat_strs, _, rfl, ?_⟩
        show if (!inV (.str z) ((R.map (·.1.1)).map V.str)) = true then _ else _
        rw [inV_strs]
        refine iteB (fun hz => k "piece" P R _ (by rw [due_piece, eN, if_neg (by rw [hc]; decide), if_neg (by rw [hy]; decide), if_pos (show noBy (R.map (·.1)) (some z) = true by show (!((R.map (·.1)).map (·.1)).contains z) = true; rw [eN]; exact hz)]) ha1 hp1 kb) (fun hz => ?_)
        have nb : noBy (R.map (·.1)) (some z) = false := (show (!((R.map (·.1)).map (·.1)).contains z) = false by rw [eN]; exact hz)
      all_goals
        refine ⟨_, rfl, q, _, rfl, .inl (SqL.of hp1.l), rfl, _, rfl, ?_⟩
        refine ite2 (fun h8 => ?_) (fun h8 => ?_)
        · have h8 : (R.map (·.1)).length = 24 := by simp at h8 ⊢; omega
          exact k "many" P R _ (by rw [due_piece, eN, if_neg (by rw [hc]; decide), if_neg (by rw [hy]; decide), if_neg (by rw [nb]; decide), if_pos h8]) ha1 hp1 kb
        have h8 : ¬ (R.map (·.1)).length = 24 := by simp at h8 ⊢; omega
        refine ⟨_, rfl, .inl ⟨rfl, _, SqL.of hp1.l⟩, _, rfl, d, _, 1, .str x, rfl, rfl, SqT.of hd1, rfl, _, rfl, d, _, 2, .str y, rfl, rfl, SqT.of hd1, rfl, (by show 2 ≤ sizeLine; decide), fun t nt => ?_⟩
        have ntq := ne_of_none hp1.l nt
        refine ⟨q, _, _, rfl, rfl, (by rw [upd_ne ntq]; exact hp1.l), ?_, ?_⟩
        · refine small1000 ?_
          rw [List.length_map]
          omega
        · refine k "done" P (R ++ [((x, y), t)]) _ (by rw [due_piece, eN, if_neg (by rw [hc]; decide), if_neg (by rw [hy]; decide), if_neg (by rw [nb]; decide), if_neg h8, List.map_append]; rfl) ?_ ⟨?_, fun r hr => ?_⟩ ?_
          · rw [upd_ne naq, upd_ne (ne_of_none ha1 nt)]
            exact ha1
          · rw [upd_same, List.map_append]
            rfl
          · rcases List.mem_append.mp hr with hr | hr
            · have hr1 := hp1.t r hr
              rw [upd_ne (ne_of hr1 hp1.l (by intro z; cases z)), upd_ne (ne_of_none hr1 nt)]
              exact hr1
            · rw [List.mem_singleton.mp hr, upd_ne ntq.symm, upd_same]
          · intro b o z hb
            have hb : b ≠ a ∧ b ≠ q := by simpa using hb
            have hz := sm b o z
            rw [upd_ne hb.2, upd_ne (ne_of_none hz nt)]
            exact hz
end
end HK

set_option Elab.async false
set_option linter.all false
set_option maxRecDepth 100000
namespace HK
open PySem L2 HB
structure MethAt (P : Program) (w : World) (K : PySem.W.Frag) (mg : Str → Option Value) (base : Heap) (CX : CXT) (k : Nat) (C : Addr) (m : Str) (ps : List Str) (sp : Sp) (f : Addr) (fd : FuncData) : Prop where
  m : Meth K C m f
  g : FnOk P w K mg base CX k f fd ps sp
  b : Binds K fd ps []
structure TxtR (K : PySem.W.Frag) (e : Es) (bm : List Value) : Prop where
  qN : excMro K e.nameThere = some bm
  qP : excMro K e.noPlace = some bm
  qQ : excMro K e.noPiece = some bm
  qT : excMro K e.tooMany = some bm
  cPN : (Value.ref e.noPlace :: bm).contains (.ref e.nameThere) = false
  cQN : (Value.ref e.noPiece :: bm).contains (.ref e.nameThere) = false
  cQP : (Value.ref e.noPiece :: bm).contains (.ref e.noPlace) = false
  cTN : (Value.ref e.tooMany :: bm).contains (.ref e.nameThere) = false
  cTP : (Value.ref e.tooMany :: bm).contains (.ref e.noPlace) = false
  cTQ : (Value.ref e.tooMany :: bm).contains (.ref e.noPiece) = false
theorem valsN : Vals [V.non] [Value.none] := .cons rfl .nil
theorem cSelf {x : Value} {bm : List Value} : (x :: bm).contains x = true := by simp
def plN (pls : List Pl) : List Str := pls.map (·.nm)
def pcN (pcs : List Pc) : List (Str × Str) := pcs.map fun m => (m.nm, m.pl)
theorem hasPl_N {pls : List Pl} {x : Str} : hasPl pls x = (plN pls).contains x := by
  induction pls with
  | nil => rfl
  | cons m r ih =>
    show (decide (m.nm = x) || hasPl r x) = ((m.nm :: plN r).contains x)
    rw [List.contains_cons, ih]
    congr 1
    rw [Bool.eq_iff_iff, decide_eq_true_iff, beq_iff_eq]
    exact eq_comm
theorem hasPc_N {pcs : List Pc} {x : Str} : hasPc pcs x = ((pcN pcs).map (·.1)).contains x := by
  induction pcs with
  | nil => rfl
  | cons m r ih =>
    show (decide (m.nm = x) || hasPc r x) = ((m.nm :: (pcN r).map (·.1)).contains x)
    rw [List.contains_cons, ih]
    congr 1
    rw [Bool.eq_iff_iff, decide_eq_true_iff, beq_iff_eq]
    exact eq_comm
theorem noBy_no {pcs : List Pc} {b : Option Str} (h : ∀ z, b = some z → hasPc pcs z = true) : noBy (pcN pcs) b = false := by
  cases b with
  | none => rfl
  | some z =>
    show (!((pcN pcs).map (·.1)).contains z) = false
    rw [← hasPc_N, h z rfl]
    rfl
/-- its lists were not there -/
def Far (H : Hp) (m : Pc) : Prop := H m.la = none ∧ H m.lb = none ∧ H m.ln = none ∧ H m.lr = none
def Inc (H : Hp) (pcs pcs' : List Pc) : Prop := pcs' = pcs ∨ ∃ m, pcs' = pcs ++ [m] ∧ m.on = true ∧ (∀ z, m.by_ = some z → hasPc pcs z = true) ∧ Far H m
theorem hallSame {c : Cs} {H H' : Hp} {h : HA} {pls : List Pl} {pcs : List Pc} (S : HallAt c H h pls pcs) (s : Same H H') : HallAt c H' h pls pcs :=
  ⟨S.ob.imp fun _ z => s _ _ z, s _ _ S.dpl, s _ _ S.dpc, S.ne, fun m hm => (S.pl m hm).imp fun _ z => s _ _ z, fun m hm => by
    obtain ⟨⟨dx, a1⟩, a2, a3, a4, a5⟩ := S.pc m hm
    exact ⟨⟨dx, s _ _ a1⟩, s _ _ a2, s _ _ a3, s _ _ a4, s _ _ a5⟩, S.npl, S.npc, S.lpl, S.lpc⟩
section
variable {P : Program} {w : World} {K : PySem.W.Frag} {mg : Str → Option Value} {base : Heap} {c : Cs} {e : Es}
def spRefusal (c : Cs) : Sp := fun vs H Q _ => ∃ (h : HA) (d : Addr) (dd : Deed) (pls : List Pl) (pcs : List Pc), vs = [.ref h.p, .ref d] ∧ HallAt c H h pls pcs ∧ H d = some (.tup (vDeed dd)) ∧ GoodDeed dd ∧
  ∀ (wd : Str) (pls' : List Pl) (pcs' : List Pc) (H' : Hp), due dd (plN pls) (pcN pcs) = (wd, plN pls', pcN pcs') → Inc H pcs pcs' → HallAt c H' h pls' pcs' → KeepBut [h.dp, h.dq] H H' → Q (.str wd) H'
def ixD (K : PySem.W.Frag) (i : Int) : TE := tOp (rIxT K) (tVar 1) (tC (.int i))
def tRefBody (K : PySem.W.Frag) (c : Cs) (e : Es) (R : XK) : TS := tIfS (tTest (tOp rEq (ixD K 0) (tC (.str "place")))) (tDrop (tMeth c.hall "open_place" (spOpen c e) [] R (tVar 0) (tCons (ixD K 1) (tCons (ixD K 2) (tCons (ixD K 3) tNil)))))
  (tIfS (tB (tIsN (ixD K 3))) (tDrop (tMeth c.hall "hang" (spHang c e) [.non] R (tVar 0) (tCons (ixD K 1) (tCons (ixD K 2) (tCons (tTup (tCons (tC (.str "none")) tNil)) tNil)))))
    (tDrop (tMeth c.hall "hang" (spHang c e) [] R (tVar 0) (tCons (ixD K 1) (tCons (ixD K 2) (tCons (tTup (tCons (tC (.str "none")) tNil)) (tCons (ixD K 3) tNil)))))))
/-- what is thrown: the class, by the word that is due -/
def refE (H : Hp) (e : Es) (dd : Deed) (P : List Str) (R : List (Str × Str)) : XK := fun cls dx H' => Same H H' ∧ ∃ wd, due dd P R = (wd, P, R) ∧ ((cls = .ref e.nameThere ∧ wd = "name") ∨ (cls = .ref e.noPlace ∧ wd = "place") ∨ (cls = .ref e.noPiece ∧ wd = "piece") ∨ (cls = .ref e.tooMany ∧ wd = "many"))
theorem scRefusal : FnScope ["hall", "deed", "told"] ["hall", "deed"] (defScope sRefusal) := ⟨rfl, rfl, rfl, by decide +kernel, rfl, by decide +kernel, by decide +kernel⟩
set_option maxHeartbeats 4000000 in
theorem ok_refusal {f fO fH : Addr} {fd fdO fdH : FuncData} {bm : List Value} (F : Fun K "_law_refusal" "_law_refusal" sRefusal f fd) (T : TxtC K mg c e) (TR : TxtR K e bm) (MO : MethAt P w K mg base (CXE P w) 3 c.hall "open_place" ["self", "name", "kind", "rule"] (spOpen c e) fO fdO)
    (MH : MethAt P w K mg base (CXE P w) 3 c.hall "hang" ["self", "name", "place", "deed", "by"] (spHang c e) fH fdH) (bH : Binds K fdH ["self", "name", "place", "deed", "by"] [.none]) : FnOk P w K mg base CX0 4 f fd ["hall", "deed"] (spRefusal c) := by
  refine F.ok scRefusal (fun vs H Q E h => ?_) (fun cdv A outer s H vs Q E hr h => ?_)
  · obtain ⟨h, d, dd, pls, pcs, rfl, _⟩ := h
    rfl
  · obtain ⟨h, d, dd, pls, pcs, rfl, S, hd, gd, k⟩ := h
    obtain ⟨dx, h1⟩ := S.ob
    refine ⟨_, pss_cons (ps_set (i := 2) scRefusal.nd rfl (Or.inl rfl) pe_str)
      (pss_cons (ps_try (ph_own (by rfl) T.mgN TR.qN (fun ea => pss_one (ps_set (i := 2) scRefusal.nd rfl (Or.inl rfl) pe_str))
        (ph_own (by rfl) T.mgP TR.qP (fun ea => pss_one (ps_set (i := 2) scRefusal.nd rfl (Or.inl rfl) pe_str))
        (ph_own (by rfl) T.mgQ TR.qQ (fun ea => pss_one (ps_set (i := 2) scRefusal.nd rfl (Or.inl rfl) pe_str))
        (ph_own (by rfl) T.mgT TR.qT (fun ea => pss_one (ps_set (i := 2) scRefusal.nd rfl (Or.inl rfl) pe_str)) ph_none)))))
      (pss_one (ps_ret (pv 2)))), ?_⟩
    have lP : (plN pls).length = pls.length := List.length_map _
    have lR : (pcN pcs).length = pcs.length := List.length_map _
    have kn : ∀ (i : Nat) (v : V), ([some (.ref h.p), some (.ref d), none] : St)[i]? = some (some v) → ([some (.ref h.p), some (.ref d), some (.str "done")] : St)[i]? = some (some v) := fun i v z => match i, z with
      | 0, z => z
      | 1, z => z
      | 2, z => nomatch z
      | _ + 3, z => nomatch z
    refine ⟨[some (.ref h.p), some (.ref d), none], refE H e dd (plN pls) (pcN pcs), tRefBody K c e (refE H e dd (plN pls) (pcN pcs)), rfl, kn, (fun i v z => nomatch (show (none : Option (Option V)) = some (some v) from z)), ?bd, ?go, ?hd⟩
    case bd => exact fun pn xe hp ho => pss_one (ps_if (pt_cmpR op_eq (pe_ix ix_tup (pv 1) pe_int (fun _ _ => rfl)) pe_str (nomark _))
          (pss_one (ps_expr (pe_meth (pv 0) T.clH MO.m MO.g hr MO.b .nil hp (pa_cons (pe_ix ix_tup (pv 1) pe_int (fun _ _ => rfl)) (pa_cons (pe_ix ix_tup (pv 1) pe_int (fun _ _ => rfl)) (pa_cons (pe_ix ix_tup (pv 1) pe_int (fun _ _ => rfl)) pa_nil))))))
          (pss_one (ps_if (pt_cmp (pc_isN (pe_ix ix_tup (pv 1) pe_int (fun _ _ => rfl))))
            (pss_one (ps_expr (pe_meth (pv 0) T.clH MH.m MH.g hr bH valsN hp (pa_cons (pe_ix ix_tup (pv 1) pe_int (fun _ _ => rfl)) (pa_cons (pe_ix ix_tup (pv 1) pe_int (fun _ _ => rfl)) (pa_cons (pe_tup (pa_cons pe_str pa_nil)) pa_nil))))))
            (pss_one (ps_expr (pe_meth (pv 0) T.clH MH.m MH.g hr MH.b .nil hp (pa_cons (pe_ix ix_tup (pv 1) pe_int (fun _ _ => rfl)) (pa_cons (pe_ix ix_tup (pv 1) pe_int (fun _ _ => rfl)) (pa_cons (pe_tup (pa_cons pe_str pa_nil)) (pa_cons (pe_ix ix_tup (pv 1) pe_int (fun _ _ => rfl)) pa_nil))))))))))
    case go =>
      cases dd with
      | place x ki ru =>
        refine ⟨_, rfl, d, _, 0, .str "place", rfl, rfl, SqT.of hd, rfl, rfl, _, rfl, iteS rfl ?_⟩
        refine ⟨_, rfl, h.p, dx, _, rfl, h1, hall_no (by decide +kernel) (by decide +kernel), _, rfl, d, _, 1, .str x, rfl, rfl, SqT.of hd, rfl, _, rfl, d, _, 2, .str ki, rfl, rfl, SqT.of hd, rfl, _, rfl, d, _, 3, .str ru, rfl, rfl, SqT.of hd, rfl, ?_⟩
        refine ⟨h, pls, pcs, x, ki, ru, rfl, S, ok_ten10 x gd, fun hx => ?_, fun hx h8 => ?_, fun hx h8 a H' na S' kb => ?_⟩
        · exact ⟨Same.refl H, "name", by rw [due_place, if_pos (by rw [← hasPl_N]; exact hx)], .inl ⟨rfl, rfl⟩⟩
        · exact ⟨Same.refl H, "many", by rw [due_place, if_neg (by rw [← hasPl_N, hx]; decide), if_pos (by rw [lP]; exact h8)], .inr (.inr (.inr ⟨rfl, rfl⟩))⟩
        · refine ⟨_, rfl, k "done" _ pcs H' ?_ (.inl rfl) S' fun b o z hb => kb b o z fun hb' => hb (List.mem_cons.mpr (.inl (List.mem_singleton.mp hb')))⟩
          rw [due_place, if_neg (by rw [← hasPl_N, hx]; decide), if_neg (by rw [lP]; omega)]
          unfold plN
          rw [List.map_append]
          rfl
      | piece x y b =>
        obtain ⟨gx, gy, gb⟩ := gd
        have nx : NameOk x := gx.elim (ok_lawNames x) (ok_ten10 x)
        have ny : NameOk y := ok_el11 y gy
        have nb : ∀ z, b = some z → NameOk z := fun z hz => ok_lawNames z (gb z hz)
        refine ⟨_, rfl, d, _, 0, .str "piece", rfl, rfl, SqT.of hd, rfl, rfl, _, rfl, iteSN (by intro z; cases z) ?_⟩
        refine ⟨_, rfl, d, _, 3, vBy b, rfl, rfl, SqT.of hd, rfl, _, rfl, ?_⟩
        cases b
        case' none =>
          refine iteS rfl ?_
          refine ⟨_, rfl, h.p, dx, _, rfl, h1, hall_no (by decide +kernel) (by decide +kernel), _, rfl, d, _, 1, .str x, rfl, rfl, SqT.of hd, rfl, _, rfl, d, _, 2, .str y, rfl, rfl, SqT.of hd, rfl, (by show 1 ≤ sizeLine; decide), fun t nt => ?_⟩
        case' some z =>
          refine iteSN (fun e => nomatch e) ?_
          refine ⟨_, rfl, h.p, dx, _, rfl, h1, hall_no (by decide +kernel) (by decide +kernel), _, rfl, d, _, 1, .str x, rfl, rfl, SqT.of hd, rfl, _, rfl, d, _, 2, .str y, rfl, rfl, SqT.of hd, rfl, (by show 1 ≤ sizeLine; decide), fun t nt => ⟨_, rfl, d, _, 3, .str z, rfl, rfl, SqT.of ((Same.upd nt) _ _ hd), rfl, ?_⟩⟩
        all_goals
          have sm := Same.upd (o := .tup [.str "none"]) nt
          refine ⟨h, pls, pcs, x, y, .ref t, _, rfl, hallSame S sm, nx, ny, nb, fun hx => ?_, fun hx hy => ?_, fun hx hy z hz hq => ?_, fun hx hy hz h8 => ?_, fun hx hy hz h8 m H' e1 e2 e3 e4 e5 _ _ _ _ _ n1 n2 n3 n4 _ S' kb => ?_⟩
          · exact ⟨sm, "name", by rw [due_piece, if_pos (by rw [← hasPc_N]; exact hx)], .inl ⟨rfl, rfl⟩⟩
          · exact ⟨sm, "place", by rw [due_piece, if_neg (by rw [← hasPc_N, hx]; decide), if_pos (by rw [← hasPl_N]; exact hy)], .inr (.inl ⟨rfl, rfl⟩)⟩
          · refine ⟨sm, "piece", ?_, .inr (.inr (.inl ⟨rfl, rfl⟩))⟩
            rw [due_piece, if_neg (by rw [← hasPc_N, hx]; decide), if_neg (by rw [← hasPl_N, hy]; decide), if_pos]
            rw [hz]
            show (!((pcN pcs).map (·.1)).contains z) = true
            rw [← hasPc_N, hq]
            rfl
          · refine ⟨sm, "many", ?_, .inr (.inr (.inr ⟨rfl, rfl⟩))⟩
            rw [due_piece, if_neg (by rw [← hasPc_N, hx]; decide), if_neg (by rw [← hasPl_N, hy]; decide), if_neg (by rw [noBy_no hz]; decide), if_pos (by rw [lR]; exact h8)]
          · refine ⟨_, rfl, k "done" pls (pcs ++ [m]) H' ?_ (.inr ⟨m, rfl, e5, fun z e => hz z (e4.symm.trans e), sm.free n1, sm.free n2, sm.free n3, sm.free n4⟩) S' fun b o z hb => kb b o (sm b o z) fun hb' => hb (List.mem_cons.mpr (.inr hb'))⟩
            rw [due_piece, if_neg (by rw [← hasPc_N, hx]; decide), if_neg (by rw [← hasPl_N, hy]; decide), if_neg (by rw [noBy_no hz]; decide), if_neg (by rw [lR]; omega)]
            unfold pcN
            rw [List.map_append, ← e1, ← e2]
            rfl
    case hd =>
      rintro cls dx ea H' ⟨sm, wd, hw, hh⟩
      have fin := k wd pls pcs H' hw (.inl rfl) (hallSame S sm) (fun b o z _ => sm b o z)
      rcases hh with ⟨rfl, rfl⟩ | ⟨rfl, rfl⟩ | ⟨rfl, rfl⟩ | ⟨rfl, rfl⟩
      · exact ⟨_, _, rfl, TR.qN, by rw [if_pos cSelf]; exact ⟨_, rfl, fin⟩⟩
      · exact ⟨_, _, rfl, TR.qP, by rw [TR.cPN]; exact iteF ⟨_, _, rfl, TR.qP, by rw [if_pos cSelf]; exact ⟨_, rfl, fin⟩⟩⟩
      · exact ⟨_, _, rfl, TR.qQ, by rw [TR.cQN]; exact iteF ⟨_, _, rfl, TR.qQ, by rw [TR.cQP]; exact iteF ⟨_, _, rfl, TR.qQ, by rw [if_pos cSelf]; exact ⟨_, rfl, fin⟩⟩⟩⟩
      · exact ⟨_, _, rfl, TR.qT, by rw [TR.cTN]; exact iteF ⟨_, _, rfl, TR.qT, by rw [TR.cTP]; exact iteF ⟨_, _, rfl, TR.qT, by rw [TR.cTQ]; exact iteF ⟨_, _, rfl, TR.qT, by rw [if_pos cSelf]; exact ⟨_, rfl, fin⟩⟩⟩⟩⟩
end
end HK

set_option Elab.async false
set_option linter.all false
set_option maxRecDepth 100000
namespace HK
open PySem L2 HB
section
variable {P : Program} {w : World} {K : PySem.W.Frag} {mg : Str → Option Value} {base : Heap} {c : Cs} {e : Es}
def spAt0 (c : Cs) (e : Es) : Sp := fun vs H Q _ => spAt c e vs H Q E0
def spRight (c : Cs) : Sp := fun vs H Q _ => ∃ (h : HA) (a q : Addr) (pls : List Pl) (pcs : List Pc) (R : List Rw), vs = [.ref h.p, .ref a, .ref q] ∧ HallAt c H h pls pcs ∧ H a = some (.lst ((plN pls).map V.str)) ∧ PiecesAt H q R ∧ R.map (·.1) = pcN pcs ∧
  (∀ m ∈ pcs, m.on = true) ∧ (∀ x ∈ plN pls, NameOk x) ∧ ∀ H', Same H H' → Q (.bl true) H'
theorem scRight : FnScope ["hall", "places", "pieces", "found", "place", "told"] ["hall", "places", "pieces"] (defScope sRight) := ⟨rfl, rfl, rfl, by decide +kernel, rfl, by decide +kernel, by decide +kernel⟩
theorem nmEq {R : List Rw} {pcs : List Pc} (h : R.map (·.1) = pcN pcs) : (pcs.map fun m => V.str m.nm) = (R.map (·.1.1)).map V.str := by
  have e1 : R.map (·.1.1) = (R.map (·.1)).map (·.1) := by rw [List.map_map]; rfl
  rw [e1, h, List.map_map]
  unfold pcN
  rw [List.map_map]
  rfl
theorem atEq {R : List Rw} {pcs : List Pc} {y : Str} (h : R.map (·.1) = pcN pcs) (on : ∀ m ∈ pcs, m.on = true) : ((pcs.filter fun m => decide (m.pl = y) && m.on).map fun m => V.str m.nm) = ((R.filter fun r => decide (r.1.2 = y)).map (·.1.1)).map V.str := by
  induction pcs generalizing R with
  | nil =>
    cases R with
    | nil => rfl
    | cons r R => simp [pcN] at h
  | cons m pcs ih =>
    cases R with
    | nil => simp [pcN] at h
    | cons r R =>
      have h' : r.1 :: R.map (·.1) = (m.nm, m.pl) :: pcN pcs := h
      obtain ⟨h1, h2⟩ := List.cons.inj h'
      have ih' := ih h2 fun m' hm => on m' (List.mem_cons_of_mem _ hm)
      have om := on m List.mem_cons_self
      rw [List.filter_cons, List.filter_cons, h1, om, Bool.and_true]
      by_cases hy : m.pl = y
      · simp only [hy, decide_true, if_true, List.map_cons]
        rw [ih', h1]
      · simp only [hy, decide_false, Bool.false_eq_true, if_false]
        exact ih'
theorem sameUp {H H1 : Hp} {l : Addr} {o : HO} (s : Same H H1) (n : H l = none) : Same H (L2.upd H1 l o) := fun b u z => by rw [upd_ne (ne_of_none z n)]; exact s b u z
set_option maxHeartbeats 4000000 in
theorem ok_right {f fT fN fA : Addr} {fd fdT fdN fdA : FuncData} (F : Fun K "_law_right" "_law_right" sRight f fd) (T : TxtC K mg c e) (TL : TxtL mg) (DT : DefAt K mg "_law_texts" sTexts fT fdT ["found", "due"])
    (MN : MethAt P w K mg base CX0 1 c.hall "names" ["self"] (spNames c) fN fdN) (MA : MethAt P w K mg base CX0 2 c.hall "at" ["self", "place"] (spAt0 c e) fA fdA) : FnOk P w K mg base CX0 3 f fd ["hall", "places", "pieces"] (spRight c) := by
  have GT : FnOk P w K mg base CX0 2 fT fdT ["found", "due"] (spTexts K) := (ok_texts DT.F TL).mono (by decide)
  have GN : FnOk P w K mg base CX0 2 fN fdN ["self"] (spNames c) := MN.g.mono (by decide)
  refine F.ok scRight (fun vs H Q E h => ?_) (fun cdv A outer s H vs Q E hr h => ?_)
  · obtain ⟨h, a, q, pls, pcs, R, rfl, _⟩ := h
    rfl
  · obtain ⟨h, a, q, pls, pcs, R, rfl, S, ha, hp, hR, on, nok, k⟩ := h
    obtain ⟨dx, h1⟩ := S.ob
    have lR : R.length ≤ 100 := by
      have h1 : (R.map (·.1)).length = (pcN pcs).length := by rw [hR]
      have h2 : (pcN pcs).length = pcs.length := List.length_map _
      have h3 := S.lpc
      rw [List.length_map] at h1
      omega
    refine ⟨_, pss_cons (ps_set (i := 3) scRight.nd rfl (Or.inl rfl) (pe_meth0 (pv 0) T.clH MN.m GN hr MN.b .nil pass0))
      (pss_cons (ps_if (pt_not (pt_val (pe_call GT hr (by rfl) DT.m DT.F.kp DT.b .nil pass0 (pa_cons (pv 3) (pa_cons
          (pe_comp (ts := ["piece"]) (xs := []) (js := []) (g := gName 0) (te := tNames0 K) rfl ⟨rfl, by decide +kernel, rfl, by decide +kernel, (fun p hp => nomatch hp), rfl, trivial⟩ (pi_list (pv 2)) (fun _ _ _ => pg_name (i := 0) ndP rfl (Or.inl rfl)) (fun _ _ _ => pe_ix ix_tup (pv 0) pe_int (fun _ _ => rfl))) pa_nil))))) (pss_one (ps_ret pe_bl)) pss_nil)
      (pss_cons (ps_expr (pe_bm PySem.F.plainAttrs_list PySem.F.slot_list_append PySem.F.type_list_append mt_append (pv 3) (pa_cons pe_str pa_nil)))
      (pss_cons (ps_for PassesOwn.never rfl (pi_list (pv 1)) (pg_name (i := 4) scRight.nd rfl (Or.inr rfl))
        (pss_cons (ps_set (i := 5) scRight.nd rfl (Or.inl rfl) (pe_meth (pv 0) T.clH MA.m MA.g hr MA.b .nil pass0 (pa_cons (pv 4) pa_nil)))
        (pss_cons (ps_if (pt_not (pt_val (pe_call GT hr (by rfl) DT.m DT.F.kp DT.b .nil pass0 (pa_cons (pv 5) (pa_cons
          (pe_compT (ts := ["piece"]) (xs := ["place"]) (js := [4]) (g := gName 0) (tc := tNamesC K) (te := tNames0 K) rfl ⟨rfl, by decide +kernel, rfl, by decide +kernel, (fun p hp => by rcases List.mem_singleton.mp hp with rfl; rfl), rfl, ⟨rfl, Or.inr (Or.inl rfl), Or.inl rfl, Or.inl rfl, rfl⟩, trivial⟩ (pi_list (pv 2)) (fun _ _ _ => pg_name (i := 0) ndPP rfl (Or.inl rfl))
            (fun _ _ _ => pt_cmpR op_eq (pe_ix ix_tup (pv 0) pe_int (fun _ _ => rfl)) (pv 1) (nomark _)) (fun _ _ _ => pe_ix ix_tup (pv 0) pe_int (fun _ _ => rfl))) pa_nil))))) (pss_one (ps_ret pe_bl)) pss_nil)
        (pss_one (ps_expr (pe_bm0 PySem.F.plainAttrs_list PySem.F.slot_list_clear PySem.F.type_list_clear mt_clear (pv 5)))))))
      (pss_one (ps_ret (pe_call GT hr (by rfl) DT.m DT.F.kp DT.b .nil pass0 (pa_cons (pe_meth0 (pv 0) T.clH MN.m GN hr MN.b .nil pass0) (pa_cons
          (pe_comp (ts := ["piece"]) (xs := []) (js := []) (g := gName 0) (te := tNames0 K) rfl ⟨rfl, by decide +kernel, rfl, by decide +kernel, (fun p hp => nomatch hp), rfl, trivial⟩ (pi_list (pv 2)) (fun _ _ _ => pg_name (i := 0) ndP rfl (Or.inl rfl)) (fun _ _ _ => pe_ix ix_tup (pv 0) pe_int (fun _ _ => rfl))) pa_nil)))))))), ?_⟩
    have eN := nmEq hR
    have lN : (R.map (·.1.1)).length ≤ 1000 := by rw [List.length_map]; omega
    refine ⟨_, rfl, h.p, dx, _, rfl, h1, hall_no (by decide +kernel) (by decide +kernel), h, pls, pcs, rfl, S, fun l nl => ?_⟩
    rw [eN]
    have s1 : Same H (upd H l (.lst ((R.map (·.1.1)).map V.str))) := Same.upd nl
    refine ⟨_, rfl, names_of (i := 2) rfl (hp.same s1) lR fun l2 n2 => ?_⟩
    have hl2 : H l2 = none := s1.free n2
    have ll2 : l ≠ l2 := ne_of_none upd_same n2
    refine ⟨l, l2, R.map (·.1.1), rfl, by rw [upd_ne ll2, upd_same], upd_same, lN, _, rfl, iteF ?_⟩
    have hl : upd (upd H l (.lst ((R.map (·.1.1)).map V.str))) l2 (.lst ((R.map (·.1.1)).map V.str)) l = some (.lst ((R.map (·.1.1)).map V.str)) := by rw [upd_ne ll2, upd_same]
    refine ⟨_, rfl, .inl ⟨rfl, _, SqL.of hl⟩, l, _, _, rfl, rfl, hl, small1000 (by rw [List.length_map]; omega), ?_⟩
    have s3 : Same H (upd (upd (upd H l (.lst ((R.map (·.1.1)).map V.str))) l2 (.lst ((R.map (·.1.1)).map V.str))) l (.lst ((R.map (·.1.1)).map V.str ++ [.str "other"]))) := sameUp (sameUp s1 hl2) nl
    refine ⟨_, rfl, a, rfl, ⟨_, SqL.of (s3 _ _ ha)⟩, for_list (xs := (plN pls).map V.str) (fun i σ2 H2 => (∃ n1 n2 : Option V, σ2 = [some (.ref h.p), some (.ref a), some (.ref q), some (.ref l), n1, n2]) ∧ Same H H2) ⟨⟨none, none, rfl⟩, s3⟩ (fun i σ2 H2 _ z => SqL.of (z.2 _ _ ha)) ?_ ?_⟩
    · rintro i x σ2 H2 ex ⟨⟨n1, n2, rfl⟩, sm⟩
      rw [List.getElem?_map] at ex
      obtain ⟨y, ey, rfl⟩ := Option.map_eq_some_iff.mp ex
      have my : y ∈ plN pls := List.mem_of_getElem? ey
      have hy : hasPl pls y = true := by rw [hasPl_N]; simpa using my
      refine ⟨_, rfl, h.p, dx, _, rfl, sm _ _ h1, hall_no (by decide +kernel) (by decide +kernel), _, rfl, h, pls, pcs, y, rfl, hallSame S sm, nok y my, (fun z => by rw [hy] at z; cases z), fun _ l3 H3 n3 e3 s4 => ?_⟩
      rw [atEq hR on] at e3
      have sm4 := sm.trans s4
      refine ⟨_, rfl, names_at (i := 2) (j := 4) rfl rfl (hp.same sm4) lR fun l4 n4 => ?_⟩
      have h34 : l3 ≠ l4 := ne_of_none e3 n4
      have e34 : upd H3 l4 (.lst (((R.filter fun r => decide (r.1.2 = y)).map (·.1.1)).map V.str)) l3 = some (.lst (((R.filter fun r => decide (r.1.2 = y)).map (·.1.1)).map V.str)) := by rw [upd_ne h34]; exact e3
      refine ⟨l3, l4, _, rfl, e34, upd_same, ?_, _, rfl, iteF ?_⟩
      · have := List.length_filter_le (fun r : Rw => decide (r.1.2 = y)) R
        rw [List.length_map]
        omega
      · exact ⟨_, rfl, .inl ⟨rfl, _, SqL.of e34⟩, l3, _, rfl, rfl, e34, ⟨_, _, rfl⟩, sameUp (sameUp sm4 (sm4.free n4)) (sm.free n3)⟩
    · rintro σ2 H2 ⟨⟨n1, n2, rfl⟩, sm⟩
      refine ⟨_, rfl, h.p, dx, _, rfl, sm _ _ h1, hall_no (by decide +kernel) (by decide +kernel), h, pls, pcs, rfl, hallSame S sm, fun l5 n5 => ?_⟩
      rw [eN]
      have s5 := sameUp (o := .lst ((R.map (·.1.1)).map V.str)) sm (sm.free n5)
      refine names_of (i := 2) rfl (hp.same s5) lR fun l6 n6 => ?_
      have h56 : l5 ≠ l6 := ne_of_none upd_same n6
      refine ⟨l5, l6, R.map (·.1.1), rfl, by rw [upd_ne h56, upd_same], upd_same, lN, ?_⟩
      exact k _ (sameUp s5 (s5.free n6))
end
end HK

set_option Elab.async false
set_option linter.all false
set_option maxRecDepth 100000
namespace HK
open PySem L2 HB
/-! ### who brought whom -/
def ByOk (pcs : List Pc) : Prop := ∀ (l r : List Pc) (m : Pc) (z : Str), pcs = l ++ m :: r → m.by_ = some z → hasPc l z = true
theorem ByOk.nil : ByOk [] := fun l r m z e => by simp at e
theorem ByOk.snoc {pcs : List Pc} {m : Pc} (h : ByOk pcs) (hm : ∀ z, m.by_ = some z → hasPc pcs z = true) : ByOk (pcs ++ [m]) := fun l r m' z e hz => by
  rcases List.eq_nil_or_concat r with rfl | ⟨r', x, rfl⟩
  · have e' : pcs ++ [m] = l ++ [m'] := e
    obtain ⟨e1, e2⟩ := List.append_inj' e' rfl
    cases e2
    subst e1
    exact hm z hz
  · have e' : pcs ++ [m] = (l ++ m' :: r') ++ [x] := by rw [e]; simp
    obtain ⟨e1, e2⟩ := List.append_inj' e' rfl
    exact h l r' m' z e1 hz
theorem ByOk.init {pcs : List Pc} {m : Pc} (h : ByOk (pcs ++ [m])) : ByOk pcs := fun l r m' z e hz => h l (r ++ [m]) m' z (by rw [e]; simp) hz
theorem has_app {l r : List Pc} {z : Str} : hasPc (l ++ r) z = (hasPc l z || hasPc r z) := List.any_append
/-- who came last goes alone -/
theorem gone_from {x : Str} : ∀ (r l : List Pc), ByOk (l ++ r) → hasPc l x = false → (∀ r' m, r = r' ++ [m] → hasPc r' x = false) → r.foldl goneStep [x] = [x]
  | [], _, _, _, _ => rfl
  | m :: r, l, hb, hl, hr => by
    have st : goneStep [x] m = [x] := by
      unfold goneStep goneTest
      cases e : m.by_ with
      | none => rfl
      | some z =>
        have hz := hb l r m z rfl e
        have nz : ¬ z = x := fun q => by rw [q, hl] at hz; cases hz
        simp [nz]
    rw [List.foldl_cons, st]
    cases r with
    | nil => rfl
    | cons m2 r2 =>
      have hmx : hasPc [m] x = false := by
        obtain ⟨r', y, e⟩ : ∃ r' y, m :: m2 :: r2 = r' ++ [y] := by
          rcases List.eq_nil_or_concat (m :: m2 :: r2) with e | ⟨r', y, e⟩
          · cases e
          · exact ⟨r', y, by simpa using e⟩
        have h1 := hr r' y e
        cases r' with
        | nil => simp at e
        | cons a r' =>
          have e' : m = a := (List.cons.inj e).1
          subst e'
          show (decide (m.nm = x) || false) = false
          have h1 : (decide (m.nm = x) || hasPc r' x) = false := h1
          rw [Bool.or_eq_false_iff] at h1
          rw [h1.1]
          rfl
      refine gone_from (m2 :: r2) (l ++ [m]) (by simpa using hb) (by rw [has_app, hl, hmx]; rfl) fun r' y e => ?_
      have h1 := hr (m :: r') y (by rw [e]; rfl)
      have h1 : (decide (m.nm = x) || hasPc r' x) = false := h1
      rw [Bool.or_eq_false_iff] at h1
      exact h1.2
theorem gone_last {pcs : List Pc} {m : Pc} (hb : ByOk (pcs ++ [m])) (hn : hasPc pcs m.nm = false) : goneOf m.nm (pcs ++ [m]) = [m.nm] :=
  gone_from (pcs ++ [m]) [] hb rfl fun r' m' e => by
    obtain ⟨e1, _⟩ := List.append_inj' e rfl
    rw [← e1]
    exact hn
/-! ### what holds of the hall, the other hall and the two lists -/
structure LH (c : Cs) (H0 H : Hp) (h o : HA) (a q : Addr) (pls : List Pl) (pcs : List Pc) (P : List Str) (R : List Rw) : Prop where
  sm : Same H0 H
  S : HallAt c H h pls pcs
  O : HallAt c H o [] []
  ha : H a = some (.lst (P.map V.str))
  hp : PiecesAt H q R
  on : ∀ m ∈ pcs, m.on = true
  by_ : ByOk pcs
  far : ∀ m ∈ pcs, ∀ b ∈ [m.la, m.lb, m.ln, m.lr], b ≠ a ∧ b ≠ q
  naq : a ≠ q
  f1 : H0 h.dp = none
  f2 : H0 h.dq = none
  f3 : H0 a = none
  f4 : H0 q = none
  d1 : o.dp ≠ h.dp
  d2 : o.dp ≠ h.dq
  d3 : o.dq ≠ h.dp
  d4 : o.dq ≠ h.dq
section
variable {c : Cs} {H0 H H' : Hp} {h o : HA} {a q : Addr} {pls pls' : List Pl} {pcs pcs' : List Pc} {P P' : List Str} {R R' : List Rw}
theorem LH.same (L : LH c H0 H h o a q pls pcs P R) (s : Same H H') : LH c H0 H' h o a q pls pcs P R :=
  ⟨L.sm.trans s, hallSame L.S s, hallSame L.O s, s _ _ L.ha, L.hp.same s, L.on, L.by_, L.far, L.naq, L.f1, L.f2, L.f3, L.f4, L.d1, L.d2, L.d3, L.d4⟩
theorem LH.hall (L : LH c H0 H h o a q pls pcs P R) (S' : HallAt c H' h pls' pcs') (kb : KeepBut [h.dp, h.dq] H H') (on : ∀ m ∈ pcs', m.on = true) (hb : ByOk pcs') (far : ∀ m ∈ pcs', m ∈ pcs ∨ Far H m) : LH c H0 H' h o a q pls' pcs' P R := by
  have dk : ∀ b ∈ [h.dp, h.dq], ∃ kvs, H b = some (.dK kvs) := fun b hb => by
    rcases List.mem_cons.mp hb with rfl | hb
    · exact ⟨_, L.S.dpl⟩
    · rw [List.mem_singleton.mp hb]
      exact ⟨_, L.S.dpc⟩
  have go : ∀ {b o}, H b = some o → (∀ kvs, o ≠ .dK kvs) → H' b = some o := fun {b o} e n => kb b o e fun z => by
    obtain ⟨kvs, q⟩ := dk b z
    rw [e] at q
    exact n kvs (Option.some.inj q)
  obtain ⟨dx, ob⟩ := L.O.ob
  refine ⟨fun b u z => kb b u (L.sm b u z) fun hb => ?_, S', ⟨⟨dx, go ob (fun _ z => nomatch z)⟩, kb _ _ L.O.dpl (by simp [L.d1, L.d2]), kb _ _ L.O.dpc (by simp [L.d3, L.d4]), L.O.ne, (fun m hm => nomatch hm), (fun m hm => nomatch hm), L.O.npl, L.O.npc, L.O.lpl, L.O.lpc⟩, go L.ha (fun _ z => nomatch z),
    ⟨go L.hp.l (fun _ z => nomatch z), fun r hr => go (L.hp.t r hr) (fun _ z => nomatch z)⟩, on, hb, fun m hm b hb => ?_, L.naq, L.f1, L.f2, L.f3, L.f4, L.d1, L.d2, L.d3, L.d4⟩
  · rcases List.mem_cons.mp hb with rfl | hb
    · rw [L.f1] at z; cases z
    · rw [List.mem_singleton.mp hb, L.f2] at z
      cases z
  · rcases far m hm with q | ⟨n1, n2, n3, n4⟩
    · exact L.far m q b hb
    · have hn : H b = none := by
        simp only [List.mem_cons, List.not_mem_nil, or_false] at hb
        rcases hb with rfl | rfl | rfl | rfl
        · exact n1
        · exact n2
        · exact n3
        · exact n4
      exact ⟨(ne_of_none L.ha hn).symm, (ne_of_none L.hp.l hn).symm⟩
theorem LH.lists (L : LH c H0 H h o a q pls pcs P R) (ha : H' a = some (.lst (P'.map V.str))) (hp : PiecesAt H' q R') (kb : KeepBut [a, q] H H') : LH c H0 H' h o a q pls pcs P' R' := by
  have ls : ∀ b ∈ [a, q], ∃ xs, H b = some (.lst xs) := fun b hb => by
    rcases List.mem_cons.mp hb with rfl | hb
    · exact ⟨_, L.ha⟩
    · rw [List.mem_singleton.mp hb]
      exact ⟨_, L.hp.l⟩
  have go : ∀ {b o}, H b = some o → (∀ xs, o ≠ .lst xs) → H' b = some o := fun {b o} e n => kb b o e fun z => by
    obtain ⟨xs, q⟩ := ls b z
    rw [e] at q
    exact n xs (Option.some.inj q)
  have hl : ∀ {pls : List Pl} {pcs : List Pc} {h : HA}, HallAt c H h pls pcs → (∀ m ∈ pcs, ∀ b ∈ [m.la, m.lb, m.ln, m.lr], b ≠ a ∧ b ≠ q) → HallAt c H' h pls pcs := fun S far =>
    ⟨S.ob.imp fun _ z => go z (fun _ y => nomatch y), go S.dpl (fun _ y => nomatch y), go S.dpc (fun _ y => nomatch y), S.ne, fun m hm => (S.pl m hm).imp fun _ z => go z (fun _ y => nomatch y), fun m hm => by
      obtain ⟨⟨dx, a1⟩, a2, a3, a4, a5⟩ := S.pc m hm
      have f : ∀ b ∈ [m.la, m.lb, m.ln, m.lr], b ∉ [a, q] := fun b hb z => by
        obtain ⟨z1, z2⟩ := far m hm b hb
        rcases List.mem_cons.mp z with z | z
        · exact z1 z
        · exact z2 (List.mem_singleton.mp z)
      exact ⟨⟨dx, go a1 (fun _ y => nomatch y)⟩, kb _ _ a2 (f _ (by simp)), kb _ _ a3 (f _ (by simp)), kb _ _ a4 (f _ (by simp)), kb _ _ a5 (f _ (by simp))⟩, S.npl, S.npc, S.lpl, S.lpc⟩
  refine ⟨fun b u z => kb b u (L.sm b u z) fun hb => ?_, hl L.S L.far, hl L.O (fun m hm => nomatch hm), ha, hp, L.on, L.by_, L.far, L.naq, L.f1, L.f2, L.f3, L.f4, L.d1, L.d2, L.d3, L.d4⟩
  rcases List.mem_cons.mp hb with rfl | hb
  · rw [L.f3] at z; cases z
  · rw [List.mem_singleton.mp hb, L.f4] at z
    cases z
theorem inc_on (L : LH c H0 H h o a q pls pcs P R) (i : Inc H pcs pcs') : (∀ m ∈ pcs', m.on = true) ∧ ByOk pcs' ∧ ∀ m ∈ pcs', m ∈ pcs ∨ Far H m := by
  rcases i with rfl | ⟨m, rfl, h1, h2, h3⟩
  · exact ⟨L.on, L.by_, fun m hm => .inl hm⟩
  · refine ⟨fun m' hm => ?_, L.by_.snoc h2, fun m' hm => ?_⟩
    · rcases List.mem_append.mp hm with hm | hm
      · exact L.on m' hm
      · rw [List.mem_singleton.mp hm]; exact h1
    · rcases List.mem_append.mp hm with hm | hm
      · exact .inl hm
      · rw [List.mem_singleton.mp hm]; exact .inr h3
/-- xs.append of the two lists -/
theorem LH.addP (L : LH c H0 H h o a q pls pcs P R) {x : Str} : LH c H0 (upd H a (.lst (P.map V.str ++ [.str x]))) h o a q pls pcs (P ++ [x]) R :=
  L.lists (by rw [upd_same, List.map_append]; rfl) (L.hp.keep (L := [a]) (fun b o z hb => by rw [upd_ne (by simpa using hb)]; exact z) (by simpa using L.naq.symm) (fun b hb xs z => by rw [List.mem_singleton.mp hb, L.ha] at z; cases z))
    fun b o z hb => by
      have hb : b ≠ a ∧ b ≠ q := by simpa using hb
      rw [upd_ne hb.1]
      exact z
theorem LH.addR (L : LH c H0 H h o a q pls pcs P R) {x y : Str} {t : Addr} (nt : H t = none) : LH c H0 (upd (upd H t (.tup [.str x, .str y])) q (.lst ((R.map fun r => V.ref r.2) ++ [.ref t]))) h o a q pls pcs P (R ++ [((x, y), t)]) := by
  have ntq := ne_of_none L.hp.l nt
  refine L.lists (by rw [upd_ne L.naq, upd_ne (ne_of_none L.ha nt)]; exact L.ha) ⟨by rw [upd_same, List.map_append]; rfl, fun r hr => ?_⟩ fun b o z hb => ?_
  · rcases List.mem_append.mp hr with hr | hr
    · have hr1 := L.hp.t r hr
      rw [upd_ne (ne_of hr1 L.hp.l (by intro z; cases z)), upd_ne (ne_of_none hr1 nt)]
      exact hr1
    · rw [List.mem_singleton.mp hr, upd_ne ntq.symm, upd_same]
  · have hb : b ≠ a ∧ b ≠ q := by simpa using hb
    rw [upd_ne hb.2, upd_ne (ne_of_none z nt)]
    exact z
theorem LH.popR (L : LH c H0 H h o a q pls pcs P R) : LH c H0 (upd H q (.lst ((R.map fun r => V.ref r.2).dropLast))) h o a q pls pcs P R.dropLast :=
  L.lists (by rw [upd_ne L.naq]; exact L.ha) ⟨by rw [upd_same, List.map_dropLast], fun r hr => by
    have hr1 := L.hp.t r (List.dropLast_subset _ hr)
    rw [upd_ne (ne_of hr1 L.hp.l (by intro z; cases z))]
    exact hr1⟩ fun b o z hb => by
      have hb : b ≠ a ∧ b ≠ q := by simpa using hb
      rw [upd_ne hb.2]
      exact z
end
end HK

set_option Elab.async false
set_option linter.all false
set_option maxRecDepth 100000
namespace HK
open PySem L2 HB
/-! ### what a deed leaves -/
def Okn (x : Str) : Prop := x ∈ lawNames ∨ x ∈ ten10
theorem due_pls {dd : Deed} {P : List Str} {R : List (Str × Str)} (g : GoodDeed dd) (hP : ∀ x ∈ P, x ∈ ten10) : ∀ x ∈ (due dd P R).2.1, x ∈ ten10 := by
  cases dd with
  | place x k r =>
    rw [due_place]
    split
    · exact hP
    · split
      · exact hP
      · intro y hy
        rcases List.mem_append.mp hy with hy | hy
        · exact hP y hy
        · rw [List.mem_singleton.mp hy]; exact g
  | piece x y b =>
    rw [due_piece]
    split
    · exact hP
    · split
      · exact hP
      · split
        · exact hP
        · split
          · exact hP
          · exact hP
theorem due_pcs {dd : Deed} {P : List Str} {R : List (Str × Str)} (g : GoodDeed dd) (hR : ∀ p ∈ R, Okn p.1) : ∀ p ∈ (due dd P R).2.2, Okn p.1 := by
  cases dd with
  | place x k r =>
    rw [due_place]
    split
    · exact hR
    · split
      · exact hR
      · exact hR
  | piece x y b =>
    rw [due_piece]
    split
    · exact hR
    · split
      · exact hR
      · split
        · exact hR
        · split
          · exact hR
          · intro p hp
            rcases List.mem_append.mp hp with hp | hp
            · exact hR p hp
            · rw [List.mem_singleton.mp hp]; exact g.1
theorem due_sub {dd : Deed} {P : List Str} {R : List (Str × Str)} {z : Str} (h : z ∈ P) : z ∈ (due dd P R).2.1 := by
  cases dd with
  | place x k r =>
    rw [due_place]
    split
    · exact h
    · split
      · exact h
      · exact List.mem_append_left _ h
  | piece x y b =>
    rw [due_piece]
    split
    · exact h
    · split
      · exact h
      · split
        · exact h
        · split
          · exact h
          · exact h
/-! ### the full hall -/
def eight : Str := "abcdefgh"
def el8 : List Str := (List.range 8).map fun (k : Nat) => plName eight k
def pB : Str := "placeb"
def law23 : List (Str × Str) := (List.range 23).map fun (k : Nat) => (lawName k, pB)
theorem eightLen : (eight.cps.toList.length : Int) = 8 := by decide +kernel
theorem eightLine : eight.length ≤ sizeLine := by decide +kernel
theorem nd8 : el8.Nodup := by decide +kernel
theorem nd23 : (law23.map (·.1)).Nodup := by decide +kernel
theorem in8 : ∀ x ∈ el8, x ∈ ten10 := by decide +kernel
theorem in23 : ∀ p ∈ law23, p.1 ∈ lawNames := by decide +kernel
theorem pB8 : pB ∈ el8 := by decide +kernel
theorem ok_pB : NameOk pB := by unfold NameOk; decide +kernel
def moreX : Str := ("more" : Str) ++ letter letters 23
def anew : Str := "anew"
theorem ok_more : NameOk moreX := by unfold NameOk; decide +kernel
theorem ok_anew : NameOk anew := by unfold NameOk; decide +kernel
theorem more_not : moreX ∉ lawNames ∧ moreX ∉ ten10 := by decide +kernel
theorem anew_not : anew ∉ lawNames ∧ anew ∉ ten10 ∧ anew ≠ moreX := by decide +kernel
theorem okn_ok {x : Str} (h : Okn x) : NameOk x := h.elim (ok_lawNames x) (ok_ten10 x)
theorem okn_more {x : Str} (h : Okn x) : x ≠ moreX := fun e => by
  rw [e] at h
  exact h.elim more_not.1 more_not.2
theorem okn_anew {x : Str} (h : Okn x) : x ≠ anew := fun e => by
  rw [e] at h
  exact h.elim anew_not.1 anew_not.2.1
theorem moreLine : (("more" : Str)).length + (letter letters 23).length ≤ sizeLine := by decide +kernel
theorem nd_take {l : List Str} {i : Nat} {x : Str} (n : l.Nodup) (h : l[i]? = some x) : (l.take i).contains x = false := by
  cases q : (l.take i).contains x with
  | false => rfl
  | true =>
    exfalso
    have q' : x ∈ l.take i := by simpa using q
    obtain ⟨j, hj⟩ := List.getElem?_of_mem q'
    have hji : j < i := by
      have := (List.getElem?_eq_some_iff.mp hj).1
      rw [List.length_take] at this
      omega
    rw [List.getElem?_take_of_lt hji] at hj
    exact absurd (nodup_ix n hj h) (Nat.ne_of_lt hji)
theorem el8_at {i : Nat} (h : i < 8) : el8[i]? = some (plName eight i) := by
  unfold el8
  rw [List.getElem?_map, List.getElem?_range h]
  rfl
theorem law23_at {i : Nat} (h : i < 23) : law23[i]? = some (lawName i, pB) := by
  unfold law23
  rw [List.getElem?_map, List.getElem?_range h]
  rfl
theorem cut_ints {ns : List Int} {lo hi : Option Int} : ∃ cs : List Int, cutV (ns.map V.int) lo hi = cs.map V.int ∧ cs.length ≤ ns.length := by
  unfold cutV
  refine ⟨_, by rw [← List.map_drop, ← List.map_take], ?_⟩
  rw [List.length_take, List.length_drop]
  omega
end HK

set_option Elab.async false
set_option linter.all false
set_option maxRecDepth 100000
namespace HK
open PySem L2 HB
section
variable {P : Program} {w : World} {K : PySem.W.Frag} {mg : Str → Option Value} {base : Heap} {c : Cs} {e : Es}
def spOpen0 (c : Cs) (e : Es) : Sp := fun vs H Q _ => spOpen c e vs H Q E0
def spHang0 (c : Cs) (e : Es) : Sp := fun vs H Q _ => spHang c e vs H Q E0
def spDrop0 (c : Cs) (e : Es) : Sp := fun vs H Q _ => spDrop c e vs H Q E0
def spLaw (K : PySem.W.Frag) : Sp := fun vs H Q _ => ∃ (a : Addr) (ns : List Int), vs = [.ref a] ∧ SqL K H a (ns.map V.int) ∧ ns.length ≤ 63 ∧ ∀ H', Q (.bl true) H'
theorem scLaw : FnScope ["script", "hall", "other", "places", "pieces", "full", "k", "cells", "deed", "found", "last"] ["script"] (defScope sLaw) := ⟨rfl, rfl, rfl, by decide +kernel, rfl, by decide +kernel, by decide +kernel⟩
/-- what the law calls -/
structure LawTxt (P : Program) (w : World) (K : PySem.W.Frag) (mg : Str → Option Value) (base : Heap) (c : Cs) (e : Es) (fI fO fH fD fN fS fC fM fT fR fU fB fG : Addr) (dI dO dH dD dN dS dC dM dT dR dU dB dG : FuncData) : Prop where
  T : TxtC K mg c e
  TL : TxtL mg
  M : Mk K c.hall fI
  GI : FnOk P w K mg base CX0 1 fI dI ["self"] (spHallInit c)
  bI : Binds K dI ["self"] []
  MO : MethAt P w K mg base CX0 3 c.hall "open_place" ["self", "name", "kind", "rule"] (spOpen0 c e) fO dO
  MH : MethAt P w K mg base CX0 3 c.hall "hang" ["self", "name", "place", "deed", "by"] (spHang0 c e) fH dH
  bH : Binds K dH ["self", "name", "place", "deed", "by"] [.none]
  MD : MethAt P w K mg base CX0 2 c.hall "drop" ["self", "name"] (spDrop0 c e) fD dD
  MN : MethAt P w K mg base CX0 1 c.hall "names" ["self"] (spNames c) fN dN
  MS : MethAt P w K mg base CX0 1 c.hall "has" ["self", "name"] (spHas c) fS dS
  DC : DefAt K mg "_law_cell_at" sCell fC dC ["script", "k"]
  DM : DefAt K mg "_law_name" sName fM dM ["k"]
  DT : DefAt K mg "_law_texts" sTexts fT dT ["found", "due"]
  DR : DefAt K mg "_law_refusal" sRefusal fR dR ["hall", "deed"]
  DU : DefAt K mg "_law_due" sDue fU dU ["deed", "places", "pieces"]
  DB : DefAt K mg "_law_deed_by" sDeedBy fB dB ["one", "two"]
  DG : DefAt K mg "_law_right" sRight fG dG ["hall", "places", "pieces"]
  GR : FnOk P w K mg base CX0 4 fR dR ["hall", "deed"] (spRefusal c)
  GG : FnOk P w K mg base CX0 3 fG dG ["hall", "places", "pieces"] (spRight c)
theorem vDeed_at {dd : Deed} : atI (vDeed dd) 1 = some (.str (dName dd)) := by cases dd <;> rfl
theorem keep1 {d1 d2 : Addr} {H H' : Hp} (k : KeepBut [d1] H H') : KeepBut [d1, d2] H H' := fun b o z hb => k b o z fun q => hb (List.mem_cons.mpr (.inl (List.mem_singleton.mp q)))
theorem keep2 {d1 d2 : Addr} {H H' : Hp} (k : KeepBut [d2] H H') : KeepBut [d1, d2] H H' := fun b o z hb => k b o z fun q => hb (List.mem_cons.mpr (.inr q))
theorem not_has {pcs : List Pc} {x : Str} (h : ∀ p ∈ pcN pcs, p.1 ≠ x) : hasPc pcs x = false := by
  rw [hasPc_N]
  cases q : ((pcN pcs).map (·.1)).contains x with
  | false => rfl
  | true =>
    have q' : x ∈ (pcN pcs).map (·.1) := by simpa using q
    obtain ⟨p, hp, e⟩ := List.mem_map.mp q'
    exact absurd e (h p hp)
theorem nd_last {pcs : List Pc} {m : Pc} (n : ((pcs ++ [m]).map (·.nm)).Nodup) : ∀ m' ∈ pcs, m'.nm ≠ m.nm := fun m' hm e => by
  rw [List.map_append, List.nodup_append] at n
  exact n.2.2 m'.nm (List.mem_map.mpr ⟨m', hm, rfl⟩) m.nm (by simp) e
theorem last_out {pcs : List Pc} {m : Pc} (n : ((pcs ++ [m]).map (·.nm)).Nodup) : ((pcs ++ [m]).filter fun m' => !([m.nm] : List Str).contains m'.nm) = pcs := by
  rw [List.filter_append, List.filter_eq_self.mpr]
  · simp
  · intro m' hm
    have := nd_last n m' hm
    simp [this]
theorem split_last {R : List Rw} {pcs : List Pc} {m : Pc} (h : R.map (·.1) = pcN (pcs ++ [m])) : ∃ R' r, R = R' ++ [r] ∧ R'.map (·.1) = pcN pcs ∧ r.1 = (m.nm, m.pl) := by
  rcases List.eq_nil_or_concat R with rfl | ⟨R', r, rfl⟩
  · simp [pcN] at h
  · have h' : R'.map (·.1) ++ [r.1] = pcN pcs ++ [(m.nm, m.pl)] := by
      unfold pcN at h ⊢
      simpa using h
    obtain ⟨e1, e2⟩ := List.append_inj' h' rfl
    exact ⟨R', r, by simp, e1, (List.cons.inj e2).1⟩
set_option maxHeartbeats 8000000 in
theorem ok_law {f fI fO fH fD fN fS fC fM fT fR fU fB fG : Addr} {fd dI dO dH dD dN dS dC dM dT dR dU dB dG : FuncData} (F : Fun K "law" "law" sLaw f fd) (A : LawTxt P w K mg base c e fI fO fH fD fN fS fC fM fT fR fU fB fG dI dO dH dD dN dS dC dM dT dR dU dB dG) :
    FnOk P w K mg base CX0 5 f fd ["script"] (spLaw K) := by
  have GC : FnOk P w K mg base CX0 4 fC dC ["script", "k"] (spCell K) := (ok_cell A.DC.F A.TL).mono (by decide)
  have GM : FnOk P w K mg base CX0 4 fM dM ["k"] spName := (ok_name A.DM.F A.TL).mono (by decide)
  have GT : FnOk P w K mg base CX0 4 fT dT ["found", "due"] (spTexts K) := (ok_texts A.DT.F A.TL).mono (by decide)
  have GU : FnOk P w K mg base CX0 4 fU dU ["deed", "places", "pieces"] spDue := (ok_due A.DU.F A.TL).mono (by decide)
  have GB : FnOk P w K mg base CX0 4 fB dB ["one", "two"] spDeedBy := (ok_deedBy A.DB.F A.TL A.DM).mono (by decide)
  have GG : FnOk P w K mg base CX0 4 fG dG ["hall", "places", "pieces"] (spRight c) := A.GG.mono (by decide)
  have GO : FnOk P w K mg base CX0 4 fO dO ["self", "name", "kind", "rule"] (spOpen0 c e) := A.MO.g.mono (by decide)
  have GH : FnOk P w K mg base CX0 4 fH dH ["self", "name", "place", "deed", "by"] (spHang0 c e) := A.MH.g.mono (by decide)
  have GD : FnOk P w K mg base CX0 4 fD dD ["self", "name"] (spDrop0 c e) := A.MD.g.mono (by decide)
  have GN : FnOk P w K mg base CX0 4 fN dN ["self"] (spNames c) := A.MN.g.mono (by decide)
  have GS : FnOk P w K mg base CX0 4 fS dS ["self", "name"] (spHas c) := A.MS.g.mono (by decide)
  have GI : FnOk P w K mg base CX0 3 fI dI ["self"] (spHallInit c) := A.GI.mono (by decide)
  refine F.ok scLaw (fun vs H Q E h => ?_) (fun cdv A' outer s H vs Q E hr h => ?_)
  · obtain ⟨sc, ns, rfl, _⟩ := h
    rfl
  · obtain ⟨sc, ns, rfl, hS, hlen, kEnd⟩ := h
    refine ⟨_, pss_cons (ps_set (i := 1) scLaw.nd rfl (Or.inl rfl) (pe_make0 A.M GI hr (by rfl) A.T.mgHall A.bI .nil pass0))
      (pss_cons (ps_set (i := 2) scLaw.nd rfl (Or.inl rfl) (pe_make0 A.M GI hr (by rfl) A.T.mgHall A.bI .nil pass0))
      (pss_cons (ps_set (i := 3) scLaw.nd rfl (Or.inl rfl) (pe_lst pa_nil))
      (pss_cons (ps_set (i := 4) scLaw.nd rfl (Or.inl rfl) (pe_lst pa_nil))
      (pss_cons (ps_set (i := 5) scLaw.nd rfl (Or.inl rfl) (pe_cmpR op_eq (pe_op op_mod (pe_call GC hr (by rfl) A.DC.m A.DC.F.kp A.DC.b .nil pass0 (pa_cons (pv 0) (pa_cons pe_int pa_nil))) pe_int) pe_int (nomark _)))
      (pss_cons (ps_for PassesOwn.never rfl (pi_range1 (by rfl) A.TL.range (pa_cons (pe_op op_mul pe_int (pe_callTy call_int1 (by rfl) A.TL.int bInt (pa_cons (pv 5) pa_nil))) pa_nil)) (pg_name (i := 6) scLaw.nd rfl (Or.inl rfl))
        (pss_cons (ps_expr (pe_meth (pv 1) A.T.clH A.MO.m GO hr A.MO.b .nil pass0 (pa_cons (pe_op op_add_str pe_str (pe_ix ix_str pe_str (pv 6) (fun _ _ => rfl))) (pa_cons pe_str (pa_cons pe_str pa_nil)))))
        (pss_one (ps_expr (pe_bm PySem.F.plainAttrs_list PySem.F.slot_list_append PySem.F.type_list_append mt_append (pv 3) (pa_cons (pe_op op_add_str pe_str (pe_ix ix_str pe_str (pv 6) (fun _ _ => rfl))) pa_nil))))))
      (pss_cons (ps_for PassesOwn.never rfl (pi_range1 (by rfl) A.TL.range (pa_cons (pe_op op_mul pe_int (pe_callTy call_int1 (by rfl) A.TL.int bInt (pa_cons (pv 5) pa_nil))) pa_nil)) (pg_name (i := 6) scLaw.nd rfl (Or.inl rfl))
        (pss_cons (ps_expr (pe_meth (pv 1) A.T.clH A.MH.m GH hr A.bH valsN pass0 (pa_cons (pe_call GM hr (by rfl) A.DM.m A.DM.F.kp A.DM.b .nil pass0 (pa_cons (pv 6) pa_nil)) (pa_cons pe_str (pa_cons (pe_tup (pa_cons pe_str (pa_cons (pv 6) pa_nil))) pa_nil)))))
        (pss_one (ps_expr (pe_bm PySem.F.plainAttrs_list PySem.F.slot_list_append PySem.F.type_list_append mt_append (pv 4) (pa_cons (pe_tup (pa_cons (pe_call GM hr (by rfl) A.DM.m A.DM.F.kp A.DM.b .nil pass0 (pa_cons (pv 6) pa_nil)) (pa_cons pe_str pa_nil))) pa_nil))))))
      (pss_cons (ps_set (i := 7) scLaw.nd rfl (Or.inl rfl) (pe_slice sl_list (pv 0) (po_some pe_int) (po_some pe_int)))
      (pss_cons (ps_for PassesOwn.never rfl (pi_range1 (by rfl) A.TL.range (pa_cons (pe_op op_fdiv (pe_callB call_len_seq (by rfl) A.TL.len PySem.boot_len (pa_cons (pv 7) pa_nil)) pe_int) pa_nil)) (pg_name (i := 6) scLaw.nd rfl (Or.inl rfl))
        (pss_cons (ps_set (i := 8) scLaw.nd rfl (Or.inl rfl) (pe_call GB hr (by rfl) A.DB.m A.DB.F.kp A.DB.b .nil pass0 (pa_cons (pe_ix ix_list (pv 7) (pe_op op_mul pe_int (pv 6)) (fun _ _ => rfl)) (pa_cons (pe_ix ix_list (pv 7) (pe_op op_add (pe_op op_mul pe_int (pv 6)) pe_int) (fun _ _ => rfl)) pa_nil))))
        (pss_cons (ps_if (pw_or (pt_cmpR op_ne (pe_call A.GR hr (by rfl) A.DR.m A.DR.F.kp A.DR.b .nil pass0 (pa_cons (pv 1) (pa_cons (pv 8) pa_nil))) (pe_call GU hr (by rfl) A.DU.m A.DU.F.kp A.DU.b .nil pass0 (pa_cons (pv 8) (pa_cons (pv 3) (pa_cons (pv 4) pa_nil)))) (nomark _))
            (pw_or1 (pt_not (pt_val (pe_call GG hr (by rfl) A.DG.m A.DG.F.kp A.DG.b .nil pass0 (pa_cons (pv 1) (pa_cons (pv 3) (pa_cons (pv 4) pa_nil)))))))).pt (pss_one (ps_ret pe_bl)) pss_nil)
        (pss_cons (ps_set (i := 9) scLaw.nd rfl (Or.inl rfl) (pe_meth (pv 1) A.T.clH A.MS.m GS hr A.MS.b .nil pass0 (pa_cons (pe_ix ix_tup (pv 8) pe_int (fun _ _ => rfl)) pa_nil)))
        (pss_one (ps_if (pw_or (pt_not (pt_val (pe_callB call_isinst (by rfl) A.TL.isinst bIsi (pa_cons (pv 9) (pa_cons (pe_bltn (v := .ty "bool") (by rfl) A.TL.bool bBool rfl) pa_nil)))))
            (pw_or1 (pt_cmpR op_ne (pv 9) (pe_cmpR op_in_seq (pe_ix ix_tup (pv 8) pe_int (fun _ _ => rfl)) (pe_comp (ts := ["piece"]) (xs := []) (js := []) (g := gName 0) (te := tNames0 K) rfl ⟨rfl, by decide +kernel, rfl, by decide +kernel, (fun p hp => absurd hp List.not_mem_nil), rfl, trivial⟩ (pi_list (pv 4)) (fun _ _ _ => pg_name (i := 0) ndP rfl (Or.inl rfl)) (fun _ _ _ => pe_ix ix_tup (pv 0) pe_int (fun _ _ => rfl))) rfl) (nomark _)))).pt (pss_one (ps_ret pe_bl)) pss_nil))))))
      (pss_cons (ps_if (pt_val (pv 5))
        (pss_cons (ps_while PassesOwn.never (pt_cmpR op_lt (pe_callB call_len_seq (by rfl) A.TL.len PySem.boot_len (pa_cons (pv 4) pa_nil)) pe_int (nomark _))
          (pss_cons (ps_expr (pe_bm PySem.F.plainAttrs_list PySem.F.slot_list_append PySem.F.type_list_append mt_append (pv 4) (pa_cons (pe_tup (pa_cons (pe_op op_add_str pe_str (pe_ix ix_str pe_str (pe_callB call_len_seq (by rfl) A.TL.len PySem.boot_len (pa_cons (pv 4) pa_nil)) (fun _ _ => rfl))) (pa_cons pe_str pa_nil))) pa_nil)))
          (pss_one (ps_expr (pe_meth (pv 1) A.T.clH A.MH.m GH hr A.bH valsN pass0 (pa_cons (pe_ix ix_tup (pe_ix ix_list (pv 4) (pe_un un_neg pe_int) (fun _ _ => rfl)) pe_int (fun _ _ => rfl)) (pa_cons pe_str (pa_cons (pe_tup (pa_cons pe_str pa_nil)) pa_nil))))))))
        (pss_cons (ps_set (i := 10) scLaw.nd rfl (Or.inl rfl) (pe_ix ix_tup (pe_bm0 PySem.F.plainAttrs_list PySem.F.slot_list_pop PySem.F.type_list_pop mt_pop (pv 4)) pe_int (fun _ _ => rfl)))
        (pss_cons (ps_if (pt_not (pt_val (pe_call GT hr (by rfl) A.DT.m A.DT.F.kp A.DT.b .nil pass0 (pa_cons (pe_meth (pv 1) A.T.clH A.MD.m GD hr A.MD.b .nil pass0 (pa_cons (pv 10) pa_nil)) (pa_cons (pe_lst (pa_cons (pv 10) pa_nil)) pa_nil))))) (pss_one (ps_ret pe_bl)) pss_nil)
        (pss_cons (ps_expr (pe_meth (pv 1) A.T.clH A.MH.m GH hr A.bH valsN pass0 (pa_cons pe_str (pa_cons pe_str (pa_cons (pe_tup (pa_cons pe_str pa_nil)) pa_nil)))))
        (pss_cons (ps_expr (pe_bm PySem.F.plainAttrs_list PySem.F.slot_list_append PySem.F.type_list_append mt_append (pv 4) (pa_cons (pe_tup (pa_cons pe_str (pa_cons pe_str pa_nil))) pa_nil)))
        (pss_one (ps_if (pt_not (pt_val (pe_call GG hr (by rfl) A.DG.m A.DG.F.kp A.DG.b .nil pass0 (pa_cons (pv 1) (pa_cons (pv 3) (pa_cons (pv 4) pa_nil)))))) (pss_one (ps_ret pe_bl)) pss_nil))))))) pss_nil)
      (pss_one (ps_ret (pe_and (pe_cmpR (op_eq_nil hr.units0) (pe_meth0 (pv 2) A.T.clH A.MN.m GN hr A.MN.b .nil pass0) (pe_lst pa_nil) (nomark _)) (pe_one (pe_cmpR op_isB (pe_meth (pv 2) A.T.clH A.MS.m GS hr A.MS.b .nil pass0 (pa_cons pe_str pa_nil)) pe_bl (nomark _))))))))))))))), ?_⟩
    -- hall = Hall()
    intro x1 dx1 nx1 ndx1 nex1
    refine ⟨x1, dx1, rfl, upd_same, fun dp1 dq1 H1 np1 nq1 S1 kb1 => ⟨rfl, ?_⟩⟩
    have s1' : Same H (upd (upd H dx1 (.own x1)) x1 (.ins c.hall dx1 [])) := sameUp (Same.upd ndx1) nx1
    have s1 : Same H H1 := fun b o z => kb1 b o (s1' b o z) (by simpa using ne_of_none z nx1)
    -- other = Hall()
    intro x2 dx2 nx2 ndx2 nex2
    refine ⟨x2, dx2, rfl, upd_same, fun dp2 dq2 H2 np2 nq2 S2 kb2 => ⟨rfl, ?_⟩⟩
    have s2' : Same H1 (upd (upd H1 dx2 (.own x2)) x2 (.ins c.hall dx2 [])) := sameUp (Same.upd ndx2) nx2
    have s2 : Same H1 H2 := fun b o z => kb2 b o (s2' b o z) (by simpa using ne_of_none z nx2)
    -- places = [], pieces = []
    refine ⟨(by show 0 ≤ sizeLine; decide), fun a na => ?_⟩
    refine ⟨(by show 0 ≤ sizeLine; decide), fun q nq => ?_⟩
    have s3 : Same H2 (upd H2 a (.lst [])) := Same.upd na
    have s4 : Same (upd H2 a (.lst [])) (upd (upd H2 a (.lst [])) q (.lst [])) := Same.upd nq
    have naq : a ≠ q := ne_of_none upd_same nq
    obtain ⟨dx, hob⟩ := S1.ob
    have L0 : LH c H (upd (upd H2 a (.lst [])) q (.lst [])) ⟨x1, dp1, dq1⟩ ⟨x2, dp2, dq2⟩ a q [] [] [] [] :=
      ⟨s1.trans (s2.trans (s3.trans s4)), hallSame S1 (s2.trans (s3.trans s4)), hallSame S2 (s3.trans s4), s4 _ _ upd_same, ⟨upd_same, (fun r hr => nomatch hr)⟩, (fun m hm => nomatch hm), ByOk.nil, (fun m hm => nomatch hm), naq,
        s1'.free np1, s1'.free nq1, (s1.trans s2).free na, (s1.trans (s2.trans s3)).free nq, (ne_of_none (s2' _ _ S1.dpl) np2).symm, (ne_of_none (s2' _ _ S1.dpc) np2).symm, (ne_of_none (s2' _ _ S1.dpl) nq2).symm, (ne_of_none (s2' _ _ S1.dpc) nq2).symm⟩
    -- full
    refine ⟨_, rfl, sc, ns, 0, rfl, L0.sm.seq hS, by decide, _, _, rfl, rfl, (by show (0 : Int) < 3; decide), rfl, ?_⟩
    generalize decide (V.int _ = V.int 1) = b
    generalize upd (upd H2 a (.lst [])) q (.lst []) = H4 at L0
    -- eight places
    refine ⟨_, rfl, .inr ⟨b, rfl, _, _, rfl, rfl, .inl ⟨by decide, by decide⟩, _, rfl, (by cases b <;> decide), (by cases b <;> decide), for_range (fun i σ3 H3 => (∃ n6 : Option V, σ3 = [some (.ref sc), some (.ref x1), some (.ref x2), some (.ref a), some (.ref q), some (.bl b), n6, none, none, none, none]) ∧ ∃ pls : List Pl, plN pls = el8.take i ∧ LH c H H3 ⟨x1, dp1, dq1⟩ ⟨x2, dp2, dq2⟩ a q pls [] (plN pls) [])
      ⟨⟨none, rfl⟩, [], rfl, L0⟩ ?_ ?_⟩⟩
    · rintro i σ3 H3 hi ⟨⟨n6, rfl⟩, pls, hpls, L⟩
      have hi : i < 8 := by cases b <;> simp at hi <;> omega
      rw [Int.zero_add]
      obtain ⟨dy, h1⟩ := L.S.ob
      have hx : hasPl pls (plName eight i) = false := by rw [hasPl_N, hpls]; exact nd_take nd8 (el8_at hi)
      have l8 : pls.length = i := by
        have : (plN pls).length = pls.length := List.length_map _
        rw [← this, hpls, List.length_take]
        show min i 8 = i
        omega
      refine ⟨_, rfl, x1, dy, _, rfl, h1, hall_no (by decide +kernel) (by decide +kernel), _, rfl, eight, _, _, rfl, rfl, eightLine, at_letter (by omega) (by rw [eightLen]; omega), _, _, rfl, rfl, plLine, ?_⟩
      refine ⟨⟨x1, dp1, dq1⟩, pls, [], plName eight i, "all", "hold", rfl, L.S, ok_ten10 _ (in8 _ (List.mem_of_getElem? (el8_at hi))), (fun z => by rw [hx] at z; cases z), (fun _ z => by omega), fun _ _ a' H' na' S' kb => ?_⟩
      have L' := L.hall S' (keep1 kb) (fun m hm => nomatch hm) ByOk.nil (fun m hm => nomatch hm)
      refine ⟨_, rfl, .inl ⟨rfl, _, SqL.of L'.ha⟩, _, rfl, eight, _, _, rfl, rfl, eightLine, at_letter (by omega) (by rw [eightLen]; omega), _, _, rfl, rfl, plLine, a, _, _, rfl, rfl, L'.ha, small1000 ?_, ⟨_, rfl⟩, pls ++ [⟨plName eight i, "all", "hold", a'⟩], ?_, ?_⟩
      · rw [List.length_map]
        show (pls.map _).length ≤ 1000
        rw [List.length_map]
        omega
      · rw [take_snoc (el8_at hi), ← hpls]
        unfold plN
        rw [List.map_append]
        rfl
      · have := L'.addP (x := plName eight i)
        rw [show plN pls ++ [plName eight i] = plN (pls ++ [⟨plName eight i, "all", "hold", a'⟩]) by unfold plN; rw [List.map_append]; rfl] at this
        exact this
    rintro σ3 H3 ⟨⟨n6, rfl⟩, pls0, hpls, L1⟩
    have in0 : ∀ x ∈ plN pls0, x ∈ ten10 := fun x hx => in8 x (List.take_subset _ _ (by rw [hpls] at hx; exact hx))
    have pB0 : b = true → pB ∈ plN pls0 := fun hb => by
      rw [hpls, hb]
      exact pB8
    -- twenty-three pieces
    refine ⟨_, rfl, .inr ⟨b, rfl, _, _, rfl, rfl, .inl ⟨by decide, by decide⟩, _, rfl, (by cases b <;> decide), (by cases b <;> decide), for_range (fun i σ3 H3 => (∃ n6 : Option V, σ3 = [some (.ref sc), some (.ref x1), some (.ref x2), some (.ref a), some (.ref q), some (.bl b), n6, none, none, none, none]) ∧ ∃ (pcs : List Pc) (R : List Rw), pcN pcs = law23.take i ∧ R.map (·.1) = pcN pcs ∧ LH c H H3 ⟨x1, dp1, dq1⟩ ⟨x2, dp2, dq2⟩ a q pls0 pcs (plN pls0) R)
      ⟨⟨n6, rfl⟩, [], [], rfl, rfl, L1⟩ ?_ ?_⟩⟩
    · rintro i σ3 H3 hi ⟨⟨n6, rfl⟩, pcs, R, hpcs, hR, L⟩
      have hb : b = true := by cases b <;> simp at hi <;> rfl
      have hi : i < 23 := by rw [hb] at hi; simp at hi; omega
      rw [Int.zero_add]
      obtain ⟨dy, h1⟩ := L.S.ob
      have hx : hasPc pcs (lawName i) = false := by
        rw [hasPc_N, hpcs, List.map_take]
        exact nd_take nd23 (by rw [List.getElem?_map, law23_at hi]; rfl)
      have hy : hasPl pls0 pB = true := by rw [hasPl_N]; simpa using pB0 hb
      have l23 : pcs.length = i := by
        have : (pcN pcs).length = pcs.length := List.length_map _
        rw [← this, hpcs, List.length_take]
        show min i 23 = i
        omega
      have lR : R.length = i := by
        have : (R.map (·.1)).length = R.length := List.length_map _
        rw [← this, hR, ← l23]
        exact List.length_map _
      refine ⟨_, rfl, x1, dy, _, rfl, h1, hall_no (by decide +kernel) (by decide +kernel), _, rfl, i, rfl, fun H4' s4' => ⟨_, rfl, (by show 2 ≤ sizeLine; decide), fun t nt => ?_⟩⟩
      have La := L.same (s4'.trans (Same.upd (o := .tup [.str "say", .int i]) nt))
      refine ⟨⟨x1, dp1, dq1⟩, pls0, pcs, lawName i, pB, .ref t, none, rfl, La.S, lawName_ok i (by omega), ok_pB, (fun z e => nomatch e), (fun z => by rw [hx] at z; cases z), (fun _ z => by rw [hy] at z; cases z), (fun _ _ z e => nomatch e), (fun _ _ _ z => by omega), fun _ _ _ _ m H' e1 e2 e3 e4 e5 _ _ _ _ _ n1 n2 n3 n4 _ S' kb => ?_⟩
      have inc : Inc _ pcs (pcs ++ [m]) := .inr ⟨m, rfl, e5, (fun z e => by rw [e4] at e; cases e), n1, n2, n3, n4⟩
      obtain ⟨g1, g2, g3⟩ := inc_on La inc
      have L' := La.hall S' (keep2 kb) g1 g2 g3
      refine ⟨_, rfl, .inl ⟨rfl, _, SqL.of L'.hp.l⟩, _, rfl, i, rfl, fun H5 s5 => ⟨(by show 2 ≤ sizeLine; decide), fun t2 nt2 => ?_⟩⟩
      have Lb := L'.same s5
      refine ⟨q, _, _, rfl, rfl, (by rw [upd_ne (ne_of_none Lb.hp.l nt2)]; exact Lb.hp.l), small1000 (by rw [List.length_map]; omega), ⟨_, rfl⟩, pcs ++ [m], R ++ [((lawName i, pB), t2)], ?_, ?_, Lb.addR nt2⟩
      · rw [take_snoc (law23_at hi), ← hpcs]
        unfold pcN
        rw [List.map_append, ← e1, ← e2]
        rfl
      · unfold pcN at hR ⊢
        rw [List.map_append, List.map_append, hR, ← e1, ← e2]
        rfl
    rintro σ3 H3 ⟨⟨n6, rfl⟩, pcs1, R1, hpcs1, hR1, L2⟩
    have okn1 : ∀ p ∈ pcN pcs1, Okn p.1 := fun p hp => .inl (in23 p (List.take_subset _ _ (by rw [hpcs1] at hp; exact hp)))
    have len1 : b = true → 23 ≤ pcs1.length := fun hb => by
      have : (pcN pcs1).length = pcs1.length := List.length_map _
      rw [← this, hpcs1, hb]
      decide
    -- cells = script[1:61]
    refine ⟨_, rfl, 1, rfl, 61, rfl, sc, _, rfl, L2.sm.seq hS, fun cl ncl => ?_⟩
    obtain ⟨cs, ecs, lcs⟩ := cut_ints (ns := ns) (lo := some 1) (hi := some 61)
    rw [ecs]
    have L3 := L2.same (Same.upd (o := .lst (cs.map V.int)) ncl)
    have ncla : cl ≠ a := (ne_of_none L2.ha ncl).symm
    have nclq : cl ≠ q := (ne_of_none L2.hp.l ncl).symm
    have hcl : upd H3 cl (.lst (cs.map V.int)) cl = some (.lst (cs.map V.int)) := upd_same
    generalize upd H3 cl (.lst (cs.map V.int)) = H6 at L3 hcl
    -- the deeds
    have lc2 : ((cs.map V.int).length : Int) / 2 ≤ 63 := by rw [List.length_map]; omega
    refine ⟨_, rfl, cl, _, rfl, .inl (SqL.of hcl), _, _, rfl, rfl, ⟨by decide, by decide⟩, _, rfl, (by omega), (by omega), for_range (fun i σ3 H3 => (∃ n6 n8 n9 : Option V, σ3 = [some (.ref sc), some (.ref x1), some (.ref x2), some (.ref a), some (.ref q), some (.bl b), n6, some (.ref cl), n8, n9, none]) ∧ H3 cl = some (.lst (cs.map V.int)) ∧
      ∃ (pls : List Pl) (pcs : List Pc) (R : List Rw), LH c H H3 ⟨x1, dp1, dq1⟩ ⟨x2, dp2, dq2⟩ a q pls pcs (plN pls) R ∧ R.map (·.1) = pcN pcs ∧ (∀ x ∈ plN pls, x ∈ ten10) ∧ (∀ p ∈ pcN pcs, Okn p.1) ∧ (b = true → 23 ≤ pcs.length ∧ pB ∈ plN pls))
      ⟨⟨n6, none, none, rfl⟩, hcl, pls0, pcs1, R1, L3, hR1, in0, okn1, fun hb => ⟨len1 hb, pB0 hb⟩⟩ ?_ ?_⟩
    · rintro i σ3 H3 hi ⟨⟨n6, n8, n9, rfl⟩, hc, pls, pcs, R, L, hR, okP, okR, hbig⟩
      have hi : 2 * i + 1 < cs.length := by rw [List.length_map] at hi; omega
      have lcs' : cs.length ≤ 63 := by omega
      rw [Int.zero_add]
      have at1 : atI (cs.map V.int) (2 * (i : Int)) = some (.int (cs.getD (2 * i) 0)) := by
        have e1 : (cs.map V.int)[2 * i]? = some (.int (cs.getD (2 * i) 0)) := by
          have : 2 * i < cs.length := by omega
          simp [this]
        exact atI_nat e1
      have at2 : atI (cs.map V.int) (2 * (i : Int) + 1) = some (.int (cs.getD (2 * i + 1) 0)) := by
        have e1 : (cs.map V.int)[2 * i + 1]? = some (.int (cs.getD (2 * i + 1) 0)) := by simp [hi]
        exact atI_nat e1
      refine ⟨_, rfl, _, rfl, _, _, rfl, rfl, .inl ⟨by decide, by decide⟩, cl, _, _, _, rfl, rfl, SqL.of hc, at1, _, rfl, _, rfl, _, _, rfl, rfl, .inl ⟨by decide, by decide⟩, _, _, rfl, rfl, cl, _, _, _, rfl, rfl, SqL.of hc, at2, _, _, rfl, fun dd d H4' gd hd s4' => ?_⟩
      have La := L.same s4'
      have hca := s4' _ _ hc
      refine ⟨_, rfl, _, rfl, ⟨x1, dp1, dq1⟩, d, dd, pls, pcs, rfl, La.S, hd, gd, fun wd pls' pcs' H5 hw inc S5 kb5 => ?_⟩
      obtain ⟨g1, g2, g3⟩ := inc_on La inc
      have Lb := La.hall S5 kb5 g1 g2 g3
      have nd1 : ∀ {b : Addr} {o : HO}, H4' b = some o → (∀ kvs, o ≠ .dK kvs) → b ∉ [dp1, dq1] := fun {b o} z n q => by
        rcases List.mem_cons.mp q with rfl | q
        · rw [La.S.dpl] at z
          exact n _ (Option.some.inj z).symm
        · rw [List.mem_singleton.mp q, La.S.dpc] at z
          exact n _ (Option.some.inj z).symm
      have hd5 := kb5 _ _ hd (nd1 hd (fun _ z => nomatch z))
      have hc5 := kb5 _ _ hca (nd1 hca (fun _ z => nomatch z))
      have lP : (plN pls).length ≤ 100 := by
        have h1 : (plN pls).length = pls.length := List.length_map _
        have h2 := La.S.lpl
        omega
      have lR : R.length ≤ 100 := by
        have h1 : (R.map (·.1)).length = R.length := List.length_map _
        have h2 : (pcN pcs).length = pcs.length := List.length_map _
        have h3 := La.S.lpc
        rw [hR] at h1
        omega
      refine ⟨_, rfl, _, rfl, _, rfl, d, a, q, dd, plN pls, R, rfl, naq, hd5, Lb.ha, Lb.hp, lP, lR, fun wd2 P' R' H6 hw2 ha6 hp6 kb6 => ?_⟩
      rw [hR] at hw2
      have ee := hw.symm.trans hw2
      have e1 : wd = wd2 := congrArg (·.1) ee
      have e2 : plN pls' = P' := congrArg (·.2.1) ee
      have e3 : pcN pcs' = R'.map (·.1) := congrArg (·.2.2) ee
      subst e1 e2
      have Lc := Lb.lists ha6 hp6 kb6
      have hd6 := kb6 _ _ hd5 (fun z => by
        rcases List.mem_cons.mp z with z | z
        · rw [z, Lb.ha] at hd5; cases hd5
        · rw [List.mem_singleton.mp z, Lb.hp.l] at hd5; cases hd5)
      have hc6 := kb6 _ _ hc5 (by simp [ncla, nclq])
      have okP' : ∀ x ∈ plN pls', x ∈ ten10 := by
        have := due_pls (R := pcN pcs) gd okP
        rw [hw] at this
        exact this
      have okR' : ∀ p ∈ pcN pcs', Okn p.1 := by
        have := due_pcs (P := plN pls) gd okR
        rw [hw] at this
        exact this
      refine ⟨rfl, _, rfl, iteNS rfl ?_⟩
      refine ⟨_, rfl, _, rfl, _, rfl, ⟨x1, dp1, dq1⟩, a, q, pls', pcs', R', rfl, Lc.S, Lc.ha, Lc.hp, e3.symm, Lc.on, fun x hx => ok_ten10 x (okP' x hx), fun H7 s7 => ⟨_, rfl, iteF ?_⟩⟩
      have Ld := Lc.same s7
      have hd7 := s7 _ _ hd6
      obtain ⟨dy, h1⟩ := Ld.S.ob
      refine ⟨_, rfl, x1, dy, _, rfl, h1, hall_no (by decide +kernel) (by decide +kernel), _, rfl, d, _, 1, _, rfl, rfl, SqT.of hd7, vDeed_at, ⟨x1, dp1, dq1⟩, pls', pcs', dName dd, rfl, Ld.S, ?_⟩
      refine ⟨_, rfl, _, _, .type "bool", _, true, rfl, rfl, (fun _ z => z), TyOf.bl _, rfl, _, rfl, ?_⟩
      have lR' : R'.length ≤ 100 := by
        have h1 : (R'.map (·.1)).length = R'.length := List.length_map _
        have h2 : (pcN pcs').length = pcs'.length := List.length_map _
        have h3 := Ld.S.lpc
        rw [← e3] at h1
        omega
      refine ⟨_, rfl, _, rfl, d, _, 1, _, rfl, rfl, SqT.of hd7, vDeed_at, names_of (i := 4) rfl Ld.hp lR' fun l nl => ?_⟩
      refine ⟨l, _, rfl, .inl (SqL.of upd_same), rfl, flat_strs, rfl, _, rfl, ?_⟩
      have eB : V.bl (hasPc pcs' (dName dd)) = V.bl (inV (.str (dName dd)) ((R'.map (·.1.1)).map V.str)) := by
        have eN : R'.map (·.1.1) = (R'.map (·.1)).map (·.1) := by rw [List.map_map]; rfl
        rw [inV_strs, eN, ← e3, hasPc_N]
      refine iteNS eB ?_
      refine ⟨⟨_, _, _, rfl⟩, (Same.upd nl) _ _ (s7 _ _ hc6), pls', pcs', R', Ld.same (Same.upd nl), e3.symm, okP', okR', fun hb => ⟨?_, ?_⟩⟩
      · have h0 := (hbig hb).1
        rcases inc with rfl | ⟨m, rfl, _⟩
        · exact h0
        · rw [List.length_append]
          omega
      · have := due_sub (dd := dd) (R := pcN pcs) (hbig hb).2
        rw [hw] at this
        exact this
    rintro σ3 H3 ⟨⟨n6, n8, n9, rfl⟩, _, pls, pcs, R, L, hR, okP, okR, hbig⟩
    have okP2 : ∀ x ∈ plN pls, NameOk x := fun x hx => ok_ten10 x (okP x hx)
    -- if full
    refine ⟨_, rfl, b, rfl, iteB (fun hb => ?_) (fun hb => ?_)⟩
    · have lb := hbig hb
      refine ⟨fun m σ' H' => (∃ n6 n8 n9 : Option V, σ' = [some (.ref sc), some (.ref x1), some (.ref x2), some (.ref a), some (.ref q), some (.bl b), n6, some (.ref cl), n8, n9, none]) ∧ ∃ (pcs : List Pc) (R : List Rw), LH c H H' ⟨x1, dp1, dq1⟩ ⟨x2, dp2, dq2⟩ a q pls pcs (plN pls) R ∧ R.map (·.1) = pcN pcs ∧ 23 ≤ pcs.length ∧
        (∀ p ∈ pcN pcs, NameOk p.1 ∧ p.1 ≠ anew) ∧ (pcs.length = 23 → ∀ p ∈ pcN pcs, p.1 ≠ moreX) ∧ m = 24 - pcs.length,
        ⟨_, ⟨n6, n8, n9, rfl⟩, pcs, R, L, hR, lb.1, (fun p hp => ⟨okn_ok (okR p hp), okn_anew (okR p hp)⟩), (fun _ p hp => okn_more (okR p hp)), rfl⟩, ?_⟩
      clear L hR okR hbig
      have hy : hasPl pls pB = true := by rw [hasPl_N]; simpa using lb.2
      clear lb
      rintro m σ4 H4' ⟨⟨n6, n8, n9, rfl⟩, pcs, R, L, hR, h23, okA, okM, rfl⟩
      have lRp : R.length = pcs.length := by
        have h1 : (R.map (·.1)).length = R.length := List.length_map _
        have h2 : (pcN pcs).length = pcs.length := List.length_map _
        rw [hR] at h1
        omega
      have lRm : (R.map fun r => V.ref r.2).length = R.length := List.length_map _
      have l24 := L.S.lpc
      refine ⟨_, rfl, q, _, rfl, .inl (SqL.of L.hp.l), _, _, rfl, rfl, _, rfl, iteB (fun hl => ?_) (fun hl => ?_)⟩
      · have hl := of_decide_eq_true hl
        have l23 : pcs.length = 23 := by omega
        have el : ((R.map fun r => V.ref r.2).length : Int) = 23 := by omega
        have eX : ("more" : Str) ++ letter letters ((R.map fun r => V.ref r.2).length : Int) = moreX := by rw [el]; rfl
        refine ⟨_, fun _ _ z => z, ?_⟩
        refine ⟨_, rfl, .inl ⟨rfl, _, SqL.of L.hp.l⟩, _, rfl, q, _, rfl, .inl (SqL.of L.hp.l), letters, _, _, rfl, rfl, lettersLine, at_letter (by omega) (by rw [lettersLen]; omega), _, _, rfl, rfl, moreLine, (by show 2 ≤ sizeLine; decide), fun t nt => ?_⟩
        refine ⟨q, _, _, rfl, rfl, (by rw [upd_ne (ne_of_none L.hp.l nt)]; exact L.hp.l), small1000 (by omega), ?_⟩
        have L1 := L.addR (x := ("more" : Str) ++ letter letters ((R.map fun r => V.ref r.2).length : Int)) (y := pB) nt
        obtain ⟨dy, h1⟩ := L1.S.ob
        have ht := L1.hp.t _ (List.mem_append_right R List.mem_cons_self)
        refine ⟨_, rfl, x1, dy, _, rfl, h1, hall_no (by decide +kernel) (by decide +kernel), _, rfl, _, rfl, q, _, _, _, rfl, rfl, SqL.of upd_same, atI_last _ _, t, _, _, _, rfl, rfl, SqT.of ht, rfl, (by show 1 ≤ sizeLine; decide), fun t3 nt3 => ?_⟩
        have L2 := L1.same (Same.upd (o := .tup [.str "none"]) nt3)
        have hx : hasPc pcs (("more" : Str) ++ letter letters ((R.map fun r => V.ref r.2).length : Int)) = false := by rw [eX]; exact not_has (okM l23)
        refine ⟨⟨x1, dp1, dq1⟩, pls, pcs, _, pB, .ref t3, none, rfl, L2.S, (by rw [eX]; exact ok_more), ok_pB, (fun z e => nomatch e), (fun z => by rw [hx] at z; cases z), (fun _ z => by rw [hy] at z; cases z), (fun _ _ z e => nomatch e), (fun _ _ _ z => by omega), fun _ _ _ _ m H' e1 e2 e3 e4 e5 _ _ _ _ _ n1 n2 n3 n4 _ S' kb => ?_⟩
        have inc : Inc _ pcs (pcs ++ [m]) := .inr ⟨m, rfl, e5, (fun z e => by rw [e4] at e; cases e), n1, n2, n3, n4⟩
        obtain ⟨g1, g2, g3⟩ := inc_on L2 inc
        have L3 := L2.hall S' (keep2 kb) g1 g2 g3
        have lm : (pcs ++ [m]).length = 24 := by rw [List.length_append]; show pcs.length + 1 = 24; omega
        have pm : pcN (pcs ++ [m]) = pcN pcs ++ [(moreX, pB)] := by
          have e1' : m.nm = moreX := e1.trans eX
          unfold pcN
          rw [List.map_append]
          show _ ++ [(m.nm, m.pl)] = _
          rw [e1', e2]
        refine ⟨_, ?_, ⟨_, _, _, rfl⟩, pcs ++ [m], _, L3, ?_, by omega, ?_, (fun z => by omega), rfl⟩
        · rw [lm, l23]
          decide
        · rw [pm, List.map_append, hR, ← eX]
          rfl
        · intro p hp
          rw [pm] at hp
          rcases List.mem_append.mp hp with hp | hp
          · exact okA p hp
          · rw [List.mem_singleton.mp hp]
            exact ⟨ok_more, fun z => anew_not.2.2 z.symm⟩
      · have hl := of_decide_eq_false hl
        have l24' : pcs.length = 24 := by omega
        obtain ⟨pcs', m, rfl⟩ : ∃ pcs' m, pcs = pcs' ++ [m] := by
          rcases List.eq_nil_or_concat pcs with rfl | ⟨pcs', m, e⟩
          · cases l24'
          · exact ⟨pcs', m, by simpa using e⟩
        obtain ⟨R', r, rfl, hR', hr⟩ := split_last hR
        have lp : pcs'.length = 23 := by rw [List.length_append] at l24'; have : pcs'.length + 1 = 24 := l24'; omega
        have npc := L.S.npc
        have hn : hasPc pcs' m.nm = false := not_has fun p hp e => by
          obtain ⟨m', hm', rfl⟩ := List.mem_map.mp hp
          exact nd_last npc m' hm' e
        have er : r.1.1 = m.nm := by rw [hr]
        have hrt := L.hp.t r (List.mem_append_right R' List.mem_cons_self)
        have epop : ((R' ++ [r]).map fun r => V.ref r.2)[((R' ++ [r]).map fun r => V.ref r.2).length - 1]? = some (.ref r.2) := by simp
        -- last = pieces.pop()[0]
        refine ⟨_, rfl, .inl ⟨rfl, _, SqL.of L.hp.l⟩, q, _, _, rfl, rfl, L.hp.l, epop, ?_⟩
        have L1 := L.popR
        rw [List.dropLast_concat] at L1
        have hrt1 : upd H4' q (.lst (((R' ++ [r]).map fun r => V.ref r.2).dropLast)) r.2 = some (.tup [.str r.1.1, .str r.1.2]) := by rw [upd_ne (ne_of hrt L.hp.l (by intro z; cases z))]; exact hrt
        refine ⟨r.2, _, _, _, rfl, rfl, SqT.of hrt1, rfl, ?_⟩
        obtain ⟨dy, h1⟩ := L1.S.ob
        have hpn := okA (m.nm, m.pl) (List.mem_map.mpr ⟨m, List.mem_append_right _ List.mem_cons_self, rfl⟩)
        have hin : hasPc (pcs' ++ [m]) m.nm = true := by rw [has_app]; simp [hasPc]
        -- hall.drop(last)
        refine ⟨_, rfl, x1, dy, _, rfl, h1, hall_no (by decide +kernel) (by decide +kernel), _, rfl, ⟨x1, dp1, dq1⟩, pls, pcs' ++ [m], r.1.1, rfl, L1.S, (by rw [er]; exact hpn.1), (fun z => by rw [er, hin] at z; cases z), fun _ l H5 nl hl5 S5 kb5 => ?_⟩
        rw [er, gone_last L1.by_ hn] at hl5 S5
        rw [last_out npc] at S5
        have L2 := L1.hall S5 (keep2 kb5) (fun m' hm => L1.on m' (List.mem_append_left _ hm)) L1.by_.init (fun m' hm => .inl (List.mem_append_left _ hm))
        refine ⟨_, rfl, (by show 1 ≤ sizeLine; decide), fun l2 nl2 => ?_⟩
        refine ⟨l, l2, [r.1.1], rfl, (by rw [upd_ne (ne_of_none hl5 nl2), er]; exact hl5), upd_same, (by show 1 ≤ 1000; decide), _, rfl, iteF ?_⟩
        have L3 := L2.same (Same.upd (o := .lst ([r.1.1].map V.str)) nl2)
        obtain ⟨dy3, h3⟩ := L3.S.ob
        -- hall.hang("anew", ..)
        refine ⟨_, rfl, x1, dy3, _, rfl, h3, hall_no (by decide +kernel) (by decide +kernel), (by show 1 ≤ sizeLine; decide), fun t nt => ?_⟩
        have L4 := L3.same (Same.upd (o := .tup [.str "none"]) nt)
        have okA' : ∀ p ∈ pcN pcs', NameOk p.1 ∧ p.1 ≠ anew := fun p hp => okA p (by unfold pcN at hp ⊢; rw [List.map_append]; exact List.mem_append_left _ hp)
        have hx : hasPc pcs' anew = false := not_has fun p hp => (okA' p hp).2
        refine ⟨⟨x1, dp1, dq1⟩, pls, pcs', anew, pB, .ref t, none, rfl, L4.S, ok_anew, ok_pB, (fun z e => nomatch e), (fun z => by rw [hx] at z; cases z), (fun _ z => by rw [hy] at z; cases z), (fun _ _ z e => nomatch e), (fun _ _ _ z => by omega), fun _ _ _ _ m2 H6 e1 e2 e3 e4 e5 _ _ _ _ _ n1 n2 n3 n4 _ S6 kb6 => ?_⟩
        have inc : Inc _ pcs' (pcs' ++ [m2]) := .inr ⟨m2, rfl, e5, (fun z e => by rw [e4] at e; cases e), n1, n2, n3, n4⟩
        obtain ⟨g1, g2, g3⟩ := inc_on L4 inc
        have L5 := L4.hall S6 (keep2 kb6) g1 g2 g3
        have lR5 : R'.length = 23 := by
          have h1 : (R'.map (·.1)).length = R'.length := List.length_map _
          have h2 : (pcN pcs').length = pcs'.length := List.length_map _
          rw [hR'] at h1
          omega
        refine ⟨_, rfl, .inl ⟨rfl, _, SqL.of L5.hp.l⟩, (by show 2 ≤ sizeLine; decide), fun t2 nt2 => ?_⟩
        refine ⟨q, _, _, rfl, rfl, (by rw [upd_ne (ne_of_none L5.hp.l nt2)]; exact L5.hp.l), small1000 (by rw [List.length_map]; omega), ?_⟩
        have L6 := L5.addR (x := anew) (y := pB) nt2
        have hR6 : (R' ++ [((anew, pB), t2)]).map (·.1) = pcN (pcs' ++ [m2]) := by
          unfold pcN at hR' ⊢
          rw [List.map_append, List.map_append, hR']
          show _ ++ [(anew, pB)] = _ ++ [(m2.nm, m2.pl)]
          rw [e1, e2]
        refine ⟨_, rfl, _, rfl, _, rfl, ⟨x1, dp1, dq1⟩, a, q, pls, pcs' ++ [m2], _, rfl, L6.S, L6.ha, L6.hp, hR6, L6.on, okP2, fun H7 s7 => ⟨_, rfl, iteF ?_⟩⟩
        have L7 := L6.same s7
        obtain ⟨dz, ho⟩ := L7.O.ob
        refine ⟨_, rfl, x2, dz, _, rfl, ho, hall_no (by decide +kernel) (by decide +kernel), ⟨x2, dp2, dq2⟩, [], [], rfl, L7.O, fun u1 nu1 => ⟨(by show 0 ≤ sizeLine; decide), fun u2 nu2 => ?_⟩⟩
        refine ⟨u1, u2, rfl, rfl, SqL.of (by rw [upd_ne (ne_of_none upd_same nu2), upd_same]; rfl), SqL.of upd_same, true, rfl, iteT ?_⟩
        have O2 := hallSame L7.O ((Same.upd nu1).trans (Same.upd (o := .lst []) nu2))
        obtain ⟨dz2, ho2⟩ := O2.ob
        exact ⟨_, rfl, x2, dz2, _, rfl, ho2, hall_no (by decide +kernel) (by decide +kernel), ⟨x2, dp2, dq2⟩, [], [], "a", rfl, O2, _, _, rfl, rfl, kEnd _⟩
    · obtain ⟨dz, ho⟩ := L.O.ob
      refine ⟨_, rfl, x2, dz, _, rfl, ho, hall_no (by decide +kernel) (by decide +kernel), ⟨x2, dp2, dq2⟩, [], [], rfl, L.O, fun u1 nu1 => ⟨(by show 0 ≤ sizeLine; decide), fun u2 nu2 => ?_⟩⟩
      refine ⟨u1, u2, rfl, rfl, SqL.of (by rw [upd_ne (ne_of_none upd_same nu2), upd_same]; rfl), SqL.of upd_same, true, rfl, iteT ?_⟩
      have O2 := hallSame L.O ((Same.upd nu1).trans (Same.upd (o := .lst []) nu2))
      obtain ⟨dz2, ho2⟩ := O2.ob
      exact ⟨_, rfl, x2, dz2, _, rfl, ho2, hall_no (by decide +kernel) (by decide +kernel), ⟨x2, dp2, dq2⟩, [], [], "a", rfl, O2, _, _, rfl, rfl, kEnd _⟩
end
end HK

set_option Elab.async false
set_option linter.all false
set_option maxRecDepth 100000
namespace HK
open PySem L2 HB
/-! ### hang's last parameter has a default -/
theorem hang_b1 {K : PySem.W.Frag} {T : Addr} {oc : Value} {od an : Option Addr} {sl : Array (Option Value)} {n : Nat} {kV dc pm cd ct : Value} (l : K.lookup T = some ⟨oc, od, .seq #[.none] n, sl⟩) :
    Binds K (PySem.W.fnOf "hang" "Hall.hang" (defArgs sHang) (defBody sHang) (defScope sHang) (.ref T) kV dc pm an cd ct) ["self", "name", "place", "deed", "by"] [.none] := fun s us X hl => match us, (show us.length = 4 by simpa using hl) with
  | [_, _, _, _], _ => PySem.W.binds_K X rfl l rfl rfl rfl
theorem hang_b0 {K : PySem.W.Frag} {T : Addr} {oc : Value} {od an : Option Addr} {sl : Array (Option Value)} {n : Nat} {kV dc pm cd ct : Value} (l : K.lookup T = some ⟨oc, od, .seq #[.none] n, sl⟩) :
    Binds K (PySem.W.fnOf "hang" "Hall.hang" (defArgs sHang) (defBody sHang) (defScope sHang) (.ref T) kV dc pm an cd ct) ["self", "name", "place", "deed", "by"] [] := fun s us X hl => match us, (show us.length = 5 by simpa using hl) with
  | [_, _, _, _, _], _ => PySem.W.binds_K X rfl l rfl rfl rfl

set_option maxHeartbeats 4000000 in
theorem all_mk {l : PySem.W.OpenLaw} {w : World} {K : PySem.W.Frag} {h : Heap} {mg : Str → Option Value} {fa eH T CH CP CQ E1 E2 E3 E4 : Addr} {t8 t24 : Tok} {nX : Nat} {fPI fQI fHI fO fH fS fN fD fA fFP fFQ fC fM fT fR fU fB fG fL : Addr} {odPI anPI odQI anQI odHI anHI odO anO odH anH odS anS odN anN odD anD odA anA odFP anFP odFQ anFQ odC anC odM anM odT anT odR anR odU anU odB anB odG anG odL anL odX : Option Addr} {slPI slQI slHI slO slH slS slN slD slA slFP slFQ slC slM slT slR slU slB slG slL slX : Array (Option Value)} {ocPI kVPI dcPI pmPI cdPI ctPI ocQI kVQI dcQI pmQI cdQI ctQI ocHI kVHI dcHI pmHI cdHI ctHI ocO kVO dcO pmO cdO ctO ocH kVH dcH pmH cdH ctH ocS kVS dcS pmS cdS ctS ocN kVN dcN pmN cdN ctN ocD kVD dcD pmD cdD ctD ocA kVA dcA pmA cdA ctA ocFP kVFP dcFP pmFP cdFP ctFP ocFQ kVFQ dcFQ pmFQ cdFQ ctFQ ocC kVC dcC pmC cdC ctC ocM kVM dcM pmM cdM ctM ocT kVT dcT pmT cdT ctT ocR kVR dcR pmR cdR ctR ocU kVU dcU pmU cdU ctU ocB kVB dcB pmB cdB ctB ocG kVG dcG pmG cdG ctG ocL kVL dcL pmL cdL ctL ocX : Value}
    (X : K.In h) (G : h.Ns mainGlobals mg) (hfa : mg "law" = some (.ref fa))
    (aChall : PySem.W.nsIn K mainGlobals "Hall" = some (some (.ref CH)))
    (aCplace : PySem.W.nsIn K mainGlobals "Place" = some (some (.ref CP)))
    (aCpiece : PySem.W.nsIn K mainGlobals "Piece" = some (some (.ref CQ)))
    (aEnameThere : PySem.W.nsIn K mainGlobals "NameThere" = some (some (.ref E1)))
    (aEnoPlace : PySem.W.nsIn K mainGlobals "NoPlace" = some (some (.ref E2)))
    (aEnoPiece : PySem.W.nsIn K mainGlobals "NoPiece" = some (some (.ref E3)))
    (aEtooMany : PySem.W.nsIn K mainGlobals "TooMany" = some (some (.ref E4)))
    (aEH : PySem.W.nsIn K mainGlobals "HallError" = some (some (.ref eH)))
    (aPI : PySem.W.findIn K (.ref CP) "__init__" = some (some (.ref fPI)))
    (iPI : PySem.W.isFn K (.ref fPI) = true)
    (lPI : K.lookup fPI = some ⟨ocPI, odPI, .func (PySem.W.fnOf "__init__" "Place.__init__" (defArgs sPlaceInit) (defBody sPlaceInit) (defScope sPlaceInit) .none kVPI dcPI pmPI anPI cdPI ctPI), slPI⟩)
    (cPI : PySem.W.codeIn K cdPI "Place.__init__" = true)
    (kPI : PySem.W.keepIn K (.ref fPI) = true)
    (aQI : PySem.W.findIn K (.ref CQ) "__init__" = some (some (.ref fQI)))
    (iQI : PySem.W.isFn K (.ref fQI) = true)
    (lQI : K.lookup fQI = some ⟨ocQI, odQI, .func (PySem.W.fnOf "__init__" "Piece.__init__" (defArgs sPieceInit) (defBody sPieceInit) (defScope sPieceInit) .none kVQI dcQI pmQI anQI cdQI ctQI), slQI⟩)
    (cQI : PySem.W.codeIn K cdQI "Piece.__init__" = true)
    (kQI : PySem.W.keepIn K (.ref fQI) = true)
    (aHI : PySem.W.findIn K (.ref CH) "__init__" = some (some (.ref fHI)))
    (iHI : PySem.W.isFn K (.ref fHI) = true)
    (lHI : K.lookup fHI = some ⟨ocHI, odHI, .func (PySem.W.fnOf "__init__" "Hall.__init__" (defArgs sInit) (defBody sInit) (defScope sInit) .none kVHI dcHI pmHI anHI cdHI ctHI), slHI⟩)
    (cHI : PySem.W.codeIn K cdHI "Hall.__init__" = true)
    (kHI : PySem.W.keepIn K (.ref fHI) = true)
    (aO : PySem.W.findIn K (.ref CH) "open_place" = some (some (.ref fO)))
    (iO : PySem.W.isFn K (.ref fO) = true)
    (lO : K.lookup fO = some ⟨ocO, odO, .func (PySem.W.fnOf "open_place" "Hall.open_place" (defArgs sOpen) (defBody sOpen) (defScope sOpen) .none kVO dcO pmO anO cdO ctO), slO⟩)
    (cO : PySem.W.codeIn K cdO "Hall.open_place" = true)
    (kO : PySem.W.keepIn K (.ref fO) = true)
    (aH : PySem.W.findIn K (.ref CH) "hang" = some (some (.ref fH)))
    (iH : PySem.W.isFn K (.ref fH) = true)
    (lH : K.lookup fH = some ⟨ocH, odH, .func (PySem.W.fnOf "hang" "Hall.hang" (defArgs sHang) (defBody sHang) (defScope sHang) (.ref T) kVH dcH pmH anH cdH ctH), slH⟩)
    (cH : PySem.W.codeIn K cdH "Hall.hang" = true)
    (kH : PySem.W.keepIn K (.ref fH) = true)
    (aS : PySem.W.findIn K (.ref CH) "has" = some (some (.ref fS)))
    (iS : PySem.W.isFn K (.ref fS) = true)
    (lS : K.lookup fS = some ⟨ocS, odS, .func (PySem.W.fnOf "has" "Hall.has" (defArgs sHas) (defBody sHas) (defScope sHas) .none kVS dcS pmS anS cdS ctS), slS⟩)
    (cS : PySem.W.codeIn K cdS "Hall.has" = true)
    (kS : PySem.W.keepIn K (.ref fS) = true)
    (aN : PySem.W.findIn K (.ref CH) "names" = some (some (.ref fN)))
    (iN : PySem.W.isFn K (.ref fN) = true)
    (lN : K.lookup fN = some ⟨ocN, odN, .func (PySem.W.fnOf "names" "Hall.names" (defArgs sNames) (defBody sNames) (defScope sNames) .none kVN dcN pmN anN cdN ctN), slN⟩)
    (cN : PySem.W.codeIn K cdN "Hall.names" = true)
    (kN : PySem.W.keepIn K (.ref fN) = true)
    (aD : PySem.W.findIn K (.ref CH) "drop" = some (some (.ref fD)))
    (iD : PySem.W.isFn K (.ref fD) = true)
    (lD : K.lookup fD = some ⟨ocD, odD, .func (PySem.W.fnOf "drop" "Hall.drop" (defArgs sDrop) (defBody sDrop) (defScope sDrop) .none kVD dcD pmD anD cdD ctD), slD⟩)
    (cD : PySem.W.codeIn K cdD "Hall.drop" = true)
    (kD : PySem.W.keepIn K (.ref fD) = true)
    (aA : PySem.W.findIn K (.ref CH) "at" = some (some (.ref fA)))
    (iA : PySem.W.isFn K (.ref fA) = true)
    (lA : K.lookup fA = some ⟨ocA, odA, .func (PySem.W.fnOf "at" "Hall.at" (defArgs sAt) (defBody sAt) (defScope sAt) .none kVA dcA pmA anA cdA ctA), slA⟩)
    (cA : PySem.W.codeIn K cdA "Hall.at" = true)
    (kA : PySem.W.keepIn K (.ref fA) = true)
    (aFP : PySem.W.findIn K (.ref CH) "find_place" = some (some (.ref fFP)))
    (iFP : PySem.W.isFn K (.ref fFP) = true)
    (lFP : K.lookup fFP = some ⟨ocFP, odFP, .func (PySem.W.fnOf "find_place" "Hall.find_place" (defArgs sFindPlace) (defBody sFindPlace) (defScope sFindPlace) .none kVFP dcFP pmFP anFP cdFP ctFP), slFP⟩)
    (cFP : PySem.W.codeIn K cdFP "Hall.find_place" = true)
    (kFP : PySem.W.keepIn K (.ref fFP) = true)
    (aFQ : PySem.W.findIn K (.ref CH) "find_piece" = some (some (.ref fFQ)))
    (iFQ : PySem.W.isFn K (.ref fFQ) = true)
    (lFQ : K.lookup fFQ = some ⟨ocFQ, odFQ, .func (PySem.W.fnOf "find_piece" "Hall.find_piece" (defArgs sFindPiece) (defBody sFindPiece) (defScope sFindPiece) .none kVFQ dcFQ pmFQ anFQ cdFQ ctFQ), slFQ⟩)
    (cFQ : PySem.W.codeIn K cdFQ "Hall.find_piece" = true)
    (kFQ : PySem.W.keepIn K (.ref fFQ) = true)
    (aC : PySem.W.nsIn K mainGlobals "_law_cell_at" = some (some (.ref fC)))
    (lC : K.lookup fC = some ⟨ocC, odC, .func (PySem.W.fnOf "_law_cell_at" "_law_cell_at" (defArgs sCell) (defBody sCell) (defScope sCell) .none kVC dcC pmC anC cdC ctC), slC⟩)
    (cC : PySem.W.codeIn K cdC "_law_cell_at" = true)
    (kC : PySem.W.keepIn K (.ref fC) = true)
    (aM : PySem.W.nsIn K mainGlobals "_law_name" = some (some (.ref fM)))
    (lM : K.lookup fM = some ⟨ocM, odM, .func (PySem.W.fnOf "_law_name" "_law_name" (defArgs sName) (defBody sName) (defScope sName) .none kVM dcM pmM anM cdM ctM), slM⟩)
    (cM : PySem.W.codeIn K cdM "_law_name" = true)
    (kM : PySem.W.keepIn K (.ref fM) = true)
    (aT : PySem.W.nsIn K mainGlobals "_law_texts" = some (some (.ref fT)))
    (lT : K.lookup fT = some ⟨ocT, odT, .func (PySem.W.fnOf "_law_texts" "_law_texts" (defArgs sTexts) (defBody sTexts) (defScope sTexts) .none kVT dcT pmT anT cdT ctT), slT⟩)
    (cT : PySem.W.codeIn K cdT "_law_texts" = true)
    (kT : PySem.W.keepIn K (.ref fT) = true)
    (aR : PySem.W.nsIn K mainGlobals "_law_refusal" = some (some (.ref fR)))
    (lR : K.lookup fR = some ⟨ocR, odR, .func (PySem.W.fnOf "_law_refusal" "_law_refusal" (defArgs sRefusal) (defBody sRefusal) (defScope sRefusal) .none kVR dcR pmR anR cdR ctR), slR⟩)
    (cR : PySem.W.codeIn K cdR "_law_refusal" = true)
    (kR : PySem.W.keepIn K (.ref fR) = true)
    (aU : PySem.W.nsIn K mainGlobals "_law_due" = some (some (.ref fU)))
    (lU : K.lookup fU = some ⟨ocU, odU, .func (PySem.W.fnOf "_law_due" "_law_due" (defArgs sDue) (defBody sDue) (defScope sDue) .none kVU dcU pmU anU cdU ctU), slU⟩)
    (cU : PySem.W.codeIn K cdU "_law_due" = true)
    (kU : PySem.W.keepIn K (.ref fU) = true)
    (aB : PySem.W.nsIn K mainGlobals "_law_deed_by" = some (some (.ref fB)))
    (lB : K.lookup fB = some ⟨ocB, odB, .func (PySem.W.fnOf "_law_deed_by" "_law_deed_by" (defArgs sDeedBy) (defBody sDeedBy) (defScope sDeedBy) .none kVB dcB pmB anB cdB ctB), slB⟩)
    (cB : PySem.W.codeIn K cdB "_law_deed_by" = true)
    (kB : PySem.W.keepIn K (.ref fB) = true)
    (aG : PySem.W.nsIn K mainGlobals "_law_right" = some (some (.ref fG)))
    (lG : K.lookup fG = some ⟨ocG, odG, .func (PySem.W.fnOf "_law_right" "_law_right" (defArgs sRight) (defBody sRight) (defScope sRight) .none kVG dcG pmG anG cdG ctG), slG⟩)
    (cG : PySem.W.codeIn K cdG "_law_right" = true)
    (kG : PySem.W.keepIn K (.ref fG) = true)
    (aL : PySem.W.nsIn K mainGlobals "law" = some (some (.ref fL)))
    (lL : K.lookup fL = some ⟨ocL, odL, .func (PySem.W.fnOf "law" "law" (defArgs sLaw) (defBody sLaw) (defScope sLaw) .none kVL dcL pmL anL cdL ctL), slL⟩)
    (cL : PySem.W.codeIn K cdL "law" = true)
    (kL : PySem.W.keepIn K (.ref fL) = true)
    (lT0 : K.lookup T = some ⟨ocX, odX, .seq #[.none] nX, slX⟩)
    (pghall : PySem.W.plainGet K CH Str.empty = true)
    (hdhall : PySem.W.hasDictIn K CH = true)
    (pohall : PySem.W.plainOver K CH = true)
    (sahall : PySem.W.findIn K (.ref CH) "__setattr__" = some (some (.builtin "object.__setattr__")))
    (mkhall : PySem.W.makesIn K CH = true)
    (kchall : PySem.W.keepIn K (.ref CH) = true)
    (pgplace : PySem.W.plainGet K CP Str.empty = true)
    (hdplace : PySem.W.hasDictIn K CP = true)
    (poplace : PySem.W.plainOver K CP = true)
    (saplace : PySem.W.findIn K (.ref CP) "__setattr__" = some (some (.builtin "object.__setattr__")))
    (mkplace : PySem.W.makesIn K CP = true)
    (kcplace : PySem.W.keepIn K (.ref CP) = true)
    (pgpiece : PySem.W.plainGet K CQ Str.empty = true)
    (hdpiece : PySem.W.hasDictIn K CQ = true)
    (popiece : PySem.W.plainOver K CQ = true)
    (sapiece : PySem.W.findIn K (.ref CQ) "__setattr__" = some (some (.builtin "object.__setattr__")))
    (mkpiece : PySem.W.makesIn K CQ = true)
    (kcpiece : PySem.W.keepIn K (.ref CQ) = true)
    (nhallplaces : PySem.W.findIn K (.ref CH) "places" = some none)
    (nhallpieces : PySem.W.findIn K (.ref CH) "pieces" = some none)
    (nplacekind : PySem.W.findIn K (.ref CP) "kind" = some none)
    (nplacerule : PySem.W.findIn K (.ref CP) "rule" = some none)
    (npieceplace : PySem.W.findIn K (.ref CQ) "place" = some none)
    (npiecedeed : PySem.W.findIn K (.ref CQ) "deed" = some none)
    (npieceby : PySem.W.findIn K (.ref CQ) "by" = some none)
    (npieceon : PySem.W.findIn K (.ref CQ) "on" = some none)
    (npieceahead : PySem.W.findIn K (.ref CQ) "ahead" = some none)
    (npiecebehind : PySem.W.findIn K (.ref CQ) "behind" = some none)
    (npieceneeds : PySem.W.findIn K (.ref CQ) "needs" = some none)
    (npiecebars : PySem.W.findIn K (.ref CQ) "bars" = some none)
    (m8 : PySem.W.nsIn K mainGlobals "MOST_PLACES" = some (some (.int 8 t8)))
    (m24 : PySem.W.nsIn K mainGlobals "MOST_PIECES" = some (some (.int 24 t24)))
    (zlen : PySem.W.nsIn K mainGlobals "len" = some none)
    (zrange : PySem.W.nsIn K mainGlobals "range" = some none)
    (zisinstance : PySem.W.nsIn K mainGlobals "isinstance" = some none)
    (zlist : PySem.W.nsIn K mainGlobals "list" = some none)
    (zstr : PySem.W.nsIn K mainGlobals "str" = some none)
    (zint : PySem.W.nsIn K mainGlobals "int" = some none)
    (zbool : PySem.W.nsIn K mainGlobals "bool" = some none)
    (xnameThere : PySem.W.excIn K E1 bmVE "ValueError.__new__" = true)
    (xnoPlace : PySem.W.excIn K E2 bmVE "ValueError.__new__" = true)
    (xnoPiece : PySem.W.excIn K E3 bmVE "ValueError.__new__" = true)
    (xtooMany : PySem.W.excIn K E4 bmVE "ValueError.__new__" = true)
    (qnameThere : excMro K E1 = some (.ref eH :: bmVE))
    (qnoPlace : excMro K E2 = some (.ref eH :: bmVE))
    (qnoPiece : excMro K E3 = some (.ref eH :: bmVE))
    (qtooMany : excMro K E4 = some (.ref eH :: bmVE))
    (dPN : (Value.ref E2 :: (.ref eH :: bmVE)).contains (.ref E1) = false)
    (dQN : (Value.ref E3 :: (.ref eH :: bmVE)).contains (.ref E1) = false)
    (dQP : (Value.ref E3 :: (.ref eH :: bmVE)).contains (.ref E2) = false)
    (dTN : (Value.ref E4 :: (.ref eH :: bmVE)).contains (.ref E1) = false)
    (dTP : (Value.ref E4 :: (.ref eH :: bmVE)).contains (.ref E2) = false)
    (dTQ : (Value.ref E4 :: (.ref eH :: bmVE)).contains (.ref E3) = false)
    : ∃ fd : FuncData, (∀ (s : Shared) (v : Value), BindsTo s fd ⟨[v], []⟩ [("script", v)]) ∧ ∀ base : Heap, K.In base → base.Ns mainGlobals mg → FnOk l.prog w K mg base CX0 5 fa fd ["script"] (spLaw K) := by
  let c : Cs := ⟨CH, CP, CQ⟩
  let e : Es := ⟨E1, E2, E3, E4⟩
  have e0 := hfa.symm.trans (PySem.W.mg_of X G aL)
  cases e0
  have T0 : TxtC K mg c e := ⟨⟨pghall, hdhall, pohall, sahall⟩, ⟨pgplace, hdplace, poplace, saplace⟩, ⟨pgpiece, hdpiece, popiece, sapiece⟩, nhallplaces, nhallpieces, nplacekind, nplacerule, npieceplace, npiecedeed, npieceby, npieceon, npieceahead, npiecebehind, npieceneeds, npiecebars, PySem.W.mg_of X G aCplace, PySem.W.mg_of X G aCpiece, PySem.W.mg_of X G aChall, ⟨_, PySem.W.mg_of X G m8⟩, ⟨_, PySem.W.mg_of X G m24⟩, PySem.W.mg_none_of X G zlen, PySem.W.mg_none_of X G zlist, xnameThere, xnoPlace, xnoPiece, xtooMany, PySem.W.mg_of X G aEnameThere, PySem.W.mg_of X G aEnoPlace, PySem.W.mg_of X G aEnoPiece, PySem.W.mg_of X G aEtooMany⟩
  have TL : TxtL mg := ⟨PySem.W.mg_none_of X G zlen, PySem.W.mg_none_of X G zrange, PySem.W.mg_none_of X G zisinstance, PySem.W.mg_none_of X G zlist, PySem.W.mg_none_of X G zstr, PySem.W.mg_none_of X G zint, PySem.W.mg_none_of X G zbool⟩
  have TR : TxtR K e (.ref eH :: bmVE) := ⟨qnameThere, qnoPlace, qnoPiece, qtooMany, dPN, dQN, dQP, dTN, dTP, dTQ⟩
  have FPI := fun_mk (st := sPlaceInit) lPI cPI kPI
  have bPI := FPI.binds (ps := ["self", "kind", "rule"]) fun _ _ _ _ _ _ us hl => match us, hl with | [_, _, _], _ => rfl
  have FQI := fun_mk (st := sPieceInit) lQI cQI kQI
  have bQI := FQI.binds (ps := ["self", "place", "deed", "by"]) fun _ _ _ _ _ _ us hl => match us, hl with | [_, _, _, _], _ => rfl
  have FHI := fun_mk (st := sInit) lHI cHI kHI
  have bHI := FHI.binds (ps := ["self"]) fun _ _ _ _ _ _ us hl => match us, hl with | [_], _ => rfl
  have FO := fun_mk (st := sOpen) lO cO kO
  have bO := FO.binds (ps := ["self", "name", "kind", "rule"]) fun _ _ _ _ _ _ us hl => match us, hl with | [_, _, _, _], _ => rfl
  have FH : FunV K "hang" "Hall.hang" sHang (.ref T) fH (PySem.W.fnOf "hang" "Hall.hang" (defArgs sHang) (defBody sHang) (defScope sHang) (.ref T) kVH dcH pmH anH cdH ctH) := ⟨⟨_, _, _, _, _, _, _, _, _, rfl, lH, cH⟩, kH⟩
  have FS := fun_mk (st := sHas) lS cS kS
  have bS := FS.binds (ps := ["self", "name"]) fun _ _ _ _ _ _ us hl => match us, hl with | [_, _], _ => rfl
  have FN := fun_mk (st := sNames) lN cN kN
  have bN := FN.binds (ps := ["self"]) fun _ _ _ _ _ _ us hl => match us, hl with | [_], _ => rfl
  have FD := fun_mk (st := sDrop) lD cD kD
  have bD := FD.binds (ps := ["self", "name"]) fun _ _ _ _ _ _ us hl => match us, hl with | [_, _], _ => rfl
  have FA := fun_mk (st := sAt) lA cA kA
  have bA := FA.binds (ps := ["self", "place"]) fun _ _ _ _ _ _ us hl => match us, hl with | [_, _], _ => rfl
  have FFP := fun_mk (st := sFindPlace) lFP cFP kFP
  have bFP := FFP.binds (ps := ["self", "name"]) fun _ _ _ _ _ _ us hl => match us, hl with | [_, _], _ => rfl
  have FFQ := fun_mk (st := sFindPiece) lFQ cFQ kFQ
  have bFQ := FFQ.binds (ps := ["self", "name"]) fun _ _ _ _ _ _ us hl => match us, hl with | [_, _], _ => rfl
  have FC := fun_mk (st := sCell) lC cC kC
  have bC := FC.binds (ps := ["script", "k"]) fun _ _ _ _ _ _ us hl => match us, hl with | [_, _], _ => rfl
  have FM := fun_mk (st := sName) lM cM kM
  have bM := FM.binds (ps := ["k"]) fun _ _ _ _ _ _ us hl => match us, hl with | [_], _ => rfl
  have FT := fun_mk (st := sTexts) lT cT kT
  have bT := FT.binds (ps := ["found", "due"]) fun _ _ _ _ _ _ us hl => match us, hl with | [_, _], _ => rfl
  have FR := fun_mk (st := sRefusal) lR cR kR
  have bR := FR.binds (ps := ["hall", "deed"]) fun _ _ _ _ _ _ us hl => match us, hl with | [_, _], _ => rfl
  have FU := fun_mk (st := sDue) lU cU kU
  have bU := FU.binds (ps := ["deed", "places", "pieces"]) fun _ _ _ _ _ _ us hl => match us, hl with | [_, _, _], _ => rfl
  have FB := fun_mk (st := sDeedBy) lB cB kB
  have bB := FB.binds (ps := ["one", "two"]) fun _ _ _ _ _ _ us hl => match us, hl with | [_, _], _ => rfl
  have FG := fun_mk (st := sRight) lG cG kG
  have bG := FG.binds (ps := ["hall", "places", "pieces"]) fun _ _ _ _ _ _ us hl => match us, hl with | [_, _, _], _ => rfl
  have FL := fun_mk (st := sLaw) lL cL kL
  have DC : DefAt K mg _ _ fC _ ["script", "k"] := ⟨FC, bC, PySem.W.mg_of X G aC⟩
  have DM : DefAt K mg _ _ fM _ ["k"] := ⟨FM, bM, PySem.W.mg_of X G aM⟩
  have DT : DefAt K mg _ _ fT _ ["found", "due"] := ⟨FT, bT, PySem.W.mg_of X G aT⟩
  have DR : DefAt K mg _ _ fR _ ["hall", "deed"] := ⟨FR, bR, PySem.W.mg_of X G aR⟩
  have DU : DefAt K mg _ _ fU _ ["deed", "places", "pieces"] := ⟨FU, bU, PySem.W.mg_of X G aU⟩
  have DB : DefAt K mg _ _ fB _ ["one", "two"] := ⟨FB, bB, PySem.W.mg_of X G aB⟩
  have DG : DefAt K mg _ _ fG _ ["hall", "places", "pieces"] := ⟨FG, bG, PySem.W.mg_of X G aG⟩
  refine ⟨PySem.W.fnOf "law" "law" (defArgs sLaw) (defBody sLaw) (defScope sLaw) .none kVL dcL pmL anL cdL ctL, fun s v => .of_eq rfl, fun base _ _ => ?_⟩
  have GOx : FnOk l.prog w K mg base (CXE l.prog w) 3 fO _ ["self", "name", "kind", "rule"] (spOpen c e) := ok_open FO T0 ⟨mkplace, aPI, iPI, kcplace⟩ FPI bPI
  have GHx : FnOk l.prog w K mg base (CXE l.prog w) 3 fH _ ["self", "name", "place", "deed", "by"] (spHang c e) := ok_hang FH T0 ⟨mkpiece, aQI, iQI, kcpiece⟩ FQI bQI FFP bFP ⟨aFP, iFP, kFP⟩ FFQ bFQ ⟨aFQ, iFQ, kFQ⟩
  have GAx : FnOk l.prog w K mg base (CXE l.prog w) 2 fA _ ["self", "place"] (spAt c e) := ok_at FA T0 FFP bFP ⟨aFP, iFP, kFP⟩
  have GDx : FnOk l.prog w K mg base (CXE l.prog w) 2 fD _ ["self", "name"] (spDrop c e) := ok_drop FD T0 FFQ bFQ ⟨aFQ, iFQ, kFQ⟩
  have bH1 := hang_b1 (kV := kVH) (dc := dcH) (pm := pmH) (an := anH) (cd := cdH) (ct := ctH) lT0
  have bH0 := hang_b0 (kV := kVH) (dc := dcH) (pm := pmH) (an := anH) (cd := cdH) (ct := ctH) lT0
  have MOx : MethAt l.prog w K mg base (CXE l.prog w) 3 c.hall "open_place" ["self", "name", "kind", "rule"] (spOpen c e) fO _ := ⟨⟨aO, iO, kO⟩, GOx, bO⟩
  have MHx : MethAt l.prog w K mg base (CXE l.prog w) 3 c.hall "hang" ["self", "name", "place", "deed", "by"] (spHang c e) fH _ := ⟨⟨aH, iH, kH⟩, GHx, bH0⟩
  have MN : MethAt l.prog w K mg base CX0 1 c.hall "names" ["self"] (spNames c) fN _ := ⟨⟨aN, iN, kN⟩, ok_names FN T0, bN⟩
  have MA : MethAt l.prog w K mg base CX0 2 c.hall "at" ["self", "place"] (spAt0 c e) fA _ := ⟨⟨aA, iA, kA⟩, GAx.calm, bA⟩
  refine ok_law (fI := fHI) (fO := fO) (fH := fH) (fD := fD) (fN := fN) (fS := fS) (fC := fC) (fM := fM) (fT := fT) (fR := fR) (fU := fU) (fB := fB) (fG := fG) FL
    ⟨T0, TL, ⟨mkhall, aHI, iHI, kchall⟩, ok_init FHI T0, bHI, ⟨⟨aO, iO, kO⟩, GOx.calm, bO⟩, ⟨⟨aH, iH, kH⟩, GHx.calm, bH0⟩, bH1, ⟨⟨aD, iD, kD⟩, GDx.calm, bD⟩, MN, ⟨⟨aS, iS, kS⟩, ok_has FS T0, bS⟩, DC, DM, DT, DR, DU, DB, DG, ok_refusal FR T0 TR MOx MHx bH1, ok_right FG T0 TL DT MN MA⟩
theorem walk {l : PySem.W.OpenLaw} {q : Program} {loose : List Str} {XP : (Str → Option Value) → Heap → Prop} {YP : World → Heap → Prop} {d : DefRec} {K : Params → PySem.W.Frag} (hn : l.most = some 63) (hdf : d.params.defaults = [])
    (hY : ∀ (w : World) (h : Heap), YP w h → (K w.params).In h)
    (F : ∀ (w : World) (mg : Str → Option Value) (fa : Addr) (h : Heap), (K w.params).In h → h.Ns mainGlobals mg → mg d.name = some (.ref fa) →
      ∃ fd : FuncData, (∀ (s : Shared) (u : Value), BindsTo s fd ⟨[u], []⟩ [("script", u)]) ∧ ∀ base : Heap, (K w.params).In base → base.Ns mainGlobals mg → FnOk l.prog w (K w.params) mg base CX0 5 fa fd ["script"] (spLaw (K w.params))) :
    PySem.W.WalkO q loose XP YP l.row.toRowW d [] (fun f vs => PySem.call f vs) :=
  L2.walk_of (n := 63) (k := 5) (x := "script") (CX := fun _ => CX0) (sp := fun w => spLaw (K w.params)) hn (by decide) hdf ⟨rfl, by decide, by decide⟩ hY F (fun _ _ a ns hl _ hS => ⟨a, ns, rfl, hS, hl, fun _ => rfl⟩) fun _ _ _ _ _ z => z
end HK

open PySem PySem.W PyProof.Rows
set_option linter.all false
set_option maxRecDepth 100000 in
set_option maxHeartbeats 0 in
theorem PySem.Challenge.cw_hookhall_k01_places_and_pieces_holds : PySem.Challenge.rw_hookhall_k01_places_and_pieces.Holds := by
  w_on; o_law; k_head; (case hw => w_witness2)
  k_fill
  refine HK.walk (l := PySem.Challenge.rw_hookhall_k01_places_and_pieces) rfl rfl (fun w h Y => PySem.W.kIn_of Y) ?F
  case F =>
    intro w mg fa h KX G hmg
    refine' HK.all_mk KX G hmg ?aChall ?aCplace ?aCpiece ?aEnameThere ?aEnoPlace ?aEnoPiece ?aEtooMany ?aEH ?aPI ?iPI ?lPI ?cPI ?kPI ?aQI ?iQI ?lQI ?cQI ?kQI ?aHI ?iHI ?lHI ?cHI ?kHI ?aO ?iO ?lO ?cO ?kO ?aH ?iH ?lH ?cH ?kH ?aS ?iS ?lS ?cS ?kS ?aN ?iN ?lN ?cN ?kN ?aD ?iD ?lD ?cD ?kD ?aA ?iA ?lA ?cA ?kA ?aFP ?iFP ?lFP ?cFP ?kFP ?aFQ ?iFQ ?lFQ ?cFQ ?kFQ ?aC ?lC ?cC ?kC ?aM ?lM ?cM ?kM ?aT ?lT ?cT ?kT ?aR ?lR ?cR ?kR ?aU ?lU ?cU ?kU ?aB ?lB ?cB ?kB ?aG ?lG ?cG ?kG ?aL ?lL ?cL ?kL ?lT0 ?pghall ?hdhall ?pohall ?sahall ?mkhall ?kchall ?pgplace ?hdplace ?poplace ?saplace ?mkplace ?kcplace ?pgpiece ?hdpiece ?popiece ?sapiece ?mkpiece ?kcpiece ?nhallplaces ?nhallpieces ?nplacekind ?nplacerule ?npieceplace ?npiecedeed ?npieceby ?npieceon ?npieceahead ?npiecebehind ?npieceneeds ?npiecebars ?m8 ?m24 ?zlen ?zrange ?zisinstance ?zlist ?zstr ?zint ?zbool ?xnameThere ?xnoPlace ?xnoPiece ?xtooMany ?qnameThere ?qnoPlace ?qnoPiece ?qtooMany ?dPN ?dQN ?dQP ?dTN ?dTP ?dTQ
    (case aChall => k_is)
    (case aCplace => k_is)
    (case aCpiece => k_is)
    (case aEnameThere => k_is)
    (case aEnoPlace => k_is)
    (case aEnoPiece => k_is)
    (case aEtooMany => k_is)
    (case aEH => k_is)
    (case aPI => k_is)
    (case iPI => k_is)
    (case lPI => k_is)
    (case cPI => k_is)
    (case kPI => k_is)
    (case aQI => k_is)
    (case iQI => k_is)
    (case lQI => k_is)
    (case cQI => k_is)
    (case kQI => k_is)
    (case aHI => k_is)
    (case iHI => k_is)
    (case lHI => k_is)
    (case cHI => k_is)
    (case kHI => k_is)
    (case aO => k_is)
    (case iO => k_is)
    (case lO => k_is)
    (case cO => k_is)
    (case kO => k_is)
    (case aH => k_is)
    (case iH => k_is)
    (case lH => k_is)
    (case cH => k_is)
    (case kH => k_is)
    (case aS => k_is)
    (case iS => k_is)
    (case lS => k_is)
    (case cS => k_is)
    (case kS => k_is)
    (case aN => k_is)
    (case iN => k_is)
    (case lN => k_is)
    (case cN => k_is)
    (case kN => k_is)
    (case aD => k_is)
    (case iD => k_is)
    (case lD => k_is)
    (case cD => k_is)
    (case kD => k_is)
    (case aA => k_is)
    (case iA => k_is)
    (case lA => k_is)
    (case cA => k_is)
    (case kA => k_is)
    (case aFP => k_is)
    (case iFP => k_is)
    (case lFP => k_is)
    (case cFP => k_is)
    (case kFP => k_is)
    (case aFQ => k_is)
    (case iFQ => k_is)
    (case lFQ => k_is)
    (case cFQ => k_is)
    (case kFQ => k_is)
    (case aC => k_is)
    (case lC => k_is)
    (case cC => k_is)
    (case kC => k_is)
    (case aM => k_is)
    (case lM => k_is)
    (case cM => k_is)
    (case kM => k_is)
    (case aT => k_is)
    (case lT => k_is)
    (case cT => k_is)
    (case kT => k_is)
    (case aR => k_is)
    (case lR => k_is)
    (case cR => k_is)
    (case kR => k_is)
    (case aU => k_is)
    (case lU => k_is)
    (case cU => k_is)
    (case kU => k_is)
    (case aB => k_is)
    (case lB => k_is)
    (case cB => k_is)
    (case kB => k_is)
    (case aG => k_is)
    (case lG => k_is)
    (case cG => k_is)
    (case kG => k_is)
    (case aL => k_is)
    (case lL => k_is)
    (case cL => k_is)
    (case kL => k_is)
    (case lT0 => k_is)
    (case pghall => k_is)
    (case hdhall => k_is)
    (case pohall => k_is)
    (case sahall => k_is)
    (case mkhall => k_is)
    (case kchall => k_is)
    (case pgplace => k_is)
    (case hdplace => k_is)
    (case poplace => k_is)
    (case saplace => k_is)
    (case mkplace => k_is)
    (case kcplace => k_is)
    (case pgpiece => k_is)
    (case hdpiece => k_is)
    (case popiece => k_is)
    (case sapiece => k_is)
    (case mkpiece => k_is)
    (case kcpiece => k_is)
    (case nhallplaces => k_is)
    (case nhallpieces => k_is)
    (case nplacekind => k_is)
    (case nplacerule => k_is)
    (case npieceplace => k_is)
    (case npiecedeed => k_is)
    (case npieceby => k_is)
    (case npieceon => k_is)
    (case npieceahead => k_is)
    (case npiecebehind => k_is)
    (case npieceneeds => k_is)
    (case npiecebars => k_is)
    (case m8 => k_is)
    (case m24 => k_is)
    (case zlen => k_is)
    (case zrange => k_is)
    (case zisinstance => k_is)
    (case zlist => k_is)
    (case zstr => k_is)
    (case zint => k_is)
    (case zbool => k_is)
    (case xnameThere => first | k_is | kernel_rfl! | rfl)
    (case xnoPlace => first | k_is | kernel_rfl! | rfl)
    (case xnoPiece => first | k_is | kernel_rfl! | rfl)
    (case xtooMany => first | k_is | kernel_rfl! | rfl)
    (case qnameThere => first | k_is | kernel_rfl! | rfl)
    (case qnoPlace => first | k_is | kernel_rfl! | rfl)
    (case qnoPiece => first | k_is | kernel_rfl! | rfl)
    (case qtooMany => first | k_is | kernel_rfl! | rfl)
    (case dPN => first | decide | kernel_rfl! | rfl)
    (case dQN => first | decide | kernel_rfl! | rfl)
    (case dQP => first | decide | kernel_rfl! | rfl)
    (case dTN => first | decide | kernel_rfl! | rfl)
    (case dTP => first | decide | kernel_rfl! | rfl)
    (case dTQ => first | decide | kernel_rfl! | rfl)
#print axioms PySem.Challenge.cw_hookhall_k01_places_and_pieces_holds

