import PyProof.Rows.All
import Wide.All
import OpenK.AllK
import Wide.FinOn
import PyProof.EqAt
import PyProof.EqKinds
import PyProof.TupleCall
import PyProof.StrLawsRepr
import Lean
import PyProof.P3Eq
import PyProof.P3In
import PyProof.NeData
import KE.KRevIter
import PySem.Challenge.RW_hookhall_k09_standing_together
set_option Elab.async false
set_option linter.all false
set_option maxRecDepth 100000
namespace L2
open PySem PySem.Spec PyProof.Rows
abbrev Key := Sum Int Str
def keyIs : Key → Value → Bool
  | .inl k, v => Value.isInt k v
  | .inr x, v => Value.isStrOf x v
def keyH (w : World) : Key → Int
  | .inl k => hashInt k
  | .inr x => hashStr w x
theorem keyIs_shape : ∀ {k : Key} {v : Value}, keyIs k v = true → (∃ i t, k = Sum.inl i ∧ v = Value.int i t) ∨ (∃ x t, k = Sum.inr x ∧ v = Value.str x t)
  | .inl i, v, h => by
    obtain ⟨t, e⟩ := Value.isInt_shape (k := i) (v := v) h
    exact .inl ⟨i, t, rfl, e⟩
  | .inr x, v, h => by
    obtain ⟨t, e⟩ := Value.isStrOf_shape (x := x) (v := v) h
    exact .inr ⟨x, t, rfl, e⟩
theorem keyIs_int (i : Int) (t : Tok) : keyIs (.inl i) (.int i t) = true := by simp [keyIs, Value.isInt]
theorem keyIs_str (x : Str) (t : Tok) : keyIs (.inr x) (.str x t) = true := by simp [keyIs, Value.isStrOf]
theorem key_ll (a b : Int) : decide ((Sum.inl a : Key) = Sum.inl b) = (a == b) := by
  by_cases e : a = b
  · subst e; simp
  · have h : ¬ (Sum.inl a : Key) = Sum.inl b := fun q => e (Sum.inl.inj q)
    rw [decide_eq_false h]
    exact (beq_eq_false_iff_ne.mpr e).symm
theorem key_rr (a b : Str) : decide ((Sum.inr a : Key) = Sum.inr b) = decide (a = b) := by
  by_cases e : a = b
  · subst e; simp
  · have h : ¬ (Sum.inr a : Key) = Sum.inr b := fun q => e (Sum.inr.inj q)
    rw [decide_eq_false h, decide_eq_false e]
theorem key_lr (a : Int) (b : Str) : decide ((Sum.inl a : Key) = Sum.inr b) = false := decide_eq_false (fun q => nomatch q)
theorem key_rl (a : Str) (b : Int) : decide ((Sum.inr a : Key) = Sum.inl b) = false := decide_eq_false (fun q => nomatch q)
def mixKind (prog : Program) (w : World) : PySem.KeyKind prog w Key where
  is := keyIs
  hash := keyH w
  inj := fun v a b ha hb => by
    rcases keyIs_shape ha with ⟨i, t, rfl, rfl⟩ | ⟨x, t, rfl, rfl⟩
    · rcases keyIs_shape hb with ⟨j, u, rfl, e⟩ | ⟨y, u, rfl, e⟩
      · injection e with e1 _; rw [e1]
      · exact nomatch e
    · rcases keyIs_shape hb with ⟨j, u, rfl, e⟩ | ⟨y, u, rfl, e⟩
      · exact nomatch e
      · injection e with e1 _; rw [e1]
  byValue := fun k v h => by
    rcases keyIs_shape h with ⟨i, t, rfl, rfl⟩ | ⟨x, t, rfl, rfl⟩ <;> rfl
  pyHash := fun hv h => by
    rcases keyIs_shape hv with ⟨i, t, rfl, rfl⟩ | ⟨x, t, rfl, rfl⟩
    · exact wpAny_pyHash_int h
    · exact wpAny_pyHash_str h
  eqBool := fun hu hv h => by
    rcases keyIs_shape hu with ⟨i, t, rfl, rfl⟩ | ⟨x, t, rfl, rfl⟩
    · rcases keyIs_shape hv with ⟨j, u, rfl, rfl⟩ | ⟨y, u, rfl, rfl⟩
      · rw [key_ll] at h; exact wpAny_eqBool_int h
      · rw [key_lr] at h; exact SeqAt.EqAt.int_str i t y u _ _ _ _ h
    · rcases keyIs_shape hv with ⟨j, u, rfl, rfl⟩ | ⟨y, u, rfl, rfl⟩
      · rw [key_rl] at h; exact SeqAt.EqAt.str_int x t j u _ _ _ _ h
      · rw [key_rr] at h; exact wpAny_eqBool_str h
  «strs» := fun k x t v h => by
    rcases keyIs_shape h with ⟨i, u, rfl, e⟩ | ⟨y, u, rfl, e⟩
    · exact nomatch e
    · injection e with e1 _
      subst e1
      cases v <;> rfl
theorem mixKind_int (prog : Program) (w : World) (i : Int) (t : Tok) : (mixKind prog w).is (.inl i) (.int i t) = true := keyIs_int i t
theorem mixKind_str (prog : Program) (w : World) (x : Str) (t : Tok) : (mixKind prog w).is (.inr x) (.str x t) = true := keyIs_str x t
end L2
namespace L2
open PySem PySem.Spec PyProof.Rows
inductive V where
  | non | bl (b : Bool) | int (i : Int) | str (x : Str) | byt (b : Array UInt8) | flt (b : UInt64) | ref (a : Addr) | ty (n : String)
  deriving DecidableEq
def RelV : V → Value → Prop
  | .non, u => u = Value.none
  | .bl b, u => u = Value.bool b
  | .int i, u => ∃ t, u = Value.int i t
  | .str x, u => ∃ t, u = Value.str x t
  | .byt b, u => ∃ t, u = Value.bytes b t
  | .flt b, u => ∃ t, u = Value.float b t
  | .ref a, u => u = Value.ref a
  | .ty n, u => u = Value.type n
abbrev Vals : List V → List Value → Prop := Paired RelV
theorem Vals.length {xs : List V} {us : List Value} (r : Vals xs us) : xs.length = us.length := Paired.length r
theorem Vals.get : ∀ {xs : List V} {us : List Value} {i : Nat} {x : V}, Vals xs us → xs[i]? = some x → ∃ u, us[i]? = some u ∧ RelV x u
  | _, _, _, _, .nil, e => by simp at e
  | _, _, 0, _, .cons r _, e => by simp at e; subst e; exact ⟨_, rfl, r⟩
  | _, _, i + 1, x, .cons _ t, e => by
    obtain ⟨u, h1, h2⟩ := Vals.get (i := i) (x := x) t (by simpa using e)
    exact ⟨u, by simpa using h1, h2⟩
theorem Vals.set {x : V} {u : Value} (r : RelV x u) : ∀ {xs : List V} {us : List Value} (i : Nat), Vals xs us → Vals (xs.set i x) (us.set i u)
  | _, _, _, .nil => .nil
  | _, _, 0, .cons _ t => .cons r t
  | _, _, i + 1, .cons q t => .cons q (Vals.set r i t)
theorem Vals.append : ∀ {xs ys : List V} {us ws : List Value}, Vals xs us → Vals ys ws → Vals (xs ++ ys) (us ++ ws)
  | _, _, _, _, .nil, s => s
  | _, _, _, _, .cons r t, s => .cons r (Vals.append t s)
theorem Vals.take : ∀ {xs : List V} {us : List Value} (n : Nat), Vals xs us → Vals (xs.take n) (us.take n)
  | _, _, 0, _ => .nil
  | _, _, _ + 1, .nil => .nil
  | _, _, n + 1, .cons r t => .cons r (Vals.take n t)
theorem Vals.drop : ∀ {xs : List V} {us : List Value} (n : Nat), Vals xs us → Vals (xs.drop n) (us.drop n)
  | _, _, 0, r => r
  | _, _, _ + 1, .nil => .nil
  | _, _, n + 1, .cons _ t => Vals.drop n t
theorem Vals.none_of : ∀ {xs : List V} {us : List Value} {i : Nat}, Vals xs us → xs[i]? = none → us[i]? = none := fun {xs us i} r e => by
  have h1 := r.length
  have h2 : xs.length ≤ i := List.getElem?_eq_none_iff.mp e
  exact List.getElem?_eq_none_iff.mpr (by omega)
def RelO : Option V → Option Value → Prop
  | some v, some u => RelV v u
  | none, none => True
  | _, _ => False
def KV {κ : Type} : List (κ × V) → List (κ × Value) → Prop := Paired fun (p : κ × V) (q : κ × Value) => p.1 = q.1 ∧ RelV p.2 q.2
def kV : Key → V
  | .inl i => .int i
  | .inr x => .str x
inductive HO where
  | lst (xs : List V)
  | tup (xs : List V)
  | dK (kvs : List (Key × V)) | dT (kvs : List (List Key × V))
  | set (S : Int → Bool) (n : Nat)
  | ins (C dx : Addr) (fs : List (Str × V))
  | own (x : Addr)
  | xd (fs : List (Str × V))
  | met (f x : Addr)
  | rng (lo hi : Int)
  | frz (o : Obj) (u : HO)
  | tbl (ps : Array Value)
  | ext (φ : Heap → Prop)
abbrev Hp := Addr → Option HO
def upd (H : Hp) (a : Addr) (o : HO) : Hp := fun b => if b = a then some o else H b
theorem upd_same {H : Hp} {a : Addr} {o : HO} : upd H a o a = some o := by unfold upd; rw [if_pos rfl]
theorem upd_ne {H : Hp} {a b : Addr} {o : HO} (h : b ≠ a) : upd H a o b = H b := by unfold upd; rw [if_neg h]
theorem ne_of {H : Hp} {a b : Addr} {o u : HO} (h : H a = some o) (h' : H b = some u) (d : o ≠ u) : a ≠ b := by
  intro e; subst e; rw [h] at h'; exact d (Option.some.inj h')
theorem ne_of_none {H : Hp} {a b : Addr} {o : HO} (h : H a = some o) (h' : H b = none) : a ≠ b := by
  intro e; subst e; rw [h] at h'; cases h'
section
variable (P : Program) (w : World)
def ObjOk (H : Hp) (h : Heap) (a : Addr) : HO → Prop
  | .lst xs => xs.length ≤ sizeLine ∧ ∃ (its : List Value) (n : Nat), Vals xs its ∧ h.get? a = some { cls := .type "list", data := .seq its.toArray n }
  | .tup xs => xs.length ≤ sizeLine ∧ ∃ its : List Value, Vals xs its ∧ IsTup h a its.toArray
  | .dK kvs => kvs.length ≤ sizeLine ∧ (a == sysModules) = false ∧ ∃ vs, KV kvs vs ∧ h.DictOf (mixKind P w) a vs
  | .dT kvs => kvs.length ≤ sizeLine ∧ (a == sysModules) = false ∧ ∃ xs : List (List Key × Addr × Value),
      Paired (fun (p : List Key × V) (q : List Key × Addr × Value) => p.1 = q.1 ∧ H q.2.1 = some (.tup (p.1.map kV)) ∧ RelV p.2 q.2.2) kvs xs ∧
      ∃ o es ep, h.get? a = some o ∧ o.ExactDict ∧ o.data = .dict es ep ∧ es.toList = xs.map (entryOfKey (tupleKind (mixKind P w))) ∧ (xs.map (·.1)).Nodup
  | .set S n => h.SetOf (intKind P w) a S n
  | .ins C dx fs => H dx = some (.own a) ∧ fs.length ≤ 1000 ∧ dx ≠ a ∧ h.get? a = some (PySem.W.instObj C dx) ∧
      ∃ mA, h.Ns1 dx mA ∧ (∀ f, RelO (fs.lookup f) (mA f)) ∧ PySem.Within mA (fs.map (·.1))
  | .own _ => ∃ o, h.get? a = some o
  | .xd fs => ∃ mA, h.Ns1 a mA ∧ ∀ f, RelO (fs.lookup f) (mA f)
  | .rng lo hi => ∃ t u v, h.get? a = some { cls := .type "range", data := .fields #[.int lo t, .int hi u, .int 1 v] }
  | .frz o u => h.get? a = some o ∧ ObjOk H h a u
  | .tbl ps => h.get? a = some { cls := .none, data := .fields ps }
  | .met f x => h.get? a = some (PySem.W.methodObj (.ref f) (.ref x))
  | .ext φ => φ h ∧ (∃ o, h.get? a = some o) ∧ ∀ h1 h2 : Heap, φ h1 → (∀ o, h1.get? a = some o → h2.get? a = some o) → φ h2
def HOk (H : Hp) (h : Heap) : Prop := ∀ a o, H a = some o → ObjOk P w H h a o
end
section
variable {P : Program} {w : World} {H H' : Hp} {h h' : Heap} {a : Addr} {o : HO}
theorem ObjOk.lt (x : ObjOk P w H h a o) : a < h.objs.size := by
  cases o with
  | lst xs => obtain ⟨_, _, _, _, e⟩ := x; exact Heap.lt_size e
  | tup xs => obtain ⟨_, _, _, p⟩ := x; exact p.lt
  | dK kvs => obtain ⟨_, _, _, _, o, _, _, e, _⟩ := x; exact Heap.lt_size e
  | dT kvs => obtain ⟨_, _, _, _, o, _, _, e, _⟩ := x; exact Heap.lt_size e
  | set S n => obtain ⟨o, _, _, _, e, _⟩ := x; exact Heap.lt_size e
  | ins C dx fs => obtain ⟨_, _, _, e, _⟩ := x; exact Heap.lt_size e
  | own y => obtain ⟨_, e⟩ := x; exact Heap.lt_size e
  | xd fs => obtain ⟨_, ⟨_, _, _, e, _⟩, _⟩ := x; exact Heap.lt_size e
  | rng lo hi => obtain ⟨_, _, _, e⟩ := x; exact Heap.lt_size e
  | frz ob u => obtain ⟨e, _⟩ := x; exact Heap.lt_size e
  | tbl ps => exact Heap.lt_size (show h.get? a = some _ from x)
  | met f y => exact Heap.lt_size (show h.get? a = some _ from x)
  | ext φ => obtain ⟨_, ⟨_, e⟩, _⟩ := x; exact Heap.lt_size e
theorem Paired.mapP {α β : Type} {F G : α → β → Prop} : ∀ {l₁ : List α} {l₂ : List β}, Paired F l₁ l₂ → (∀ a b, F a b → G a b) → Paired G l₁ l₂
  | _, _, .nil, _ => .nil
  | _, _, .cons r t, f => .cons (f _ _ r) (Paired.mapP t f)
theorem ObjOk.stay (x : ObjOk P w H h a o) (k : ∀ b u, (b = a ∨ H b = some (.own a)) → h.get? b = some u → h'.get? b = some u)
    (ho : ∀ b, H b = some (.own a) → H' b = some (.own a)) (ht : ∀ b xs, H b = some (.tup xs) → H' b = some (.tup xs)) : ObjOk P w H' h' a o := by
  induction o with
  | lst xs => obtain ⟨z, its, n, r, e⟩ := x; exact ⟨z, its, n, r, k _ _ (.inl rfl) e⟩
  | tup xs => obtain ⟨z, its, r, ob, e, c⟩ := x; exact ⟨z, its, r, ob, k _ _ (.inl rfl) e, c⟩
  | dK kvs => obtain ⟨z, y, vs, r, ob, es, ep, e, c⟩ := x; exact ⟨z, y, vs, r, ob, es, ep, k _ _ (.inl rfl) e, c⟩
  | dT kvs =>
    obtain ⟨z, y, xs, r, ob, es, ep, e, c⟩ := x
    exact ⟨z, y, xs, Paired.mapP r fun p q z => ⟨z.1, ht _ _ z.2.1, z.2.2⟩, ob, es, ep, k _ _ (.inl rfl) e, c⟩
  | set S n => obtain ⟨ob, es, ep, t, e, c⟩ := x; exact ⟨ob, es, ep, t, k _ _ (.inl rfl) e, c⟩
  | ins C dx fs =>
    obtain ⟨d, z, ne, e, mA, ⟨od, es, ep, e2, c⟩, r⟩ := x
    exact ⟨ho _ d, z, ne, k _ _ (.inl rfl) e, mA, ⟨od, es, ep, k _ _ (.inr d) e2, c⟩, r⟩
  | own y => obtain ⟨ob, e⟩ := x; exact ⟨ob, k _ _ (.inl rfl) e⟩
  | xd fs => obtain ⟨mA, ⟨od, es, ep, e, c⟩, r⟩ := x; exact ⟨mA, ⟨od, es, ep, k _ _ (.inl rfl) e, c⟩, r⟩
  | rng lo hi => obtain ⟨t, u, v, e⟩ := x; exact ⟨t, u, v, k _ _ (.inl rfl) e⟩
  | frz ob u ih => obtain ⟨e, q⟩ := x; exact ⟨k _ _ (.inl rfl) e, ih q⟩
  | tbl ps =>
    have e : h.get? a = some { cls := .none, data := .fields ps } := x
    show h'.get? a = some { cls := .none, data := .fields ps }
    exact k a _ (.inl rfl) e
  | met f y =>
    have e : h.get? a = some (PySem.W.methodObj (.ref f) (.ref y)) := x
    show h'.get? a = some (PySem.W.methodObj (.ref f) (.ref y))
    exact k a _ (.inl rfl) e
  | ext φ => obtain ⟨p, ⟨o, e⟩, st⟩ := x; exact ⟨st _ _ p fun o q => k _ _ (.inl rfl) q, ⟨o, k _ _ (.inl rfl) e⟩, st⟩
theorem HOk.lt (x : HOk P w H h) (e : H a = some o) : a < h.objs.size := (x a o e).lt
theorem HOk.fresh (x : HOk P w H h) (e : h.objs.size ≤ a) : H a = none := by
  cases q : H a with
  | none => rfl
  | some u => exact absurd (Nat.lt_of_lt_of_le (x.lt q) e) (Nat.lt_irrefl _)
theorem HOk.kept (x : HOk P w H h) (k : ∀ b u, h.get? b = some u → h'.get? b = some u) : HOk P w H h' := fun a o e =>
  (x a o e).stay (fun b u _ q => k b u q) (fun _ q => q) fun _ _ q => q
theorem HOk.laid (x : HOk P w H h) (k : ∀ b u, h.get? b = some u → h'.get? b = some u) (hp : h.objs.size ≤ a) (new : ObjOk P w (upd H a o) h' a o) : HOk P w (upd H a o) h' := fun b u e => by
  have hn := x.fresh hp
  by_cases hb : b = a
  · subst hb; rw [upd_same] at e; cases e; exact new
  · rw [upd_ne hb] at e
    exact (x b u e).stay (fun c v _ q => k c v q) (fun c q => by rw [upd_ne (ne_of_none q hn)]; exact q) fun c xs q => by rw [upd_ne (ne_of_none q hn)]; exact q
end
def Rd (H : Hp) (a : Addr) (u : HO) : Prop := H a = some u ∨ ∃ o, H a = some (.frz o u)
theorem Rd.ok {P : Program} {w : World} {H : Hp} {h : Heap} {a : Addr} {u : HO} (r : Rd H a u) (x : HOk P w H h) : ObjOk P w H h a u := by
  rcases r with r | ⟨o, r⟩
  · exact x a u r
  · obtain ⟨_, q⟩ := x a _ r
    exact q
def Mut : Option HO → Prop
  | some (.lst _) => True
  | some (.dK _) => True
  | some (.dT _) => True
  | some (.set _ _) => True
  | some (.ins _ _ _) => True
  | some (.ext _) => True
  | _ => False
section
variable {P : Program} {w : World} {H : Hp} {h h' : Heap} {x e : Addr} {o' : HO}
theorem HOk.write (ok : HOk P w H h) (mu : Mut (H x)) (he : e = x ∨ H e = some (.own x)) (k : ∀ b u, b ≠ e → h.get? b = some u → h'.get? b = some u) (heo : ∃ u, h'.get? e = some u)
    (new : ObjOk P w (upd H x o') h' x o') : HOk P w (upd H x o') h' := fun b u q => by
  have nown : ∀ c y, H c = some (.own y) → c ≠ x := fun c y r z => by subst z; rw [r] at mu; exact mu
  have ntup : ∀ c xs, H c = some (.tup xs) → c ≠ x := fun c xs r z => by subst z; rw [r] at mu; exact mu
  by_cases hb : b = x
  · subst hb; rw [upd_same] at q; cases q; exact new
  · rw [upd_ne hb] at q
    by_cases hbe : b = e
    · have q' : H b = some (.own x) := by
        rcases he with z | z
        · exact absurd (hbe.trans z) hb
        · rw [hbe]; exact z
      rw [q] at q'; cases q'
      obtain ⟨v, hv⟩ := heo
      exact ⟨v, by rw [hbe]; exact hv⟩
    · refine (ok b u q).stay (fun c v hc r => k c v ?_ r) (fun c r => by rw [upd_ne (nown c b r)]; exact r) fun c xs r => by rw [upd_ne (ntup c xs r)]; exact r
      rcases hc with rfl | hc
      · exact hbe
      · rintro rfl
        rcases he with z | z
        · exact nown c b hc z
        · rw [hc] at z; cases z; exact hb rfl
end
structure Un (fs ex : List Addr) (H H' : Hp) (h h' : Heap) : Prop where
  keep : ∀ b o, h.get? b = some o → H b = none → b ∉ fs → b ∉ ex → h'.get? b = some o
  slot : ∀ b o, h.get? b = some o → H b = none → b ∈ fs → b ∉ ex → ∃ sl, h'.get? b = some { o with slots := sl }
  free : ∀ b o, h.get? b = some o → H b = none → b ∉ ex → H' b = none
  there : ∀ b o, h.get? b = some o → b ∉ ex → ∃ o', h'.get? b = some o'
  tups : ∀ b xs, H b = some (.tup xs) → H' b = some (.tup xs)
  frzs : ∀ b o u, H b = some (.frz o u) → H' b = some (.frz o u)
  tbls : ∀ b ps, H b = some (.tbl ps) → ∃ more, H' b = some (.tbl (ps ++ more))
section
variable {fs fs' ex ex' : List Addr} {H H1 H2 : Hp} {h h1 h2 h' : Heap} {a x e : Addr} {o : HO}
theorem Un.any (u : Un fs ex H H1 h h1) {b : Addr} {ob : Obj} (q : h.get? b = some ob) (n : H b = none) (hx : b ∉ ex) : ∃ sl, h1.get? b = some { ob with slots := sl } := by
  by_cases hb : b ∈ fs
  · exact u.slot b ob q n hb hx
  · exact ⟨ob.slots, u.keep b ob q n hb hx⟩
theorem Un.trans (a : Un fs ex H H1 h h1) (b : Un fs ex H1 H2 h1 h2) : Un fs ex H H2 h h2 where
  keep := fun c ob q n hc hx => b.keep c ob (a.keep c ob q n hc hx) (a.free c ob q n hx) hc hx
  slot := fun c ob q n hc hx => by
    obtain ⟨sl, e1⟩ := a.slot c ob q n hc hx
    obtain ⟨sl', e2⟩ := b.slot c _ e1 (a.free c ob q n hx) hc hx
    exact ⟨sl', e2⟩
  free := fun c ob q n hx => by
    obtain ⟨o', e1⟩ := a.there c ob q hx
    exact b.free c o' e1 (a.free c ob q n hx) hx
  there := fun c ob q hx => by
    obtain ⟨o', e1⟩ := a.there c ob q hx
    exact b.there c o' e1 hx
  tups := fun c xs q => b.tups c xs (a.tups c xs q)
  frzs := fun c ob xs q => b.frzs c ob xs (a.frzs c ob xs q)
  tbls := fun c ps q => by
    obtain ⟨m1, e1⟩ := a.tbls c ps q
    obtain ⟨m2, e2⟩ := b.tbls c _ e1
    exact ⟨m1 ++ m2, by rw [e2, Array.append_assoc]⟩
theorem Un.kept (k : ∀ b u, h.get? b = some u → h'.get? b = some u) : Un fs ex H H h h' :=
  ⟨fun b ob q _ _ _ => k b ob q, fun b ob q _ _ _ => ⟨ob.slots, k b ob q⟩, fun _ _ _ n _ => n, fun b ob q _ => ⟨ob, k b ob q⟩, fun _ _ q => q, fun _ _ _ q => q, fun _ ps q => ⟨#[], by rw [q]; simp⟩⟩
theorem Un.refl : Un fs ex H H h h := Un.kept fun _ _ q => q
theorem Un.laid (k : ∀ b u, h.get? b = some u → h'.get? b = some u) (hp : h.objs.size ≤ a) (hn : H a = none) : Un fs ex H (upd H a o) h h' where
  keep := fun b u q _ _ _ => k b u q
  slot := fun b u q _ _ _ => ⟨u.slots, k b u q⟩
  free := fun b u q n _ => by rw [upd_ne (Nat.ne_of_lt (Nat.lt_of_lt_of_le (Heap.lt_size q) hp))]; exact n
  there := fun b u q _ => ⟨u, k b u q⟩
  tups := fun b xs q => by rw [upd_ne (ne_of_none q hn)]; exact q
  frzs := fun b u xs q => by rw [upd_ne (ne_of_none q hn)]; exact q
  tbls := fun b ps q => ⟨#[], by rw [upd_ne (ne_of_none q hn), q]; simp⟩
theorem Un.write (mu : Mut (H x)) (he : e = x ∨ H e = some (.own x)) (k : ∀ b u, b ≠ e → h.get? b = some u → h'.get? b = some u) (heo : ∃ u, h'.get? e = some u) : Un fs ex H (upd H x o) h h' := by
  have hx : ∀ b, H b = none → b ≠ x := fun b n z => by subst z; rw [n] at mu; exact mu
  have hb : ∀ b, H b = none → b ≠ e := fun b n z => by
    subst z
    rcases he with r | r
    · exact hx b n r
    · rw [n] at r; cases r
  have hm : ∀ b u, H b = some u → ¬ Mut (some u) → b ≠ x := fun b u q nm z => by subst z; rw [q] at mu; exact nm mu
  refine ⟨fun b u q n _ _ => k b u (hb b n) q, fun b u q n _ _ => ⟨u.slots, k b u (hb b n) q⟩, fun b u q n _ => by rw [upd_ne (hx b n)]; exact n, fun b u q _ => ?_,
    fun b xs q => by rw [upd_ne (hm b _ q fun z => z)]; exact q, fun b u xs q => by rw [upd_ne (hm b _ q fun z => z)]; exact q, fun b ps q => ⟨#[], by rw [upd_ne (hm b _ q fun z => z), q]; simp⟩⟩
  by_cases hbe : b = e
  · subst hbe; exact heo
  · exact ⟨u, k b u hbe q⟩
theorem Un.mono (u : Un fs ex H H1 h h1) (hs : ∀ b ∈ fs, b ∈ fs') (hx : ∀ b ∈ ex, b ∈ ex') : Un fs' ex' H H1 h h1 :=
  ⟨fun b ob q n hb he => u.keep b ob q n (fun z => hb (hs b z)) fun z => he (hx b z), fun _ _ q n _ he => u.any q n fun z => he (hx _ z), fun b ob q n he => u.free b ob q n fun z => he (hx b z), fun b ob q he => u.there b ob q fun z => he (hx b z), u.tups, u.frzs, u.tbls⟩
end
def trk (h : Heap) (H : Hp) : List Addr := (List.range h.objs.size).filter fun a => (H a).isSome
def hidT (h : Heap) (H : Hp) : Heap := PySem.W.hideAll h (trk h H)
theorem hidT_size (h : Heap) (H : Hp) : (hidT h H).objs.size = h.objs.size := PySem.W.hideAll_size _ _
theorem hidT_get {h : Heap} {H : Hp} {b : Addr} {o : Obj} (e : h.get? b = some o) (n : H b = none) : (hidT h H).get? b = some o :=
  PySem.W.hideAll_get _ e fun hm => by
    have q : (H b).isSome = true := (List.mem_filter.mp hm).2
    rw [n] at q; simp at q
theorem of_hidT {h : Heap} {H : Hp} {b : Addr} {o : Obj} (e : (hidT h H).get? b = some o) : h.get? b = some o ∧ H b = none := by
  have e' : h.get? b = some o := PySem.W.of_hideAll (trk h H) e
  refine ⟨e', ?_⟩
  cases q : H b with
  | none => rfl
  | some x =>
    have hm : b ∈ trk h H := List.mem_filter.mpr ⟨List.mem_range.mpr (Heap.lt_size e'), by simp [q]⟩
    have z : (hidT h H).get? b = none := PySem.W.hideAll_none (trk h H) hm
    rw [z] at e; cases e
def allNews (g h : Heap) (L : Addr) : List (Addr × Obj) := (List.range h.objs.size).filterMap fun a => if a = L ∨ (g.get? a).isSome = true then none else (h.get? a).map fun o => (a, o)
def rest (g h : Heap) (L d : Addr) : List (Addr × Obj) := (allNews g h L).filter fun p => decide (p.1 ≠ d)
end L2
namespace L2
open PySem PySem.Spec PyProof.Rows
structure Mod (K : PySem.W.Frag) (mg : Str → Option Value) (base : Heap) : Prop where
  kin : K.In base
  glob : base.Ns mainGlobals mg
  blt : ∃ mb, base.Ns builtinsNs mb ∧ ∀ x : Str, x ≠ "__name__" → mb x = bootBuiltins x
  nolimit : base.NoLimit
structure Cx where
  prog : Program
  w : World
  K : PySem.W.Frag
  mg : Str → Option Value
  base : Heap
  A : Around
  N : List Str
  s₀ : Shared
  H₀ : Hp
  env : Env
  outer : List Env
  stack : List Env
  ex : List Addr
  fn : Str → Bool
  calm : Bool
  pn : List (Addr × Obj)
  xe : Value → Shared → Prop
  kn : List (Option V) := []
def frs (l : List Env) : List Addr := l.filterMap (·.frame)
abbrev Cx.fs (X : Cx) : List Addr := frs X.outer
def Vis (sc : Scope) (x : Str) : Prop := sc.names.lookup x = some .local ∨ sc.names.lookup x = some .cell ∨ sc.names.lookup x = some .free
def Loc (sc : Scope) (x : Str) : Prop := sc.names.lookup x = some .local ∨ sc.names.lookup x = some .cell
def Look (env : Env) (h : Heap) (m : Str → Option Value) (x : Str) (u : Value) : Prop :=
  (env.kindOf x = some .local ∧ m x = some u) ∨ ((env.kindOf x = some .cell ∨ env.kindOf x = some .free) ∧ ∃ c, env.cells.lookup x = some c ∧ h.IsCell c (some u))
structure Cx.Ok (X : Cx) : Prop where
  mod : Mod X.K X.mg X.base
  kind : X.env.scope.kind = .function
  glob : X.env.globals = mainGlobals
  blt : X.env.builtins = builtinsNs
  above : X.s₀.heap.objs.size ≤ X.env.locals
  inj : ∀ x y c, X.env.cells.lookup x = some c → X.env.cells.lookup y = some c → x = y
  has : ∀ x, (X.env.kindOf x = some .cell ∨ X.env.kindOf x = some .free) → ∃ c, X.env.cells.lookup x = some c
  cab : ∀ x c, X.fn x = true → X.env.cells.lookup x = some c → X.s₀.heap.objs.size ≤ c
  hd : X.calm = true → X.A.handled = none
  frames : X.A.frames = some X.stack
  stk : X.stack = X.outer ∨ (X.stack = X.env :: X.outer ∧ X.env.frame = some X.env.locals)
  exf : ∀ b ∈ X.ex, b ≠ X.env.locals ∧ ∀ x c, X.env.cells.lookup x = some c → c ≠ b
  bs : ∀ b o, X.base.get? b = some o → X.s₀.heap.get? b = some o ∧ X.H₀ b = none
  bsz : X.base.objs.size ≤ X.s₀.heap.objs.size
  noex : ∀ b o, X.base.get? b = some o → b ∉ X.ex
  exfs : ∀ b ∈ X.ex, b ∉ X.fs
  funs : X.s₀.heap.FunFrames X.base X.outer
  frf : ∀ b ∈ X.fs, X.H₀ b = none
structure Inv (X : Cx) (pins : List (Addr × Obj)) (σ : List (Option V)) (H : Hp) (s : Shared) : Prop where
  ok : X.Ok
  os : s.os = X.s₀.os
  bare : AllBare s.gens
  base : Un X.fs X.ex X.H₀ H X.s₀.heap s.heap
  loc : ∃ m, s.heap.Ns X.env.locals m ∧ ∀ (i : Nat) (x : Str) (v : V), X.N[i]? = some x → σ[i]? = some (some v) → Vis X.env.scope x → ∃ u, RelV v u ∧ Look X.env s.heap m x u
  cell : ∀ x c, X.env.cells.lookup x = some c → ∃ v, s.heap.IsCell c v
  free : H X.env.locals = none
  freeC : ∀ x c, X.env.cells.lookup x = some c → H c = none
  pin : ∀ p ∈ X.pn ++ pins, s.heap.get? p.1 = some p.2 ∧ H p.1 = none ∧ p.1 ≠ X.env.locals ∧ p.1 ∉ X.fs ∧ ∀ v, p.2.data ≠ .cell v
  hok : HOk X.prog X.w H s.heap
  len : σ.length = X.N.length
  kn : ∀ (i : Nat) (v : V), X.kn[i]? = some (some v) → σ[i]? = some (some v)
section
variable {X : Cx} {pins : List (Addr × Obj)} {σ : List (Option V)} {H H' : Hp} {s : Shared} {h' : Heap}
theorem Cx.Ok.nofr (ok : X.Ok) {b : Addr} {o : Obj} (e : X.base.get? b = some o) : b ∉ X.fs := fun hb => by
  have := (ok.funs.mem hb).1
  rw [e] at this; cases this
theorem Inv.bs (I : Inv X pins σ H s) : ∀ b o, X.base.get? b = some o → s.heap.get? b = some o ∧ H b = none := fun b o e =>
  ⟨I.base.keep b o (I.ok.bs b o e).1 (I.ok.bs b o e).2 (I.ok.nofr e) (I.ok.noex b o e), I.base.free b o (I.ok.bs b o e).1 (I.ok.bs b o e).2 (I.ok.noex b o e)⟩
theorem Inv.bk (I : Inv X pins σ H s) : ∀ b o, X.base.get? b = some o → s.heap.get? b = some o := fun b o e => (I.bs b o e).1
theorem Inv.mod (I : Inv X pins σ H s) : Mod X.K X.mg X.base := I.ok.mod
theorem Inv.kIn (I : Inv X pins σ H s) : X.K.In s.heap := I.ok.mod.kin.keeps I.bk
theorem Inv.nolimit (I : Inv X pins σ H s) : s.heap.NoLimit := I.ok.mod.nolimit.keeps I.bk
theorem Inv.fr (I : Inv X pins σ H s) : ∃ m, Fr X.base X.env.locals s.heap m :=
  let ⟨m, hn, _⟩ := I.loc
  ⟨m, hn, I.bk, Nat.le_trans I.ok.bsz I.ok.above⟩
theorem Inv.lt (I : Inv X pins σ H s) : X.env.locals < s.heap.objs.size := let ⟨_, hn, _⟩ := I.loc; hn.lt
theorem Inv.sz (I : Inv X pins σ H s) : X.s₀.heap.objs.size ≤ s.heap.objs.size := Nat.le_trans I.ok.above (Nat.le_of_lt I.lt)
theorem Inv.nofs (I : Inv X pins σ H s) {a : Addr} (h : s.heap.objs.size ≤ a) : a ∉ X.fs := fun hb => by
  obtain ⟨_, o, ho, _⟩ := I.ok.funs.mem hb
  exact absurd (Nat.lt_of_lt_of_le (Heap.lt_size ho) (Nat.le_trans I.sz h)) (Nat.lt_irrefl _)
theorem Inv.cne (I : Inv X pins σ H s) : ∀ x c, X.env.cells.lookup x = some c → c ≠ X.env.locals := fun x c e z => by
  obtain ⟨v, o, ho, hd⟩ := I.cell x c e
  obtain ⟨m, ⟨o', es, ep, ho', hd', _⟩, _⟩ := I.loc
  rw [z, ho'] at ho; cases ho; rw [hd'] at hd; cases hd
theorem Inv.funs (I : Inv X pins σ H s) : s.heap.FunFrames X.base X.outer := by
  have all : ∀ (l : List Env), (∀ b ∈ frs l, b ∈ X.fs) → X.s₀.heap.FunFrames X.base l → s.heap.FunFrames X.base l := by
    intro l
    induction l with
    | nil => intro _ _; trivial
    | cons env r ih =>
      intro hs hl
      obtain ⟨hk, ⟨L, o, hf, hn, ho, hd⟩, hr⟩ := hl
      have hL : L ∈ X.fs := hs L (by unfold frs; rw [List.filterMap_cons, hf]; exact List.mem_cons_self)
      obtain ⟨sl, e⟩ := I.base.slot L o ho (I.ok.frf L hL) hL fun z => I.ok.exfs L z hL
      exact ⟨hk, ⟨L, _, hf, hn, e, hd⟩, ih (fun b hb => hs b (by unfold frs; rw [List.filterMap_cons, hf]; exact List.mem_cons_of_mem _ hb)) hr⟩
  exact all X.outer (fun _ hb => hb) I.ok.funs
theorem Inv.stack (I : Inv X pins σ H s) : s.heap.FunFrames X.base X.stack := by
  rcases I.ok.stk with e | ⟨e, hf⟩
  · rw [e]; exact I.funs
  · rw [e]
    obtain ⟨m, hn, _⟩ := I.loc
    refine .cons (by rw [I.ok.kind]; decide) hf hn ?_ I.funs
    exact Heap.get?_none_of_le (Nat.le_trans I.ok.bsz I.ok.above)
theorem Inv.stkSub (I : Inv X pins σ H s) : ∀ b ∈ frs X.stack, b ∈ X.env.locals :: X.fs := fun b hb => by
  rcases I.ok.stk with e | ⟨e, hf⟩
  · rw [e] at hb; exact List.mem_cons_of_mem _ hb
  · rw [e] at hb
    unfold frs at hb
    rw [List.filterMap_cons, hf] at hb
    exact hb
theorem Inv.stkFree (I : Inv X pins σ H s) : ∀ b ∈ frs X.stack, H b = none := fun b hb => by
  rcases List.mem_cons.mp (I.stkSub b hb) with e | hb
  · rw [e]; exact I.free
  · obtain ⟨_, o, ho, _⟩ := I.ok.funs.mem hb
    exact I.base.free b o ho (I.ok.frf b hb) fun z => I.ok.exfs b z hb
theorem Inv.step {g' : Array GenState} {t' : Nat} {d' : Drawn} {ch : List Addr} (I : Inv X pins σ H s)
    (hch : ∀ b ∈ ch, (b ∈ X.ex ∨ X.s₀.heap.objs.size ≤ b) ∧ b ≠ X.env.locals ∧ (∀ x c, X.env.cells.lookup x = some c → c ≠ b) ∧ ∀ p ∈ X.pn ++ pins, p.1 ≠ b)
    (keep : ∀ b o, b ≠ X.env.locals → b ∉ X.fs → b ∉ ch → s.heap.get? b = some o → H b = none → h'.get? b = some o)
    (slot : ∀ b o, b ≠ X.env.locals → b ∈ X.fs → b ∉ ch → s.heap.get? b = some o → H b = none → ∃ sl, h'.get? b = some { o with slots := sl }) (free : ∀ b o, b ∉ ch → s.heap.get? b = some o → H b = none → H' b = none)
    (there : ∀ b o, b ∉ ch → s.heap.get? b = some o → ∃ o', h'.get? b = some o')
    (tups : ∀ b xs, H b = some (.tup xs) → H' b = some (.tup xs)) (frzs : ∀ b o u, H b = some (.frz o u) → H' b = some (.frz o u)) (tbls : ∀ b ps, H b = some (.tbl ps) → ∃ more, H' b = some (.tbl (ps ++ more)))
    (ns : ∀ m, s.heap.Ns X.env.locals m → h'.Ns X.env.locals m) (hok : HOk X.prog X.w H' h') (hg : AllBare g') :
    Inv X pins σ H' { s with heap := h', gens := g', drawn := d', toks := t' } := by
  have neL : ∀ b o, X.s₀.heap.get? b = some o → b ≠ X.env.locals := fun b o e => Nat.ne_of_lt (Nat.lt_of_lt_of_le (Heap.lt_size e) I.ok.above)
  have neC : ∀ b o, X.s₀.heap.get? b = some o → b ∉ X.ex → b ∉ ch := fun b o e hx hb => by
    rcases (hch b hb).1 with z | z
    · exact hx z
    · exact absurd (Nat.lt_of_lt_of_le (Heap.lt_size e) z) (Nat.lt_irrefl _)
  have cellK : ∀ x c, X.env.cells.lookup x = some c → ∀ v, s.heap.IsCell c v → h'.IsCell c v := fun x c e v ⟨o, ho, hd⟩ => by
    have nch : c ∉ ch := fun z => (hch c z).2.2.1 x c e rfl
    by_cases hc : c ∈ X.fs
    · obtain ⟨sl, q⟩ := slot c o (I.cne x c e) hc nch ho (I.freeC x c e)
      exact ⟨_, q, hd⟩
    · exact ⟨o, keep c o (I.cne x c e) hc nch ho (I.freeC x c e), hd⟩
  refine ⟨I.ok, I.os, hg, ⟨fun b o e n hb hx => ?_, fun b o e n hb hx => ?_, fun b o e n hx => ?_, fun b o e hx => ?_, fun b xs e => tups b xs (I.base.tups b xs e), fun b o xs e => frzs b o xs (I.base.frzs b o xs e), fun b ps e => ?_⟩, ?_, fun x c e => ?_, ?_, fun x c e => ?_, fun p hp => ?_, hok, I.len, I.kn⟩
  · exact keep b o (neL b o e) hb (neC b o e hx) (I.base.keep b o e n hb hx) (I.base.free b o e n hx)
  · obtain ⟨sl, e1⟩ := I.base.slot b o e n hb hx
    obtain ⟨sl', e2⟩ := slot b _ (neL b o e) hb (neC b o e hx) e1 (I.base.free b o e n hx)
    exact ⟨sl', e2⟩
  · obtain ⟨o', e1⟩ := I.base.there b o e hx
    exact free b o' (neC b o e hx) e1 (I.base.free b o e n hx)
  · obtain ⟨o', e1⟩ := I.base.there b o e hx
    exact there b o' (neC b o e hx) e1
  · obtain ⟨m1, e1⟩ := I.base.tbls b ps e
    obtain ⟨m2, e2⟩ := tbls b _ e1
    exact ⟨m1 ++ m2, by rw [e2, Array.append_assoc]⟩
  · obtain ⟨m, hn, hl⟩ := I.loc
    refine ⟨m, ns m hn, fun i x v e1 e2 e3 => ?_⟩
    obtain ⟨u, r, l⟩ := hl i x v e1 e2 e3
    refine ⟨u, r, ?_⟩
    rcases l with l | ⟨k, c, e, z⟩
    · exact .inl l
    · exact .inr ⟨k, c, e, cellK x c e _ z⟩
  · obtain ⟨v, z⟩ := I.cell x c e
    exact ⟨v, cellK x c e v z⟩
  · obtain ⟨m, ⟨o, _, _, ho, _⟩, _⟩ := I.loc
    exact free _ o (fun z => (hch _ z).2.1 rfl) ho I.free
  · obtain ⟨v, o, ho, hd⟩ := I.cell x c e
    exact free c o (fun z => (hch c z).2.2.1 x c e rfl) ho (I.freeC x c e)
  · obtain ⟨e, n, ne, nf, d⟩ := I.pin p hp
    have nch : p.1 ∉ ch := fun z => (hch p.1 z).2.2.2 p hp rfl
    exact ⟨keep p.1 p.2 ne nf nch e n, free p.1 p.2 nch e n, ne, nf, d⟩
theorem Inv.un {t' : Nat} (I : Inv X pins σ H s) (u : Un X.fs [] H H' s.heap h') (hok : HOk X.prog X.w H' h') : Inv X pins σ H' { s with heap := h', toks := t' } := by
  obtain ⟨m, ⟨o, es, ep, ho, r⟩, _⟩ := id I.loc
  obtain ⟨sl, hL⟩ := u.any ho I.free (by simp)
  exact I.step (g' := s.gens) (d' := s.drawn) (ch := []) (fun _ z => nomatch z) (fun b o _ hb _ e n => u.keep b o e n hb (by simp)) (fun b o _ hb _ e n => u.slot b o e n hb (by simp)) (fun b o _ e n => u.free b o e n (by simp)) (fun b o _ e => u.there b o e (by simp)) u.tups u.frzs u.tbls (fun m' hm => by
    obtain ⟨o', es', ep', ho', r'⟩ := hm
    rw [ho] at ho'; cases ho'
    exact ⟨_, es', ep', hL, r'⟩) hok I.bare
theorem Inv.call {g' : Array GenState} {t' : Nat} {d' : Drawn} {ch : List Addr} (I : Inv X pins σ H s) (u : Un (frs X.stack) ch H H' s.heap h') (hok : HOk X.prog X.w H' h') (hg : AllBare g')
    (hch : ∀ b ∈ ch, (b ∈ X.ex ∨ X.s₀.heap.objs.size ≤ b) ∧ b ≠ X.env.locals ∧ (∀ x c, X.env.cells.lookup x = some c → c ≠ b) ∧ ∀ p ∈ X.pn ++ pins, p.1 ≠ b) :
    Inv X pins σ H' { s with heap := h', gens := g', drawn := d', toks := t' } := by
  obtain ⟨m, ⟨o, es, ep, ho, r⟩, _⟩ := id I.loc
  obtain ⟨sl, hL⟩ := u.any ho I.free fun z => (hch _ z).2.1 rfl
  exact I.step (ch := ch) hch (fun b o hL hb hc e n => u.keep b o e n (fun z => (List.mem_cons.mp (I.stkSub b z)).elim hL hb) hc) (fun b o _ _ hc e n => u.any e n hc) (fun b o hc e n => u.free b o e n hc) (fun b o hc e => u.there b o e hc) u.tups u.frzs u.tbls (fun m' hm => by
    obtain ⟨o', es', ep', ho', r'⟩ := hm
    rw [ho] at ho'; cases ho'
    exact ⟨_, es', ep', hL, r'⟩) hok hg
theorem Inv.turned {t' : Nat} {it : Addr} (I : Inv X pins σ H s) (k : ∀ b o, b ≠ it → s.heap.get? b = some o → h'.get? b = some o) (hn : H it = none) (hL : it ≠ X.env.locals)
    (h1 : it ∈ X.ex ∨ X.s₀.heap.objs.size ≤ it) (h2 : ∀ x c, X.env.cells.lookup x = some c → c ≠ it) (h3 : ∀ p ∈ X.pn ++ pins, p.1 ≠ it) : Inv X pins σ H { s with heap := h', toks := t' } := by
  have nit : ∀ b u, H b = some u → b ≠ it := fun b u e z => by rw [z, hn] at e; cases e
  refine I.step (g' := s.gens) (d' := s.drawn) (ch := [it]) (fun b hb => ?_) (fun b o _ _ hc e _ => k b o (fun z => hc (by simp [z])) e) (fun b o _ _ hc e _ => ⟨o.slots, k b o (fun z => hc (by simp [z])) e⟩) (fun _ _ _ _ n => n)
    (fun b o hc e => ⟨o, k b o (fun z => hc (by simp [z])) e⟩) (fun _ _ e => e) (fun _ _ _ e => e) (fun b ps e => ⟨#[], by rw [e]; simp⟩) (fun m hm => ?_) (fun b u e => ?_) I.bare
  · have e : b = it := by simpa using hb
    subst e
    exact ⟨h1, hL, h2, h3⟩
  · obtain ⟨o, es, ep, ho, r⟩ := hm
    exact ⟨o, es, ep, k _ o (Ne.symm hL) ho, r⟩
  · refine (I.hok b u e).stay (fun c v hc q => k c v ?_ q) (fun _ q => q) fun _ _ q => q
    rcases hc with z | z
    · rw [z]; exact nit b u e
    · exact nit c _ z
theorem Inv.tok (I : Inv X pins σ H s) (t : Nat) : Inv X pins σ H { s with toks := t } := I.un (h' := s.heap) (t' := t) Un.refl I.hok
theorem Inv.kept {t' : Nat} (I : Inv X pins σ H s) (k : ∀ b u, s.heap.get? b = some u → h'.get? b = some u) : Inv X pins σ H { s with heap := h', toks := t' } := I.un (Un.kept k) (I.hok.kept k)
theorem Inv.laid {a : Addr} {o : HO} {t' : Nat} (I : Inv X pins σ H s) (k : ∀ b u, s.heap.get? b = some u → h'.get? b = some u) (hp : s.heap.objs.size ≤ a) (new : ObjOk X.prog X.w (upd H a o) h' a o) :
    Inv X pins σ (upd H a o) { s with heap := h', toks := t' } := I.un (Un.laid k hp (I.hok.fresh hp)) (I.hok.laid k hp new)
theorem Inv.write {x e : Addr} {o : HO} {t' : Nat} (I : Inv X pins σ H s) (mu : Mut (H x)) (he : e = x ∨ H e = some (.own x)) (k : ∀ b u, b ≠ e → s.heap.get? b = some u → h'.get? b = some u) (heo : ∃ u, h'.get? e = some u)
    (new : ObjOk X.prog X.w (upd H x o) h' x o) : Inv X pins σ (upd H x o) { s with heap := h', toks := t' } := I.un (Un.write mu he k heo) (I.hok.write mu he k heo new)
theorem Inv.pins_of {pins' : List (Addr × Obj)} (I : Inv X pins σ H s) (h : ∀ p ∈ pins', s.heap.get? p.1 = some p.2 ∧ H p.1 = none ∧ p.1 ≠ X.env.locals ∧ p.1 ∉ X.fs ∧ ∀ v, p.2.data ≠ .cell v) : Inv X pins' σ H s :=
  ⟨I.ok, I.os, I.bare, I.base, I.loc, I.cell, I.free, I.freeC, fun p hp => (List.mem_append.mp hp).elim (fun z => I.pin p (List.mem_append_left _ z)) (h p), I.hok, I.len, I.kn⟩
theorem nodup_ix {N : List Str} (hN : N.Nodup) {i j : Nat} {x : Str} (a : N[i]? = some x) (b : N[j]? = some x) : i = j := by
  obtain ⟨h1, e1⟩ := List.getElem?_eq_some_iff.mp a
  obtain ⟨h2, e2⟩ := List.getElem?_eq_some_iff.mp b
  exact (List.getElem_inj hN).mp (e1.trans e2.symm)
theorem store_ok2 {M : Model} {A : Around} {E : Value → Shared → Prop} {i : Nat} {x : Str} {v : V} {u : Value} {Q : Unit → Shared → Prop} (I : Inv X pins σ H s) (hN : X.N.Nodup) (hi : X.N[i]? = some x) (hx : Loc X.env.scope x) (r : RelV v u)
    (h : ∀ s', Inv X pins (σ.set i (some v)) H s' → (∃ a, Heap.SameBut a s.heap s'.heap ∧ (a = X.env.locals ∨ X.env.cells.lookup x = some a)) → Q () s') (hf : X.fn x = true ∨ X.env.scope.names.lookup x = some .local := by first | exact .inl rfl | exact .inr rfl | assumption) (hkn : ∀ u : V, X.kn[i]? ≠ some (some u) := by first | assumption | exact fun u h => nomatch (show (none : Option (Option V)) = some (some u) from h) | exact fun u h => nomatch (Option.some.inj (show some (none : Option V) = some (some u) from h))) : wpAny M A (storeName X.env x u) Q E s := by
  obtain ⟨m, hn, hl⟩ := id I.loc
  have hcls : (X.env.scope.kind == .class || (X.env.scope.kind == .module && X.env.locals != X.env.globals)) = false := by rw [I.ok.kind]; rfl
  have hiσ : i < σ.length := by rw [I.len]; exact (List.getElem?_eq_some_iff.mp hi).1
  have cne := I.cne
  have kn' : ∀ (j : Nat) (v' : V), X.kn[j]? = some (some v') → (σ.set i (some v))[j]? = some (some v') := fun j v' e => by
    by_cases hj : j = i
    · subst hj; exact absurd e (hkn v')
    · rw [List.getElem?_set_ne (Ne.symm hj)]; exact I.kn j v' e
  have tracked : ∀ {a : Addr} {h' : Heap}, (∃ o, s.heap.get? a = some o ∧ H a = none) → Heap.SameBut a s.heap h' → HOk X.prog X.w H h' := fun {a h'} ha hs b ob e => by
    obtain ⟨_, _, hfree⟩ := ha
    refine (I.hok b ob e).stay (fun c w' hc q => (hs.2 c ?_).trans q) (fun _ q => q) fun _ _ q => q
    rintro rfl
    rcases hc with rfl | hc
    · rw [hfree] at e; cases e
    · rw [hfree] at hc; cases hc
  rcases hx with hk | hk
  · refine wpAny_storeName_local hk hn (fun h' hn' hs => ?_) hcls
    obtain ⟨oL, _, _, hoL, _⟩ := id hn
    refine h _ ⟨I.ok, I.os, I.bare, ⟨fun b o e n hb hx => ?_, fun b o e n hb hx => ?_, I.base.free, fun b o e hx => ?_, I.base.tups, I.base.frzs, I.base.tbls⟩, ⟨_, hn', fun j y v' e1 e2 e3 => ?_⟩, fun y c e => ?_, I.free, I.freeC, fun p hp => ?_, tracked ⟨oL, hoL, I.free⟩ hs, by simpa using I.len, kn'⟩ ⟨_, hs, .inl rfl⟩
    · exact (hs.2 b (Nat.ne_of_lt (Nat.lt_of_lt_of_le (Heap.lt_size e) I.ok.above))).trans (I.base.keep b o e n hb hx)
    · obtain ⟨sl, e1⟩ := I.base.slot b o e n hb hx
      exact ⟨sl, (hs.2 b (Nat.ne_of_lt (Nat.lt_of_lt_of_le (Heap.lt_size e) I.ok.above))).trans e1⟩
    · obtain ⟨o', e1⟩ := I.base.there b o e hx
      exact ⟨o', (hs.2 b (Nat.ne_of_lt (Nat.lt_of_lt_of_le (Heap.lt_size e) I.ok.above))).trans e1⟩
    · by_cases hj : j = i
      · subst hj
        rw [hi] at e1; cases e1
        rw [List.getElem?_set_self hiσ] at e2
        cases e2
        exact ⟨u, r, .inl ⟨hk, by simp⟩⟩
      · rw [List.getElem?_set_ne (Ne.symm hj)] at e2
        obtain ⟨u', r', q⟩ := hl j y v' e1 e2 e3
        refine ⟨u', r', ?_⟩
        rcases q with ⟨k, e⟩ | ⟨k, c, e, z⟩
        · refine .inl ⟨k, ?_⟩
          have : y ≠ x := fun e => hj (nodup_ix hN e1 (e ▸ hi))
          simp [this, e]
        · exact .inr ⟨k, c, e, z.sameBut hs (cne y c e)⟩
    · obtain ⟨w', z⟩ := I.cell y c e
      exact ⟨w', z.sameBut hs (cne y c e)⟩
    · obtain ⟨e, n, ne, nf, d⟩ := I.pin p hp
      exact ⟨(hs.2 p.1 ne).trans e, n, ne, nf, d⟩
  · have hfn : X.fn x = true := by
      rcases hf with z | z
      · exact z
      · rw [z] at hk; cases hk
    obtain ⟨c, hc⟩ := I.ok.has x (.inl hk)
    obtain ⟨w', z⟩ := I.cell x c hc
    refine wpAny_storeName_cell I.ok.kind hk hc z (fun h' hc' hs => ?_)
    obtain ⟨oc, hoc, hocd⟩ := id z
    refine h { s with heap := h' } ⟨I.ok, I.os, I.bare, ⟨fun b o e n hb hx => ?_, fun b o e n hb hx => ?_, I.base.free, fun b o e hx => ?_, I.base.tups, I.base.frzs, I.base.tbls⟩, ⟨m, hn.sameBut hs (Ne.symm (cne x c hc)), fun j y v' e1 e2 e3 => ?_⟩, fun y c' e => ?_, I.free, I.freeC, fun p hp => ?_, tracked ⟨oc, hoc, I.freeC x c hc⟩ hs, by simpa using I.len, kn'⟩ ⟨c, hs, .inr hc⟩
    · exact (hs.2 b (Nat.ne_of_lt (Nat.lt_of_lt_of_le (Heap.lt_size e) (I.ok.cab x c hfn hc)))).trans (I.base.keep b o e n hb hx)
    · obtain ⟨sl, e1⟩ := I.base.slot b o e n hb hx
      exact ⟨sl, (hs.2 b (Nat.ne_of_lt (Nat.lt_of_lt_of_le (Heap.lt_size e) (I.ok.cab x c hfn hc)))).trans e1⟩
    · obtain ⟨o', e1⟩ := I.base.there b o e hx
      exact ⟨o', (hs.2 b (Nat.ne_of_lt (Nat.lt_of_lt_of_le (Heap.lt_size e) (I.ok.cab x c hfn hc)))).trans e1⟩
    · by_cases hj : j = i
      · subst hj
        rw [hi] at e1; cases e1
        rw [List.getElem?_set_self hiσ] at e2
        cases e2
        exact ⟨u, r, .inr ⟨.inl hk, c, hc, hc'⟩⟩
      · rw [List.getElem?_set_ne (Ne.symm hj)] at e2
        obtain ⟨u', r', q⟩ := hl j y v' e1 e2 e3
        refine ⟨u', r', ?_⟩
        rcases q with q | ⟨k, c', e, z'⟩
        · exact .inl q
        · refine .inr ⟨k, c', e, z'.sameBut hs ?_⟩
          rintro rfl
          exact hj (nodup_ix hN e1 (I.ok.inj _ _ _ e hc ▸ hi))
    · by_cases hcc : c' = c
      · subst hcc; exact ⟨_, hc'⟩
      · obtain ⟨w2, z2⟩ := I.cell y c' e
        exact ⟨w2, z2.sameBut hs hcc⟩
    · obtain ⟨e, n, ne, nf, d⟩ := I.pin p hp
      refine ⟨(hs.2 p.1 ?_).trans e, n, ne, nf, d⟩
      intro q
      rw [q, hoc] at e
      have q' : oc = p.2 := Option.some.inj e
      exact d w' (by rw [← q']; exact hocd)
theorem store_ok {M : Model} {A : Around} {E : Value → Shared → Prop} {i : Nat} {x : Str} {v : V} {u : Value} {Q : Unit → Shared → Prop} (I : Inv X pins σ H s) (hN : X.N.Nodup) (hi : X.N[i]? = some x) (hx : Loc X.env.scope x) (r : RelV v u)
    (h : ∀ s', Inv X pins (σ.set i (some v)) H s' → Q () s') (hf : X.fn x = true ∨ X.env.scope.names.lookup x = some .local := by first | exact .inl rfl | exact .inr rfl | assumption) (hkn : ∀ u : V, X.kn[i]? ≠ some (some u) := by first | assumption | exact fun u h => nomatch (show (none : Option (Option V)) = some (some u) from h) | exact fun u h => nomatch (Option.some.inj (show some (none : Option V) = some (some u) from h))) : wpAny M A (storeName X.env x u) Q E s :=
  store_ok2 I hN hi hx r (fun s' I' _ => h s' I') hf hkn
theorem Inv.call' {s' : Shared} {ch : List Addr} (I : Inv X pins σ H s) (ho : s'.os = s.os) (u : Un (frs X.stack) ch H H' s.heap s'.heap) (hok : HOk X.prog X.w H' s'.heap) (hg : AllBare s'.gens)
    (hch : ∀ b ∈ ch, (b ∈ X.ex ∨ X.s₀.heap.objs.size ≤ b) ∧ b ≠ X.env.locals ∧ (∀ x c, X.env.cells.lookup x = some c → c ≠ b) ∧ ∀ p ∈ X.pn ++ pins, p.1 ≠ b) : Inv X pins σ H' s' := by
  obtain ⟨h', g', d', t', o'⟩ := s'
  have e : o' = s.os := ho
  subst e
  exact I.call (g' := g') (t' := t') (d' := d') u hok hg hch
end
abbrev XK := Value → Option Addr → Hp → Prop
abbrev St := List (Option V)
abbrev VK := V → Hp → Prop
abbrev TE := St → Hp → VK → Prop
abbrev TT := St → Hp → (Bool → Hp → Prop) → Prop
abbrev TA := St → Hp → (List V → Hp → Prop) → Prop
structure Ends where
  nx : St → Hp → Prop
  rt : VK
  bk : St → Hp → Prop := fun _ _ => False
  ct : St → Hp → Prop := fun _ _ => False
abbrev TS := Ends → St → Hp → Prop
def EP (X : Cx) (pins : List (Addr × Obj)) (σ : St) (Q : VK) (u : Value) (s' : Shared) : Prop := ∃ v H', Inv X pins σ H' s' ∧ RelV v u ∧ Q v H'
def TP (X : Cx) (pins : List (Addr × Obj)) (σ : St) (Q : Bool → Hp → Prop) (b : Bool) (s' : Shared) : Prop := ∃ H', Inv X pins σ H' s' ∧ Q b H'
def AP (X : Cx) (pins : List (Addr × Obj)) (σ : St) (Q : List V → Hp → Prop) (us : List Value) (s' : Shared) : Prop := ∃ vs H', Inv X pins σ H' s' ∧ Vals vs us ∧ Q vs H'
def SP (X : Cx) (pins : List (Addr × Obj)) (D : Ends) (f : Flow) (s' : Shared) : Prop :=
  match f with
  | .next => ∃ σ' H', Inv X pins σ' H' s' ∧ D.nx σ' H'
  | .brk => ∃ σ' H', Inv X pins σ' H' s' ∧ D.bk σ' H'
  | .cont => ∃ σ' H', Inv X pins σ' H' s' ∧ D.ct σ' H'
  | .ret u => ∃ v σ' H', Inv X pins σ' H' s' ∧ RelV v u ∧ D.rt v H'
def PE (X : Cx) (e : Expr) (t : TE) : Prop :=
  ∀ (pins : List (Addr × Obj)) (s : Shared) (σ : St) (H : Hp) (Q : VK), Inv X pins σ H s → t σ H Q → wpAny (model X.prog X.w) X.A (eval e X.env) (EP X pins σ Q) X.xe s
def PT (X : Cx) (e : Expr) (t : TT) : Prop :=
  ∀ (pins : List (Addr × Obj)) (s : Shared) (σ : St) (H : Hp) (Q : Bool → Hp → Prop), Inv X pins σ H s → t σ H Q → wpAny (model X.prog X.w) X.A (isTrue e X.env (eval e X.env)) (TP X pins σ Q) X.xe s
def PW (X : Cx) (e : Expr) (t : TT) : Prop :=
  ∀ (whole : Sem Value) (pins : List (Addr × Obj)) (s : Shared) (σ : St) (H : Hp) (Q : Bool → Hp → Prop), Inv X pins σ H s → t σ H Q → wpAny (model X.prog X.w) X.A (isTrue e X.env whole) (TP X pins σ Q) X.xe s
theorem PW.pt {X : Cx} {e : Expr} {t : TT} (h : PW X e t) : PT X e t := h _
def PA (X : Cx) (es : List Expr) (t : TA) : Prop :=
  ∀ (pos : Pos) (pins : List (Addr × Obj)) (s : Shared) (σ : St) (H : Hp) (Q : List V → Hp → Prop), Inv X pins σ H s → t σ H Q → wpAny (model X.prog X.w) X.A (spliced (backTo pos (starEach es X.env))) (AP X pins σ Q) X.xe s
def PS (X : Cx) (st : Stmt) (t : TS) : Prop :=
  ∀ (pins : List (Addr × Obj)) (s : Shared) (σ : St) (H : Hp) (D : Ends), Inv X pins σ H s → t D σ H → wpAny (model X.prog X.w) X.A (exec st X.env) (SP X pins D) X.xe s
def PSs (X : Cx) (st : List Stmt) (t : TS) : Prop :=
  ∀ (pins : List (Addr × Obj)) (s : Shared) (σ : St) (H : Hp) (D : Ends), Inv X pins σ H s → t D σ H → wpAny (model X.prog X.w) X.A (execs st X.env) (SP X pins D) X.xe s
theorem thn {α : Type} {t : Sem α} {Q Q' : α → Shared → Prop} {M : Model} {A : Around} {E : Value → Shared → Prop} {s : Shared} (h : wpAny M A t Q E s) (hQ : ∀ a s, Q a s → Q' a s) : wpAny M A t Q' E s := wpAny_mono h hQ fun _ _ x => x
end L2
namespace L2
open PySem PySem.Spec PyProof.Rows
section
variable {X : Cx}
def tVar (i : Nat) : TE := fun σ H Q => ∃ v, σ[i]? = some (some v) ∧ Q v H
def tC (v : V) : TE := fun _ H Q => Q v H
theorem pe_var {i : Nat} {x : Str} {pos : Pos} (hN : X.N[i]? = some x) (hv : Vis X.env.scope x) (hd : (x == ("__debug__" : Str)) = false := by decide) (hcd : (x == ("__classdict__" : Str)) = false := by decide) : PE X (.Name x pos) (tVar i) := by
  intro pins s σ H Q I h
  obtain ⟨v, e, h⟩ := h
  obtain ⟨m, hn, hl⟩ := I.loc
  obtain ⟨u, r, l⟩ := hl i x v hN e hv
  have fin : EP X pins σ Q u s := ⟨v, H, I, r, h⟩
  rcases l with ⟨hk, hm⟩ | ⟨hk, c, hc, hcell⟩
  · exact wpAny_Name (wpAny_loadName_local I.ok.kind hk hn hm fin) hd
  · rcases hk with hk | hk
    · exact wpAny_Name (wpAny_loadName_cell I.ok.kind hk hc hcell fin) hd
    · exact wpAny_Name (wpAny_loadName_free I.ok.kind hk hc hcell fin hcd) hd
theorem pe_int {i j pos} : PE X (.Constant (.int i) j pos) (tC (.int i)) := fun _ _ _ H _ I h => wpAny_Constant_int ⟨.int i, H, I.tok _, ⟨_, rfl⟩, h⟩
theorem pe_bl {b j pos} : PE X (.Constant (.bool b) j pos) (tC (.bl b)) := fun _ _ _ H _ I h => Constant_bool ⟨.bl b, H, I, rfl, h⟩
theorem pe_non {j pos} : PE X (.Constant .none j pos) (tC .non) := fun _ _ _ H _ I h => Constant_none ⟨.non, H, I, rfl, h⟩
theorem pe_str {x j pos} : PE X (.Constant (.str x) j pos) (tC (.str x)) := fun _ _ _ H _ I h => Calls.Constant_str ⟨.str x, H, I.tok _, ⟨_, rfl⟩, h⟩
def Gl (X : Cx) (x : Str) : Prop := X.env.kindOf x = some .globalImplicit
theorem ld_glob {E : Value → Shared → Prop} {pins : List (Addr × Obj)} {s : Shared} {σ : St} {H : Hp} {x : Str} {u : Value} {pos : Pos} {Q : Value → Shared → Prop} (I : Inv X pins σ H s) (hg : Gl X x) (hm : X.mg x = some u) (h : Q u s)
    (hd : (x == ("__debug__" : Str)) = false := by decide) : wpAny (model X.prog X.w) X.A (eval (.Name x pos) X.env) Q E s :=
  Calls.Name_function_global I.ok.kind hg (Calls.loadGlobal_global (by rw [I.ok.glob]; exact I.mod.glob.keeps I.bk) hm h) hd
theorem ld_blt {E : Value → Shared → Prop} {pins : List (Addr × Obj)} {s : Shared} {σ : St} {H : Hp} {x : Str} {u : Value} {pos : Pos} {Q : Value → Shared → Prop} (I : Inv X pins σ H s) (hg : Gl X x) (hm : X.mg x = none) (hv : bootBuiltins x = some u) (h : Q u s)
    (hn : x ≠ "__name__" := by decide) (hd : (x == ("__debug__" : Str)) = false := by decide) : wpAny (model X.prog X.w) X.A (eval (.Name x pos) X.env) Q E s := by
  obtain ⟨mb, h1, h2⟩ := I.mod.blt
  exact Calls.Name_function_global I.ok.kind hg (Calls.loadGlobal_builtin (by rw [I.ok.glob]; exact I.mod.glob.keeps I.bk) hm (by rw [I.ok.blt]; exact h1.keeps I.bk) ((h2 x hn).trans hv) h) hd
theorem pe_glob {x : Str} {v : V} {u : Value} {pos : Pos} (hg : Gl X x) (hm : X.mg x = some u) (r : RelV v u) (hd : (x == ("__debug__" : Str)) = false := by decide) : PE X (.Name x pos) (tC v) :=
  fun _ _ _ H _ I h => ld_glob I hg hm ⟨v, H, I, r, h⟩ hd
theorem pe_bltn {x : Str} {v : V} {u : Value} {pos : Pos} (hg : Gl X x) (hm : X.mg x = none) (hv : bootBuiltins x = some u) (r : RelV v u) (hn : x ≠ "__name__" := by decide) (hd : (x == ("__debug__" : Str)) = false := by decide) : PE X (.Name x pos) (tC v) :=
  fun _ _ _ H _ I h => ld_blt I hg hm hv ⟨v, H, I, r, h⟩ hn hd
variable {a b : Expr} {ta tb : TE} {pos : Pos}
def PC (X : Cx) (op : CmpOp) (a b : Expr) (t : TE) : Prop :=
  ∀ (pins : List (Addr × Obj)) (s : Shared) (σ : St) (H : Hp) (Q : VK), Inv X pins σ H s → t σ H Q →
    wpAny (model X.prog X.w) X.A (eval a X.env) (fun v s₁ => wpAny (model X.prog X.w) X.A (eval b X.env) (fun u s₂ => wpAny (model X.prog X.w) X.A (compareOp op v u) (EP X pins σ Q) X.xe s₂) X.xe s₁) X.xe s
theorem nobehind (b : Expr) {op : CmpOp} (h : op ≠ .In) (h2 : op ≠ .NotIn) : behindInMarks op b = false := by
  have e1 : (op == CmpOp.In) = false := by cases op <;> first | rfl | exact absurd rfl h
  have e2 : (op == CmpOp.NotIn) = false := by cases op <;> first | rfl | exact absurd rfl h2
  cases b <;> simp [behindInMarks, e1, e2]
def tB (t : TE) : TT := fun σ H Q => t σ H fun x H1 => ∃ c, x = .bl c ∧ Q c H1
theorem pt_cmp {op : CmpOp} {t : TE} (h : PC X op a b t) (h1 : behindInMarks op b = false := by first | exact nobehind _ (by decide) (by decide) | rfl) : PT X (.Compare a [op] [b] pos) (tB t) := by
  intro pins s σ H Q I hw
  refine wpAny_isTrue_Compare1 (thn (h pins s σ H _ I hw) fun v s1 h1 => thn h1 fun u s2 h2 => thn h2 fun c s3 ⟨x, H1, I1, r1, q1⟩ => ?_) h1
  obtain ⟨d, rfl, q⟩ := q1
  cases r1
  exact wpAny_truthy_bool ⟨H1, I1, q⟩
variable {tA tB' : TT} {rest : List Expr}
def tOr (t u : TT) : TT := fun σ H Q => t σ H fun c H1 => if c = true then Q true H1 else u σ H1 Q
def tNot (t : TT) : TT := fun σ H Q => t σ H fun c H1 => Q (!c) H1
theorem pw_or1 (ha : PT X a tA) : PW X (.BoolOp .Or [a] pos) tA := by
  intro wh pins s σ H Q I h
  refine isTrue_or (thn (ha pins s σ H Q I h) fun c s1 e => ?_)
  cases c with
  | false => exact isTrue_or_nil e
  | true => exact e
theorem pw_or (ha : PT X a tA) (hb : PW X (.BoolOp .Or (b :: rest) pos) tB') : PW X (.BoolOp .Or (a :: b :: rest) pos) (tOr tA tB') := by
  intro wh pins s σ H Q I h
  refine isTrue_or (thn (ha pins s σ H _ I h) fun c s1 ⟨H1, I1, q1⟩ => ?_)
  cases c with
  | true => exact ⟨H1, I1, q1⟩
  | false => exact hb wh pins s1 σ H1 Q I1 q1
theorem pt_not (ha : PT X a tA) : PT X (.UnaryOp .Not a pos) (tNot tA) := by
  intro pins s σ H Q I h
  exact isTrue_not (ha pins s σ H (fun c H1 => Q (!c) H1) I h)
def tAndV (ta tb : TE) : TE := fun σ H Q => ta σ H fun x H1 => ∃ c, x = .bl c ∧ if c = true then tb σ H1 Q else Q (.bl false) H1
theorem pe_one {op} {t : TE} (h : PE X a t) : PE X (.BoolOp op [a] pos) t := fun pins s σ H Q I hw => BoolOp_one (h pins s σ H Q I hw)
theorem pe_and (ha : PE X a ta) (hb : PE X (.BoolOp .And (b :: rest) pos) tb) : PE X (.BoolOp .And (a :: b :: rest) pos) (tAndV ta tb) := by
  intro pins s σ H Q I h
  refine BoolOp_and (thn (ha pins s σ H _ I h) fun v s1 ⟨x, H1, I1, r1, q1⟩ => ?_)
  obtain ⟨c, rfl, q1⟩ := q1
  cases r1
  refine wpAny_truthy_bool ?_
  cases c with
  | true => exact hb pins s1 σ H1 Q I1 q1
  | false => exact ⟨.bl false, H1, I1, rfl, q1⟩
def tIf (t : TT) (ta tb : TE) : TE := fun σ H Q => t σ H fun c H1 => if c = true then ta σ H1 Q else tb σ H1 Q
theorem pe_ifExp {c : Expr} (hc : PT X c tA) (ha : PE X a ta) (hb : PE X b tb) : PE X (.IfExp c a b pos) (tIf tA ta tb) := by
  intro pins s σ H Q I h
  refine wpAny_IfExp (thn (hc pins s σ H _ I h) fun d s1 ⟨H1, I1, q1⟩ => ?_)
  cases d with
  | true => exact ha pins s1 σ H1 Q I1 q1
  | false => exact hb pins s1 σ H1 Q I1 q1
end
end L2
namespace L2
open PySem PySem.Spec PyProof.Rows
def SqL (K : PySem.W.Frag) (H : Hp) (a : Addr) (xs : List V) : Prop :=
  Rd H a (.lst xs) ∨
    ∃ (o : Obj) (its : Array Value) (n : Nat), K.lookup a = some o ∧ o.cls = .type "list" ∧ o.dict = none ∧ o.data = .seq its n ∧ its.size ≤ sizeLine ∧ Vals xs its.toList
def SqT (K : PySem.W.Frag) (H : Hp) (a : Addr) (xs : List V) : Prop :=
  Rd H a (.tup xs) ∨
    ∃ (o : Obj) (its : Array Value) (n : Nat), K.lookup a = some o ∧ o.cls = .type "tuple" ∧ o.data = .seq its n ∧ its.size ≤ sizeLine ∧ Vals xs its.toList
def absV : Value → Option V
  | .none => some .non
  | .bool b => some (.bl b)
  | .int i _ => some (.int i)
  | .str x _ => some (.str x)
  | .bytes b _ => some (.byt b)
  | .float b _ => some (.flt b)
  | .ref a => some (.ref a)
  | .type n => some (.ty n)
  | _ => none
theorem RelV.abs {x : V} {u : Value} (r : RelV x u) : absV u = some x := by
  cases x with
  | non => cases r; rfl
  | bl _ => cases r; rfl
  | int _ => obtain ⟨t, rfl⟩ := r; rfl
  | str _ => obtain ⟨t, rfl⟩ := r; rfl
  | byt _ => obtain ⟨t, rfl⟩ := r; rfl
  | flt _ => obtain ⟨t, rfl⟩ := r; rfl
  | ref _ => cases r; rfl
  | ty _ => cases r; rfl
theorem RelV.inj {x y : V} {u : Value} (r : RelV x u) (q : RelV y u) : x = y := Option.some.inj (r.abs.symm.trans q.abs)
theorem Vals.inj : ∀ {xs ys : List V} {us : List Value}, Vals xs us → Vals ys us → xs = ys
  | _, _, _, .nil, .nil => rfl
  | _, _, _, .cons r t, .cons r' t' => by rw [r.inj r', Vals.inj t t']
section
variable {X : Cx} {pins : List (Addr × Obj)} {σ : St} {H : Hp} {s : Shared} {a : Addr} {xs ys : List V}
theorem Inv.list (I : Inv X pins σ H s) (h : SqL X.K H a xs) : ∃ its : List Value, Vals xs its ∧ PlainL s.heap a its.toArray ∧ xs.length ≤ sizeLine := by
  rcases h with h | ⟨o, its, n, hk, hc, hd, hs, hz, r⟩
  · obtain ⟨z, its, n, r, e⟩ := h.ok I.hok
    exact ⟨its, r, ⟨_, n, e, rfl, rfl, rfl⟩, z⟩
  · refine ⟨its.toList, r, ⟨o, n, I.kIn a o hk, hc, hd, by simpa using hs⟩, ?_⟩
    have e := r.length
    simp only [Array.length_toList] at e
    omega
theorem Inv.tuple (I : Inv X pins σ H s) (h : SqT X.K H a xs) : ∃ its : List Value, Vals xs its ∧ IsTup s.heap a its.toArray ∧ xs.length ≤ sizeLine := by
  rcases h with h | ⟨o, its, n, hk, hc, hs, hz, r⟩
  · obtain ⟨z, its, r, p⟩ := h.ok I.hok
    exact ⟨its, r, p, z⟩
  · refine ⟨its.toList, r, ⟨o, I.kIn a o hk, hc, n, by simpa using hs⟩, ?_⟩
    have e := r.length
    simp only [Array.length_toList] at e
    omega
theorem Inv.list_inj (I : Inv X pins σ H s) (h : SqL X.K H a xs) (h' : SqL X.K H a ys) : xs = ys := by
  obtain ⟨its, r, ⟨o, n, e, _, _, d⟩, _⟩ := I.list h
  obtain ⟨its', r', ⟨o', n', e', _, _, d'⟩, _⟩ := I.list h'
  rw [e] at e'; cases e'
  rw [d] at d'
  injection d' with d1 _
  have : its = its' := by simpa using congrArg Array.toList d1
  subst this
  exact r.inj r'
end
abbrev Cx.wish (X : Cx) (E : Value → Shared → Prop) : Cx := { X with xe := E }
abbrev Cx.nox (X : Cx) : Cx := X.wish fun _ _ => False
theorem Cx.Ok.wish {X : Cx} (ok : X.Ok) (E : Value → Shared → Prop) : (X.wish E).Ok :=
  ⟨ok.mod, ok.kind, ok.glob, ok.blt, ok.above, ok.inj, ok.has, ok.cab, ok.hd, ok.frames, ok.stk, ok.exf, ok.bs, ok.bsz, ok.noex, ok.exfs, ok.funs, ok.frf⟩
theorem Cx.Ok.unwish {X : Cx} {E : Value → Shared → Prop} (ok : (X.wish E).Ok) : X.Ok :=
  ⟨ok.mod, ok.kind, ok.glob, ok.blt, ok.above, ok.inj, ok.has, ok.cab, ok.hd, ok.frames, ok.stk, ok.exf, ok.bs, ok.bsz, ok.noex, ok.exfs, ok.funs, ok.frf⟩
section
variable {X : Cx} {pins : List (Addr × Obj)} {σ : St} {H : Hp} {s : Shared} {E : Value → Shared → Prop}
theorem Inv.wish (I : Inv X pins σ H s) (E : Value → Shared → Prop) : Inv (X.wish E) pins σ H s := ⟨I.ok.wish E, I.os, I.bare, I.base, I.loc, I.cell, I.free, I.freeC, I.pin, I.hok, I.len, I.kn⟩
theorem Inv.unwish (I : Inv (X.wish E) pins σ H s) : Inv X pins σ H s := ⟨I.ok.unwish, I.os, I.bare, I.base, I.loc, I.cell, I.free, I.freeC, I.pin, I.hok, I.len, I.kn⟩
theorem SP.unwish {D : Ends} {f : Flow} {s' : Shared} (h : SP (X.wish E) pins D f s') : SP X pins D f s' := by
  cases f with
  | next => obtain ⟨σ', H', I, q⟩ := h; exact ⟨σ', H', I.unwish, q⟩
  | brk => obtain ⟨σ', H', I, q⟩ := h; exact ⟨σ', H', I.unwish, q⟩
  | cont => obtain ⟨σ', H', I, q⟩ := h; exact ⟨σ', H', I.unwish, q⟩
  | ret u => obtain ⟨v, σ', H', I, r, q⟩ := h; exact ⟨v, σ', H', I.unwish, r, q⟩
theorem PE.nox {e : Expr} {t : TE} (h : PE X.nox e t) : PE X e t := fun pins s σ H Q I hw =>
  wpAny_mono (h pins s σ H Q (I.wish _) hw) (fun _ _ ⟨v, H', I', r, q⟩ => ⟨v, H', I'.unwish, r, q⟩) fun _ _ z => False.elim z
theorem PT.nox {e : Expr} {t : TT} (h : PT X.nox e t) : PT X e t := fun pins s σ H Q I hw =>
  wpAny_mono (h pins s σ H Q (I.wish _) hw) (fun _ _ ⟨H', I', q⟩ => ⟨H', I'.unwish, q⟩) fun _ _ z => False.elim z
theorem PSs.nox {st : List Stmt} {t : TS} (h : PSs X.nox st t) : PSs X st t := fun pins s σ H D I hw =>
  wpAny_mono (h pins s σ H D (I.wish _) hw) (fun _ _ q => q.unwish) fun _ _ z => False.elim z
end
section
variable {X : Cx} {st : Stmt} {rest : List Stmt} {t u : TS} {e : Expr} {te : TE} {pos : Pos}
def tNext : TS := fun D σ H => D.nx σ H
def tSeq (t u : TS) : TS := fun D σ H => t { D with nx := u D } σ H
theorem pss_nil : PSs X [] tNext := fun _ _ σ H _ I h => wpAny_execs_nil ⟨σ, H, I, h⟩
theorem pss_cons (h1 : PS X st t) (h2 : PSs X rest u) : PSs X (st :: rest) (tSeq t u) := by
  intro pins s σ H D I h
  refine wpAny_execs_cons (thn (h1 pins s σ H { D with nx := u D } I h) fun f s1 q => ?_)
  cases f with
  | next =>
    obtain ⟨σ', H', I', q⟩ := q
    exact h2 pins s1 σ' H' D I' q
  | ret v => exact q
  | brk => exact q
  | cont => exact q
theorem pss_one (h1 : PS X st t) : PSs X [st] t := by
  intro pins s σ H D I h
  refine wpAny_execs_cons (thn (h1 pins s σ H D I h) fun f s1 q => ?_)
  cases f with
  | next => exact wpAny_execs_nil q
  | ret v => exact q
  | brk => exact q
  | cont => exact q
theorem Inv.quiet {pins : List (Addr × Obj)} {σ : St} {H : Hp} {s : Shared} (I : Inv X pins σ H s) : interactive X.env = false := by simp [interactive, I.ok.kind]
def tDrop (te : TE) : TS := fun D σ H => te σ H fun _ H1 => D.nx σ H1
theorem ps_expr (he : PE X e te) (hs : swapsWith e none pos.line X.env = pure false := by rfl) : PS X (.Expr e pos) (tDrop te) := by
  intro pins s σ H D I h
  exact wpAny_Expr_any (thn (he pins s σ H _ I h) fun v s1 ⟨x, H1, I1, r1, q1⟩ => ⟨σ, H1, I1, q1⟩) I.quiet hs
def tRet (te : TE) : TS := fun D σ H => te σ H D.rt
theorem ps_ret (he : PE X e te) : PS X (.Return (some e) pos) (tRet te) := by
  intro pins s σ H D I h
  exact wpAny_Return_some (thn (he pins s σ H _ I h) fun v s1 ⟨x, H1, I1, r1, q1⟩ => ⟨x, σ, H1, I1, r1, q1⟩)
def tIfS (c : TT) (t u : TS) : TS := fun D σ H => c σ H fun b H1 => if b = true then t D σ H1 else u D σ H1
theorem ps_if {c : Expr} {a b : List Stmt} {tc : TT} (hc : PT X c tc) (ha : PSs X a t) (hb : PSs X b u) : PS X (.If c a b pos) (tIfS tc t u) := by
  intro pins s σ H D I h
  refine wpAny_If (thn (hc pins s σ H _ I h) fun d s1 ⟨H1, I1, q1⟩ => ?_)
  cases d with
  | true => exact ha pins s1 σ H1 D I1 q1
  | false => exact hb pins s1 σ H1 D I1 q1
end
abbrev TG := V → St → Hp → (St → Hp → Prop) → Prop
def PG (X : Cx) (target : Expr) (t : TG) : Prop :=
  ∀ (pins : List (Addr × Obj)) (s : Shared) (σ : St) (H : Hp) (v : V) (u : Value) (Q : St → Hp → Prop), Inv X pins σ H s → RelV v u → t v σ H Q →
    wpAny (model X.prog X.w) X.A (assign target X.env u) (fun _ s' => ∃ σ' H', Inv X pins σ' H' s' ∧ Q σ' H') X.xe s
section
variable {X : Cx} {pos : Pos}
def gName (i : Nat) : TG := fun v σ H Q => Q (σ.set i (some v)) H
theorem pg_name {i : Nat} {x : Str} (hN : X.N.Nodup) (hi : X.N[i]? = some x) (hx : Loc X.env.scope x) (hf : X.fn x = true ∨ X.env.scope.names.lookup x = some .local := by first | exact .inl rfl | exact .inr rfl | assumption) (hkn : ∀ u : V, X.kn[i]? ≠ some (some u) := by first | assumption | exact fun u h => nomatch (show (none : Option (Option V)) = some (some u) from h) | exact fun u h => nomatch (Option.some.inj (show some (none : Option V) = some (some u) from h))) : PG X (.Name x pos) (gName i) := by
  intro pins s σ H v u Q I r h
  exact wpAny_assign_Name (store_ok I hN hi hx r (fun s' I' => ⟨_, H, I', h⟩) hf hkn)
def tAsg (te : TE) (g : TG) : TS := fun D σ H => te σ H fun x H1 => g x σ H1 D.nx
theorem ps_set {i : Nat} {x : Str} {e : Expr} {te : TE} {pos' : Pos} (hN : X.N.Nodup) (hi : X.N[i]? = some x) (hx : Loc X.env.scope x) (he : PE X e te) (hs : swapsWith e (some (.Name x pos')) pos.line X.env = pure false := by rfl) (hf : X.fn x = true ∨ X.env.scope.names.lookup x = some .local := by first | exact .inl rfl | exact .inr rfl | assumption) (hkn : ∀ u : V, X.kn[i]? ≠ some (some u) := by first | assumption | exact fun u h => nomatch (show (none : Option (Option V)) = some (some u) from h) | exact fun u h => nomatch (Option.some.inj (show some (none : Option V) = some (some u) from h))) :
    PS X (.Assign [.Name x pos'] e pos) (tAsg te (gName i)) := by
  intro pins s σ H D I h
  refine wpAny_Assign_Name (thn (he pins s σ H _ I h) fun v s1 ⟨y, H1, I1, r1, q1⟩ => ?_) hs
  exact store_ok I1 hN hi hx r1 (fun s2 I2 => ⟨_, H1, I2, q1⟩) hf hkn
end
section
variable {X : Cx} {pos : Pos}
end
structure It where
  go : Nat → Hp → Prop
  yld : Nat → Hp → V → Hp → Prop
  stop : Nat → Hp → Prop
def FpOk (X : Cx) (pins : List (Addr × Obj)) (H : Hp) (b : Addr) : Prop :=
  H b = none ∧ b ≠ X.env.locals ∧ b ∉ X.fs ∧ (b ∈ X.ex ∨ X.s₀.heap.objs.size ≤ b) ∧ (∀ x c, X.env.cells.lookup x = some c → c ≠ b) ∧ ∀ p ∈ X.pn ++ pins, p.1 ≠ b
theorem Inv.fpOk {X : Cx} {pins : List (Addr × Obj)} {σ : St} {H H' : Hp} {s : Shared} {b : Addr} (I : Inv X pins σ H s) (hb : s.heap.objs.size ≤ b) (hn : H' b = none) : FpOk X pins H' b := by
  refine ⟨hn, Nat.ne_of_gt (Nat.lt_of_lt_of_le I.lt hb), I.nofs hb, .inr (Nat.le_trans I.sz hb), fun x c e z => ?_, fun p hp z => ?_⟩
  · obtain ⟨v, q⟩ := I.cell x c e
    exact absurd (Nat.lt_of_lt_of_le q.lt (by rw [z]; exact hb)) (Nat.lt_irrefl _)
  · exact absurd (Nat.lt_of_lt_of_le (Heap.lt_size (I.pin p hp).1) (by rw [z]; exact hb)) (Nat.lt_irrefl _)
structure Turn (P : Program) (w : World) (K : PySem.W.Frag) (tg : Expr) (J : It) (fp : List Addr) (it : Addr) (tn : Nat → Heap → Prop) : Prop where
  mem : it ∈ fp
  obj : ∀ i h, tn i h → ∀ b ∈ fp, ∃ o, h.get? b = some o ∧ ∀ v, o.data ≠ .cell v
  keep : ∀ i h h', tn i h → (∀ b ∈ fp, ∀ o, h.get? b = some o → h'.get? b = some o) → tn i h'
  item : ∀ (X : Cx), X.prog = P → X.w = w → X.K = K → X.calm = true → ∀ (i : Nat) (pins : List (Addr × Obj)) (s : Shared) (σ : St) (H : Hp) (E : Value → Shared → Prop), Inv X pins σ H s → (∀ b ∈ fp, FpOk X pins H b) → tn i s.heap → J.go i H →
    wpAny (model P w) X.A (pyNext (.ref it)) (fun r s1 => ∃ u, r = some u ∧
      wpAny (model P w) X.A (letOwnedTupleGo tg (.ref it) u) (fun _ s2 => ∃ x H', Inv X pins σ H' s2 ∧ RelV x u ∧ J.yld i H x H' ∧ tn (i + 1) s2.heap ∧ ∀ b ∈ fp, H' b = none) E s1) E s
  done : ∀ (X : Cx), X.prog = P → X.w = w → X.K = K → X.calm = true → ∀ (i : Nat) (pins : List (Addr × Obj)) (s : Shared) (σ : St) (H : Hp) (E : Value → Shared → Prop), Inv X pins σ H s → (∀ b ∈ fp, FpOk X pins H b) → tn i s.heap → J.stop i H →
    wpAny (model P w) X.A (pyNext (.ref it)) (fun r s1 => r = none ∧ Inv X pins σ H s1) E s
  self : ∀ (A : Around) (i : Nat) (s : Shared) (Q : Value → Shared → Prop) (E : Value → Shared → Prop), tn i s.heap → Q (.ref it) s → wpAny (model P w) A (pyIter (.ref it)) Q E s
abbrev TI := St → Hp → (It → Hp → Prop) → Prop
def PIE (X : Cx) (pins : List (Addr × Obj)) (σ : St) (tg : Expr) (R : It → Hp → Prop) (itv : Value) (s2 : Shared) : Prop :=
  ∃ (it : Addr) (fp : List Addr) (tn : Nat → Heap → Prop) (J : It) (H' : Hp), itv = .ref it ∧ Inv X pins σ H' s2 ∧ Turn X.prog X.w X.K tg J fp it tn ∧ tn 0 s2.heap ∧ (∀ b ∈ fp, FpOk X pins H' b) ∧ R J H'
def PI (X : Cx) (tg iter : Expr) (wi : TI) : Prop :=
  ∀ (pins : List (Addr × Obj)) (s : Shared) (σ : St) (H : Hp) (R : It → Hp → Prop), Inv X pins σ H s → wi σ H R →
    wpAny (model X.prog X.w) X.A (eval iter X.env) (fun v s1 => wpAny (model X.prog X.w) X.A (pyIter v) (PIE X pins σ tg R) X.xe s1) X.xe s
theorem go_of {M : Model} {A : Around} {E : Value → Shared → Prop} {s : Shared} {tg : Expr} {it : Addr} {u : Value} {o : Obj} {n : String} {vs : Array Value} {Q : Unit → Shared → Prop} (ho : s.heap.get? it = some o) (hc : o.cls = .type n) (hd : o.data = .fields vs)
    (hn : ["enumerate", "zip", "dict_itemiterator", "dict_reverseitemiterator", "odict_iterator", "itertools.zip_longest", "itertools.pairwise"].contains n = false) (hQ : Q () s) : wpAny M A (letOwnedTupleGo tg (.ref it) u) Q E s := by
  unfold letOwnedTupleGo
  cases tg <;> first
    | exact wpAny_pure hQ
    | (cases u <;> first
        | exact wpAny_pure hQ
        | (refine wpAny_bind (wpAny_load ho ?_)
           rw [hc, hd]
           show wpAny M A (if (["enumerate", "zip", "dict_itemiterator", "dict_reverseitemiterator", "odict_iterator", "itertools.zip_longest", "itertools.pairwise"].contains n && vs[0]? == some (rawInt _)) = true then _ else _) Q E s
           rw [if_neg (by intro h; rw [hn, Bool.false_and] at h; cases h)]
           exact wpAny_pure hQ))
def Itl (K : PySem.W.Frag) (a : Addr) : It :=
  ⟨fun i H => ∃ xs x, SqL K H a xs ∧ xs[i]? = some x, fun i H x H' => H' = H ∧ ∀ xs, SqL K H a xs → xs[i]? = some x, fun i H => ∃ xs, SqL K H a xs ∧ xs.length ≤ i⟩
def Itr (lo : Int) (n : Nat) : It := ⟨fun i _ => i < n, fun i H x H' => H' = H ∧ x = .int (lo + i), fun i _ => n ≤ i⟩
theorem turn_list {P : Program} {w : World} {K : PySem.W.Frag} {tg : Expr} (a it : Addr) : Turn P w K tg (Itl K a) [it] it (fun i h => h.IsListIter it a i) where
  mem := by simp
  obj := fun i h st b hb => by
    have e : b = it := by simpa using hb
    subst e
    obtain ⟨o, e, c, d⟩ := st
    exact ⟨o, e, fun v z => by rw [d] at z; cases z⟩
  keep := fun i h h' st k => st.at fun o e => k it (by simp) o e
  item := by
    intro X hP hw hK hc i pins s σ H E I hf st hg
    subst hP hw hK
    obtain ⟨xs, x, hq, hx⟩ := hg
    obtain ⟨its, rv, p, hz⟩ := I.list hq
    obtain ⟨u, hu, ru⟩ := rv.get hx
    obtain ⟨f0, f1, f2, f3, f4, f5⟩ := hf it (by simp)
    refine wpAny_pyNext_list_item st p.isList (x := u) (by simpa using hu) fun h' st' sb => ?_
    have I1 : Inv X pins σ H { s with heap := h' } := I.turned (t' := s.toks) (fun b o hb e => (sb.2 b hb).trans e) f0 f1 f3 f4 f5
    obtain ⟨o, e, c, d⟩ := id st'
    exact ⟨u, rfl, go_of (s := { s with heap := h' }) e c d (by decide) ⟨x, H, I1, ru, ⟨rfl, fun ys hy => by rw [I.list_inj hy hq]; exact hx⟩, st', fun b hb => (hf b hb).1⟩⟩
  done := by
    intro X hP hw hK hc i pins s σ H E I hf st hg
    subst hP hw hK
    obtain ⟨xs, hq, hx⟩ := hg
    obtain ⟨its, rv, p, hz⟩ := I.list hq
    obtain ⟨f0, f1, f2, f3, f4, f5⟩ := hf it (by simp)
    have hl := rv.length
    exact wpAny_pyNext_list_end (I.ok.hd hc) st p.isList (by simp; omega) fun h' eb => ⟨rfl, I.turned (t' := s.toks) (fun b o hb e => eb b o hb e) f0 f1 f3 f4 f5⟩
  self := fun _ _ _ _ _ st h => wpAny_pyIter_listiter st h
theorem turn_range {P : Program} {w : World} {K : PySem.W.Frag} {tg : Expr} (it : Addr) (lo : Int) (n : Nat) : Turn P w K tg (Itr lo n) [it] it (fun i h => IsRangeIter h it (lo + (i : Nat) * 1) ((n : Int) - (i : Nat)) 1) where
  mem := by simp
  obj := fun i h st b hb => by
    have e : b = it := by simpa using hb
    subst e
    exact ⟨_, st, fun v z => by
      have z' : Data.fields _ = Data.cell v := z
      cases z'⟩
  keep := fun i h h' st k => k it (by simp) _ st
  item := by
    intro X hP hw hK hc i pins s σ H E I hf st hg
    subst hP hw hK
    obtain ⟨f0, f1, f2, f3, f4, f5⟩ := hf it (by simp)
    have W := Walks.range (prog := X.prog) (w := X.w) (I.ok.hd hc) it lo 1 n
    refine W.item i s _ _ hg st fun v h' tk hv st' kk => ?_
    obtain ⟨t, rfl⟩ := hv
    have I1 : Inv X pins σ H { s with heap := h', toks := tk } := I.turned (fun b o hb e => kk b o (by simpa using hb) e) f0 f1 f3 f4 f5
    refine ⟨_, rfl, go_of (s := { s with heap := h', toks := tk }) (n := "range_iterator") st' rfl rfl (by decide) ⟨.int (lo + i), H, I1, ⟨t, ?_⟩, ⟨rfl, rfl⟩, st', fun b hb => (hf b hb).1⟩⟩
    rw [Int.mul_one]
  done := by
    intro X hP hw hK hc i pins s σ H E I hf st hg
    subst hP hw hK
    obtain ⟨f0, f1, f2, f3, f4, f5⟩ := hf it (by simp)
    exact wpAny_pyNext_range_end (I.ok.hd hc) st (by have : n ≤ i := hg; omega) fun h' eb => ⟨rfl, I.turned (t' := s.toks) (fun b o hb e => eb b o hb e) f0 f1 f3 f4 f5⟩
  self := fun _ _ _ _ _ st h => wpAny_pyIter_rangeiter st h
end L2
namespace L2
open PySem PySem.Spec PyProof.Rows
section
variable {X : Cx} {tg : Expr}
def iList (K : PySem.W.Frag) (tl : TE) : TI := fun σ H R => tl σ H fun x H1 => ∃ a, x = .ref a ∧ (∃ xs, SqL K H1 a xs) ∧ R (Itl K a) H1
theorem pi_list {l : Expr} {tl : TE} (hl : PE X l tl) : PI X tg l (iList X.K tl) := by
  intro pins s σ H R I h
  refine thn (hl pins s σ H _ I h) fun v s1 ⟨x, H1, I1, r1, q1⟩ => ?_
  obtain ⟨a, e, ⟨xs, hq⟩, q⟩ := q1
  subst e
  cases r1
  obtain ⟨its, rv, p, hz⟩ := I1.list hq
  refine wpAny_pyIter_list p.isList ?_
  refine ⟨s1.heap.objs.size, [s1.heap.objs.size], _, _, H1, rfl, I1.kept (t' := s1.toks) fun b o e => Heap.get?_push_of_some _ e, turn_list a _, ⟨_, Heap.get?_push_size _ rfl, rfl, rfl⟩, fun b hb => ?_, q⟩
  have e : b = s1.heap.objs.size := by simpa using hb
  subst e
  exact I1.fpOk (Nat.le_refl _) (I1.hok.fresh (Nat.le_refl _))
theorem range_it {pins : List (Addr × Obj)} {σ : St} {H : Hp} {s : Shared} {R : It → Hp → Prop} {E : Value → Shared → Prop} {lo hi : Int} {t u v : Tok} {tk : Nat} (I : Inv X pins σ H s) (h1 : -(2 ^ 62) ≤ lo) (h2 : lo < 2 ^ 62) (h3 : -(2 ^ 62) ≤ hi) (h4 : hi < 2 ^ 62)
    (q : R (Itr lo (hi - lo).toNat) H) : wpAny (model X.prog X.w) X.A (pyIter (.ref s.heap.objs.size)) (PIE X pins σ tg R) E { s with heap := s.heap.push { cls := .type "range", data := .fields #[.int lo t, .int hi u, .int 1 v] }, toks := tk } := by
  refine wpAny_pyIter_range (IsRange.new ..) (small_one h1 h2 h3 h4) ?_
  have I1 : Inv X pins σ H { s with heap := s.heap.push { cls := .type "range", data := .fields #[.int lo t, .int hi u, .int 1 v] }, toks := tk } := I.kept fun b o e => Heap.get?_push_of_some _ e
  refine ⟨(s.heap.push { cls := .type "range", data := .fields #[.int lo t, .int hi u, .int 1 v] }).objs.size, [(s.heap.push { cls := .type "range", data := .fields #[.int lo t, .int hi u, .int 1 v] }).objs.size], _, _, H, rfl,
    I1.kept (t' := tk) fun b o e => Heap.get?_push_of_some _ e, turn_range _ lo (hi - lo).toNat, ?_, fun b hb => ?_, q⟩
  · have e1 : lo + ((0 : Nat) : Int) * 1 = lo := by simp
    have e2 : (((hi - lo).toNat : Nat) : Int) - ((0 : Nat) : Int) = Builtin.Range.rangeSize lo hi 1 := by rw [rangeSize_one]; split <;> omega
    show IsRangeIter _ _ (lo + ((0 : Nat) : Int) * 1) ((((hi - lo).toNat : Nat) : Int) - ((0 : Nat) : Int)) 1
    rw [e1, e2]
    exact Heap.get?_push_size _ rfl
  · have e : b = (s.heap.push { cls := .type "range", data := .fields #[.int lo t, .int hi u, .int 1 v] }).objs.size := by simpa using hb
    subst e
    exact I1.fpOk (Nat.le_refl _) (I1.hok.fresh (Nat.le_refl _))
def iRng1 (ta : TA) : TI := fun σ H R => ta σ H fun vs H1 => ∃ j : Int, vs = [.int j] ∧ -(2 ^ 62) ≤ j ∧ j < 2 ^ 62 ∧ R (Itr 0 j.toNat) H1
theorem pi_range1 {a : Expr} {ta : TA} {p pos : Pos} (hg : Gl X "range") (hm : X.mg "range" = none) (ha : PA X [a] ta) (hs : starEach [a] X.env = [(false, eval a X.env)] := by rfl) : PI X tg (.Call (.Name "range" p) [a] [] pos) (iRng1 ta) := by
  intro pins s σ H R I h
  refine Call_ (ld_blt I hg hm boot_range (PyProof.Rows.callWith_type1 (thn (ha pos pins s σ H _ I h) fun us s1 ⟨vs, H1, I1, r1, q1⟩ => ?_) hs rfl))
  obtain ⟨j, e, q1, q2, q⟩ := q1
  subst e
  cases r1 with
  | cons r rr =>
    cases rr
    obtain ⟨t, rfl⟩ := r
    exact call_range_1 (range_it I1 (by omega) (by omega) q1 q2 (by simpa using q))
def tFor (wi : TI) (g : TG) (tb : TS) : TS := fun D σ H => wi σ H fun J H1 => ∃ W : Nat → Nat → St → Hp → Prop, (∃ m, W 0 m σ H1) ∧ ∀ i m σ H, W i m σ H →
  (J.stop i H ∧ D.nx σ H) ∨ (J.go i H ∧ ∃ N : St → Hp → Prop, (∀ σ' H', N σ' H' → ∃ m', m' < m ∧ W (i + 1) m' σ' H') ∧ ∀ x H', J.yld i H x H' → g x σ H' fun σ2 H2 => tb { D with nx := N, ct := N, bk := D.nx } σ2 H2)
def pinsAt (fp : List Addr) (h : Heap) : List (Addr × Obj) := fp.filterMap fun b => (h.get? b).map fun o => (b, o)
theorem mem_pinsAt {fp : List Addr} {h : Heap} {b : Addr} {o : Obj} (hb : b ∈ fp) (e : h.get? b = some o) : (b, o) ∈ pinsAt fp h := List.mem_filterMap.mpr ⟨b, hb, by rw [e]; rfl⟩
theorem of_pinsAt {fp : List Addr} {h : Heap} {p : Addr × Obj} (hp : p ∈ pinsAt fp h) : p.1 ∈ fp ∧ h.get? p.1 = some p.2 := by
  obtain ⟨b, hb, e⟩ := List.mem_filterMap.mp hp
  cases q : h.get? b with
  | none => rw [q] at e; cases e
  | some o =>
    rw [q] at e
    have e' : (b, o) = p := Option.some.inj e
    subst e'
    exact ⟨hb, q⟩
theorem Inv.pinned {pins : List (Addr × Obj)} {σ : St} {H : Hp} {s : Shared} {fp : List Addr} (I : Inv X pins σ H s) (hf : ∀ b ∈ fp, FpOk X pins H b) (ho : ∀ b ∈ fp, ∃ o, s.heap.get? b = some o ∧ ∀ v, o.data ≠ .cell v) : Inv X (pins ++ pinsAt fp s.heap) σ H s :=
  I.pins_of fun p hp => (List.mem_append.mp hp).elim (fun z => I.pin p (List.mem_append_right _ z)) fun z => by
    obtain ⟨hb, e⟩ := of_pinsAt z
    obtain ⟨f0, f1, f2, _⟩ := hf p.1 hb
    obtain ⟨o, e', d⟩ := ho p.1 hb
    rw [e] at e'; cases e'
    exact ⟨e, f0, f1, f2, d⟩
theorem Inv.unpinned {pins pl : List (Addr × Obj)} {σ : St} {H : Hp} {s : Shared} (I : Inv X (pins ++ pl) σ H s) : Inv X pins σ H s := I.pins_of fun p hp => I.pin p (List.mem_append_right _ (List.mem_append_left _ hp))
theorem ps_for {iter : Expr} {body : List Stmt} {wi : TI} {g : TG} {tb : TS} {pos : Pos} (hp : PassesOwn (model X.prog X.w) X.A X.env X.xe) (hc : X.calm = true) (hi : PI X tg iter wi) (hg : PG X tg g) (hb : PSs X body tb)
    (hs : ∀ x, foldedSetIterable iter X.env x = pure x := by intro _; rfl) : PS X (.For tg iter body [] pos) (tFor wi g tb) := by
  intro pins s σ H D I h
  refine wpAny_For (thn (hi pins s σ H _ I h) fun v s1 h1 => thn h1 fun itv s2 h2 => ?_) hs
  obtain ⟨it, fp, tn, J, H2, e, I2, T, st2, f2, W, ⟨m0, w0⟩, turn⟩ := h2
  subst e
  have stat : ∀ {H' : Hp}, (∀ b ∈ fp, H' b = none) → ∀ b ∈ fp, FpOk X pins H' b := fun hn b hb => ⟨hn b hb, (f2 b hb).2⟩
  refine codeAny_forLoop_any (fun n s' => ∃ i σ' H', Inv X pins σ' H' s' ∧ tn i s'.heap ∧ (∀ b ∈ fp, H' b = none) ∧ W i n σ' H') ?_ m0 ⟨0, σ, H2, I2, st2, fun b hb => (f2 b hb).1, w0⟩
  rintro n s3 ⟨i, σ3, H3, I3, st3, fr3, w3⟩
  rcases turn i n σ3 H3 w3 with ⟨stop, qn⟩ | ⟨go, N, hN, step⟩
  · refine wpAny_passesOwn hp (thn (T.done X rfl rfl rfl hc i pins s3 σ3 H3 X.xe I3 (stat fr3) st3 stop) fun r s4 ⟨hr, I4⟩ => ?_)
    subst hr
    exact wpAny_execs_nil ⟨σ3, H3, I4, qn⟩
  · refine wpAny_passesOwn hp (thn (T.item X rfl rfl rfl hc i pins s3 σ3 H3 X.xe I3 (stat fr3) st3 go) fun r s4 ⟨u, hr, h4⟩ => ?_)
    subst hr
    refine wpAny_passesOwn hp (thn h4 fun _ s5 ⟨x, H5, I5, r5, y5, st5, fr5⟩ => ?_)
    have I5' := I5.pinned (stat fr5) (T.obj _ _ st5)
    refine wpAny_passesOwn hp (thn (hg _ s5 σ3 H5 x u _ I5' r5 (step x H5 y5)) fun _ s6 ⟨σ6, H6, I6, q6⟩ => ?_)
    refine wpAny_passesOwn hp (thn (hb _ s6 σ6 H6 _ I6 q6) fun f s7 q7 => ?_)
    have again : ∀ {σ7 : St} {H7 : Hp}, Inv X (pins ++ pinsAt fp s5.heap) σ7 H7 s7 → N σ7 H7 → ∃ m, m < n ∧ ∃ i σ' H', Inv X pins σ' H' s7 ∧ tn i s7.heap ∧ (∀ b ∈ fp, H' b = none) ∧ W i m σ' H' := fun {σ7 H7} I7 n7 => by
      obtain ⟨m', hm, w7⟩ := hN σ7 H7 n7
      refine ⟨m', hm, i + 1, σ7, H7, I7.unpinned, T.keep _ _ _ st5 fun b hb o e => (I7.pin (b, o) (List.mem_append_right _ (List.mem_append_right _ (mem_pinsAt hb e)))).1, fun b hb => ?_, w7⟩
      obtain ⟨o, e, d⟩ := T.obj _ _ st5 b hb
      exact (I7.pin (b, o) (List.mem_append_right _ (List.mem_append_right _ (mem_pinsAt hb e)))).2.1
    cases f with
    | next => obtain ⟨σ7, H7, I7, n7⟩ := q7; exact again I7 n7
    | cont => obtain ⟨σ7, H7, I7, n7⟩ := q7; exact again I7 n7
    | brk => obtain ⟨σ7, H7, I7, q7⟩ := q7; exact ⟨σ7, H7, I7.unpinned, q7⟩
    | ret v => obtain ⟨x7, σ7, H7, I7, r7, q7⟩ := q7; exact ⟨x7, σ7, H7, I7.unpinned, r7, q7⟩
end
end L2
namespace L2
open PySem PySem.Spec PyProof.Rows
abbrev R2 := V → V → Hp → VK → Prop
def OpR (X : Cx) (f : Value → Value → Sem Value) (r : R2) : Prop :=
  ∀ (pins : List (Addr × Obj)) (s : Shared) (σ : St) (H : Hp) (x y : V) (v u : Value) (Q : VK), Inv X pins σ H s → RelV x v → RelV y u → r x y H Q →
    wpAny (model X.prog X.w) X.A (f v u) (EP X pins σ Q) X.xe s
def CallR (X : Cx) (f : Value) (r : List V → Hp → VK → Prop) : Prop :=
  ∀ (pins : List (Addr × Obj)) (s : Shared) (σ : St) (H : Hp) (xs : List V) (us : List Value) (Q : VK), Inv X pins σ H s → Vals xs us → r xs H Q →
    wpAny (model X.prog X.w) X.A (call f us) (EP X pins σ Q) X.xe s
def TruR (X : Cx) (r : V → Hp → (Bool → Hp → Prop) → Prop) : Prop :=
  ∀ (pins : List (Addr × Obj)) (s : Shared) (σ : St) (H : Hp) (x : V) (v : Value) (Q : Bool → Hp → Prop), Inv X pins σ H s → RelV x v → r x H Q →
    wpAny (model X.prog X.w) X.A (truthy v) (TP X pins σ Q) X.xe s
def tOp (r : R2) (ta tb : TE) : TE := fun σ H Q => ta σ H fun x H1 => tb σ H1 fun y H2 => r x y H2 Q
def rI (C : Int → Int → Prop) (g : Int → Int → V) : R2 := fun x y H Q => ∃ i j, x = .int i ∧ y = .int j ∧ C i j ∧ Q (g i j) H
def rI0 (g : Int → Int → V) : R2 := fun x y H Q => ∃ i j, x = .int i ∧ y = .int j ∧ Q (g i j) H
section
variable {X : Cx} {a b c : Expr} {ta tb tc : TE} {pos : Pos}
theorem binT (ha : PE X a ta) (hb : PE X b tb) {pins : List (Addr × Obj)} {s : Shared} {σ : St} {H : Hp} {R : V → V → Hp → Prop} (I : Inv X pins σ H s)
    (h : ta σ H fun x H1 => tb σ H1 fun y H2 => R x y H2) {Q : Value → Shared → Prop} {f : Value → Value → Sem Value}
    (hf : ∀ v u s2 x y H2, Inv X pins σ H2 s2 → RelV x v → RelV y u → R x y H2 → wpAny (model X.prog X.w) X.A (f v u) Q X.xe s2) :
    wpAny (model X.prog X.w) X.A (eval a X.env) (fun v s₁ => wpAny (model X.prog X.w) X.A (eval b X.env) (fun u s₂ => wpAny (model X.prog X.w) X.A (f v u) Q X.xe s₂) X.xe s₁) X.xe s := by
  refine thn (ha pins s σ H _ I h) fun v s1 ⟨x, H1, I1, r1, q1⟩ => ?_
  refine thn (hb pins s1 σ H1 _ I1 q1) fun u s2 ⟨y, H2, I2, r2, q2⟩ => ?_
  exact hf v u s2 x y H2 I2 r1 r2 q2
theorem pe_op {op : Operator} {r : R2} (ho : OpR X (binaryOp op) r) (ha : PE X a ta) (hb : PE X b tb) : PE X (.BinOp a op b pos) (tOp r ta tb) := by
  intro pins s σ H Q I h
  exact wpAny_BinOp (binT ha hb I h fun v u s2 x y H2 I2 rx ry q => ho pins s2 σ H2 x y v u Q I2 rx ry q)
theorem opI {f : Value → Value → Sem Value} {C : Int → Int → Prop} {g : Int → Int → Int}
    (rule : ∀ (i j : Int) (t u : Tok) (s : Shared) (Q : Value → Shared → Prop) (E : Value → Shared → Prop), C i j → Q (.int (g i j) s.toks) { s with toks := s.toks + 1 } → wpAny (model X.prog X.w) X.A (f (.int i t) (.int j u)) Q E s) :
    OpR X f (rI C fun i j => .int (g i j)) := by
  intro pins s σ H x y v u Q I rx ry h
  obtain ⟨i, j, rfl, rfl, hc, q⟩ := h
  obtain ⟨t, rfl⟩ := rx
  obtain ⟨t', rfl⟩ := ry
  exact rule i j t t' s _ _ hc ⟨.int (g i j), H, I.tok _, ⟨_, rfl⟩, q⟩
theorem opI0 {f : Value → Value → Sem Value} {g : Int → Int → Int}
    (rule : ∀ (i j : Int) (t u : Tok) (s : Shared) (Q : Value → Shared → Prop) (E : Value → Shared → Prop), Q (.int (g i j) s.toks) { s with toks := s.toks + 1 } → wpAny (model X.prog X.w) X.A (f (.int i t) (.int j u)) Q E s) :
    OpR X f (rI0 fun i j => .int (g i j)) := by
  intro pins s σ H x y v u Q I rx ry h
  obtain ⟨i, j, rfl, rfl, q⟩ := h
  obtain ⟨t, rfl⟩ := rx
  obtain ⟨t', rfl⟩ := ry
  exact rule i j t t' s _ _ ⟨.int (g i j), H, I.tok _, ⟨_, rfl⟩, q⟩
theorem opB0 {f : Value → Value → Sem Value} {g : Int → Int → Bool}
    (rule : ∀ (i j : Int) (t u : Tok) (s : Shared) (Q : Value → Shared → Prop) (E : Value → Shared → Prop), Q (.bool (g i j)) s → wpAny (model X.prog X.w) X.A (f (.int i t) (.int j u)) Q E s) :
    OpR X f (rI0 fun i j => .bl (g i j)) := by
  intro pins s σ H x y v u Q I rx ry h
  obtain ⟨i, j, rfl, rfl, q⟩ := h
  obtain ⟨t, rfl⟩ := rx
  obtain ⟨t', rfl⟩ := ry
  exact rule i j t t' s _ _ ⟨.bl (g i j), H, I, rfl, q⟩
def CDiv (i j : Int) : Prop := 0 < j ∧ j < 1073741824
def CPow (i j : Int) : Prop := 0 ≤ j ∧ j ≤ 1000000 ∧ i.natAbs < 2 ^ 64
def CMul (i j : Int) : Prop := (-(2 ^ 64) < i ∧ i < 2 ^ 64) ∨ (-(2 ^ 64) < j ∧ j < 2 ^ 64)
theorem CMul.ok {i j : Int} (h : CMul i j) : IntMulOk i j := by
  rcases h with ⟨h1, h2⟩ | ⟨h1, h2⟩
  · exact .of_left (intBits_le_64 h1 h2)
  · exact .of_right (intBits_le_64 h1 h2)
theorem op_add : OpR X (binaryOp .Add) (rI0 fun i j => .int (i + j)) := opI0 fun _ _ _ _ _ _ _ q => add_int q
theorem op_sub : OpR X (binaryOp .Sub) (rI0 fun i j => .int (i - j)) := opI0 fun _ _ _ _ _ _ _ q => sub_int q
theorem op_mul : OpR X (binaryOp .Mult) (rI CMul fun i j => .int (i * j)) := opI fun _ _ _ _ _ _ _ hc q => mul_int q hc.ok
theorem op_fdiv : OpR X (binaryOp .FloorDiv) (rI CDiv fun i j => .int (i / j)) := opI fun i j _ _ _ _ _ hc q => by
  have h1 : (0 : Int) < j := hc.1
  have h2 : j < 1073741824 := hc.2
  exact floordiv_int (by omega) (by rw [Int.fdiv_eq_ediv_of_nonneg i (by omega)]; exact q) (.inl (PyProof.noPylong_small (by omega)))
theorem op_mod : OpR X (binaryOp .Mod) (rI (fun _ j => 0 < j) fun i j => .int (i % j)) := opI fun i j _ _ _ _ _ hc q => by
  have h1 : (0 : Int) < j := hc
  exact mod_int' (by omega) (by rw [Int.fmod_eq_emod_of_nonneg i (by omega)]; exact q)
theorem op_pow : OpR X (binaryOp .Pow) (rI CPow fun i j => .int (i ^ j.toNat)) := opI fun _ _ _ _ _ _ _ hc q => pow_int_small hc.1 hc.2.1 hc.2.2 q
end
def scal : V → V → Bool
  | .non, .non => true | .non, .int _ => true | .int _, .non => true | .non, .bl _ => true | .bl _, .non => true | .non, .str _ => true | .str _, .non => true
  | .int _, .int _ => true | .bl _, .bl _ => true | .str _, .str _ => true | .byt _, .byt _ => true
  | .int _, .str _ => true | .str _, .int _ => true | .bl _, .str _ => true | .str _, .bl _ => true
  | _, _ => false
def rEq : R2 := fun x y H Q => scal x y = true ∧ Q (.bl (decide (x = y))) H
def rNe : R2 := fun x y H Q => scal x y = true ∧ Q (.bl (!decide (x = y))) H
theorem dec_int {i j : Int} : decide (V.int i = V.int j) = (i == j) := by
  rw [Bool.eq_iff_iff]
  simp
theorem dec_bl {i j : Bool} : decide (V.bl i = V.bl j) = (i == j) := by
  rw [Bool.eq_iff_iff]
  simp
theorem dec_str {i j : Str} : decide (V.str i = V.str j) = (i == j) := by
  rw [Bool.eq_iff_iff]
  simp
theorem dec_byt {i j : Array UInt8} : decide (V.byt i = V.byt j) = (i.toList == j.toList) := by
  rw [Bool.eq_iff_iff]
  cases i
  cases j
  simp
section
variable {X : Cx} {a b c : Expr} {ta tb tc : TE} {pos : Pos}
theorem fin_bl {pins : List (Addr × Obj)} {σ : St} {H : Hp} {s : Shared} {Q : VK} {k k' : Bool} (I : Inv X pins σ H s) (q : Q (.bl k) H) (e : k = k') : EP X pins σ Q (.bool k') s := by
  subst e
  exact ⟨.bl k, H, I, rfl, q⟩
theorem op_eq : OpR X (compareOp .Eq) rEq := by
  intro pins s σ H x y v u Q I rx ry h
  obtain ⟨hs, q⟩ := h
  cases x with
  | non =>
    cases rx
    cases y with
    | non => cases ry; exact PySem.EqNone.eq_none_none (fin_bl I q (by simp))
    | bl j => cases ry; exact PySem.EqNone.eq_none_bool (fin_bl I q (by simp))
    | int j => obtain ⟨t', rfl⟩ := ry; exact PySem.EqNone.eq_none_int (fin_bl I q (by simp))
    | str j => obtain ⟨t', rfl⟩ := ry; exact PySem.EqNone.eq_none_str (fin_bl I q (by simp))
    | _ => exact absurd (show false = true from hs) Bool.false_ne_true
  | bl i =>
    cases rx
    cases y with
    | non => cases ry; exact PySem.EqNone.eq_bool_none (fin_bl I q (by simp))
    | bl j => cases ry; exact eq_bool (fin_bl I q dec_bl)
    | str j => obtain ⟨t', rfl⟩ := ry; exact PySem.EqMixed.eq_bool_str (fin_bl I q (by simp))
    | _ => exact absurd (show false = true from hs) Bool.false_ne_true
  | int i =>
    obtain ⟨t, rfl⟩ := rx
    cases y with
    | non => cases ry; exact PySem.EqNone.eq_int_none (fin_bl I q (by simp))
    | int j => obtain ⟨t', rfl⟩ := ry; exact eq_int (fin_bl I q dec_int)
    | str j => obtain ⟨t', rfl⟩ := ry; exact PySem.EqMixed.eq_int_str (fin_bl I q (by simp))
    | _ => exact absurd (show false = true from hs) Bool.false_ne_true
  | str i =>
    obtain ⟨t, rfl⟩ := rx
    cases y with
    | non => cases ry; exact PySem.EqNone.eq_str_none (fin_bl I q (by simp))
    | bl j => cases ry; exact PySem.EqMixed.eq_str_bool (fin_bl I q (by simp))
    | int j => obtain ⟨t', rfl⟩ := ry; exact PySem.EqMixed.eq_str_int (fin_bl I q (by simp))
    | str j => obtain ⟨t', rfl⟩ := ry; exact eq_str (fin_bl I q dec_str)
    | _ => exact absurd (show false = true from hs) Bool.false_ne_true
  | byt i =>
    obtain ⟨t, rfl⟩ := rx
    cases y with
    | byt j => obtain ⟨t', rfl⟩ := ry; exact PySem.W.eq_bytes (fin_bl I q dec_byt)
    | _ => exact absurd (show false = true from hs) Bool.false_ne_true
  | _ => cases y <;> exact absurd (show false = true from hs) Bool.false_ne_true
theorem op_ne : OpR X (compareOp .NotEq) rNe := by
  intro pins s σ H x y v u Q I rx ry h
  obtain ⟨hs, q⟩ := h
  cases x with
  | non =>
    cases rx
    cases y with
    | non => cases ry; exact PySem.EqNone.ne_none_none (fin_bl I q (by simp))
    | bl j => cases ry; exact PySem.EqNone.ne_none_bool (fin_bl I q (by simp))
    | int j => obtain ⟨t', rfl⟩ := ry; exact PySem.EqNone.ne_none_int (fin_bl I q (by simp))
    | str j => obtain ⟨t', rfl⟩ := ry; exact PySem.EqNone.ne_none_str (fin_bl I q (by simp))
    | _ => exact absurd (show false = true from hs) Bool.false_ne_true
  | bl i =>
    cases rx
    cases y with
    | non => cases ry; exact PySem.EqNone.ne_bool_none (fin_bl I q (by simp))
    | bl j => cases ry; exact ne_bool (fin_bl I q (congrArg not dec_bl))
    | str j => obtain ⟨t', rfl⟩ := ry; exact PySem.EqMixed.ne_bool_str (fin_bl I q (by simp))
    | _ => exact absurd (show false = true from hs) Bool.false_ne_true
  | int i =>
    obtain ⟨t, rfl⟩ := rx
    cases y with
    | non => cases ry; exact PySem.EqNone.ne_int_none (fin_bl I q (by simp))
    | int j => obtain ⟨t', rfl⟩ := ry; exact ne_int (fin_bl I q (congrArg not dec_int))
    | str j => obtain ⟨t', rfl⟩ := ry; exact PySem.EqMixed.ne_int_str (fin_bl I q (by simp))
    | _ => exact absurd (show false = true from hs) Bool.false_ne_true
  | str i =>
    obtain ⟨t, rfl⟩ := rx
    cases y with
    | non => cases ry; exact PySem.EqNone.ne_str_none (fin_bl I q (by simp))
    | bl j => cases ry; exact PySem.EqMixed.ne_str_bool (fin_bl I q (by simp))
    | int j => obtain ⟨t', rfl⟩ := ry; exact PySem.EqMixed.ne_str_int (fin_bl I q (by simp))
    | str j => obtain ⟨t', rfl⟩ := ry; exact ne_str (fin_bl I q (congrArg not dec_str))
    | _ => exact absurd (show false = true from hs) Bool.false_ne_true
  | byt i =>
    obtain ⟨t, rfl⟩ := rx
    cases y with
    | byt j => obtain ⟨t', rfl⟩ := ry; exact PySem.W.ne_bytes (fin_bl I q (congrArg not dec_byt))
    | _ => exact absurd (show false = true from hs) Bool.false_ne_true
  | _ => cases y <;> exact absurd (show false = true from hs) Bool.false_ne_true
theorem op_lt : OpR X (compareOp .Lt) (rI0 fun i j => .bl (decide (i < j))) := opB0 fun _ _ _ _ _ _ _ q => lt_int q
theorem op_gt : OpR X (compareOp .Gt) (rI0 fun i j => .bl (decide (j < i))) := opB0 fun _ _ _ _ _ _ _ q => gt_int q
theorem op_ge : OpR X (compareOp .GtE) (rI0 fun i j => .bl (decide (j ≤ i))) := opB0 fun _ _ _ _ _ _ _ q => ge_int q
theorem op_isN : OpR X (compareOp .Is) (fun x y H Q => y = .non ∧ Q (.bl (decide (x = .non))) H) := by
  intro pins s σ H x y v u Q I rx ry h
  obtain ⟨rfl, q⟩ := h
  cases ry
  refine is_none_gen (fin_bl I q ?_)
  cases x <;> first
    | (cases rx; rfl)
    | (obtain ⟨t, rfl⟩ := rx; rfl)
theorem op_notN : OpR X (compareOp .IsNot) (fun x y H Q => y = .non ∧ Q (.bl (!decide (x = .non))) H) := by
  intro pins s σ H x y v u Q I rx ry h
  obtain ⟨rfl, q⟩ := h
  cases ry
  refine isnot_none_gen (fin_bl I q ?_)
  cases x <;> first
    | (cases rx; rfl)
    | (obtain ⟨t, rfl⟩ := rx; rfl)
theorem OpR.or {f : Value → Value → Sem Value} {r r' : R2} (h : OpR X f r) (h' : OpR X f r') : OpR X f (fun x y H Q => r x y H Q ∨ r' x y H Q) := by
  intro pins s σ H x y v u Q I rx ry q
  rcases q with q | q
  · exact h pins s σ H x y v u Q I rx ry q
  · exact h' pins s σ H x y v u Q I rx ry q
theorem nomark (b : Expr) {op : CmpOp} (h : op ≠ .In := by decide) (h2 : op ≠ .NotIn := by decide) : behindInMarks op b = false := by
  have e1 : (op == CmpOp.In) = false := by cases op <;> first | rfl | exact absurd rfl h
  have e2 : (op == CmpOp.NotIn) = false := by cases op <;> first | rfl | exact absurd rfl h2
  cases b <;> simp [behindInMarks, e1, e2]
theorem pe_cmpR {op : CmpOp} {r : R2} (ho : OpR X (compareOp op) r) (ha : PE X a ta) (hb : PE X b tb) (hm : behindInMarks op b = false) : PE X (.Compare a [op] [b] pos) (tOp r ta tb) := by
  intro pins s σ H Q I h
  exact wpAny_Compare1 (binT ha hb I h fun v u s2 x y H2 I2 rx ry q => ho pins s2 σ H2 x y v u Q I2 rx ry q) hm
def tTest (t : TE) : TT := fun σ H Q => t σ H fun x H' => ∃ k, x = .bl k ∧ Q k H'
theorem pt_cmpR {op : CmpOp} {r : R2} (ho : OpR X (compareOp op) r) (ha : PE X a ta) (hb : PE X b tb) (hm : behindInMarks op b = false) : PT X (.Compare a [op] [b] pos) (tTest (tOp r ta tb)) := by
  intro pins s σ H Q I h
  refine wpAny_isTrue_Compare1 (thn (ha pins s σ H _ I h) fun v s1 ⟨x, H1, I1, r1, q1⟩ => thn (hb pins s1 σ H1 _ I1 q1) fun u s2 ⟨y, H2, I2, r2, q2⟩ =>
    thn (ho pins s2 σ H2 x y v u _ I2 r1 r2 q2) fun c s3 ⟨z, H3, I3, r3, k, e, q3⟩ => ?_) hm
  subst e
  cases r3
  exact wpAny_truthy_bool ⟨H3, I3, q3⟩
def TruV (K : PySem.W.Frag) (x : V) (H : Hp) (k : Bool) : Prop :=
  match x with
  | .non => k = false
  | .bl b => k = b
  | .int i => k = (i != 0)
  | .str y => y.length ≤ sizeLine ∧ k = ((y.length : Int) != 0)
  | .byt y => y.size ≤ sizeLine ∧ k = ((y.size : Int) != 0)
  | .ref p => (∃ xs, SqL K H p xs ∧ k = !xs.isEmpty) ∨ (∃ xs, SqT K H p xs ∧ k = !xs.isEmpty) ∨ ∃ kvs, H p = some (.dK kvs) ∧ k = !kvs.isEmpty
  | _ => False
theorem isEmpty_kv {κ : Type} {kvs : List (κ × V)} {vs : List (κ × Value)} (r : KV kvs vs) : (!vs.isEmpty) = !kvs.isEmpty := by
  cases r <;> rfl
theorem isEmpty_of {xs : List V} {its : List Value} (r : Vals xs its) : (!its.toArray.isEmpty) = !xs.isEmpty := by
  cases r <;> simp
theorem line63 : (sizeLine : Nat) < 2 ^ 63 := by rw [sizeLine_eq]; decide
theorem tru_ok : TruR X (fun x H Q => ∃ k, TruV X.K x H k ∧ Q k H) := by
  intro pins s σ H x v Q I rx h
  obtain ⟨k, e, q⟩ := h
  have hl := line63
  have hs : sizeLine = 16777216 := sizeLine_eq
  cases x with
  | non =>
    cases rx
    have e' : k = false := e
    subst e'
    exact truthy_none ⟨H, I, q⟩
  | bl b =>
    cases rx
    have e' : k = b := e
    subst e'
    exact wpAny_truthy_bool ⟨H, I, q⟩
  | int i =>
    obtain ⟨t, rfl⟩ := rx
    have e' : k = (i != 0) := e
    subst e'
    exact PySem.P.truthy_int ⟨H, I, q⟩
  | str y =>
    obtain ⟨t, rfl⟩ := rx
    obtain ⟨hy, e'⟩ : y.length ≤ sizeLine ∧ k = ((y.length : Int) != 0) := e
    subst e'
    exact PySem.P.truthy_str (by omega) ⟨H, I.tok _, q⟩
  | byt y =>
    obtain ⟨t, rfl⟩ := rx
    obtain ⟨hy, e'⟩ : y.size ≤ sizeLine ∧ k = ((y.size : Int) != 0) := e
    subst e'
    exact PySem.W.truthy_bytes (by omega) ⟨H, I.tok _, q⟩
  | ref p =>
    cases rx
    have e' : (∃ xs, SqL X.K H p xs ∧ k = !xs.isEmpty) ∨ (∃ xs, SqT X.K H p xs ∧ k = !xs.isEmpty) ∨ ∃ kvs, H p = some (.dK kvs) ∧ k = !kvs.isEmpty := e
    rcases e' with ⟨xs, hx, e'⟩ | ⟨xs, hx, e'⟩ | ⟨kvs, hx, e'⟩
    · subst e'
      obtain ⟨its, r, pl, hz⟩ := I.list hx
      have hlen := r.length
      exact wpAny_truthy_list pl.isList (by simp only [List.size_toArray]; omega) ⟨H, I.tok _, by rw [isEmpty_of r]; exact q⟩
    · subst e'
      obtain ⟨its, r, pl, hz⟩ := I.tuple hx
      have hlen := r.length
      exact truthy_tuple pl (by simp only [List.size_toArray]; omega) ⟨H, I.tok _, by rw [isEmpty_of r]; exact q⟩
    · subst e'
      obtain ⟨hz, hS, vs, r, m⟩ : kvs.length ≤ sizeLine ∧ (p == sysModules) = false ∧ ∃ vs, KV kvs vs ∧ s.heap.DictOf (mixKind X.prog X.w) p vs := I.hok p _ hx
      have hlen : kvs.length = vs.length := Paired.length r
      exact wpAny_truthy_dict hS m (by omega) ⟨H, I.tok _, by rw [isEmpty_kv r]; exact q⟩
  | _ => exact (show False from e).elim
theorem pt_truth (ha : PE X a ta) (he : ∀ whole, isTrue a X.env whole = (do let v ← whole; standAt a.pos; holding [v] (truthy v))) :
    PT X a (fun σ H Q => ta σ H fun x H' => ∃ k, TruV X.K x H' k ∧ Q k H') := by
  intro pins s σ H Q I h
  exact isTrue_plain (thn (ha pins s σ H _ I h) fun v s1 ⟨x, H1, I1, r1, q1⟩ => tru_ok pins s1 σ H1 x v Q I1 r1 q1) (he _)
theorem op_add_str : OpR X (binaryOp .Add) (fun x y H Q => ∃ i j, x = .str i ∧ y = .str j ∧ i.length + j.length ≤ sizeLine ∧ Q (.str (i ++ j)) H) := by
  intro pins s σ H x y v u Q I rx ry h
  obtain ⟨i, j, rfl, rfl, hz, q⟩ := h
  obtain ⟨t, rfl⟩ := rx
  obtain ⟨t', rfl⟩ := ry
  exact add_str (fun t' tk => ⟨.str (i ++ j), H, I.tok _, ⟨_, rfl⟩, q⟩) hz
theorem vals1 {x : V} {us : List Value} (r : Vals [x] us) : ∃ u, us = [u] ∧ RelV x u := by
  cases r with
  | cons r1 r2 => cases r2; exact ⟨_, rfl, r1⟩
theorem vals2 {x y : V} {us : List Value} (r : Vals [x, y] us) : ∃ u w', us = [u, w'] ∧ RelV x u ∧ RelV y w' := by
  cases r with
  | cons r1 r2 =>
    cases r2 with
    | cons r3 r4 => cases r4; exact ⟨_, _, rfl, r1, r3⟩
def LenV (K : PySem.W.Frag) (x : V) (H : Hp) (n : Nat) : Prop :=
  match x with
  | .str y => y.length ≤ sizeLine ∧ n = y.length
  | .byt y => y.size ≤ sizeLine ∧ n = y.size
  | .ref p => (∃ xs, SqL K H p xs ∧ n = xs.length) ∨ ∃ xs, SqT K H p xs ∧ n = xs.length
  | _ => False
theorem call_len : CallR X (.builtin "len") (fun xs H Q => ∃ x n, xs = [x] ∧ LenV X.K x H n ∧ Q (.int n) H) := by
  intro pins s σ H xs us Q I r h
  obtain ⟨x, n, rfl, e, q⟩ := h
  obtain ⟨u, rfl, rx⟩ := vals1 r
  have hl := line63
  have hs : sizeLine = 16777216 := sizeLine_eq
  cases x with
  | str y =>
    obtain ⟨t, rfl⟩ := rx
    obtain ⟨hy, e'⟩ : y.length ≤ sizeLine ∧ n = y.length := e
    subst e'
    exact len_str (by omega) ⟨.int _, H, I.tok _, ⟨_, rfl⟩, q⟩
  | byt y =>
    obtain ⟨t, rfl⟩ := rx
    obtain ⟨hy, e'⟩ : y.size ≤ sizeLine ∧ n = y.size := e
    subst e'
    exact PySem.W.len_bytes (by omega) ⟨.int _, H, I.tok _, ⟨_, rfl⟩, q⟩
  | ref p =>
    cases rx
    have e' : (∃ xs, SqL X.K H p xs ∧ n = xs.length) ∨ ∃ xs, SqT X.K H p xs ∧ n = xs.length := e
    rcases e' with ⟨xs, hx, e'⟩ | ⟨xs, hx, e'⟩
    · subst e'
      obtain ⟨its, r', pl, hz⟩ := I.list hx
      have hlen := r'.length
      exact Calls.call_len_list pl.isList (by simp only [List.size_toArray]; omega) ⟨.int xs.length, H, I.tok _, ⟨_, by simp only [List.size_toArray]; rw [hlen]⟩, q⟩
    · subst e'
      obtain ⟨its, r', pl, hz⟩ := I.tuple hx
      have hlen := r'.length
      exact len_tuple pl (by simp only [List.size_toArray]; omega) ⟨.int xs.length, H, I.tok _, ⟨_, by simp only [List.size_toArray]; rw [hlen]⟩, q⟩
  | _ => exact (show False from e).elim
end
end L2
namespace L2
open PySem PySem.Spec PyProof.Rows
structure ObjM (h : Heap) (x dx C : Addr) (mA : Str → Option Value) : Prop where
  obj : h.get? x = some (PySem.W.instObj C dx)
  ns : h.Ns1 dx mA
  ne : dx ≠ x
theorem lookIn_ns {h : Heap} {dx : Addr} {mA : Str → Option Value} (n : h.Ns1 dx mA) : ∃ od, h.get? dx = some od ∧ ∀ name, PySem.W.lookIn name od = some (mA name) := by
  obtain ⟨o, es, ep, ho, hd, hk, _, hm⟩ := n
  refine ⟨o, ho, fun name => ?_⟩
  have e := hm name
  unfold nsFind findBy at e
  rw [← Array.find?_toList] at e
  unfold PySem.W.lookIn
  rw [hd]
  dsimp only
  split
  · rename_i y q
    rw [q] at e
    exact congrArg some e
  · rename_i q
    rw [q] at e
    have a : es.toList.any (·.refKey) = false := by
      rw [List.any_eq_false]
      intro y hy
      obtain ⟨z, t, hkey⟩ := hk y (Array.mem_toList_iff.mp hy)
      simp [DictEntry.refKey, hkey]
    have a' : ¬ es.toList.any (·.refKey) = true := by rw [a]; exact Bool.false_ne_true
    rw [if_neg a']
    exact congrArg some e
theorem ObjM.look {h : Heap} {x dx C : Addr} {mA : Str → Option Value} (I : ObjM h x dx C mA) : ∃ od, PySem.W.InstAt h x (PySem.W.instObj C dx) C (some od) ∧ ∀ name, PySem.W.lookIn name od = some (mA name) :=
  let ⟨od, ho, hl⟩ := lookIn_ns I.ns
  ⟨od, ⟨I.obj, rfl, rfl, ho⟩, hl⟩
section
variable {prog : Program} {w : World} {A : Around} {E : Value → Shared → Prop} {s : Shared} {K : PySem.W.Frag} {x dx C f : Addr} {mA : Str → Option Value} {name : Str} {v : Value}
theorem get_map {expr : Bool} {Q : Value → Shared → Prop} (X : K.In s.heap) (I : ObjM s.heap x dx C mA) (hg : PySem.W.plainGet K C name = true) (hh : PySem.W.hasDictIn K C = true)
    (ha : PySem.W.findIn K (.ref C) name = some none) (hv : mA name = some v) (hv' : PySem.W.handedIn v = true) (h : Q v { s with toks := s.toks + 1 }) :
    wpAny (model prog w) A (getAttr (.ref x) name expr) Q E s := by
  obtain ⟨od, J, hl⟩ := I.look
  exact PySem.W.get_value X J (PySem.W.plainGet_of hg).1 (PySem.W.findObj_own hh ha rfl (by rw [hl, hv])) hv' h
theorem get_meth {pl : Sem Bool} {Q : Value × List Value → Shared → Prop} (X : K.In s.heap) (I : ObjM s.heap x dx C mA) (hg : PySem.W.plainGet K C name = true)
    (hf : PySem.W.findIn K (.ref C) name = some (some (.ref f))) (ht : PySem.W.isFn K (.ref f) = true) (hv : mA name = none) (h : Q (.ref f, [.ref x]) s) :
    wpAny (model prog w) A (getMethod (.ref x) name pl) Q E s := by
  obtain ⟨od, J, hl⟩ := I.look
  exact PySem.W.method_fn X J (PySem.W.plainGet_of hg).1 (PySem.W.plainGet_of hg).2 hf (beq_iff_eq.mp ht) (by show (PySem.W.lookIn name od).map (·.isSome) = some false; rw [hl, hv]; rfl) h
theorem set_map {ns : List Str} {Q : Unit → Shared → Prop} (X : K.In s.heap) (I : ObjM s.heap x dx C mA)
    (hs : PySem.W.findIn K (.ref C) "__setattr__" = some (some (.builtin "object.__setattr__"))) (hp : PySem.W.plainOver K C = true) (ht : PySem.W.takerIn K C name = some none) (hh : PySem.W.hasDictIn K C = true)
    (hw : PySem.Within mA ns) (hsz : ns.length ≤ sizeLine)
    (h : ∀ h', ObjM h' x dx C (fun y => if y = name then some v else mA y) → Heap.SameBut dx s.heap h' → Q () { s with heap := h', toks := s.toks + 2 }) :
    wpAny (model prog w) A (setAttr (.ref x) name v) Q E s := by
  obtain ⟨od, J, hl⟩ := I.look
  refine PySem.W.set_plain X J hs (PySem.W.osa_open (s := { s with toks := s.toks + 1 }) (r := none) X J hp ht fun b => ?_)
  obtain ⟨cd, hc, hd'⟩ := PySem.W.any_some hh
  have hx : s.heap.get? x = some ⟨.ref C, some dx, .plain, #[]⟩ := I.obj
  refine wpAny_bind (wpAny_pure (wpAny_bind (wpAny_bind (wpAny_loadPart hx (wpAny_bind (PySem.W.Looks.here (s := { s with toks := s.toks + 1 }) (PySem.W.looks_clsIn X hc) ?_))))))
  rw [hd']
  refine wpAny_pure (a := some dx) (wpAny_bind (wpAny_pure (wpAny_bind ?_)))
  refine wpAny_nsSet1 (s := { s with toks := s.toks + 1 }) I.ns fun h' hn2 hs2 => ?_
  obtain ⟨oD, esD, epD, hoD, hdD, hcD⟩ := hn2.count (PySem.Within.cons name v hw)
  refine wpAny_bind (wpAny_lookBehind hoD (by rw [hdD]; exact pastItsLine_dict (Nat.le_trans hcD (by rw [List.length_cons]; omega))) ?_)
  exact wpAny_pure (h _ ⟨(hs2.2 _ (Ne.symm I.ne)).trans I.obj, hn2, I.ne⟩ hs2)
theorem make_map {R : Result → Shared → Prop} {vs : List Value} {kw : List (Str × Value)} (X : K.In s.heap) (hm : PySem.W.makesIn K C = true)
    (hi : PySem.W.findIn K (.ref C) "__init__" = some (some (.ref f))) (hf : PySem.W.typeIn K (.ref f) = some (.type "function"))
    (h : codeAny (model prog w) (A.under (.builtin "type.__call__" ⟨.ref C :: vs, kw⟩)) (.call (.ref f) ⟨.ref (s.heap.objs.size + 1) :: vs, kw⟩) (PySem.W.InitBack (s.heap.objs.size + 1) R)
      { s with heap := (s.heap.push PySem.W.emptyDict).push (PySem.W.instObj C s.heap.objs.size) }) :
    codeAny (model prog w) A (.call (.ref C) ⟨vs, kw⟩) R s := by
  obtain ⟨hh, g, d, t, os⟩ := s
  exact PySem.W.make_core (PySem.W.makes_of X hm) (PySem.W.looks_findIn X hi) (fun self => PySem.W.bind_fn X self hf) (.inl rfl) h
end
def putF (f : Str) (v : V) : List (Str × V) → List (Str × V)
  | [] => [(f, v)]
  | (g, x) :: r => if g = f then (g, v) :: r else (g, x) :: putF f v r
theorem lookup_putF (f g : Str) (v : V) : ∀ fs : List (Str × V), (putF f v fs).lookup g = if g = f then some v else fs.lookup g
  | [] => by
    show List.lookup g [(f, v)] = _
    by_cases h : g = f
    · have hb : (g == f) = true := beq_iff_eq.mpr h
      simp only [List.lookup, hb, if_pos h]
    · have hb : (g == f) = false := beq_eq_false_iff_ne.mpr h
      simp only [List.lookup, hb, if_neg h]
  | (k, x) :: r => by
    have ih := lookup_putF f g v r
    rw [show putF f v ((k, x) :: r) = (if k = f then (k, v) :: r else (k, x) :: putF f v r) from rfl]
    by_cases hk : k = f
    · rw [if_pos hk]
      by_cases h : g = k
      · have hb : (g == k) = true := beq_iff_eq.mpr h
        simp only [List.lookup, hb, if_pos (h.trans hk)]
      · have hb : (g == k) = false := beq_eq_false_iff_ne.mpr h
        simp only [List.lookup, hb, if_neg (fun e : g = f => h (e.trans hk.symm))]
    · rw [if_neg hk]
      by_cases h : g = k
      · have hb : (g == k) = true := beq_iff_eq.mpr h
        simp only [List.lookup, hb, if_neg (fun e : g = f => hk (h.symm.trans e))]
      · have hb : (g == k) = false := beq_eq_false_iff_ne.mpr h
        simp only [List.lookup, hb]
        exact ih
theorem keys_putF (f : Str) (v : V) : ∀ fs : List (Str × V), f ∈ (putF f v fs).map (·.1) ∧ ∀ g, g ∈ fs.map (·.1) → g ∈ (putF f v fs).map (·.1)
  | [] => ⟨by simp [putF], fun g h => by simp at h⟩
  | (k, x) :: r => by
    obtain ⟨i1, i2⟩ := keys_putF f v r
    rw [show putF f v ((k, x) :: r) = (if k = f then (k, v) :: r else (k, x) :: putF f v r) from rfl]
    by_cases hk : k = f
    · rw [if_pos hk]
      subst hk
      exact ⟨by simp, fun g h => by simpa using h⟩
    · rw [if_neg hk]
      refine ⟨?_, fun g h => ?_⟩
      · rw [List.map_cons]
        exact List.mem_cons_of_mem _ i1
      · rw [List.map_cons] at h ⊢
        rcases List.mem_cons.mp h with e | e
        · exact List.mem_cons.mpr (.inl e)
        · exact List.mem_cons_of_mem _ (i2 g e)
theorem length_putF (f : Str) (v : V) : ∀ fs : List (Str × V), (putF f v fs).length ≤ fs.length + 1
  | [] => by simp [putF]
  | (k, x) :: r => by
    have ih := length_putF f v r
    rw [show putF f v ((k, x) :: r) = (if k = f then (k, v) :: r else (k, x) :: putF f v r) from rfl]
    by_cases hk : k = f
    · rw [if_pos hk, List.length_cons, List.length_cons]; omega
    · rw [if_neg hk, List.length_cons, List.length_cons]; omega
theorem RelO.some_of {v : V} {o : Option Value} (r : RelO (some v) o) : ∃ u, o = some u ∧ RelV v u := by
  cases o with
  | none => exact (show False from r).elim
  | some u => exact ⟨u, rfl, r⟩
theorem RelO.none_of {o : Option Value} (r : RelO none o) : o = none := by
  cases o with
  | none => rfl
  | some u => exact (show False from r).elim
theorem handed_of {v : V} {u : Value} (r : RelV v u) : PySem.W.handedIn u = true := by
  cases v with
  | non => cases (show u = Value.none from r); rfl
  | bl b => cases (show u = Value.bool b from r); rfl
  | int i => obtain ⟨t, e⟩ := (show ∃ t, u = Value.int i t from r); cases e; rfl
  | str x => obtain ⟨t, e⟩ := (show ∃ t, u = Value.str x t from r); cases e; rfl
  | byt b => obtain ⟨t, e⟩ := (show ∃ t, u = Value.bytes b t from r); cases e; rfl
  | flt b => obtain ⟨t, e⟩ := (show ∃ t, u = Value.float b t from r); cases e; rfl
  | ref a => cases (show u = Value.ref a from r); rfl
  | ty n => cases (show u = Value.type n from r); rfl
section
variable {P : Program} {w : World} {H H' : Hp} {h h' : Heap} {a C dx : Addr} {fs fs' : List (Str × V)}
theorem ins_get (hok : HOk P w H h) (e : H a = some (.ins C dx fs)) : ∃ mA, ObjM h a dx C mA ∧ (∀ f, RelO (fs.lookup f) (mA f)) ∧ PySem.Within mA (fs.map (·.1)) ∧ fs.length ≤ 1000 ∧ H dx = some (.own a) := by
  obtain ⟨d, z, ne, ob, mA, n, r, q⟩ := (show ObjOk P w H h a (.ins C dx fs) from hok a _ e)
  exact ⟨mA, ⟨ob, n, ne⟩, r, q, z, d⟩
end
structure Cls (K : PySem.W.Frag) (C : Addr) : Prop where
  pg : PySem.W.plainGet K C Str.empty = true
  hd : PySem.W.hasDictIn K C = true
  po : PySem.W.plainOver K C = true
  sa : PySem.W.findIn K (.ref C) "__setattr__" = some (some (.builtin "object.__setattr__"))
theorem Cls.get {K : PySem.W.Frag} {C : Addr} (c : Cls K C) (f : Str) : PySem.W.plainGet K C f = true := c.pg
def NoAttr (K : PySem.W.Frag) (C : Addr) (f : Str) : Prop := PySem.W.findIn K (.ref C) f = some none
theorem NoAttr.taker {K : PySem.W.Frag} {C : Addr} {f : Str} (n : NoAttr K C f) : PySem.W.takerIn K C f = some none := by
  unfold PySem.W.takerIn
  rw [show PySem.W.findIn K (.ref C) f = some none from n]
  rfl
structure Meth (K : PySem.W.Frag) (C : Addr) (m : Str) (f : Addr) : Prop where
  at_ : PySem.W.findIn K (.ref C) m = some (some (.ref f))
  fn : PySem.W.isFn K (.ref f) = true
  kp : PySem.W.keepIn K (.ref f) = true
section
variable {X : Cx} {pins : List (Addr × Obj)} {σ : St} {H : Hp} {s : Shared} {a C dx : Addr} {fs : List (Str × V)} {f : Str} {v : V} {A : Around} {E : Value → Shared → Prop}
theorem getattr_ok {b : Bool} {Q : Value → Shared → Prop} (I : Inv X pins σ H s) (e : H a = some (.ins C dx fs)) (c : Cls X.K C) (n : NoAttr X.K C f) (l : fs.lookup f = some v)
    (h : ∀ u s', Inv X pins σ H s' → RelV v u → Q u s') : wpAny (model X.prog X.w) A (getAttr (.ref a) f b) Q E s := by
  obtain ⟨mA, O, r, _, _, _⟩ := ins_get I.hok e
  obtain ⟨u, hu, ru⟩ := RelO.some_of (v := v) (o := mA f) (by rw [← l]; exact r f)
  exact get_map I.kIn O (c.get f) c.hd n hu (handed_of ru) (h u _ (I.tok _) ru)
theorem getmeth_ok {m : Str} {g : Addr} {pl : Sem Bool} {Q : Value × List Value → Shared → Prop} (I : Inv X pins σ H s) (e : H a = some (.ins C dx fs)) (c : Cls X.K C) (k : Meth X.K C m g) (l : fs.lookup m = none)
    (h : Q (.ref g, [.ref a]) s) : wpAny (model X.prog X.w) A (getMethod (.ref a) m pl) Q E s := by
  obtain ⟨mA, O, r, _, _, _⟩ := ins_get I.hok e
  have hn : mA m = none := RelO.none_of (by rw [← l]; exact r m)
  exact get_meth I.kIn O (c.get m) k.at_ k.fn hn h
theorem setattr_ok {y : V} {u : Value} {Q : Unit → Shared → Prop} (I : Inv X pins σ H s) (e : H a = some (.ins C dx fs)) (c : Cls X.K C) (n : NoAttr X.K C f) (hl : fs.length < 1000) (ry : RelV y u)
    (h : ∀ s', Inv X pins σ (upd H a (.ins C dx (putF f y fs))) s' → Q () s') : wpAny (model X.prog X.w) A (setAttr (.ref a) f u) Q E s := by
  obtain ⟨mA, O, r, wi, _, ho⟩ := ins_get I.hok e
  have hz : (fs.map (·.1)).length ≤ sizeLine := by rw [List.length_map, sizeLine_eq]; omega
  refine set_map I.kIn O c.sa c.po n.taker c.hd wi hz fun h' O' sb => h _ ?_
  have hd : ∃ o, h'.get? dx = some o := let ⟨o, _, _, e', _⟩ := O'.ns; ⟨o, e'⟩
  refine I.write (x := a) (e := dx) (by rw [e]; exact True.intro) (.inr ho) (fun b q hb z => (sb.2 b hb).trans z) hd ?_
  refine ⟨by rw [upd_ne O.ne]; exact ho, ?_, O.ne, O'.obj, _, O'.ns, fun g => ?_, fun g hg => ?_⟩
  · have := length_putF f y fs; omega
  · show RelO ((putF f y fs).lookup g) (if g = f then some u else mA g)
    rw [lookup_putF]
    by_cases q : g = f
    · rw [if_pos q, if_pos q]; exact ry
    · rw [if_neg q, if_neg q]; exact r g
  · by_cases q : g = f
    · rw [q]; exact (keys_putF f y fs).1
    · refine (keys_putF f y fs).2 g (wi g fun z => hg ?_)
      show (if g = f then some u else mA g) = none
      rw [if_neg q]; exact z
theorem Inv.made (I : Inv X pins σ H s) : Inv X pins σ (upd (upd H s.heap.objs.size (.own (s.heap.objs.size + 1))) (s.heap.objs.size + 1) (.ins C s.heap.objs.size []))
    { s with heap := (s.heap.push PySem.W.emptyDict).push (PySem.W.instObj C s.heap.objs.size) } := by
  have e1 : (s.heap.push PySem.W.emptyDict).get? s.heap.objs.size = some PySem.W.emptyDict := Heap.get?_push_size s.heap rfl
  have e2 : ((s.heap.push PySem.W.emptyDict).push (PySem.W.instObj C s.heap.objs.size)).get? (s.heap.objs.size + 1) = some (PySem.W.instObj C s.heap.objs.size) := by
    have := Heap.get?_push_size (s.heap.push PySem.W.emptyDict) (o := PySem.W.instObj C s.heap.objs.size) rfl
    rwa [Heap.size_push] at this
  have e3 : (s.heap.push PySem.W.emptyDict).Ns s.heap.objs.size (fun _ => none) := ⟨PySem.W.emptyDict, #[], _, e1, rfl, (fun e he => absurd he (by simp)), fun _ => rfl⟩
  have I1 := I.laid (a := s.heap.objs.size) (o := .own (s.heap.objs.size + 1)) (h' := s.heap.push PySem.W.emptyDict) (t' := s.toks) (fun b u q => Heap.get?_push_of_some _ q) (Nat.le_refl _) ⟨_, e1⟩
  refine I1.laid (a := s.heap.objs.size + 1) (o := .ins C s.heap.objs.size []) (t' := s.toks) (fun b u q => Heap.get?_push_of_some _ q) (Nat.le_of_eq (Heap.size_push _ _)) ?_
  have ne : s.heap.objs.size ≠ s.heap.objs.size + 1 := Nat.ne_of_lt (Nat.lt_succ_self _)
  refine ⟨by rw [upd_ne ne, upd_same], Nat.zero_le _, ne, e2, fun _ => none, (Heap.Ns1.of_empty e3).at fun o q => Heap.get?_push_of_some _ q, fun _ => True.intro, fun y hy => absurd rfl hy⟩
theorem attr_of {prog : Program} {w : World} {env : Env} {e : Expr} {f : Str} {pos : Pos} {s : Shared} {Q : Value → Shared → Prop} (hb : attributeBase e f env (eval e env) = eval e env)
    (h : wpAny (model prog w) A (eval e env) (fun o s₁ => wpAny (model prog w) A (getAttr o f true) Q E s₁) E s) : wpAny (model prog w) A (eval (.Attribute e f pos) env) Q E s :=
  Attribute_any_ h (by rw [arm_eval_Attribute, hb])
end
def tFld (K : PySem.W.Frag) (ta : TE) (f : Str) : TE := fun σ H Q => ta σ H fun x H1 => ∃ a C dx fs v, x = .ref a ∧ H1 a = some (.ins C dx fs) ∧ Cls K C ∧ NoAttr K C f ∧ fs.lookup f = some v ∧ Q v H1
def sFld (K : PySem.W.Frag) (ta tv : TE) (f : Str) : TS := fun D σ H => tv σ H fun y H1 => ta σ H1 fun x H2 => ∃ a C dx fs, x = .ref a ∧ H2 a = some (.ins C dx fs) ∧ Cls K C ∧ NoAttr K C f ∧ fs.length < 1000 ∧
  D.nx σ (upd H2 a (.ins C dx (putF f y fs)))
section
variable {X : Cx} {o e value : Expr} {f : Str} {pos pos' tpos : Pos} {ta tv : TE}
theorem pe_fld (he : PE X e ta) (hb : attributeBase e f X.env (eval e X.env) = eval e X.env) : PE X (.Attribute e f pos) (tFld X.K ta f) := by
  intro pins s σ H Q I h
  refine attr_of hb (thn (he pins s σ H _ I h) fun u s1 ⟨x, H1, I1, rx, a, C, dx, fs, v, ex, ea, c, n, l, q⟩ => ?_)
  subst ex
  obtain rfl : u = Value.ref a := rx
  exact getattr_ok I1 ea c n l fun u' s2 I2 ru => ⟨v, H1, I2, ru, q⟩
theorem ps_fld (ha : PE X o ta) (hv : PE X value tv) (hs : swapsWith value (some (.Attribute o f pos')) pos.line X.env = pure false) : PS X (.Assign [.Attribute o f pos'] value pos) (sFld X.K ta tv f) := by
  intro pins s σ H D I h
  refine plainObj_wpAny_Assign_Attribute (thn (hv pins s σ H _ I h) fun u s1 ⟨y, H1, I1, ry, q⟩ => thn (ha pins s1 σ H1 _ I1 q) fun ov s2 ⟨x, H2, I2, rx, a, C, dx, fs, ex, ea, c, n, l, q2⟩ => ?_) hs
  subst ex
  obtain rfl : ov = Value.ref a := rx
  exact setattr_ok I2 ea c n l ry fun s3 I3 => ⟨σ, _, I3, q2⟩
end
section
variable {X : Cx} {pins : List (Addr × Obj)} {σ : St} {H : Hp} {s : Shared} {A : Around} {E : Value → Shared → Prop} {Q : Value → Shared → Prop} {c : Value} {b : Bool}
inductive TyOf (K : PySem.W.Frag) (H : Hp) : V → Value → Prop where
  | non : TyOf K H .non (.type "NoneType")
  | bl (x : Bool) : TyOf K H (.bl x) (.type "bool")
  | int (i : Int) : TyOf K H (.int i) (.type "int")
  | str (x : Str) : TyOf K H (.str x) (.type "str")
  | flt (x : UInt64) : TyOf K H (.flt x) (.type "float")
  | lst {a : Addr} {xs : List V} (e : H a = some (.lst xs)) : TyOf K H (.ref a) (.type "list")
  | frz {a : Addr} {o : Obj} {xs : List V} (e : H a = some (.frz o (.lst xs))) : TyOf K H (.ref a) (.type "list")
  | tup {a : Addr} {xs : List V} (e : H a = some (.tup xs)) : TyOf K H (.ref a) (.type "tuple")
  | dK {a : Addr} {kvs : List (Key × V)} (e : H a = some (.dK kvs)) : TyOf K H (.ref a) (.type "dict")
  | dT {a : Addr} {kvs : List (List Key × V)} (e : H a = some (.dT kvs)) : TyOf K H (.ref a) (.type "dict")
  | ins {a C dx : Addr} {fs : List (Str × V)} (e : H a = some (.ins C dx fs)) (cl : Cls K C) (ha : PySem.W.findIn K (.ref C) "__class__" = some (some (.builtin "object.__class__")))
      (hn : PySem.W.specialIn K (.builtin "object.__class__") "__get__" = some (some (.builtin "getset_descriptor.__get__"))) (htk : PySem.W.takesIn K (.builtin "object.__class__") = some true)
      (hm : PySem.W.mroIn K C (.type "object") = some true) : TyOf K H (.ref a) (.ref C)
theorem isinst_ok {x : V} {u t : Value} (I : Inv X pins σ H s) (rx : RelV x u) (ty : TyOf X.K H x t) (e : PySem.W.kitOne X.K t c = some b) (h : ∀ tk, Q (.bool b) { s with toks := tk }) :
    wpAny (model X.prog X.w) A (call (.builtin "isinstance") [u, c]) Q E s := by
  cases ty with
  | non => cases (show u = Value.none from rx); exact PySem.W.kia_one PySem.W.kitx_none I.kIn True.intro e (fun z => nomatch z) h
  | bl y => cases (show u = Value.bool y from rx); exact PySem.W.kia_one PySem.W.kitx_bool I.kIn True.intro e (fun z => nomatch z) h
  | int i => obtain ⟨t, q⟩ := (show ∃ t, u = Value.int i t from rx); cases q; exact PySem.W.kia_one PySem.W.kitx_int I.kIn True.intro e (fun z => nomatch z) h
  | str y => obtain ⟨t, q⟩ := (show ∃ t, u = Value.str y t from rx); cases q; exact PySem.W.kia_one PySem.W.kitx_str I.kIn True.intro e (fun z => nomatch z) h
  | flt y => obtain ⟨t, q⟩ := (show ∃ t, u = Value.float y t from rx); cases q; exact PySem.W.kia_one PySem.W.kitx_float I.kIn True.intro e (fun z => nomatch z) h
  | @lst a xs ea =>
    cases (show u = Value.ref a from rx)
    obtain ⟨_, _, n, _, h1⟩ := (show ObjOk X.prog X.w H s.heap a (.lst xs) from I.hok a _ ea)
    exact PySem.W.kia_one PySem.W.kitx_list I.kIn ⟨_, h1, rfl⟩ e (fun z => nomatch z) h
  | @frz a ob xs ea =>
    cases (show u = Value.ref a from rx)
    obtain ⟨_, _, _, n, _, h1⟩ := (show ObjOk X.prog X.w H s.heap a (.frz ob (.lst xs)) from I.hok a _ ea)
    exact PySem.W.kia_one PySem.W.kitx_list I.kIn ⟨_, h1, rfl⟩ e (fun z => nomatch z) h
  | @tup a xs ea =>
    cases (show u = Value.ref a from rx)
    obtain ⟨_, _, _, p⟩ := (show ObjOk X.prog X.w H s.heap a (.tup xs) from I.hok a _ ea)
    obtain ⟨o, h1, h2, _⟩ := p
    exact PySem.W.kia_one PySem.W.kitx_tuple I.kIn ⟨o, h1, h2⟩ e (fun z => nomatch z) h
  | @dK a kvs ea =>
    cases (show u = Value.ref a from rx)
    obtain ⟨_, _, vs, _, p⟩ := (show ObjOk X.prog X.w H s.heap a (.dK kvs) from I.hok a _ ea)
    obtain ⟨o, es, ep, h1, h2, _⟩ := p
    exact PySem.W.kia_one PySem.W.kitx_dict I.kIn ⟨o, h1, h2.1⟩ e (fun z => nomatch z) h
  | @dT a kvs ea =>
    cases (show u = Value.ref a from rx)
    obtain ⟨_, _, xs, _, o, es, ep, h1, h2, _⟩ := (show ObjOk X.prog X.w H s.heap a (.dT kvs) from I.hok a _ ea)
    exact PySem.W.kia_one PySem.W.kitx_dict I.kIn ⟨o, h1, h2.1⟩ e (fun z => nomatch z) h
  | @ins a C dx fs ea cl ha hn htk hm =>
    cases (show u = Value.ref a from rx)
    obtain ⟨mA, O, _⟩ := ins_get I.hok ea
    obtain ⟨od, J, _⟩ := O.look
    exact PySem.W.kia_one (PySem.W.kitx_own (cl.get _) cl.hd ha hn htk hm) I.kIn J e (fun z => nomatch z) h
end
end L2
namespace L2
open PySem PySem.Spec PyProof.Rows
structure Room (k : Nat) (A : Around) : Prop where
  hd : A.handled = none
  dp : A.depth + 3 * k + 5 < recursionLimit
  un : A.units + 16 * k + 200 < cLine
theorem Room.mono {j k : Nat} {A : Around} (r : Room k A) (h : j ≤ k) : Room j A := ⟨r.hd, by have := r.dp; omega, by have := r.un; omega⟩
theorem Room.deeper {k : Nat} {A : Around} (r : Room (k + 1) A) (env : Env) : Room k (A.deeper env) :=
  ⟨r.hd, by have := r.dp; show A.depth + 1 + 3 * k + 5 < _; omega, by have := r.un; show A.units + 3 + 16 * k + 200 < _; omega⟩
theorem make_depth {A : Around} {C : Addr} {us : List Value} {kw : List (Str × Value)} : (A.under (.builtin "type.__call__" ⟨.ref C :: us, kw⟩)).depth = A.depth + 1 := by
  first | rfl | simp [Around.under, Code.weight, Code.isCreation, Code.isGuard, Code.isCaller, Code.frames, Code.isFrame, guardIds]
theorem make_units {A : Around} {C : Addr} {us : List Value} {kw : List (Str × Value)} : (A.under (.builtin "type.__call__" ⟨.ref C :: us, kw⟩)).units = A.units + 1 := by
  first | rfl | simp [Around.under, Code.cUnits, Code.frames, Code.isFrame]
theorem Room.make {k : Nat} {A : Around} (r : Room (k + 1) A) (C : Addr) (us : List Value) (kw : List (Str × Value)) : Room k (A.under (.builtin "type.__call__" ⟨.ref C :: us, kw⟩)) :=
  ⟨r.hd, by have := r.dp; rw [make_depth]; omega, by have := r.un; rw [make_units]; omega⟩
theorem Room.depth {k : Nat} {A : Around} (r : Room k A) : A.depth < recursionLimit := by have := r.dp; omega
theorem Room.units {k : Nat} {A : Around} (r : Room k A) : A.units + 64 < cLine := by have := r.un; omega
def tNil : TA := fun _ H Q => Q [] H
def tCons (ta : TE) (tr : TA) : TA := fun σ H Q => ta σ H fun x H1 => tr σ H1 fun xs H2 => Q (x :: xs) H2
section
variable {X : Cx} {e : Expr} {es : List Expr} {te : TE} {t : TA} {pos : Pos}
theorem pa_nil : PA X [] tNil := fun _ _ _ _ H Q I h => Calls.spliced_nil ⟨[], H, I, .nil, h⟩
theorem pa_cons (ha : PE X e te) (hr : PA X es t) (hs : starEach (e :: es) X.env = (false, eval e X.env) :: starEach es X.env := by rfl) : PA X (e :: es) (tCons te t) := by
  intro pos pins s σ H Q I h
  rw [hs]
  show wpAny _ _ (spliced ((false, eval e X.env) :: backTo pos (starEach es X.env))) _ _ s
  refine Calls.spliced_cons (thn (ha pins s σ H _ I h) fun u s1 ⟨x, H1, I1, r1, q1⟩ => ?_)
  exact thn (hr pos pins s1 σ H1 _ I1 q1) fun us s2 ⟨xs, H2, I2, r2, q2⟩ => ⟨x :: xs, H2, I2, .cons r1 r2, q2⟩
def tTup (t : TA) : TE := fun σ H Q => t σ H fun xs H1 => xs.length ≤ sizeLine ∧ ∀ p, H1 p = none → Q (.ref p) (upd H1 p (.tup xs))
def tLst (t : TA) : TE := fun σ H Q => t σ H fun xs H1 => xs.length ≤ sizeLine ∧ ∀ p, H1 p = none → Q (.ref p) (upd H1 p (.lst xs))
theorem pe_tup {x1} (h : PA X es t) : PE X (.Tuple es x1 pos) (tTup t) := by
  intro pins s σ H Q I hq
  refine wpAny_Tuple_spliced (thn (h pos pins s σ H _ I hq) fun us s1 ⟨xs, H1, I1, r, z, q⟩ => ⟨by rw [← r.length]; exact z, ?_⟩)
  have hf : H1 s1.heap.objs.size = none := I1.hok.fresh (Nat.le_refl _)
  refine ⟨.ref s1.heap.objs.size, upd H1 s1.heap.objs.size (.tup xs), I1.laid (t' := s1.toks) (fun b u e => Heap.get?_push_of_some _ e) (Nat.le_refl _) ?_, rfl, q _ hf⟩
  exact ⟨z, us, r, ⟨_, Heap.get?_push_size _ rfl, rfl, _, rfl⟩⟩
theorem pe_lst (h : PA X es t) : PE X (.List es pos) (tLst t) := by
  intro pins s σ H Q I hq
  refine wpAny_List_spliced (thn (h pos pins s σ H _ I hq) fun us s1 ⟨xs, H1, I1, r, z, q⟩ => ⟨by rw [← r.length]; exact z, ?_⟩)
  have hf : H1 s1.heap.objs.size = none := I1.hok.fresh (Nat.le_refl _)
  refine ⟨.ref s1.heap.objs.size, upd H1 s1.heap.objs.size (.lst xs), I1.laid (t' := s1.toks) (fun b u e => Heap.get?_push_of_some _ e) (Nat.le_refl _) ?_, rfl, q _ hf⟩
  exact ⟨z, us, 0, r, Heap.get?_push_size _ rfl⟩
end
abbrev Sp := List V → Hp → VK → XK → Prop
abbrev CXT := List Env → Hp → Shared → XK → Value → Shared → Prop
structure Env0 (P : Program) (w : World) (K : PySem.W.Frag) (mg : Str → Option Value) (base : Heap) (A : Around) (outer : List Env) (s : Shared) (H : Hp) : Prop where
  frames : A.frames = some outer
  mod : Mod K mg base
  bs : ∀ b o, base.get? b = some o → s.heap.get? b = some o ∧ H b = none
  bsz : base.objs.size ≤ s.heap.objs.size
  funs : s.heap.FunFrames base outer
  frf : ∀ b ∈ frs outer, H b = none
  hok : HOk P w H s.heap
  bare : AllBare s.gens
def CE (outer : List Env) (P : Program) (w : World) (H : Hp) (s : Shared) (Q : VK) (u : Value) (s' : Shared) : Prop :=
  ∃ v H', s'.os = s.os ∧ AllBare s'.gens ∧ Un (frs outer) [] H H' s.heap s'.heap ∧ HOk P w H' s'.heap ∧ RelV v u ∧ Q v H'
def CR (CX : CXT) (outer : List Env) (P : Program) (w : World) (H : Hp) (s : Shared) (Q : VK) (E : XK) (r : Result) (s' : Shared) : Prop :=
  match r with
  | .ok (.ret u) => CE outer P w H s Q u s'
  | .ok _ => False
  | .error e => CX outer H s E e s'
structure FnOk (P : Program) (w : World) (K : PySem.W.Frag) (mg : Str → Option Value) (base : Heap) (CX : CXT) (k : Nat) (f : Addr) (fd : FuncData) (ps : List Str) (sp : Sp) : Prop where
  len : ∀ vs H Q E, sp vs H Q E → vs.length = ps.length
  run : ∀ (A : Around) (outer : List Env) (s : Shared) (H : Hp) (args : Args) (us : List Value) (vs : List V) (Q : VK) (E : XK), Room k A → Env0 P w K mg base A outer s H → BindsTo s fd args (ps.zip us) → Vals vs us → sp vs H Q E →
    codeAny (model P w) A (.call (.ref f) args) (CR CX outer P w H s Q E) s
theorem FnOk.mono {P : Program} {w : World} {K : PySem.W.Frag} {mg : Str → Option Value} {base : Heap} {CX : CXT} {j k : Nat} {f : Addr} {fd : FuncData} {ps : List Str} {sp : Sp} (F : FnOk P w K mg base CX j f fd ps sp) (h : j ≤ k) :
    FnOk P w K mg base CX k f fd ps sp := ⟨F.len, fun A outer s H args us vs Q E hr => F.run A outer s H args us vs Q E (hr.mono h)⟩
theorem FnOk.imp {P : Program} {w : World} {K : PySem.W.Frag} {mg : Str → Option Value} {base : Heap} {CX : CXT} {k : Nat} {f : Addr} {fd : FuncData} {ps : List Str} {sp sp' : Sp} (F : FnOk P w K mg base CX k f fd ps sp)
    (h : ∀ vs H Q E, sp' vs H Q E → sp vs H Q E) : FnOk P w K mg base CX k f fd ps sp' :=
  ⟨fun vs H Q E q => F.len vs H Q E (h _ _ _ _ q), fun A outer s H args us vs Q E hr he hb hv hs => F.run A outer s H args us vs Q E hr he hb hv (h _ _ _ _ hs)⟩
theorem Env0.make {P : Program} {w : World} {K : PySem.W.Frag} {mg : Str → Option Value} {base : Heap} {A : Around} {outer : List Env} {s : Shared} {H : Hp} (e : Env0 P w K mg base A outer s H) (C : Addr) (us : List Value) (kw : List (Str × Value)) :
    Env0 P w K mg base (A.under (.builtin "type.__call__" ⟨.ref C :: us, kw⟩)) outer s H := ⟨by first | exact e.frames | (simpa [Around.under, Code.envs, Code.isFrame, pushEnvs] using e.frames), e.mod, e.bs, e.bsz, e.funs, e.frf, e.hok, e.bare⟩
section
variable {X : Cx} {pins : List (Addr × Obj)} {σ : St} {H : Hp} {s s' : Shared}
theorem Inv.env0 (I : Inv X pins σ H s) : Env0 X.prog X.w X.K X.mg X.base X.A X.stack s H :=
  ⟨I.ok.frames, I.ok.mod, I.bs, Nat.le_trans I.ok.bsz I.sz, I.stack, I.stkFree, I.hok, I.bare⟩
theorem Inv.after {Q : VK} {u : Value} (I : Inv X pins σ H s) (h : CE X.stack X.prog X.w H s Q u s') : EP X pins σ Q u s' := by
  obtain ⟨v, H', os, bare, un, hok, r, q⟩ := h
  obtain ⟨hh, g, d, t, os'⟩ := s'
  obtain rfl : os' = s.os := os
  exact ⟨v, H', I.call (h' := hh) (g' := g) (d' := d) (t' := t) (ch := []) un hok bare (fun b z => absurd z (by simp)), r, q⟩
end
def tCall (sp : Sp) (dvs : List V) (E : XK) (t : TA) : TE := fun σ H Q => t σ H fun vs H1 => sp (vs ++ dvs) H1 Q E
def tMeth (C : Addr) (m : Str) (sp : Sp) (dvs : List V) (E : XK) (ta : TE) (t : TA) : TE := fun σ H Q => ta σ H fun x H1 => ∃ a dx fs, x = .ref a ∧ H1 a = some (.ins C dx fs) ∧ fs.lookup m = none ∧
  t σ H1 fun vs H2 => sp (x :: (vs ++ dvs)) H2 Q E
def tMake (C : Addr) (sp : Sp) (dvs : List V) (E : XK) (t : TA) : TE := fun σ H Q => t σ H fun vs H1 => ∀ x dx, H1 x = none → H1 dx = none → dx ≠ x →
  sp (.ref x :: (vs ++ dvs)) (upd (upd H1 dx (.own x)) x (.ins C dx [])) (fun v H2 => v = .non ∧ Q (.ref x) H2) E
def Binds (K : PySem.W.Frag) (fd : FuncData) (ps : List Str) (ds : List Value) : Prop :=
  ∀ (s : Shared) (us : List Value), K.In s.heap → (us ++ ds).length = ps.length → BindsTo s fd ⟨us, []⟩ (ps.zip (us ++ ds))
theorem Binds.all {K : PySem.W.Frag} {fd : FuncData} {ps : List Str} (h : ∀ us : List Value, us.length = ps.length → bindArgs fd ⟨us, []⟩ = pure (ps.zip us)) : Binds K fd ps [] := fun s us _ hl => by
  rw [List.append_nil] at hl ⊢
  exact .of_eq (h us hl)
def Passes (CX : CXT) (X : Cx) (E : XK) : Prop := ∀ (pins : List (Addr × Obj)) (σ : St) (H : Hp) (s : Shared) (e : Value) (s' : Shared), Inv X pins σ H s → CX X.stack H s E e s' → X.xe e s'
section
variable {X : Cx} {CX : CXT} {k : Nat} {f C : Addr} {fd : FuncData} {ps : List Str} {sp : Sp} {dvs : List V} {ds : List Value} {E : XK} {x m : Str} {p pos apos : Pos} {e o : Expr} {es : List Expr} {ta : TE} {t : TA}
theorem run_fn {pins : List (Addr × Obj)} {σ : St} {H : Hp} {s : Shared} {Q : VK} {us : List Value} {vs : List V} (F : FnOk X.prog X.w X.K X.mg X.base CX k f fd ps sp) (hr : Room k X.A) (hb : Binds X.K fd ps ds) (hd : Vals dvs ds) (hx : Passes CX X E)
    (I : Inv X pins σ H s) (r : Vals vs us) (h : sp (vs ++ dvs) H Q E) : wpAny (model X.prog X.w) X.A (call (.ref f) us) (EP X pins σ Q) X.xe s := by
  have r2 : Vals (vs ++ dvs) (us ++ ds) := r.append hd
  have hl : (us ++ ds).length = ps.length := by rw [← r2.length]; exact F.len _ _ _ _ h
  refine wpAny_call (codeAny_mono (F.run X.A X.stack s H ⟨us, []⟩ (us ++ ds) (vs ++ dvs) Q E hr I.env0 (hb s us I.kIn hl) r2 h) fun r s' hq => ?_)
  cases r with
  | error e => exact hx pins σ H s e s' I hq
  | ok fl =>
    cases fl with
    | ret u => exact I.after hq
    | next => exact False.elim hq
    | brk => exact False.elim hq
    | cont => exact False.elim hq
theorem pe_call (F : FnOk X.prog X.w X.K X.mg X.base CX k f fd ps sp) (hr : Room k X.A) (hg : Gl X x) (hm : X.mg x = some (.ref f)) (hk : PySem.W.keepIn X.K (.ref f) = true) (hb : Binds X.K fd ps ds) (hd : Vals dvs ds) (hx : Passes CX X E)
    (ha : PA X (e :: es) t) (hdb : (x == ("__debug__" : Str)) = false := by decide) (he : starEach (e :: es) X.env = (false, eval e X.env) :: starEach es X.env := by rfl) (hpl : (backTo pos (starEach es X.env)).any (·.1) = false := by rfl) :
    PE X (.Call (.Name x p) (e :: es) [] pos) (tCall sp dvs E t) := by
  intro pins s σ H Q I h
  refine wpAny_Call_Name_kw (ld_glob I hg hm ?_ hdb)
  refine PySem.W.callWith_K (h₀ := X.base) I.ok.mod.kin hk (thn (ha pos pins s σ H _ I h) fun us s1 ⟨vs, H1, I1, r, q⟩ => ⟨I1.kIn, ?_⟩) he hpl
  exact run_fn F hr hb hd hx I1 r q
theorem pe_meth {pl : Sem Bool} (he : PE X o ta) (c : Cls X.K C) (hm : Meth X.K C m f) (F : FnOk X.prog X.w X.K X.mg X.base CX k f fd ps sp) (hr : Room k X.A) (hb : Binds X.K fd ps ds) (hd : Vals dvs ds) (hx : Passes CX X E) (ha : PA X (e :: es) t)
    (hst : starEach (e :: es) X.env = (false, eval e X.env) :: starEach es X.env := by rfl) (hpl : (backTo pos (starEach es X.env)).any (·.1) = false := by rfl)
    (ht : eval (.Call (.Attribute o m apos) (e :: es) [] pos) X.env = (do
      let ov ← eval o X.env
      standAt apos.atName
      let (f, first) ← holding [ov] (getMethod ov m pl)
      callWith pos f first (backTo pos (starEach (e :: es) X.env)) (backToKw pos (keywordEach [] X.env))) := by rfl) :
    PE X (.Call (.Attribute o m apos) (e :: es) [] pos) (tMeth C m sp dvs E ta t) := by
  intro pins s σ H Q I h
  refine PySem.W.methodCall_KW (pl := pl) (thn (he pins s σ H _ I h) fun u s1 ⟨x, H1, I1, rx, a, dx, fs, ex, ea, l, q⟩ => ?_) ht
  subst ex
  obtain rfl : u = Value.ref a := rx
  refine getmeth_ok I1 ea c hm l ?_
  refine PySem.W.callWith_K (first := [.ref a]) (h₀ := X.base) I.ok.mod.kin hm.kp (thn (ha pos pins s1 σ H1 _ I1 q) fun us s2 ⟨vs, H2, I2, r, q2⟩ => ⟨I2.kIn, ?_⟩) hst hpl
  exact run_fn (us := .ref a :: us) (vs := .ref a :: vs) F hr hb hd hx I2 (.cons rfl r) q2
theorem pe_meth0 {pl : Sem Bool} (he : PE X o ta) (c : Cls X.K C) (hm : Meth X.K C m f) (F : FnOk X.prog X.w X.K X.mg X.base CX k f fd ps sp) (hr : Room k X.A) (hb : Binds X.K fd ps ds) (hd : Vals dvs ds) (hx : Passes CX X E)
    (ht : eval (.Call (.Attribute o m apos) [] [] pos) X.env = (do
      let ov ← eval o X.env
      standAt apos.atName
      let (f, first) ← holding [ov] (getMethod ov m pl)
      callWith pos f first (backTo pos (starEach [] X.env)) (backToKw pos (keywordEach [] X.env))) := by rfl) :
    PE X (.Call (.Attribute o m apos) [] [] pos) (tMeth C m sp dvs E ta tNil) := by
  intro pins s σ H Q I h
  refine PySem.W.methodCall_KW (pl := pl) (thn (he pins s σ H _ I h) fun u s1 ⟨x, H1, I1, rx, a, dx, fs, ex, ea, l, q⟩ => ?_) ht
  subst ex
  obtain rfl : u = Value.ref a := rx
  refine getmeth_ok I1 ea c hm l ?_
  exact PySem.W.callWith_K0 (first := [.ref a]) I1.kIn hm.kp (run_fn (us := [.ref a]) (vs := [.ref a]) F hr hb hd hx I1 (.cons rfl .nil) q)
structure Mk (K : PySem.W.Frag) (C f : Addr) : Prop where
  makes : PySem.W.makesIn K C = true
  init : PySem.W.findIn K (.ref C) "__init__" = some (some (.ref f))
  fn : PySem.W.isFn K (.ref f) = true
  kp : PySem.W.keepIn K (.ref C) = true
theorem run_make {pins : List (Addr × Obj)} {σ : St} {H : Hp} {s : Shared} {Q : VK} {us : List Value} {vs : List V} (M : Mk X.K C f) (F : FnOk X.prog X.w X.K X.mg X.base CX k f fd ps sp) (hr : Room (k + 1) X.A) (hb : Binds X.K fd ps ds) (hd : Vals dvs ds)
    (hx : Passes CX X E) (I : Inv X pins σ H s) (r : Vals vs us)
    (h : ∀ x dx, H x = none → H dx = none → dx ≠ x → sp (.ref x :: (vs ++ dvs)) (upd (upd H dx (.own x)) x (.ins C dx [])) (fun v H2 => v = .non ∧ Q (.ref x) H2) E) :
    wpAny (model X.prog X.w) X.A (call (.ref C) us) (EP X pins σ Q) X.xe s := by
  have hq := h (s.heap.objs.size + 1) s.heap.objs.size (I.hok.fresh (Nat.le_succ _)) (I.hok.fresh (Nat.le_refl _)) (Nat.ne_of_lt (Nat.lt_succ_self _))
  have I2 := Inv.made (C := C) I
  have r2 : Vals (V.ref (s.heap.objs.size + 1) :: (vs ++ dvs)) (Value.ref (s.heap.objs.size + 1) :: (us ++ ds)) := .cons rfl (r.append hd)
  have hl : (Value.ref (s.heap.objs.size + 1) :: us ++ ds).length = ps.length := by
    have e := r2.length
    rw [F.len _ _ _ _ hq] at e
    exact e.symm
  refine wpAny_call (make_map (f := f) I.kIn M.makes M.init (beq_iff_eq.mp M.fn) (codeAny_mono (F.run _ X.stack _ _ ⟨Value.ref (s.heap.objs.size + 1) :: us, []⟩ (Value.ref (s.heap.objs.size + 1) :: (us ++ ds)) _ _ E (hr.make C us [])
    (I2.env0.make C us []) (hb _ (Value.ref (s.heap.objs.size + 1) :: us) I2.kIn hl) r2 hq) fun r s' hq' => ?_))
  cases r with
  | error e => exact hx pins σ _ _ e s' I2 hq'
  | ok fl =>
    cases fl with
    | ret u =>
      obtain ⟨v, H', I3, rv, ev, q3⟩ := I2.after hq'
      subst ev
      exact ⟨rv, ⟨V.ref (s.heap.objs.size + 1), H', I3, rfl, q3⟩⟩
    | next => exact False.elim hq'
    | brk => exact False.elim hq'
    | cont => exact False.elim hq'
theorem pe_make (M : Mk X.K C f) (F : FnOk X.prog X.w X.K X.mg X.base CX k f fd ps sp) (hr : Room (k + 1) X.A) (hg : Gl X x) (hm : X.mg x = some (.ref C)) (hb : Binds X.K fd ps ds) (hd : Vals dvs ds) (hx : Passes CX X E)
    (ha : PA X (e :: es) t) (hdb : (x == ("__debug__" : Str)) = false := by decide) (he : starEach (e :: es) X.env = (false, eval e X.env) :: starEach es X.env := by rfl) (hpl : (backTo pos (starEach es X.env)).any (·.1) = false := by rfl) :
    PE X (.Call (.Name x p) (e :: es) [] pos) (tMake C sp dvs E t) := by
  intro pins s σ H Q I h
  refine wpAny_Call_Name_kw (ld_glob I hg hm ?_ hdb)
  refine PySem.W.callWith_K (h₀ := X.base) I.ok.mod.kin M.kp (thn (ha pos pins s σ H _ I h) fun us s1 ⟨vs, H1, I1, r, q⟩ => ⟨I1.kIn, ?_⟩) he hpl
  exact run_make M F hr hb hd hx I1 r q
theorem pe_make0 (M : Mk X.K C f) (F : FnOk X.prog X.w X.K X.mg X.base CX k f fd ps sp) (hr : Room (k + 1) X.A) (hg : Gl X x) (hm : X.mg x = some (.ref C)) (hb : Binds X.K fd ps ds) (hd : Vals dvs ds) (hx : Passes CX X E)
    (hdb : (x == ("__debug__" : Str)) = false := by decide) : PE X (.Call (.Name x p) [] [] pos) (tMake C sp dvs E tNil) := by
  intro pins s σ H Q I h
  refine wpAny_Call_Name_kw (ld_glob I hg hm ?_ hdb)
  exact PySem.W.callWith_K0 I.kIn M.kp (run_make (us := []) M F hr hb hd hx I .nil h)
end
section
variable {X : Cx} {CX : CXT} {k : Nat} {f C : Addr} {fd : FuncData} {ps ks : List Str} {sp : Sp} {E : XK} {x m : Str} {p pos apos kpos : Pos} {e o : Expr} {es : List Expr} {kws : List Keyword} {te ta : TE} {t tk : TA} {nm : Option Str}
variable {g : List Value → List Value → List Value} {gV : List V → List V → List V}
end
structure FnScope (N P : List Str) (sc : Scope) : Prop where
  kind : sc.kind = .function
  co : sc.isCoroutine = false
  gen : sc.isGenerator = false
  nd : N.Nodup
  pre : N.take P.length = P
  par : ∀ x ∈ P, sc.names.lookup x = some .local ∨ sc.names.lookup x = some .cell
  nofree : ∀ y ∈ sc.names, y.2 ≠ .free
theorem bindL_out {kindOf : Str → Option NameKind} {x : Str} : ∀ {binds : List (Str × Value)} {m : Str → Option Value}, (∀ v, (x, v) ∉ binds) → bindL kindOf binds m x = m x
  | [], _, _ => rfl
  | (n, v) :: r, m, h => by
    unfold bindL
    rw [bindL_out fun w hw => h w (List.mem_cons_of_mem _ hw)]
    split
    · have : x ≠ n := by rintro rfl; exact h v List.mem_cons_self
      simp [this]
    · rfl
theorem bindC_out {kindOf : Str → Option NameKind} {x : Str} : ∀ {binds : List (Str × Value)} {m : Str → Option Value}, (∀ v, (x, v) ∉ binds) → bindC kindOf binds m x = m x
  | [], _, _ => rfl
  | (n, v) :: r, m, h => by
    unfold bindC
    rw [bindC_out fun w hw => h w (List.mem_cons_of_mem _ hw)]
    split
    · rfl
    · have : x ≠ n := by rintro rfl; exact h v List.mem_cons_self
      simp [this]
theorem bindL_get {kindOf : Str → Option NameKind} {x : Str} {v : Value} : ∀ {P : List Str} {vs : List Value} {i : Nat} {m : Str → Option Value}, P.Nodup → P[i]? = some x → vs[i]? = some v → kindOf x = some .local →
    bindL kindOf (P.zip vs) m x = some v
  | [], _, _, _, _, h, _, _ => by simp at h
  | _ :: _, [], _, _, _, _, h, _ => by simp at h
  | p :: P, w :: vs, 0, m, nd, h1, h2, hk => by
    simp at h1 h2; subst h1; subst h2
    show bindL kindOf ((p, w) :: P.zip vs) m p = _
    unfold bindL
    rw [bindL_out fun v hv => (List.nodup_cons.mp nd).1 (List.of_mem_zip hv).1, if_pos hk]
    simp
  | p :: P, w :: vs, i + 1, m, nd, h1, h2, hk => by
    show bindL kindOf ((p, w) :: P.zip vs) m x = _
    unfold bindL
    exact bindL_get (i := i) (List.nodup_cons.mp nd).2 (by simpa using h1) (by simpa using h2) hk
theorem bindC_get {kindOf : Str → Option NameKind} {x : Str} {v : Value} : ∀ {P : List Str} {vs : List Value} {i : Nat} {m : Str → Option Value}, P.Nodup → P[i]? = some x → vs[i]? = some v → kindOf x ≠ some .local →
    bindC kindOf (P.zip vs) m x = some v
  | [], _, _, _, _, h, _, _ => by simp at h
  | _ :: _, [], _, _, _, _, h, _ => by simp at h
  | p :: P, w :: vs, 0, m, nd, h1, h2, hk => by
    simp at h1 h2; subst h1; subst h2
    show bindC kindOf ((p, w) :: P.zip vs) m p = _
    unfold bindC
    rw [bindC_out fun v hv => (List.nodup_cons.mp nd).1 (List.of_mem_zip hv).1, if_neg hk]
    simp
  | p :: P, w :: vs, i + 1, m, nd, h1, h2, hk => by
    show bindC kindOf ((p, w) :: P.zip vs) m x = _
    unfold bindC
    exact bindC_get (i := i) (List.nodup_cons.mp nd).2 (by simpa using h1) (by simpa using h2) hk
def start (N : List Str) (vs : List V) : St := vs.map some ++ List.replicate (N.length - vs.length) none
def cxOf (CX : CXT) (P : Program) (w : World) (K : PySem.W.Frag) (mg : Str → Option Value) (base : Heap) (N : List Str) (qual : Str) (scope : Scope) (f : Addr) (cd : Value) (A : Around) (outer : List Env) (s : Shared) (H : Hp) (E : XK) : Cx where
  prog := P
  w := w
  K := K
  mg := mg
  base := base
  A := A.deeper (envOfC qual scope s.heap.objs.size f cd)
  N := N
  s₀ := s
  H₀ := H
  env := envOfC qual scope s.heap.objs.size f cd
  outer := outer
  stack := envOfC qual scope s.heap.objs.size f cd :: outer
  ex := []
  calm := true
  fn := fun _ => true
  pn := []
  xe := fun e s' => wpAny (model P w) (A.deeper (envOfC qual scope s.heap.objs.size f cd)) (leaving (envOfC qual scope s.heap.objs.size f cd) e) (fun _ s'' => CX outer H s E e s'') (fun e' s'' => CX outer H s E e' s'') s'
theorem cell_has {sc : Scope} {n : Nat} {x : Str} (h : sc.names.lookup x = some .cell) : ∃ c, (cellsFrom n sc.names []).lookup x = some c := by
  have q := PySem.W.cellsFrom_some sc.names n [] (.inl h)
  exact Option.isSome_iff_exists.mp q
theorem inv_start {CX : CXT} {P : Program} {w : World} {K : PySem.W.Frag} {mg : Str → Option Value} {base : Heap} {N ps : List Str} {qual : Str} {scope : Scope} {f : Addr} {cd : Value} {A : Around} {outer : List Env} {s s1 : Shared} {H : Hp} {E : XK} {us : List Value} {vs : List V}
    (S : FnScope N ps scope) (hd : A.handled = none) (e0 : Env0 P w K mg base A outer s H) (hl : vs.length = ps.length) (r : Vals vs us)
    (x : InCallC s s.heap.objs.size (bindL (envOfC qual scope s.heap.objs.size f cd).kindOf (ps.zip us) fun _ => none) (cellsFrom (s.heap.objs.size + 1) scope.names []) (bindC (envOfC qual scope s.heap.objs.size f cd).kindOf (ps.zip us) fun _ => none) s1) :
    Inv (cxOf CX P w K mg base N qual scope f cd A outer s H E) [] (start N vs) H s1 := by
  have hpl : ps.length ≤ N.length := by have := congrArg List.length S.pre; rw [List.length_take] at this; omega
  obtain ⟨h1, tk, rfl, hk⟩ := x.done
  have noA : ∀ b : Addr, b ∉ (cxOf CX P w K mg base N qual scope f cd A outer s H E).ex := fun b z => absurd (show b ∈ ([] : List Addr) from z) (by simp)
  refine ⟨⟨e0.mod, S.kind, rfl, rfl, Nat.le_refl _, fun y z c h1 h2 => ?_, fun y hy => ?_, fun y c _ h => ?_, fun _ => hd, Around.frames_deeper e0.frames, .inr ⟨rfl, rfl⟩, fun b z => absurd z (noA b), e0.bs, e0.bsz, fun b _ _ => noA b, fun b z => absurd z (noA b), e0.funs, e0.frf⟩,
    rfl, e0.bare, Un.kept hk, ⟨_, x.toInCall.ns, fun i y v h1 h2 h3 => ?_⟩, fun y c h => ⟨_, x.cell y c h⟩, e0.hok.fresh (Nat.le_refl _), fun y c h => ?_, fun p hp => absurd (show p ∈ ([] : List (Addr × Obj)) from hp) (by simp), e0.hok.kept hk, ?_, fun i v e => nomatch (show (none : Option (Option V)) = some (some v) from e)⟩
  · exact name_of_addr x.apart (PySem.mem_of_lookup h1) (PySem.mem_of_lookup h2)
  · have hy : scope.names.lookup y = some .cell ∨ scope.names.lookup y = some .free := hy
    rcases hy with hy | hy
    · exact cell_has hy
    · exact absurd rfl (S.nofree _ (PySem.mem_of_lookup hy))
  · exact Nat.le_of_lt (x.above y c (PySem.mem_of_lookup h))
  · have hi : i < vs.length := by
      unfold start at h2
      by_cases hi : i < vs.length
      · exact hi
      · rw [List.getElem?_append_right (by simpa using hi)] at h2
        rw [List.getElem?_replicate] at h2
        split at h2 <;> cases h2
    have ha : vs[i]? = some v := by
      unfold start at h2
      rw [List.getElem?_append_left (by simpa using hi), List.getElem?_map] at h2
      cases e : vs[i]? with
      | none => rw [e] at h2; cases h2
      | some a => rw [e] at h2; cases h2; rfl
    obtain ⟨u, hu, rv⟩ := r.get ha
    have hp : ps[i]? = some y := by
      rw [← S.pre, List.getElem?_take_of_lt (by omega)]; exact h1
    have ndP : ps.Nodup := by rw [← S.pre]; exact S.nd.sublist (List.take_sublist _ _)
    refine ⟨u, rv, ?_⟩
    rcases S.par y (List.mem_of_getElem? hp) with k | k
    · exact .inl ⟨k, bindL_get ndP hp hu k⟩
    · obtain ⟨c, e⟩ := cell_has (n := s.heap.objs.size + 1) k
      refine .inr ⟨.inl k, c, e, ?_⟩
      have q := x.cell y c e
      rw [bindC_get ndP hp hu (by show scope.names.lookup y ≠ _; rw [k]; decide)] at q
      exact q
  · exact e0.hok.fresh (Nat.le_of_lt (x.above y c (PySem.mem_of_lookup h)))
  · unfold start
    show _ = N.length
    rw [List.length_append, List.length_map, List.length_replicate]
    omega
theorem fn_of {CX : CXT} {P : Program} {w : World} {K : PySem.W.Frag} {mg : Str → Option Value} {base : Heap} {k : Nat} {f : Addr} {name qual : Str} {params : Arguments} {body : List Stmt} {scope : Scope} {dV kV doc pm cdv ct oc : Value} {an od : Option Addr}
    {osl : Array (Option Value)} {N ps : List Str} {sp : Sp} (lk : K.lookup f = some ⟨oc, od, .func (PySem.W.fnOf name qual params body scope dV kV doc pm an cdv ct), osl⟩) (hcd : PySem.W.codeIn K cdv qual = true) (S : FnScope N ps scope)
    (len : ∀ vs H Q E, sp vs H Q E → vs.length = ps.length)
    (hbody : ∀ (A : Around) (outer : List Env) (s : Shared) (H : Hp) (vs : List V) (Q : VK) (E : XK), Room k (A.deeper (envOfC qual scope s.heap.objs.size f cdv)) → sp vs H Q E →
      ∃ t, PSs (cxOf CX P w K mg base N qual scope f cdv A outer s H E) body t ∧ t { nx := fun _ H' => Q .non H', rt := Q } (start N vs) H) :
    FnOk P w K mg base CX (k + 1) f (PySem.W.fnOf name qual params body scope dV kV doc pm an cdv ct) ps sp := by
  refine ⟨len, fun A outer s H args us vs Q E hr e0 hb r hsp => ?_⟩
  have hl := len _ _ _ _ hsp
  have KX : K.In s.heap := e0.mod.kin.keeps fun b o e => (e0.bs b o e).1
  have lim : s.heap.NoLimit := e0.mod.nolimit.keeps fun b o e => (e0.bs b o e).1
  have hkind : ∀ y ∈ ps.zip us, scope.names.lookup y.1 = some .local ∨ (scope.names.lookup y.1 = some .cell ∧ ((cellsFrom (s.heap.objs.size + 1) scope.names []).lookup y.1).isSome = true) := fun ⟨n, v⟩ hy => by
    rcases S.par n (List.of_mem_zip hy).1 with q | q
    · exact .inl q
    · exact .inr ⟨q, PySem.W.cellsFrom_some _ _ _ (.inl q)⟩
  refine codeAny_call_function hr.depth (KX _ _ lk) rfl S.co S.gen rfl (PySem.W.codeRec_of KX hcd) (hb _ _ _ _ ?_)
  refine wpAny_newFunctionEnv_cells S.kind hkind fun env he s1 x => ?_
  subst he
  refine ⟨lim.keeps x.toInCall.keep, codeAny_func ?_⟩
  obtain ⟨t, ht, hq⟩ := hbody A outer s H vs Q E (hr.deeper _) hsp
  have I : Inv (cxOf CX P w K mg base N qual scope f cdv A outer s H E) [] (start N vs) H s1 := inv_start S hr.hd e0 hl r x
  refine wpAny_mono (ht [] s1 (start N vs) H _ I hq) (fun fl s' hs => ?_) fun e s' hs => hs
  have fin : ∀ {σ' : St} {H' : Hp} {v : V} {u : Value}, Inv (cxOf CX P w K mg base N qual scope f cdv A outer s H E) [] σ' H' s' → RelV v u → Q v H' → CE outer P w H s Q u s' :=
    fun {σ' H' v u} J rv q => ⟨v, H', J.os, J.bare, J.base, J.hok, rv, q⟩
  cases fl with
  | ret u =>
    obtain ⟨v, σ', H', J, rv, q⟩ := hs
    exact fin J rv q
  | next =>
    obtain ⟨σ', H', J, q⟩ := hs
    exact fin (v := V.non) (u := Value.none) J rfl q
  | brk =>
    obtain ⟨_, _, _, q⟩ := hs
    exact False.elim q
  | cont =>
    obtain ⟨_, _, _, q⟩ := hs
    exact False.elim q
end L2
namespace L2
open PySem PySem.Spec PyProof.Rows
section
variable {X : Cx} {x : Str} {p pos : Pos} {e : Expr} {es : List Expr} {t : TA} {id T : String} {r : List V → Hp → VK → Prop}
def tCB (r : List V → Hp → VK → Prop) (t : TA) : TE := fun σ H Q => t σ H fun vs H1 => r vs H1 Q
theorem pe_callB (hc : CallR X (.builtin id) r) (hg : Gl X x) (hm : X.mg x = none) (hv : bootBuiltins x = some (.builtin id)) (ha : PA X (e :: es) t) (hn : x ≠ "__name__" := by decide) (hdb : (x == ("__debug__" : Str)) = false := by decide)
    (he : starEach (e :: es) X.env = (false, eval e X.env) :: starEach es X.env := by rfl) (hpl : (backTo pos (starEach es X.env)).any (·.1) = false := by rfl) : PE X (.Call (.Name x p) (e :: es) [] pos) (tCB r t) := by
  intro pins s σ H Q I h
  refine wpAny_Call_Name_kw (ld_blt I hg hm hv ?_ hn hdb)
  exact PyProof.Rows.callWith_builtin1 (thn (ha pos pins s σ H _ I h) fun us s1 ⟨vs, H1, I1, r1, q1⟩ => hc pins s1 σ H1 vs us Q I1 r1 q1) he hpl
theorem pe_callTy (hc : CallR X (.type T) r) (hg : Gl X x) (hm : X.mg x = none) (hv : bootBuiltins x = some (.type T)) (ha : PA X (e :: es) t) (hn : x ≠ "__name__" := by decide) (hdb : (x == ("__debug__" : Str)) = false := by decide)
    (he : starEach (e :: es) X.env = (false, eval e X.env) :: starEach es X.env := by rfl) (hpl : (backTo pos (starEach es X.env)).any (·.1) = false := by rfl) : PE X (.Call (.Name x p) (e :: es) [] pos) (tCB r t) := by
  intro pins s σ H Q I h
  refine wpAny_Call_Name_kw (ld_blt I hg hm hv ?_ hn hdb)
  exact PyProof.Rows.callWith_type1 (thn (ha pos pins s σ H _ I h) fun us s1 ⟨vs, H1, I1, r1, q1⟩ => hc pins s1 σ H1 vs us Q I1 r1 q1) he hpl
end
end L2
namespace L2
open PySem PySem.Spec PyProof.Rows
section
variable {κ : Type} [DecidableEq κ]
def valV (kvs : List (κ × V)) (k : κ) : Option V := (kvs.find? fun kv => decide (kv.1 = k)).map (·.2)
def putK (kvs : List (κ × V)) (k : κ) (v : V) : List (κ × V) :=
  if (kvs.any fun kv => decide (kv.1 = k)) = true then kvs.map (fun kv => if kv.1 = k then (kv.1, v) else kv) else kvs ++ [(k, v)]
def dropK (kvs : List (κ × V)) (k : κ) : List (κ × V) := kvs.filter fun kv => decide (kv.1 ≠ k)
theorem valV_pos {p : κ × V} {r : List (κ × V)} {k : κ} (e : p.1 = k) : valV (p :: r) k = some p.2 := by simp [valV, List.find?_cons, e]
theorem valV_neg {p : κ × V} {r : List (κ × V)} {k : κ} (e : ¬ p.1 = k) : valV (p :: r) k = valV r k := by simp [valV, List.find?_cons, e]
theorem valV_any (k : κ) : ∀ kvs : List (κ × V), (kvs.any fun kv => decide (kv.1 = k)) = (valV kvs k).isSome
  | [] => rfl
  | p :: r => by
    rw [List.any_cons]
    by_cases e : p.1 = k
    · simp only [valV_pos e, decide_eq_true e, Bool.true_or, Option.isSome_some]
    · rw [valV_neg e, decide_eq_false e, Bool.false_or]; exact valV_any k r
theorem length_putK (kvs : List (κ × V)) (k : κ) (v : V) : (putK kvs k v).length ≤ kvs.length + 1 := by
  unfold putK
  split
  · rw [List.length_map]; omega
  · rw [List.length_append, List.length_cons, List.length_nil]; omega
theorem RelO.isSome_eq {o : Option V} {u : Option Value} (r : RelO o u) : o.isSome = u.isSome := by
  cases o with
  | none => cases u with
    | none => rfl
    | some _ => exact (show False from r).elim
  | some _ => cases u with
    | none => exact (show False from r).elim
    | some _ => rfl
theorem RelO.getD {o : Option V} {u : Option Value} {d : V} {d' : Value} (r : RelO o u) (rd : RelV d d') : RelV (o.getD d) (u.getD d') := by
  cases o with
  | none => cases u with
    | none => exact rd
    | some _ => exact (show False from r).elim
  | some _ => cases u with
    | none => exact (show False from r).elim
    | some _ => exact r
theorem KV.val {kvs : List (κ × V)} {vs : List (κ × Value)} (r : KV kvs vs) (k : κ) : RelO (valV kvs k) (valueAt vs k) := by
  unfold KV at r
  induction r with
  | nil => exact True.intro
  | @cons p q ps qs h t ih =>
    obtain ⟨h1, h2⟩ := h
    by_cases e : p.1 = k
    · have e' : q.1 = k := h1.symm.trans e
      have b : valueAt (q :: qs) k = some q.2 := by simp [valueAt, List.find?_cons, e']
      rw [valV_pos e, b]; exact h2
    · have e' : ¬ q.1 = k := fun z => e (h1.trans z)
      have b : valueAt (q :: qs) k = valueAt qs k := by simp [valueAt, List.find?_cons, e']
      rw [valV_neg e, b]; exact ih
theorem KV.any {kvs : List (κ × V)} {vs : List (κ × Value)} (r : KV kvs vs) (k : κ) : (kvs.any fun kv => decide (kv.1 = k)) = vs.any fun kv => decide (kv.1 = k) := by
  unfold KV at r
  induction r with
  | nil => rfl
  | cons h t ih => rw [List.any_cons, List.any_cons, ih, h.1]
theorem KV.repl {kvs : List (κ × V)} {vs : List (κ × Value)} (r : KV kvs vs) (k : κ) {y : V} {u : Value} (ry : RelV y u) :
    KV (kvs.map fun kv => if kv.1 = k then (kv.1, y) else kv) (vs.map fun kv => if kv.1 = k then (kv.1, u) else kv) := by
  unfold KV at r ⊢
  induction r with
  | nil => exact .nil
  | @cons p q ps qs h t ih =>
    rw [List.map_cons, List.map_cons]
    refine .cons ?_ ih
    obtain ⟨h1, h2⟩ := h
    by_cases e : p.1 = k
    · rw [if_pos e, if_pos (h1.symm.trans e)]; exact ⟨h1, ry⟩
    · rw [if_neg e, if_neg (fun z => e (h1.trans z))]; exact ⟨h1, h2⟩
theorem KV.put {kvs : List (κ × V)} {vs : List (κ × Value)} (r : KV kvs vs) (k : κ) {y : V} {u : Value} (ry : RelV y u) : KV (putK kvs k y) (stored vs k u) := by
  unfold putK stored
  rw [r.any k]
  by_cases e : (vs.any fun kv => decide (kv.1 = k)) = true
  · rw [if_pos e, if_pos e]; exact r.repl k ry
  · rw [if_neg e, if_neg e]; exact Paired.snoc r ⟨rfl, ry⟩
theorem KV.drop {kvs : List (κ × V)} {vs : List (κ × Value)} (r : KV kvs vs) (k : κ) : KV (dropK kvs k) (without vs k) := by
  unfold KV at r ⊢
  unfold dropK without
  induction r with
  | nil => exact .nil
  | @cons p q ps qs h t ih =>
    obtain ⟨h1, h2⟩ := h
    rw [List.filter_cons, List.filter_cons]
    by_cases e : p.1 = k
    · have a : ¬ decide (p.1 ≠ k) = true := by simp [e]
      have b : ¬ decide (q.1 ≠ k) = true := by simp [h1.symm.trans e]
      rw [if_neg a, if_neg b]; exact ih
    · have e' : ¬ q.1 = k := fun z => e (h1.trans z)
      have a : decide (p.1 ≠ k) = true := by simp [e]
      have b : decide (q.1 ≠ k) = true := by simp [e']
      rw [if_pos a, if_pos b]; exact .cons ⟨h1, h2⟩ ih
theorem KV.keys {kvs : List (κ × V)} {vs : List (κ × Value)} (r : KV kvs vs) : kvs.map (·.1) = vs.map (·.1) := by
  unfold KV at r
  induction r with
  | nil => rfl
  | cons h t ih => rw [List.map_cons, List.map_cons, ih, h.1]
theorem KV.length {kvs : List (κ × V)} {vs : List (κ × Value)} (r : KV kvs vs) : kvs.length = vs.length := Paired.length r
end
theorem kV_is {P : Program} {w : World} {k : Key} {u : Value} (r : RelV (kV k) u) : (mixKind P w).is k u = true := by
  cases k with
  | inl i => obtain ⟨t, e⟩ := (show ∃ t, u = Value.int i t from r); subst e; exact mixKind_int P w i t
  | inr x => obtain ⟨t, e⟩ := (show ∃ t, u = Value.str x t from r); subst e; exact mixKind_str P w x t
theorem items_are {P : Program} {w : World} : ∀ {ks : List Key} {us : List Value}, Vals (ks.map kV) us → ItemsAre (mixKind P w) ks us
  | [], _, r => by rw [List.map_nil] at r; cases r; exact .nil
  | k :: ks, _, r => by
    rw [List.map_cons] at r
    cases r with
    | cons h t => exact .cons (kV_is h) (items_are t)
abbrev KT (H : Hp) : List (List Key × V) → List (List Key × Addr × Value) → Prop := Paired fun p q => p.1 = q.1 ∧ H q.2.1 = some (.tup (p.1.map kV)) ∧ RelV p.2 q.2.2
theorem KT.val {H : Hp} {kvs : List (List Key × V)} {xs : List (List Key × Addr × Value)} (r : KT H kvs xs) (k : List Key) : RelO (valV kvs k) ((atKey xs k).map (·.2)) := by
  induction r with
  | nil => exact True.intro
  | @cons p q ps qs h t ih =>
    obtain ⟨h1, _, h2⟩ := h
    by_cases e : p.1 = k
    · have e' : q.1 = k := h1.symm.trans e
      have b : atKey (q :: qs) k = some q.2 := by simp [atKey, List.find?_cons, e']
      rw [valV_pos e, b]; exact h2
    · have e' : ¬ q.1 = k := fun z => e (h1.trans z)
      have b : atKey (q :: qs) k = atKey qs k := by simp [atKey, List.find?_cons, e']
      rw [valV_neg e, b]; exact ih
theorem KT.repl {H : Hp} {kvs : List (List Key × V)} {xs : List (List Key × Addr × Value)} (r : KT H kvs xs) (k : List Key) {y : V} {u : Value} (ry : RelV y u) :
    KT H (kvs.map fun kv => if kv.1 = k then (kv.1, y) else kv) (xs.map (putAt k u)) := by
  induction r with
  | nil => exact .nil
  | @cons p q ps qs h t ih =>
    rw [List.map_cons, List.map_cons]
    refine .cons ?_ ih
    obtain ⟨h1, h2, h3⟩ := h
    unfold putAt
    by_cases e : p.1 = k
    · rw [if_pos e, if_pos (h1.symm.trans e)]; exact ⟨h1, h2, ry⟩
    · rw [if_neg e, if_neg (fun z => e (h1.trans z))]; exact ⟨h1, h2, h3⟩
theorem KT.put {H : Hp} {kvs : List (List Key × V)} {xs : List (List Key × Addr × Value)} (r : KT H kvs xs) (k : List Key) {b : Addr} {y : V} {u : Value} (hb : H b = some (.tup (k.map kV))) (ry : RelV y u) :
    KT H (putK kvs k y) (storedH xs k b u) := by
  have e : (kvs.any fun kv => decide (kv.1 = k)) = (atKey xs k).isSome := by
    rw [valV_any, (r.val k).isSome_eq, Option.isSome_map]
  unfold putK storedH
  rw [e]
  by_cases q : (atKey xs k).isSome = true
  · rw [if_pos q, if_pos q]; exact r.repl k ry
  · rw [if_neg q, if_neg q]; exact Paired.snoc r ⟨rfl, hb, ry⟩
theorem KT.keeps {H H' : Hp} {kvs : List (List Key × V)} {xs : List (List Key × Addr × Value)} (r : KT H kvs xs) (ht : ∀ b ys, H b = some (.tup ys) → H' b = some (.tup ys)) : KT H' kvs xs :=
  Paired.mapP r fun _ _ z => ⟨z.1, ht _ _ z.2.1, z.2.2⟩
section
variable {P : Program} {w : World} {H : Hp} {h : Heap} {a : Addr}
theorem rd_of {u : HO} (ok : HOk P w H h) (e : Rd H a u) : ObjOk P w H h a u := e.ok ok
theorem dk_rd {kvs : List (Key × V)} (ok : HOk P w H h) (e : Rd H a (.dK kvs)) : kvs.length ≤ sizeLine ∧ (a == sysModules) = false ∧ ∃ vs, KV kvs vs ∧ h.DictOf (mixKind P w) a vs :=
  show ObjOk P w H h a (.dK kvs) from rd_of ok e
theorem dk_of {kvs : List (Key × V)} (ok : HOk P w H h) (e : H a = some (.dK kvs)) : kvs.length ≤ sizeLine ∧ (a == sysModules) = false ∧ ∃ vs, KV kvs vs ∧ h.DictOf (mixKind P w) a vs := dk_rd ok (.inl e)
theorem key_of {ks : List Key} (ok : HOk P w H h) (e : H a = some (.tup (ks.map kV))) : (tupleKind (mixKind P w)).is h ks a := by
  obtain ⟨_, its, r, o, h1, h2, n, h3⟩ := (show ObjOk P w H h a (.tup (ks.map kV)) from ok a _ e)
  exact ⟨o, its.toArray, n, h1, h2, h3, by simpa using items_are r⟩
theorem dt_rd {kvs : List (List Key × V)} (ok : HOk P w H h) (e : Rd H a (.dT kvs)) : kvs.length ≤ sizeLine ∧ (a == sysModules) = false ∧
    ∃ xs, KT H kvs xs ∧ h.DictOfH (tupleKind (mixKind P w)) a xs := by
  obtain ⟨z, y, xs, r, o, es, ep, h1, h2, h3, h4, h5⟩ := (show ObjOk P w H h a (.dT kvs) from rd_of ok e)
  refine ⟨z, y, xs, r, o, es, ep, h1, h2, h3, h4, fun x hx => ?_, h5⟩
  have all : ∀ {l : List (List Key × V)} {m : List (List Key × Addr × Value)}, KT H l m → ∀ x ∈ m, (tupleKind (mixKind P w)).is h x.1 x.2.1 := by
    intro l m q
    induction q with
    | nil => intro x hx; exact nomatch hx
    | @cons p q ps qs hq t ih =>
      intro x hx
      rcases List.mem_cons.mp hx with e | hx
      · subst e
        exact key_of ok (by rw [← hq.1]; exact hq.2.1)
      · exact ih x hx
  exact all r x hx
theorem dt_of {kvs : List (List Key × V)} (ok : HOk P w H h) (e : H a = some (.dT kvs)) : kvs.length ≤ sizeLine ∧ (a == sysModules) = false ∧
    ∃ xs, KT H kvs xs ∧ h.DictOfH (tupleKind (mixKind P w)) a xs := dt_rd ok (.inl e)
end
def DGet (H : Hp) (a : Addr) (y : V) (r : Option V) : Prop :=
  (∃ kvs k, Rd H a (.dK kvs) ∧ y = kV k ∧ r = valV kvs k) ∨ ∃ kvs k b, Rd H a (.dT kvs) ∧ y = .ref b ∧ H b = some (.tup (k.map kV)) ∧ r = valV kvs k
def DPut (H : Hp) (a : Addr) (y v : V) (H' : Hp) : Prop :=
  (∃ kvs k, H a = some (.dK kvs) ∧ y = kV k ∧ kvs.length < sizeLine ∧ H' = upd H a (.dK (putK kvs k v))) ∨
  ∃ kvs k b, H a = some (.dT kvs) ∧ y = .ref b ∧ H b = some (.tup (k.map kV)) ∧ kvs.length < sizeLine ∧ H' = upd H a (.dT (putK kvs k v))
theorem DGet.k {H : Hp} {a : Addr} {kvs : List (Key × V)} {k : Key} (e : H a = some (.dK kvs)) : DGet H a (kV k) (valV kvs k) := .inl ⟨kvs, k, .inl e, rfl, rfl⟩
theorem DGet.t {H : Hp} {a b : Addr} {kvs : List (List Key × V)} {k : List Key} (e : H a = some (.dT kvs)) (eb : H b = some (.tup (k.map kV))) : DGet H a (.ref b) (valV kvs k) := .inr ⟨kvs, k, b, .inl e, rfl, eb, rfl⟩
theorem DPut.k {H : Hp} {a : Addr} {kvs : List (Key × V)} {k : Key} {v : V} (e : H a = some (.dK kvs)) (hl : kvs.length < sizeLine) : DPut H a (kV k) v (upd H a (.dK (putK kvs k v))) := .inl ⟨kvs, k, e, rfl, hl, rfl⟩
theorem DPut.t {H : Hp} {a b : Addr} {kvs : List (List Key × V)} {k : List Key} {v : V} (e : H a = some (.dT kvs)) (eb : H b = some (.tup (k.map kV))) (hl : kvs.length < sizeLine) :
    DPut H a (.ref b) v (upd H a (.dT (putK kvs k v))) := .inr ⟨kvs, k, b, e, rfl, eb, hl, rfl⟩
section
variable {X : Cx} {pins : List (Addr × Obj)} {σ : St} {H : Hp} {s : Shared} {a : Addr} {y v : V} {u r : Value} {o : Option V} {A : Around} {E : Value → Shared → Prop}
theorem Inv.big (I : Inv X pins σ H s) : sysModules < s.heap.objs.size := by
  have h : mainGlobals < s.heap.objs.size := (I.mod.glob.keeps I.bk).lt
  exact Nat.lt_trans (by decide) h
theorem d_getItem {Q : Value → Shared → Prop} (hu : A.units + 1 < cLine) (I : Inv X pins σ H s) (g : DGet H a y (some v)) (ry : RelV y u) (h : ∀ w' s', Inv X pins σ H s' → RelV v w' → Q w' s') :
    wpAny (model X.prog X.w) A (getItem (.ref a) u) Q E s := by
  rcases g with ⟨kvs, k, e, ey, l⟩ | ⟨kvs, k, b, e, ey, eb, l⟩
  · subst ey
    obtain ⟨z, hd, vs, rel, dd⟩ := dk_rd I.hok e
    obtain ⟨w', hw, rw'⟩ := RelO.some_of (v := v) (o := valueAt vs k) (by rw [l]; exact rel.val k)
    exact wpAny_getItem_of (kV_is ry) dd.mapOf hw (h w' _ (I.tok _) rw')
  · subst ey
    cases (show u = Value.ref b from ry)
    obtain ⟨z, hd, xs, rel, dd⟩ := dt_rd I.hok e
    obtain ⟨w', hw, rw'⟩ := RelO.some_of (v := v) (o := (atKey xs k).map (·.2)) (by rw [l]; exact rel.val k)
    obtain ⟨p, hp, hp2⟩ := Option.map_eq_some_iff.mp hw
    refine wpAny_getItem_heap (tupleKind_room_in1 hu) (key_of I.hok eb) dd hp ?_
    rw [hp2]
    exact h w' _ (I.tok _) rw'
theorem d_in {Q : Value → Shared → Prop} (hu : A.units + 1 < cLine) (I : Inv X pins σ H s) (g : DGet H a y o) (ry : RelV y u) (h : ∀ s', Inv X pins σ H s' → Q (.bool o.isSome) s') :
    wpAny (model X.prog X.w) A (compareOp .In u (.ref a)) Q E s := by
  rcases g with ⟨kvs, k, e, ey, l⟩ | ⟨kvs, k, b, e, ey, eb, l⟩
  · subst ey
    obtain ⟨z, hd, vs, rel, dd⟩ := dk_rd I.hok e
    refine wpAny_in_of (kV_is ry) hd dd.mapOf ?_
    rw [← (rel.val k).isSome_eq, ← l]
    exact h _ (I.tok _)
  · subst ey
    cases (show u = Value.ref b from ry)
    obtain ⟨z, hd, xs, rel, dd⟩ := dt_rd I.hok e
    refine wpAny_in_heap (tupleKind_room_in1 hu) (key_of I.hok eb) hd dd ?_
    have q := (rel.val k).isSome_eq
    rw [Option.isSome_map] at q
    rw [← q, ← l]
    exact h _ (I.tok _)
theorem d_notIn {Q : Value → Shared → Prop} (hu : A.units + 1 < cLine) (I : Inv X pins σ H s) (g : DGet H a y o) (ry : RelV y u) (h : ∀ s', Inv X pins σ H s' → Q (.bool (!o.isSome)) s') :
    wpAny (model X.prog X.w) A (compareOp .NotIn u (.ref a)) Q E s := by
  rcases g with ⟨kvs, k, e, ey, l⟩ | ⟨kvs, k, b, e, ey, eb, l⟩
  · subst ey
    obtain ⟨z, hd, vs, rel, dd⟩ := dk_rd I.hok e
    refine wpAny_notIn_of (kV_is ry) hd dd.mapOf ?_
    rw [← (rel.val k).isSome_eq, ← l]
    exact h _ (I.tok _)
  · subst ey
    cases (show u = Value.ref b from ry)
    obtain ⟨z, hd, xs, rel, dd⟩ := dt_rd I.hok e
    refine wpAny_notIn_heap (tupleKind_room_in1 hu) (key_of I.hok eb) hd dd ?_
    have q := (rel.val k).isSome_eq
    rw [Option.isSome_map] at q
    rw [← q, ← l]
    exact h _ (I.tok _)
theorem d_write {h' : Heap} {t' : Nat} {ob : HO} (I : Inv X pins σ H s) (mu : Mut (H a)) (hs : Heap.SameBut a s.heap h') (he : ∃ q, h'.get? a = some q) (new : ObjOk X.prog X.w (upd H a ob) h' a ob) :
    Inv X pins σ (upd H a ob) { s with heap := h', toks := t' } :=
  I.write (x := a) (e := a) mu (.inl rfl) (fun b q hb z => (hs.2 b hb).trans z) he new
theorem dk_new {P : Program} {w : World} {H' : Hp} {h' : Heap} {kvs : List (Key × V)} {vs : List (Key × Value)} (z : kvs.length ≤ sizeLine) (hd : (a == sysModules) = false) (rel : KV kvs vs) (dd : h'.DictOf (mixKind P w) a vs) :
    ObjOk P w H' h' a (.dK kvs) := ⟨z, hd, vs, rel, dd⟩
theorem d_setItem {H' : Hp} {Q : Unit → Shared → Prop} (hu : A.units + 1 < cLine) (I : Inv X pins σ H s) (g : DPut H a y v H') (ry : RelV y u) (rv : RelV v r) (h : ∀ s', Inv X pins σ H' s' → Q () s') :
    wpAny (model X.prog X.w) A (setItem (.ref a) u r) Q E s := by
  rcases g with ⟨kvs, k, e, ey, l, eH⟩ | ⟨kvs, k, b, e, ey, eb, l, eH⟩
  · subst ey eH
    obtain ⟨z, hd, vs, rel, dd⟩ := dk_of I.hok e
    have hz : vs.length ≤ sizeLine := by rw [← rel.length]; exact z
    have hl : (putK kvs k v).length ≤ sizeLine := by have := length_putK kvs k v; omega
    refine wpAny_setItem_pairs (hsz := hz) (kV_is ry) dd fun h' dd' hs => h _ ?_
    have he : ∃ q, h'.get? a = some q := let ⟨q, _, _, hq, _⟩ := dd'; ⟨q, hq⟩
    exact d_write I (by rw [e]; exact True.intro) hs he (dk_new hl hd (rel.put k rv) dd')
  · subst ey eH
    cases (show u = Value.ref b from ry)
    obtain ⟨z, hd, xs, rel, dd⟩ := dt_of I.hok e
    have hz : xs.length ≤ sizeLine := by rw [← Paired.length rel]; exact z
    have hl : (putK kvs k v).length ≤ sizeLine := by have := length_putK kvs k v; omega
    refine wpAny_setItem_heap (hsz := hz) (tupleKind_room_in1 hu) (key_of I.hok eb) dd fun h' dd' hs => h _ ?_
    obtain ⟨q, es, ep, hq, h2, h3, h4, _, h5⟩ := dd'
    refine d_write I (by rw [e]; exact True.intro) hs ⟨q, hq⟩ ⟨hl, hd, _, (rel.put k eb rv).keeps fun c ys ec => ?_, q, es, ep, hq, h2, h3, h4, h5⟩
    rw [upd_ne (ne_of ec e (fun z => nomatch z))]
    exact ec
end
section
variable {X : Cx} {pins : List (Addr × Obj)} {σ : St} {H : Hp} {s : Shared} {a : Addr} {kvs : List (Key × V)} {k : Key} {u : Value} {A : Around} {E : Value → Shared → Prop}
theorem d_len {Q : Value → Shared → Prop} (I : Inv X pins σ H s) (e : Rd H a (.dK kvs)) (h : ∀ t s', Inv X pins σ H s' → Q (.int kvs.length t) s') : wpAny (model X.prog X.w) A (call (.builtin "len") [.ref a]) Q E s := by
  obtain ⟨z, hd, vs, rel, dd⟩ := dk_rd I.hok e
  refine call_len_dict hd dd (by rw [← rel.length]; rw [sizeLine_eq] at z; omega) ?_
  rw [← rel.length]
  exact h _ _ (I.tok _)
end
def NoSl (i : Expr) : Prop := ∀ ov iv, subscripted i false ov iv = operate [ov, iv] (getItem ov iv)
theorem subD_of {prog : Program} {w : World} {A : Around} {E : Value → Shared → Prop} {s : Shared} {env : Env} {value slice : Expr} {pos : Pos} {T id : String} {Q : Value → Shared → Prop}
    (hl : typeLookup (.type T) "__getitem__" = pure (some (.builtin id))) (hs : NoSl slice)
    (h : wpAny (model prog w) A (eval value env) (fun o s₁ => wpAny (model prog w) A (eval slice env) (fun i s₂ => s₂.TypeIs o T ∧ wpAny (model prog w) A (getItem o i) Q E s₂) E s₁) E s) :
    wpAny (model prog w) A (eval (.Subscript value slice pos) env) Q E s := by
  refine Subscript_ (wpAny_mono h (fun o s₁ h₁ => wpAny_mono h₁ (fun i s₂ h₂ => ?_) fun _ _ x => x) fun _ _ x => x)
  obtain ⟨hT, h₂⟩ := h₂
  unfold subscriptTail
  refine wpAny_bind ?_
  rw [getitemInPython_of_ne hT.not_modules]
  refine wpAny_bind (wpAny_specialOf hT hl ?_)
  have fin : wpAny (model prog w) A (subscripted slice false o i) (fun r s₃ => wpAny (model prog w) A (letTemporaryGo value o r >>= fun _ => pure r) Q E s₃) E s₂ := by
    rw [hs o i]
    exact wpAny_operating (wpAny_mono h₂ (fun r s₃ h₃ => wpAny_bind (wpAny_letTemporaryGo (wpAny_pure h₃))) fun _ _ x => x)
  first
    | exact wpAny_pure (wpAny_bind fin)
    | exact wpAny_bind (wpAny_pure (wpAny_bind fin))
    | exact wpAny_bind fin
theorem dict_typeIs {X : Cx} {pins : List (Addr × Obj)} {σ : St} {H : Hp} {s : Shared} {a : Addr} {y : V} {o : Option V} (I : Inv X pins σ H s) (g : DGet H a y o) : s.TypeIs (.ref a) "dict" := by
  rcases g with ⟨kvs, k, e, _, _⟩ | ⟨kvs, k, b, e, _, _, _⟩
  · obtain ⟨_, _, vs, _, dd⟩ := dk_rd I.hok e
    exact dd.typeIs
  · obtain ⟨_, _, xs, _, dd⟩ := dt_rd I.hok e
    exact dd.typeIs
def tDGet (td ty : TE) : TE := fun σ H Q => td σ H fun x H1 => ty σ H1 fun y H2 => ∃ a v, x = .ref a ∧ DGet H2 a y (some v) ∧ Q v H2
def tDNotIn (ty td : TE) : TE := fun σ H Q => ty σ H fun y H1 => td σ H1 fun x H2 => ∃ a o, x = .ref a ∧ DGet H2 a y o ∧ Q (.bl (!o.isSome)) H2
def sDPut (td ty tv : TE) : TS := fun D σ H => tv σ H fun v H1 => td σ H1 fun x H2 => ty σ H2 fun y H3 => ∃ a H4, x = .ref a ∧ DPut H3 a y v H4 ∧ D.nx σ H4
section
variable {X : Cx} {o i e value : Expr} {pos pos' tpos : Pos} {td ty tv : TE}
theorem pe_dget (hu : X.A.units + 1 < cLine) (ho : PE X o td) (hi : PE X i ty) (hs : NoSl i) : PE X (.Subscript o i pos) (tDGet td ty) := by
  intro pins s σ H Q I h
  refine subD_of PySem.F.slot_dict_getitem.lookup hs (thn (ho pins s σ H _ I h) fun u s1 ⟨x, H1, I1, rx, q1⟩ => thn (hi pins s1 σ H1 _ I1 q1) fun iv s2 ⟨y, H2, I2, ry, a, v, ex, g, q2⟩ => ?_)
  subst ex
  obtain rfl : u = Value.ref a := rx
  exact ⟨dict_typeIs I2 g, d_getItem hu I2 g ry fun w' s3 I3 rw' => ⟨v, H2, I3, rw', q2⟩⟩
theorem pc_dnotin (hu : X.A.units + 1 < cLine) (hi : PE X i ty) (ho : PE X o td) : PC X .NotIn i o (tDNotIn ty td) := by
  intro pins s σ H Q I h
  refine thn (hi pins s σ H _ I h) fun iv s1 ⟨y, H1, I1, ry, q1⟩ => thn (ho pins s1 σ H1 _ I1 q1) fun u s2 ⟨x, H2, I2, rx, a, ov, ex, g, q2⟩ => ?_
  subst ex
  obtain rfl : u = Value.ref a := rx
  exact d_notIn hu I2 g ry fun s3 I3 => ⟨.bl (!ov.isSome), H2, I3, rfl, q2⟩
theorem ps_dput (hu : X.A.units + 1 < cLine) (ho : PE X o td) (hi : PE X i ty) (hv : PE X value tv) (hs : swapsWith value (some (.Subscript o i pos')) pos.line X.env = pure false) :
    PS X (.Assign [.Subscript o i pos'] value pos) (sDPut td ty tv) := by
  intro pins s σ H D I h
  refine wpAny_Assign_Subscript (thn (hv pins s σ H _ I h) fun r s1 ⟨v, H1, I1, rv, q1⟩ => thn (ho pins s1 σ H1 _ I1 q1) fun u s2 ⟨x, H2, I2, rx, q2⟩ => thn (hi pins s2 σ H2 _ I2 q2) fun iv s3 ⟨y, H3, I3, ry, a, H4, ex, g, q3⟩ => ?_) hs
  subst ex
  obtain rfl : u = Value.ref a := rx
  exact d_setItem hu I3 g ry rv fun s4 I4 => ⟨σ, H4, I4, q3⟩
end
theorem dk_empty {P : Program} {w : World} {H : Hp} (h : Heap) (hb : sysModules < h.objs.size) : ObjOk P w H (h.push { cls := .type "dict", data := .dict #[] }) h.objs.size (.dK []) :=
  ⟨Nat.zero_le _, beq_eq_false_iff_ne.mpr (Ne.symm (Nat.ne_of_lt hb)), [], .nil, Heap.DictOf.new h⟩
def tDNewK : TE := fun _ H Q => ∀ p, H p = none → Q (.ref p) (upd H p (.dK []))
section
variable {X : Cx} {pos : Pos}
theorem pe_dnewK : PE X (.Dict [] [] pos) tDNewK := fun pins s σ H Q I h =>
  wpAny_Dict_empty ⟨.ref s.heap.objs.size, _, I.laid (a := s.heap.objs.size) (o := .dK []) (t' := s.toks) (fun _ _ q => Heap.get?_push_of_some _ q) (Nat.le_refl _) (dk_empty s.heap I.big), rfl, h _ (I.hok.fresh (Nat.le_refl _))⟩
end
section
variable {X : Cx} {pins : List (Addr × Obj)} {σ : St} {H : Hp} {s : Shared} {a : Addr} {y d : V} {u r : Value} {o : Option V} {A : Around} {E : Value → Shared → Prop}
end
section
variable {X : Cx} {o e f : Expr} {apos cpos : Pos} {td ty tx : TE}
end
section
variable {X : Cx} {pins : List (Addr × Obj)} {σ : St} {H : Hp} {s : Shared} {a : Addr} {kvs : List (Key × V)} {A : Around} {E : Value → Shared → Prop}
end
section
variable {X : Cx} {pins : List (Addr × Obj)} {σ : St} {H : Hp} {s : Shared} {a : Addr} {y : V} {u : Value} {A : Around} {E : Value → Shared → Prop}
end
end L2
namespace HT
open PySem PyProof.Rows
section
open PySem.SeqAt
open PySem.AutoSeq1 (wpAny_loadPart')
open PySem.MeetsSeq PySem.MeetsSeq2 PySem.MeetsSeq3
end
section
variable {prog : Program} {w : World} {A : Around} {E : Value → Shared → Prop} {s : Shared}
end
end HT
namespace L2
open PySem PySem.Spec PyProof.Rows
abbrev TO := St → Hp → (Option Int → Hp → Prop) → Prop
section
variable {X : Cx} {e : Expr} {te : TE} {lo hi : Option Expr} {tl th : TO} {pos p2 : Pos}
def SlR (X : Cx) (r : V → Option Int → Option Int → Hp → VK → Prop) : Prop :=
  ∀ (pins : List (Addr × Obj)) (s : Shared) (σ : St) (H : Hp) (x : V) (v vl vu : Value) (lo hi : Option Int) (sl : Addr) (Q : VK), Inv X pins σ H s → RelV x v → s.heap.IsSliceOf sl vl vu .none → IsPart vl lo → IsPart vu hi → r x lo hi H Q →
    ∃ T id, typeLookup (.type T) "__getitem__" = pure (some (.builtin id)) ∧ s.TypeIs v T ∧ wpAny (model X.prog X.w) X.A (getItem v (.ref sl)) (EP X pins σ Q) X.xe s
theorem SlR.or {r r' : V → Option Int → Option Int → Hp → VK → Prop} (h : SlR X r) (h' : SlR X r') : SlR X (fun x lo hi H Q => r x lo hi H Q ∨ r' x lo hi H Q) := by
  intro pins s σ H x v vl vu lo hi sl Q I rx hs pl pu q
  rcases q with q | q
  · exact h pins s σ H x v vl vu lo hi sl Q I rx hs pl pu q
  · exact h' pins s σ H x v vl vu lo hi sl Q I rx hs pl pu q
end
end L2
namespace L2
open PySem PySem.Spec PyProof.Rows
def ixN (n : Nat) (i : Int) : Option Nat := if 0 ≤ i then (if i < n then some i.toNat else none) else if -(n : Int) ≤ i then some (i + n).toNat else none
def atI {α : Type} (xs : List α) (i : Int) : Option α := (ixN xs.length i).bind fun j => xs[j]?
theorem ixN_seq {n : Nat} {i : Int} {j : Nat} (h : ixN n i = some j) : seqIndex? i n = some j ∧ j < n ∧ -(n : Int) ≤ i ∧ i < n := by
  unfold ixN at h
  by_cases h0 : 0 ≤ i
  · rw [if_pos h0] at h
    by_cases h1 : i < n
    · rw [if_pos h1] at h
      have e : i.toNat = j := Option.some.inj h
      exact ⟨by rw [seqIndex_of h0 h1, e], by omega, by omega, h1⟩
    · rw [if_neg h1] at h; cases h
  · rw [if_neg h0] at h
    by_cases h1 : -(n : Int) ≤ i
    · rw [if_pos h1] at h
      have e : (i + n).toNat = j := Option.some.inj h
      exact ⟨by rw [seqIndex_neg (by omega) h1, e], by omega, h1, by omega⟩
    · rw [if_neg h1] at h; cases h
theorem atI_get {α : Type} {xs : List α} {i : Int} {v : α} (h : atI xs i = some v) : ∃ j, seqIndex? i xs.length = some j ∧ xs[j]? = some v ∧ j < xs.length ∧ -(xs.length : Int) ≤ i ∧ i < xs.length := by
  unfold atI at h
  cases e : ixN xs.length i with
  | none => rw [e] at h; cases h
  | some j =>
    rw [e] at h
    obtain ⟨h1, h2, h3, h4⟩ := ixN_seq e
    exact ⟨j, h1, h, h2, h3, h4⟩
theorem atI_nat {α : Type} {xs : List α} {j : Nat} {v : α} (h : xs[j]? = some v) : atI xs (j : Int) = some v := by
  have hj : j < xs.length := (List.getElem?_eq_some_iff.mp h).1
  have e : ixN xs.length (j : Int) = some j := by
    unfold ixN
    rw [if_pos (by omega), if_pos (by omega)]; simp
  unfold atI; rw [e]; exact h
def PlainIx (b : Expr) : Prop := ∀ o i, subscripted b false o i = operate [o, i] (getItem o i)
def IxR (X : Cx) (r : R2) : Prop :=
  ∀ (value slice : Expr) (pins : List (Addr × Obj)) (s : Shared) (σ : St) (H : Hp) (x y : V) (v u : Value) (Q : VK), Inv X pins σ H s → RelV x v → RelV y u → r x y H Q →
    subscripted slice false v u = operate [v, u] (getItem v u) → wpAny (model X.prog X.w) X.A (subscriptTail value slice v u) (EP X pins σ Q) X.xe s
def MtR (X : Cx) (id : String) (r : V → List V → Hp → VK → Prop) : Prop :=
  ∀ (pins : List (Addr × Obj)) (s : Shared) (σ : St) (H : Hp) (x : V) (xs : List V) (v : Value) (us : List Value) (Q : VK), Inv X pins σ H s → RelV x v → Vals xs us → r x xs H Q →
    wpAny (model X.prog X.w) X.A (call (.builtin id) (v :: us)) (EP X pins σ Q) X.xe s
section
variable {X : Cx} {a b : Expr} {ta tb : TE} {pos : Pos}
theorem IxR.or {r r' : R2} (h : IxR X r) (h' : IxR X r') : IxR X (fun x y H Q => r x y H Q ∨ r' x y H Q) := by
  intro value slice pins s σ H x y v u Q I rx ry q hs
  rcases q with q | q
  · exact h value slice pins s σ H x y v u Q I rx ry q hs
  · exact h' value slice pins s σ H x y v u Q I rx ry q hs
theorem MtR.or {id : String} {r r' : V → List V → Hp → VK → Prop} (h : MtR X id r) (h' : MtR X id r') : MtR X id (fun x xs H Q => r x xs H Q ∨ r' x xs H Q) := by
  intro pins s σ H x xs v us Q I rx rs q
  rcases q with q | q
  · exact h pins s σ H x xs v us Q I rx rs q
  · exact h' pins s σ H x xs v us Q I rx rs q
theorem pe_ix {r : R2} (hr : IxR X r) (ha : PE X a ta) (hb : PE X b tb) (hs : PlainIx b) : PE X (.Subscript a b pos) (tOp r ta tb) := by
  intro pins s σ H Q I h
  exact Subscript_ (binT ha hb I h fun v u s2 x y H2 I2 rx ry q => hr a b pins s2 σ H2 x y v u Q I2 rx ry q (hs _ _))
def rIxL (K : PySem.W.Frag) : R2 := fun x y H Q => ∃ p xs i v, x = .ref p ∧ y = .int i ∧ SqL K H p xs ∧ atI xs i = some v ∧ Q v H
def rIxT (K : PySem.W.Frag) : R2 := fun x y H Q => ∃ p xs i v, x = .ref p ∧ y = .int i ∧ SqT K H p xs ∧ atI xs i = some v ∧ Q v H
def rIxS : R2 := fun x y H Q => ∃ z i c, x = .str z ∧ y = .int i ∧ z.length ≤ sizeLine ∧ atI z.cps.toList i = some c ∧ Q (.str ⟨#[c]⟩) H
theorem ix_list : IxR X (rIxL X.K) := by
  intro value slice pins s σ H x y v u Q I rx ry h hs
  obtain ⟨p, xs, i, z, rfl, rfl, hq, he, q⟩ := h
  cases rx
  obtain ⟨t, rfl⟩ := ry
  obtain ⟨its, r, pl, hz⟩ := I.list hq
  obtain ⟨j, h1, h2, h3, h4, h5⟩ := atI_get he
  obtain ⟨w, ew, rw'⟩ := r.get h2
  have hl := r.length
  have hn := line63
  have fin : EP X pins σ Q w s := ⟨z, H, I, rw', q⟩
  by_cases h0 : 0 ≤ i
  · have hj : i.toNat = j := by
      rw [seqIndex_of h0 h5] at h1
      exact Option.some.inj h1
    exact item_listR pl.isList h0 (by omega) (by rw [hj]; simpa using ew) fin hs
  · have hj : (i + (its.toArray.size : Int)).toNat = j := by
      rw [seqIndex_neg (by omega) h4] at h1
      rw [List.size_toArray, ← hl]
      exact Option.some.inj h1
    exact subscriptTail_builtinR (x := w) pl.isList.typeIs slot_list_getitem.lookup
      (wpAny_getItem_list_neg (Q := fun r s' => r = w ∧ EP X pins σ Q r s') pl.isList (by omega) (by rw [List.size_toArray] <;> omega) (by omega) (by rw [hj]; simpa using ew) ⟨rfl, fin⟩) hs
theorem ix_tup : IxR X (rIxT X.K) := by
  intro value slice pins s σ H x y v u Q I rx ry h hs
  obtain ⟨p, xs, i, z, rfl, rfl, hq, he, q⟩ := h
  cases rx
  obtain ⟨t, rfl⟩ := ry
  obtain ⟨its, r, pl, hz⟩ := I.tuple hq
  obtain ⟨j, h1, h2, h3, h4, h5⟩ := atI_get he
  obtain ⟨w, ew, rw'⟩ := r.get h2
  have hl := r.length
  have hn := line63
  have fin : EP X pins σ Q w s := ⟨z, H, I, rw', q⟩
  exact subscriptTail_builtinR (x := w) pl.typeIs slot_tuple_getitem.lookup
    (getItem_tuple (j := j) (Q := fun r s' => r = w ∧ EP X pins σ Q r s') pl (by omega) (by omega) (by rw [List.size_toArray, ← hl]; exact h1) (by simpa using ew) ⟨rfl, fin⟩) hs
theorem ix_str : IxR X rIxS := by
  intro value slice pins s σ H x y v u Q I rx ry h hs
  obtain ⟨z, i, c, rfl, rfl, hz, he, q⟩ := h
  obtain ⟨t, rfl⟩ := rx
  obtain ⟨t', rfl⟩ := ry
  obtain ⟨j, h1, h2, h3, h4, h5⟩ := atI_get he
  have hl : z.cps.toList.length = z.length := by simp [Str.length]
  rw [hl] at h1 h4 h5
  have hn := line63
  exact tail_any (typeIs_str s z t) slot_str_getitem.lookup (getItem_str (c := c) (by
    have e1 : decide (i < -(2 ^ 63 : Int)) = false := decide_eq_false (by omega)
    have e2 : decide (i ≥ 2 ^ 63) = false := decide_eq_false (by omega)
    rw [e1, e2, Bool.or_false]) (by rw [h1]; simpa using h2) ⟨.str ⟨#[c]⟩, H, I.tok _, ⟨_, rfl⟩, q⟩) hs
def rIx (K : PySem.W.Frag) : R2 := fun x y H Q => rIxL K x y H Q ∨ rIxT K x y H Q ∨ rIxS x y H Q
theorem ix_seq : IxR X (rIx X.K) := ix_list.or (ix_tup.or ix_str)
theorem Inv.lst {pins : List (Addr × Obj)} {σ : St} {H : Hp} {s : Shared} {p : Addr} {xs : List V} (I : Inv X pins σ H s) (h : H p = some (.lst xs)) :
    ∃ (its : List Value) (n : Nat), Vals xs its ∧ s.heap.get? p = some { cls := .type "list", data := .seq its.toArray n } ∧ xs.length ≤ sizeLine := by
  obtain ⟨z, its, n, r, e⟩ := I.hok p _ h
  exact ⟨its, n, r, e, z⟩
def flatV : V → Bool
  | .non => true
  | .bl _ => true
  | .int _ => true
  | .str _ => true
  | _ => false
def eqV : V → V → Bool
  | .non, .non => true
  | .bl a, .bl b => a == b
  | .bl a, .int b => (if a then 1 else 0) == b
  | .int a, .bl b => a == (if b then 1 else 0)
  | .int a, .int b => a == b
  | .str a, .str b => a == b
  | _, _ => false
theorem eqAt_V {A : Around} {s : Shared} {y x : V} {u v : Value} (ry : RelV y u) (rx : RelV x v) (fy : flatV y = true) (fx : flatV x = true) : SeqAt.EqAt A s u v (eqV y x) := by
  cases y with
  | non =>
    cases ry
    cases x with
    | non => cases rx; exact SeqAt.EqAt.same _
    | bl b => cases rx; exact SeqAt.EqAt.none_bool b
    | int b => obtain ⟨t, rfl⟩ := rx; exact SeqAt.EqAt.none_int b t
    | str b => obtain ⟨t, rfl⟩ := rx; exact SeqAt.EqAt.none_str b t
    | _ => exact absurd (show false = true from fx) Bool.false_ne_true
  | bl a =>
    cases ry
    cases x with
    | non => cases rx; exact SeqAt.EqAt.bool_none a
    | bl b => cases rx; exact SeqAt.EqAt.bool_bool a b
    | int b => obtain ⟨t, rfl⟩ := rx; exact SeqAt.EqAt.bool_int a b t
    | str b => obtain ⟨t, rfl⟩ := rx; exact SeqAt.EqAt.bool_str a b t
    | _ => exact absurd (show false = true from fx) Bool.false_ne_true
  | int a =>
    obtain ⟨t', rfl⟩ := ry
    cases x with
    | non => cases rx; exact SeqAt.EqAt.int_none a t'
    | bl b => cases rx; exact SeqAt.EqAt.int_bool a t' b
    | int b => obtain ⟨t, rfl⟩ := rx; exact SeqAt.EqAt.int_int a t' b t
    | str b => obtain ⟨t, rfl⟩ := rx; exact SeqAt.EqAt.int_str a t' b t
    | _ => exact absurd (show false = true from fx) Bool.false_ne_true
  | str a =>
    obtain ⟨t', rfl⟩ := ry
    cases x with
    | non => cases rx; exact SeqAt.EqAt.str_none a t'
    | bl b => cases rx; exact SeqAt.EqAt.str_bool a t' b
    | int b => obtain ⟨t, rfl⟩ := rx; exact SeqAt.EqAt.str_int a t' b t
    | str b => obtain ⟨t, rfl⟩ := rx; exact SeqAt.EqAt.str_str a t' b t
    | _ => exact absurd (show false = true from fx) Bool.false_ne_true
  | _ => exact absurd (show false = true from fy) Bool.false_ne_true
def eqU (x : V) (u : Value) : Bool := match u with
  | .none => eqV .non x
  | .bool b => eqV (.bl b) x
  | .int i _ => eqV (.int i) x
  | .str z _ => eqV (.str z) x
  | _ => false
theorem eqU_of {x y : V} {u : Value} (r : RelV y u) (f : flatV y = true) : eqU x u = eqV y x := by
  cases y with
  | non => cases r; rfl
  | bl b => cases r; rfl
  | int i => obtain ⟨t, rfl⟩ := r; rfl
  | str z => obtain ⟨t, rfl⟩ := r; rfl
  | _ => exact absurd (show false = true from f) Bool.false_ne_true
theorem any_eqU {x : V} : ∀ {xs : List V} {us : List Value}, Vals xs us → xs.all flatV = true → us.any (eqU x) = xs.any fun y => eqV y x
  | _, _, .nil, _ => rfl
  | y :: xs, u :: us, .cons r t, f => by
    rw [List.all_cons, Bool.and_eq_true] at f
    rw [List.any_cons, List.any_cons, eqU_of r f.1, any_eqU t f.2]
theorem mem_eqAt {A : Around} {s : Shared} {x : V} {v : Value} (rx : RelV x v) (fx : flatV x = true) : ∀ {xs : List V} {us : List Value}, Vals xs us → xs.all flatV = true → ∀ u ∈ us, SeqAt.EqAt A s u v (eqU x u)
  | _, _, .nil, _ => fun u hu => by cases hu
  | y :: xs, u :: us, .cons r t, f => fun u' hu => by
    rw [List.all_cons, Bool.and_eq_true] at f
    rcases List.mem_cons.mp hu with rfl | hu
    · rw [eqU_of r f.1]; exact eqAt_V r rx f.1 fx
    · exact mem_eqAt rx fx t f.2 u' hu
def inV (x : V) (xs : List V) : Bool := xs.any fun y => eqV y x
def rIn (K : PySem.W.Frag) (neg : Bool) : R2 := fun x y H Q => ∃ p xs, y = .ref p ∧ (SqL K H p xs ∨ SqT K H p xs) ∧ flatV x = true ∧ xs.all flatV = true ∧ Q (.bl (if neg then !inV x xs else inV x xs)) H
theorem op_in_seq : OpR X (compareOp .In) (rIn X.K false) := by
  intro pins s σ H x y v u Q I rx ry h
  obtain ⟨p, xs, rfl, hq, fx, fs, q⟩ := h
  cases ry
  rcases hq with hq | hq
  · obtain ⟨its, r, pl, hz⟩ := I.list hq
    refine SeqAt.in_listAt (eqU x) pl.isList (fun w hw => mem_eqAt rx fx r fs w (by simpa using hw)) ⟨.bl _, H, I, rfl, ?_⟩
    rw [show its.toArray.any (eqU x) = its.any (eqU x) by simp, any_eqU r fs]
    exact q
  · obtain ⟨its, r, pl, hz⟩ := I.tuple hq
    refine SeqAt.in_tupleAt (eqU x) pl (fun w hw => mem_eqAt rx fx r fs w (by simpa using hw)) ⟨.bl _, H, I, rfl, ?_⟩
    rw [show its.toArray.any (eqU x) = its.any (eqU x) by simp, any_eqU r fs]
    exact q
theorem op_notIn_seq : OpR X (compareOp .NotIn) (rIn X.K true) := by
  intro pins s σ H x y v u Q I rx ry h
  obtain ⟨p, xs, rfl, hq, fx, fs, q⟩ := h
  cases ry
  rcases hq with hq | hq
  · obtain ⟨its, r, pl, hz⟩ := I.list hq
    refine SeqAt.notIn_listAt (eqU x) pl.isList (fun w hw => mem_eqAt rx fx r fs w (by simpa using hw)) ⟨.bl _, H, I, rfl, ?_⟩
    rw [show its.toArray.any (eqU x) = its.any (eqU x) by simp, any_eqU r fs]
    exact q
  · obtain ⟨its, r, pl, hz⟩ := I.tuple hq
    refine SeqAt.notIn_tupleAt (eqU x) pl (fun w hw => mem_eqAt rx fx r fs w (by simpa using hw)) ⟨.bl _, H, I, rfl, ?_⟩
    rw [show its.toArray.any (eqU x) = its.any (eqU x) by simp, any_eqU r fs]
    exact q
theorem CallR.or {f : Value} {r r' : List V → Hp → VK → Prop} (h : CallR X f r) (h' : CallR X f r') : CallR X f (fun xs H Q => r xs H Q ∨ r' xs H Q) := by
  intro pins s σ H xs us Q I rs q
  rcases q with q | q
  · exact h pins s σ H xs us Q I rs q
  · exact h' pins s σ H xs us Q I rs q
theorem call_list_of : CallR X (.type "list") (fun xs H Q => ∃ p ys, xs = [.ref p] ∧ (SqL X.K H p ys ∨ SqT X.K H p ys) ∧ ∀ l, H l = none → Q (.ref l) (upd H l (.lst ys))) := by
  intro pins s σ H xs us Q I r h
  obtain ⟨p, ys, rfl, hq, q⟩ := h
  obtain ⟨u, rfl, rx⟩ := vals1 r
  cases rx
  have fin : ∀ (its : List Value), Vals ys its → ys.length ≤ sizeLine → ∀ (h' : Heap) (c' : Nat), (∀ b o', s.heap.get? b = some o' → h'.get? b = some o') →
      h'.get? s.heap.objs.size = some { cls := .type "list", dict := none, data := .seq its.toArray c', slots := #[] } → EP X pins σ Q (.ref s.heap.objs.size) { s with heap := h' } := fun its r' hz h' c' kp e =>
    ⟨.ref s.heap.objs.size, _, I.laid (t' := s.toks) kp (Nat.le_refl _) (show ObjOk X.prog X.w _ h' _ (.lst ys) from ⟨hz, its, c', r', e⟩), rfl, q _ (I.hok.fresh (Nat.le_refl _))⟩
  rcases hq with hq | hq
  · obtain ⟨its, r', pl, hz⟩ := I.list hq
    have hlen := r'.length
    obtain ⟨o, ho, hc, n, hd⟩ := pl.isList
    exact call_list_seq p (.inl rfl) ho hc hd (fun h' c' kp e => fin its r' hz h' c' kp e) (by simp only [List.size_toArray] <;> omega)
  · obtain ⟨its, r', pl, hz⟩ := I.tuple hq
    have hlen := r'.length
    obtain ⟨o, ho, hc, n, hd⟩ := pl
    exact call_list_seq p (.inr rfl) ho hc hd (fun h' c' kp e => fin its r' hz h' c' kp e) (by simp only [List.size_toArray] <;> omega)
theorem call_tuple_of : CallR X (.type "tuple") (fun xs H Q => ∃ p ys, xs = [.ref p] ∧ ((SqL X.K H p ys ∧ ∀ l, H l = none → Q (.ref l) (upd H l (.tup ys))) ∨ (SqT X.K H p ys ∧ Q (.ref p) H))) := by
  intro pins s σ H xs us Q I r h
  obtain ⟨p, ys, rfl, h⟩ := h
  obtain ⟨u, rfl, rx⟩ := vals1 r
  cases rx
  rcases h with ⟨hq, q⟩ | ⟨hq, q⟩
  · obtain ⟨its, r', pl, hz⟩ := I.list hq
    have hlen := r'.length
    refine call_tuple_list pl.isList (fun h' kp => ?_) (by simp only [List.size_toArray] <;> omega)
    have I1 : Inv X pins σ H { s with heap := h' } := I.kept (t' := s.toks) kp
    have I2 : Inv X pins σ (upd H h'.objs.size (.tup ys)) { s with heap := h'.push { cls := .type "tuple", data := .seq its.toArray } } :=
      I1.laid (t' := s.toks) (fun b o e => Heap.get?_push_of_some _ e) (Nat.le_refl _) (show ObjOk X.prog X.w _ _ _ (.tup ys) from ⟨hz, its, r', IsTup.new _ _⟩)
    exact ⟨.ref h'.objs.size, _, I2, rfl, q _ (I1.hok.fresh (Nat.le_refl _))⟩
  · obtain ⟨its, r', pl, hz⟩ := I.tuple hq
    exact call_tuple_same pl ⟨.ref p, H, I, rfl, q⟩
def tyV (K : PySem.W.Frag) (T : String) (x : V) (H : Hp) : Prop := match x with
  | .str _ => T = "str"
  | .int _ => T = "int"
  | .ref p => (T = "list" ∧ ∃ xs, SqL K H p xs) ∨ (T = "tuple" ∧ ∃ o, K.lookup p = some o ∧ o.cls = .type "tuple" ∧ o.dict = none) ∨
      (T = "dict" ∧ ((∃ kvs, H p = some (.dK kvs)) ∨ ∃ kvs, H p = some (.dT kvs))) ∨ (T = "set" ∧ ∃ S n, H p = some (.set S n))
  | _ => False
theorem tyV_is {pins : List (Addr × Obj)} {σ : St} {H : Hp} {s : Shared} {T : String} {x : V} {v : Value} (I : Inv X pins σ H s) (r : RelV x v) (ty : tyV X.K T x H) :
    s.TypeIs v T ∧ ∀ a, v = .ref a → ∃ ob, s.heap.get? a = some ob ∧ ob.dict = none := by
  cases x with
  | str z =>
    obtain ⟨t, rfl⟩ := r
    cases (show T = "str" from ty)
    exact ⟨typeIs_str s z t, fun _ e => nomatch e⟩
  | int i =>
    obtain ⟨t, rfl⟩ := r
    cases (show T = "int" from ty)
    exact ⟨typeIs_int s i t, fun _ e => nomatch e⟩
  | ref p =>
    cases r
    rcases ty with ⟨rfl, xs, hq⟩ | ⟨rfl, o, hk, hc, hd⟩ | ⟨rfl, hk⟩ | ⟨rfl, S, n, hk⟩
    · obtain ⟨its, _, pl, _⟩ := I.list hq
      refine ⟨pl.isList.typeIs, fun a e => ?_⟩
      cases e
      obtain ⟨o, n, e, c, hd, _⟩ := pl
      exact ⟨o, e, hd⟩
    · refine ⟨⟨o, I.kIn p o hk, hc⟩, fun a e => ?_⟩
      cases e
      exact ⟨o, I.kIn _ o hk, hd⟩
    · have z : ∃ o, s.heap.get? p = some o ∧ o.ExactDict := by
        rcases hk with ⟨kvs, hk⟩ | ⟨kvs, hk⟩
        · obtain ⟨_, _, _, _, o, _, _, e, ex, _⟩ := I.hok p _ hk
          exact ⟨o, e, ex⟩
        · obtain ⟨_, _, _, _, o, _, _, e, ex, _⟩ := I.hok p _ hk
          exact ⟨o, e, ex⟩
      obtain ⟨o, e, ex⟩ := z
      refine ⟨⟨o, e, ex.1⟩, fun a e2 => ?_⟩
      cases e2
      exact ⟨o, e, ex.2.1⟩
    · obtain ⟨o, _, _, _, e, ex, _⟩ := I.hok p _ hk
      refine ⟨⟨o, e, ex.1⟩, fun a e2 => ?_⟩
      cases e2
      exact ⟨o, e, ex.2.1⟩
  | _ => exact False.elim ty
def tBM (K : PySem.W.Frag) (T : String) (r : V → List V → Hp → VK → Prop) (to : TE) (t : TA) : TE := fun σ H Q => to σ H fun x H1 => tyV K T x H1 ∧ t σ H1 fun xs H2 => r x xs H2 Q
variable {o e : Expr} {es : List Expr} {to : TE} {t : TA} {name : Str} {apos cpos : Pos} {T id : String} {r : V → List V → Hp → VK → Prop}
theorem pe_bm (pa : PlainAttrs T) (slot : Slot T name id) (hty : typeOf (.builtin id) = pure (.type "method_descriptor")) (hm : MtR X id r) (ho : PE X o to) (ha : PA X (e :: es) t)
    (hbase : attributeBase o name X.env (eval o X.env) = eval o X.env := by rfl)
    (hfew : ((backTo cpos (starEach (e :: es) X.env)).all (fun x => !x.1) && (backToKw cpos (keywordEach [] X.env)).all (fun x => x.1.isSome)
      && decide ((e :: es).length + ([] : List Keyword).length + (if ([] : List Keyword).isEmpty then 0 else 1) < 30)) = true := by rfl)
    (hline : (apos.endLine == cpos.line) = true := by rfl) (hs : starEach (e :: es) X.env = (false, eval e X.env) :: starEach es X.env := by rfl) (hplain : (backTo cpos (starEach es X.env)).any (·.1) = false := by rfl) :
    PE X (.Call (.Attribute o name apos) (e :: es) [] cpos) (tBM X.K T r to t) := by
  intro pins s σ H Q I h
  refine wpAny_Call_method_late hbase hfew hline rfl (thn (ho pins s σ H _ I h) fun v s1 ⟨x, H1, I1, r1, ty, q1⟩ => ?_)
  obtain ⟨h1, h2⟩ := tyV_is I1 r1 ty
  refine ⟨T, id, pa, slot, hty, h1, h2, ?_⟩
  have hA := ha cpos pins s1 σ H1 _ I1 q1
  rw [hs] at hA ⊢
  refine Calls.callWith_builtin (by show (false || (backTo cpos (starEach es X.env)).any (·.1)) = false; rw [hplain] <;> rfl) (Calls.evalArgs_plain ?_)
  exact thn hA fun us s2 ⟨vs, H2, I2, r2, q2⟩ => hm pins s2 σ H2 x vs v us Q I2 r1 r2 q2
end
end L2
namespace L2
open PySem PySem.Spec PyProof.Rows
def MtM (X : Cx) (id : String) (r : V → List V → Hp → VK → Prop) : Prop :=
  ∀ (pins : List (Addr × Obj)) (s : Shared) (σ : St) (H : Hp) (x : V) (xs : List V) (v : Value) (us : List Value) (Q : VK), Inv X pins σ H s → RelV x v → Vals xs us → r x xs H Q →
    wpAny (model X.prog X.w) X.A (call (.builtin id) (v :: us)) (EP X pins σ Q) X.xe s
theorem Vals.one : ∀ {x : V} {us : List Value}, Vals [x] us → ∃ u, us = [u] ∧ RelV x u
  | _, _, .cons r .nil => ⟨_, rfl, r⟩
theorem Vals.two : ∀ {x y : V} {us : List Value}, Vals [x, y] us → ∃ u v, us = [u, v] ∧ RelV x u ∧ RelV y v
  | _, _, _, .cons r (.cons q .nil) => ⟨_, _, rfl, r, q⟩
theorem Vals.zero : ∀ {us : List Value}, Vals [] us → us = []
  | _, .nil => rfl
theorem Vals.reverse {xs : List V} {us : List Value} (h : Vals xs us) : Vals xs.reverse us.reverse := by
  induction h with
  | nil => exact .nil
  | cons r t ih => rw [List.reverse_cons, List.reverse_cons]; exact Vals.append ih (.cons r .nil)
section
variable {X : Cx} {pins : List (Addr × Obj)} {σ : St} {H : Hp} {s : Shared} {l b : Addr} {xs ys zs : List V}
theorem Inv.lset {its its' : List Value} {n : Nat} {f : Array Value → Array Value} {t' : Nat} (I : Inv X pins σ H s) (hH : H l = some (.lst xs))
    (e : s.heap.get? l = some { cls := .type "list", data := .seq its.toArray n }) (hf : f its.toArray = its'.toArray) (hv : Vals ys its') (hz : ys.length ≤ sizeLine) :
    Inv X pins σ (upd H l (.lst ys)) { s with heap := s.heap.update l (Obj.mapSeq f), toks := t' } := by
  have q := PySem.IsL.update e f
  rw [hf] at q
  refine I.write (x := l) (e := l) (by rw [hH]; exact trivial) (.inl rfl) (fun b' u hb hu => (Heap.get?_update_other s.heap (Obj.mapSeq f) (Ne.symm hb)).trans hu) ⟨_, q⟩ ?_
  exact ⟨hz, its', _, hv, q⟩
theorem Inv.lnew {its : List Value} {t' : Nat} (I : Inv X pins σ H s) (hv : Vals ys its) (hz : ys.length ≤ sizeLine) :
    Inv X pins σ (upd H s.heap.objs.size (.lst ys)) { s with heap := s.heap.push { cls := .type "list", data := .seq its.toArray }, toks := t' } :=
  I.laid (fun _ _ q => Heap.get?_push_of_some _ q) (Nat.le_refl _) ⟨hz, its, 0, hv, Heap.get?_push_size _ rfl⟩
theorem Inv.fresh (I : Inv X pins σ H s) : H s.heap.objs.size = none := I.hok.fresh (Nat.le_refl _)
theorem Inv.lstM (I : Inv X pins σ H s) (hH : H l = some (.lst xs)) : xs.length ≤ sizeLine ∧ ∃ (its : List Value) (n : Nat), Vals xs its ∧ xs.length = its.length ∧ s.heap.get? l = some { cls := .type "list", data := .seq its.toArray n } := by
  obtain ⟨z, its, n, r, e⟩ := I.hok l _ hH
  exact ⟨z, its, n, r, r.length, e⟩
theorem notLongL {n : Nat} (h : n ≤ sizeLine) : Builtin.List.listTooLong n = false := by
  unfold Builtin.List.listTooLong
  exact decide_eq_false (by omega)
end
section
variable {X : Cx}
def rAppend : V → List V → Hp → VK → Prop := fun x vs H Q => ∃ l xs y, x = .ref l ∧ vs = [y] ∧ H l = some (.lst xs) ∧ xs.length < sizeLine ∧ Q .non (upd H l (.lst (xs ++ [y])))
theorem mt_append : MtM X "list.append" rAppend := by
  intro pins s σ H x vs v us Q I rx rv h
  obtain ⟨l, xs, y, rfl, rfl, hH, hz, q⟩ := h
  cases rx
  obtain ⟨u, rfl, ru⟩ := rv.one
  obtain ⟨z, its, n, r, hl, e⟩ := I.lstM hH
  refine call_meets F.slot_list_append ⟨_, e, rfl⟩ F.entry_list_append (F.args_list_append_2 _ _) (PySem.list_append l its.toArray n u (by rw [List.size_toArray]; omega)) ⟨e, ?_⟩
  refine ⟨.non, _, I.lset (its' := its ++ [u]) hH e (by simp) (r.append (.cons ru .nil)) ?_, rfl, q⟩
  rw [List.length_append, List.length_singleton]
  omega
end
section
variable {prog : Program} {w : World} {A : Around} {E : Value → Shared → Prop} {s : Shared}
end
section
variable {X : Cx}
end
end L2
namespace Att
open PySem PySem.W PySem.Calls PyProof.Rows
theorem ints_of_wellAll {P : Params} {h : Heap} : ∀ (ns : List Int) (vs : List Value), WellAll P h vs (ns.map WData.int) → IntsAre vs ns := by
  intro ns
  induction ns with
  | nil =>
    intro vs w
    rw [List.map_nil] at w
    cases w
    exact .nil
  | cons n ns ih =>
    intro vs w
    rw [List.map_cons] at w
    cases w with
    | cons a b =>
      cases a
      exact .cons _ _ (ih _ b)
theorem script_of {l : OpenLaw} {n : Nat} (hn : l.most = some n) {P : Params} {h : Heap} {args : List WData} {vals : List Value}
    (hpre : l.row.toRowW.claim.pre args = true) (hwl : WellAll P h vals args) :
    ∃ a vs ns, vals = [Value.ref a] ∧ args = [WData.list (ns.map WData.int)] ∧ h.get? a = some { cls := .type "list", data := .seq vs.toArray } ∧ IntsAre vs ns ∧ ns.length ≤ n := by
  have hsh : WShape.hasAll [] args [.list .int] = true := (pre_splitW hpre).1
  have hc : l.pre.holds [] { args := args } = true := (pre_splitW hpre).2
  obtain ⟨d, r, rfl, h1, h2⟩ := hasAllW_cons hsh
  obtain rfl := hasAllW_nil h2
  obtain ⟨xs, rfl, h3⟩ := hasW_list h1
  obtain ⟨ns, rfl⟩ := items_int h3
  have hlen : ns.length ≤ n := by
    unfold OpenLaw.pre at hc
    have h4 : (WTm.not (.lt (.lit (.int (n : Int))) (.len (.arg 0)))).holds [] { args := [.list (ns.map .int)] } = true := by
      have h4 := (holds_andW hc).1
      rw [hn] at h4
      exact h4
    have h5 := condW_of h4 (w_not (w_lt w_lit (w_len_list (w_arg rfl))))
    rw [List.length_map] at h5
    refine Nat.le_of_not_lt fun q => ?_
    have q' : (n : Int) < ((ns.length : Nat) : Int) := by omega
    first
      | (rw [decide_eq_true q'] at h5; exact absurd h5 (by decide))
      | (simp at h5; omega)
  cases hwl with
  | cons w1 w2 =>
    cases w2
    cases w1 with
    | list ho hall => exact ⟨_, _, ns, rfl, rfl, ho, ints_of_wellAll ns _ hall, hlen⟩
theorem post_true (l : OpenLaw) (args : List WData) : l.row.toRowW.claim.post args (.bool true) args = true :=
  postW_of (r := l.row.toRowW) (X := (true == true))
    (show WShape.has [] (.bool true) .bool = true by first | rfl | decide | simp [WShape.has, WShape.arms, WShape.armsAll])
    (show (WTm.eq .res (.lit (.bool true))).value [] { args := args, res := some (.bool true), after := args } = some (.bool (true == true)) from w_eq_bool (w_res rfl) w_lit) rfl
theorem attach_call {l : OpenLaw} {n : Nat} {q : Program} {loose : List Str} {XP : (Str → Option Value) → Heap → Prop} {YP : World → Heap → Prop} {d : DefRec}
    (hn : l.most = some n) (hdf : d.params.defaults = [])
    (call : ∀ (w : World) (s₀ s₁ : Shared) (mg mb : Str → Option Value) (fa : Addr) (o : Obj) (pm cd doc : Value) (a : Addr) (vs : List Value) (ns : List Int),
      Ground q loose [] XP w s₀ mg mb s₁.heap → YP w s₁.heap →
      s₁.heap.get? fa = some o → o.data = .func (docDef d.name d.params d.body d.scope pm cd doc) → s₁.heap.CodeRec cd d.name → mg d.name = some (.ref fa) →
      s₁.heap.get? a = some { cls := .type "list", data := .seq vs.toArray } → IntsAre vs ns → ns.length ≤ n → s₁.gens = #[] →
      codeAny (model l.prog w) callerA (.call (.ref fa) ⟨[.ref a], []⟩) (fun r s' => r = .ok (.ret (.bool true)) ∧ OldK s₁.heap s'.heap ∧ s'.os = s₁.os ∧ AllBare s'.gens) s₁) :
    WalkO q loose XP YP l.row.toRowW d [] (fun f vs => PySem.call f vs) := by
  intro w s₀ s₁ mg mb G Y fa o pm cd doc dV kV ho hd hcd hD hmg hg args vals as hpre hlay hrd hwl hlo
  obtain rfl : dV = .none := Dflts.none hD hdf
  obtain rfl : kV = .none := Dflts.noKw hD
  obtain ⟨a, vs, ns, rfl, rfl, hobj, hints, hlen⟩ := script_of hn hpre hwl
  refine enter_call (codeAny_mono (call w s₀ s₁ mg mb fa o pm cd doc a vs ns G Y ho (fd_plain hd) hcd hmg hobj hints hlen hg) fun r s' hq => ?_)
  obtain ⟨rfl, h2, h3, h4⟩ := hq
  exact ⟨.inl ⟨.bool true, .bool true, [], rfl, fun _ => rfl, .bool true, post_true l _, fun _ => ⟨List.Pairwise.nil, fun _ hm => (nomatch hm)⟩⟩, h2, h3, h4⟩
section
variable {prog : Program} {w : World} {A : Around} {E : Value → Shared → Prop} {s : Shared} {K : Frag}
end
end Att
namespace L2
open PySem PySem.Spec PyProof.Rows
theorem vals_ints : ∀ {vs : List Value} {ns : List Int}, IntsAre vs ns → Vals (ns.map V.int) vs
  | _, _, .nil => .nil
  | _, _, .cons n t h => .cons ⟨t, rfl⟩ (vals_ints h)
def Only (H : Hp) : Prop := ∀ b, H b = none ∨ ∃ o xs, H b = some (.frz o (.lst xs))
theorem law_call {P : Program} {w : World} {K : PySem.W.Frag} {mg mb : Str → Option Value} {CX : CXT} {k : Nat} {fa a : Addr} {fd : FuncData} {x : Str} {sp : Sp} {s₁ : Shared} {vs : List Value} {ns : List Int}
    (KX : K.In s₁.heap) (hns : s₁.heap.Ns mainGlobals mg) (hb : s₁.heap.Ns builtinsNs mb) (hbb : ∀ x : Str, x ≠ "__name__" → mb x = bootBuiltins x) (hlim : s₁.heap.NoLimit) (hg : s₁.gens = #[])
    (ha : s₁.heap.get? a = some { cls := .type "list", data := .seq vs.toArray }) (hi : IntsAre vs ns) (hl : ns.length ≤ sizeLine) (hr : Room k callerA)
    (F : ∀ base : Heap, K.In base → base.Ns mainGlobals mg → FnOk P w K mg base CX k fa fd [x] sp) (hbind : ∀ (s : Shared) (u : Value), BindsTo s fd ⟨[u], []⟩ [(x, u)])
    (hsp : ∀ H : Hp, Only H → SqL K H a (ns.map V.int) → sp [.ref a] H (fun v _ => v = .bl true) fun _ _ _ => False)
    (hCX : ∀ H e s', CX [] H s₁ (fun _ _ _ => False) e s' → False) :
    codeAny (model P w) callerA (.call (.ref fa) ⟨[.ref a], []⟩) (fun r s' => r = .ok (.ret (.bool true)) ∧ OldK s₁.heap s'.heap ∧ s'.os = s₁.os ∧ AllBare s'.gens) s₁ := by
  have rv := vals_ints hi
  have lenV := hi.length
  have core : ∀ H : Hp, Only H → SqL K H a (ns.map V.int) → HOk P w H s₁.heap → (∀ b, H b ≠ none → b = a) → (H a ≠ none → K.lookup a = none) →
      codeAny (model P w) callerA (.call (.ref fa) ⟨[.ref a], []⟩) (fun r s' => r = .ok (.ret (.bool true)) ∧ OldK s₁.heap s'.heap ∧ s'.os = s₁.os ∧ AllBare s'.gens) s₁ := by
    intro H hO hS hok hA hK
    have base_of : ∀ {b : Addr} {o : Obj}, s₁.heap.get? b = some o → H b = none → (hidT s₁.heap H).get? b = some o := fun e n => hidT_get e n
    have noA : ∀ {b : Addr} {o : Obj} {es : Array DictEntry} {ep : Nat}, s₁.heap.get? b = some o → o.data = .dict es ep → H b = none := fun {b o es ep} e d => by
      cases q : H b with
      | none => rfl
      | some u =>
        have e' : b = a := hA b (by rw [q]; simp)
        subst e'
        rw [ha] at e; cases e
        have d' : Data.seq vs.toArray _ = Data.dict es ep := d
        cases d'
    have nsK : ∀ {b : Addr} {m : Str → Option Value}, s₁.heap.Ns b m → (hidT s₁.heap H).Ns b m := fun {b m} ⟨o, es, ep, e, d, r⟩ => ⟨o, es, ep, base_of e (noA e d), d, r⟩
    have hKb : K.In (hidT s₁.heap H) := fun b o e => base_of (KX b o e) (by
      cases q : H b with
      | none => rfl
      | some u =>
        have e' : b = a := hA b (by rw [q]; simp)
        subst e'
        rw [hK (by rw [q]; simp)] at e; cases e)
    have hM : Mod K mg (hidT s₁.heap H) := ⟨hKb, nsK hns, ⟨mb, nsK hb, hbb⟩, let ⟨mc, h1, h2⟩ := hlim; ⟨mc, nsK h1, h2⟩⟩
    have e0 : Env0 P w K mg (hidT s₁.heap H) callerA [] s₁ H := ⟨rfl, hM, fun b o e => of_hidT e, Nat.le_of_eq (hidT_size _ _), trivial, fun b hb => absurd (show b ∈ ([] : List Addr) from hb) (by simp), hok, .of_eq hg⟩
    refine codeAny_mono ((F _ hKb (nsK hns)).run callerA [] s₁ H ⟨[.ref a], []⟩ [.ref a] [.ref a] _ _ hr e0 (hbind s₁ (.ref a)) (.cons rfl .nil) (hsp H hO hS)) fun r s' h => ?_
    cases r with
    | error e => exact (hCX H e s' h).elim
    | ok fl =>
      cases fl with
      | next => exact False.elim h
      | brk => exact False.elim h
      | cont => exact False.elim h
      | ret u =>
        obtain ⟨v, H', os, bare, un, hok', r', q⟩ := h
        have q' : v = .bl true := q
        subst q'
        obtain rfl : u = Value.bool true := r'
        refine ⟨rfl, OldK.of_keep fun b o e => ?_, os, bare⟩
        cases q : H b with
        | none => exact un.keep b o e q (by intro z; exact absurd (show b ∈ ([] : List Addr) from z) (by simp)) (by simp)
        | some u =>
          rcases hO b with z | ⟨ob, xs, z⟩
          · rw [q] at z; cases z
          · have z2 := un.frzs b ob _ z
            obtain ⟨e1, _⟩ := hok b _ z
            obtain ⟨e2, _⟩ := hok' b _ z2
            rw [e] at e1; cases e1
            exact e2
  cases hk : K.lookup a with
  | some o =>
    have e := KX a o hk
    rw [ha] at e
    cases e
    refine core (fun _ => none) (fun _ => .inl rfl) (.inr ⟨_, vs.toArray, _, hk, rfl, rfl, rfl, by rw [List.size_toArray, lenV]; exact hl, by simpa using rv⟩) (fun b u z => by have z' : (none : Option HO) = some u := z; cases z') (fun b z => absurd rfl z) fun z => absurd rfl z
  | none =>
    refine core (fun b => if b = a then some (.frz { cls := .type "list", data := .seq vs.toArray } (.lst (ns.map V.int))) else none) (fun b => ?_) (.inl (.inr ⟨{ cls := .type "list", data := .seq vs.toArray }, if_pos rfl⟩)) (fun b u z => ?_) (fun b z => ?_) fun _ => hk
    · by_cases hb : b = a
      · exact .inr ⟨_, _, if_pos hb⟩
      · exact .inl (if_neg hb)
    · by_cases hb : b = a
      · have z' := (if_pos hb).symm.trans z
        cases z'
        subst hb
        exact ⟨ha, by rw [List.length_map]; exact hl, vs, _, rv, ha⟩
      · have z' := (if_neg hb).symm.trans z
        cases z'
    · by_cases hb : b = a
      · exact hb
      · exact absurd (if_neg hb) z
end L2
namespace L2
open PySem PySem.Spec PyProof.Rows
theorem walk_of {l : PySem.W.OpenLaw} {n k : Nat} {q : Program} {loose : List Str} {XP : (Str → Option Value) → Heap → Prop} {YP : World → Heap → Prop} {d : DefRec} {K : Params → PySem.W.Frag} {CX : World → CXT} {sp : World → Sp} {x : Str}
    (hn : l.most = some n) (hn2 : n ≤ sizeLine) (hdf : d.params.defaults = []) (hr : Room k callerA)
    (hY : ∀ (w : World) (h : Heap), YP w h → (K w.params).In h)
    (F : ∀ (w : World) (mg : Str → Option Value) (fa : Addr) (h : Heap), (K w.params).In h → h.Ns mainGlobals mg → mg d.name = some (.ref fa) →
      ∃ fd : FuncData, (∀ (s : Shared) (u : Value), BindsTo s fd ⟨[u], []⟩ [(x, u)]) ∧
        ∀ base : Heap, (K w.params).In base → base.Ns mainGlobals mg → FnOk l.prog w (K w.params) mg base (CX w) k fa fd [x] (sp w))
    (hsp : ∀ (w : World) (H : Hp) (a : Addr) (ns : List Int), ns.length ≤ n → Only H → SqL (K w.params) H a (ns.map V.int) → sp w [.ref a] H (fun v _ => v = .bl true) fun _ _ _ => False)
    (hCX : ∀ (w : World) (H : Hp) (s : Shared) (e : Value) (s' : Shared), CX w [] H s (fun _ _ _ => False) e s' → False) :
    PySem.W.WalkO q loose XP YP l.row.toRowW d [] (fun f vs => PySem.call f vs) := by
  refine Att.attach_call hn hdf fun w s₀ s₁ mg mb fa o pm cd doc a vs ns G Y ho hd hcd hmg hobj hints hlen hg => ?_
  have KX := hY w _ Y
  obtain ⟨fd, hb, hF⟩ := F w mg fa _ KX G.T.g hmg
  exact law_call KX G.T.g G.T.b G.T.builtins G.T.nolimit hg hobj hints (Nat.le_trans hlen hn2) hr hF hb (fun H hO hS => hsp w H a ns hlen hO hS) fun H e s' => hCX w H s₁ e s'
end L2
namespace L2
open PySem PySem.Spec PyProof.Rows
def inClass (s : Stmt) (j : Nat) : Stmt := match s with
  | .ClassDef _ _ _ body _ _ _ _ _ _ _ => body.getD j (.Pass ⟨0, 0, 0, 0⟩)
  | _ => .Pass ⟨0, 0, 0, 0⟩
def defArgs (s : Stmt) : Arguments := match s with
  | .FunctionDef _ a _ _ _ _ _ _ _ _ => a
  | _ => { posonlyargs := [], args := [], vararg := none, kwonlyargs := [], kw_defaults := [], kwarg := none, defaults := [] }
def defBody (s : Stmt) : List Stmt := match s with
  | .FunctionDef _ _ b _ _ _ _ _ _ _ => b
  | _ => []
def defScope (s : Stmt) : Scope := match s with
  | .FunctionDef _ _ _ _ _ _ sc _ _ _ => sc
  | _ => { kind := .function, names := [], isGenerator := false, isCoroutine := false }
abbrev CX0 : CXT := fun _ _ _ _ _ _ => False
abbrev E0 : XK := fun _ _ _ => False
structure Fun (K : PySem.W.Frag) (x qual : Str) (st : Stmt) (f : Addr) (fd : FuncData) : Prop where
  ex : ∃ (oc : Value) (od : Option Addr) (kV doc pm : Value) (an : Option Addr) (cdv ct : Value) (osl : Array (Option Value)),
    fd = PySem.W.fnOf x qual (defArgs st) (defBody st) (defScope st) .none kV doc pm an cdv ct ∧ K.lookup f = some ⟨oc, od, .func fd, osl⟩ ∧ PySem.W.codeIn K cdv qual = true
  kp : PySem.W.keepIn K (.ref f) = true
section
variable {P : Program} {w : World} {K : PySem.W.Frag} {mg : Str → Option Value} {base : Heap}
theorem Fun.ok {x qual : Str} {st : Stmt} {f : Addr} {fd : FuncData} {N ps : List Str} {k : Nat} {sp : Sp} (F : Fun K x qual st f fd) (S : FnScope N ps (defScope st)) (len : ∀ vs H Q E, sp vs H Q E → vs.length = ps.length)
    (hbody : ∀ (cdv : Value) (A : Around) (outer : List Env) (s : Shared) (H : Hp) (vs : List V) (Q : VK) (E : XK), Room k (A.deeper (envOfC qual (defScope st) s.heap.objs.size f cdv)) → sp vs H Q E →
      ∃ t, PSs (cxOf CX0 P w K mg base N qual (defScope st) f cdv A outer s H E).nox (defBody st) t ∧ t { nx := fun _ H' => Q .non H', rt := Q } (start N vs) H) : FnOk P w K mg base CX0 (k + 1) f fd ps sp := by
  obtain ⟨oc, od, kV, doc, pm, an, cdv, ct, osl, rfl, lk, hcd⟩ := F.ex
  refine fn_of lk hcd S len fun A outer s H vs Q E hr hsp => ?_
  obtain ⟨t, h, q⟩ := hbody cdv A outer s H vs Q E hr hsp
  exact ⟨t, h.nox, q⟩
theorem Fun.binds {x qual : Str} {st : Stmt} {f : Addr} {fd : FuncData} {ps : List Str} (F : Fun K x qual st f fd)
    (h : ∀ (kV doc pm : Value) (an : Option Addr) (cdv ct : Value) (us : List Value), us.length = ps.length → bindArgs (PySem.W.fnOf x qual (defArgs st) (defBody st) (defScope st) .none kV doc pm an cdv ct) ⟨us, []⟩ = pure (ps.zip us)) : Binds K fd ps [] := by
  obtain ⟨oc, od, kV, doc, pm, an, cdv, ct, osl, rfl, lk, hcd⟩ := F.ex
  exact .all (h kV doc pm an cdv ct)
theorem fun_mk {x qual : Str} {st : Stmt} {f : Addr} {oc : Value} {od an : Option Addr} {osl : Array (Option Value)} {kV doc pm cdv ct : Value} (l : K.lookup f = some ⟨oc, od, .func (PySem.W.fnOf x qual (defArgs st) (defBody st) (defScope st) .none kV doc pm an cdv ct), osl⟩)
    (c : PySem.W.codeIn K cdv qual = true) (k : PySem.W.keepIn K (.ref f) = true) : Fun K x qual st f (PySem.W.fnOf x qual (defArgs st) (defBody st) (defScope st) .none kV doc pm an cdv ct) := ⟨⟨oc, od, kV, doc, pm, an, cdv, ct, osl, rfl, l, c⟩, k⟩
end
theorem hu_of {A : Around} {k : Nat} (hr : Room k A) : A.units + 1 < cLine := Nat.lt_of_le_of_lt (Nat.add_le_add_left (by decide : 1 ≤ 64) _) hr.units
theorem small1000 {n : Nat} (h : n ≤ 1000) : n < sizeLine := Nat.lt_of_le_of_lt h (by decide)
section
variable {X : Cx}
theorem pv (i : Nat) {x : Str} {pos : Pos} (hN : X.N[i]? = some x := by rfl) (hv : Vis X.env.scope x := by first | exact Or.inl rfl | exact Or.inr (Or.inl rfl) | exact Or.inr (Or.inr rfl)) (hd : (x == ("__debug__" : Str)) = false := by decide)
    (hcd : (x == ("__classdict__" : Str)) = false := by decide) : PE X (.Name x pos) (tVar i) := pe_var hN hv hd hcd
end
theorem iteF {A B : Prop} (h : B) : if false = true then A else B := by
  rw [if_neg Bool.false_ne_true]
  exact h
theorem iteT {A B : Prop} (h : A) : if true = true then A else B := by
  rw [if_pos rfl]
  exact h
def Same (H H' : Hp) : Prop := ∀ b o, H b = some o → H' b = some o
theorem Same.refl (H : Hp) : Same H H := fun _ _ h => h
theorem Same.trans {H H1 H2 : Hp} (a : Same H H1) (b : Same H1 H2) : Same H H2 := fun c o h => b c o (a c o h)
theorem Same.free {H H' : Hp} (e : Same H H') {l : Addr} (h : H' l = Option.none) : H l = Option.none := by
  cases q : H l with
  | none => rfl
  | some o =>
    rw [e l o q] at h
    cases h
theorem Same.seq {K : PySem.W.Frag} {H H' : Hp} {a : Addr} {xs : List V} (e : Same H H') (h : SqL K H a xs) : SqL K H' a xs := by
  rcases h with (h | ⟨o, h⟩) | h
  · exact .inl (.inl (e _ _ h))
  · exact .inl (.inr ⟨o, e _ _ h⟩)
  · exact .inr h
end L2
namespace L2
open PySem PySem.Spec PyProof.Rows
section
variable {X : Cx}
theorem call_lenD : CallR X (.builtin "len") (fun xs H Q => ∃ a kvs, xs = [V.ref a] ∧ H a = some (.dK kvs) ∧ Q (.int kvs.length) H) := by
  intro pins s σ H xs us Q I r h
  obtain ⟨a, kvs, rfl, ha, q⟩ := h
  obtain ⟨u, rfl, ru⟩ := vals1 r
  cases ru
  exact d_len I (.inl ha) fun t s' I' => ⟨.int kvs.length, H, I', ⟨t, rfl⟩, q⟩
end
section
variable {κ : Type} [DecidableEq κ]
end
end L2
set_option Elab.async false
set_option linter.all false
set_option maxRecDepth 100000
namespace L2
open PySem PySem.Spec PyProof.Rows
def CXE (P : Program) (w : World) : CXT := fun outer H s E e s' =>
  ∃ (ea : Addr) (cls a0 : Value) (B : Heap) (H' : Hp) (dx : Option Addr), e = .ref ea ∧ s'.os = s.os ∧ AllBare s'.gens ∧
    Heap.FlyingW B outer ea cls a0 s'.heap ∧ HOk P w H' B ∧
    (∀ b o, s.heap.get? b = some o → H b = none → b ∉ frs outer → B.get? b = some o) ∧
    (∀ b o, s.heap.get? b = some o → H b = none → b ∈ frs outer → ∃ sl, s'.heap.get? b = some { o with slots := sl }) ∧
    (∀ b o, s.heap.get? b = some o → H b = none → H' b = none) ∧
    (∀ b o, s.heap.get? b = some o → b ∉ frs outer → ∃ o', B.get? b = some o') ∧
    (∀ b xs, H b = some (.tup xs) → H' b = some (.tup xs)) ∧ (∀ b o u, H b = some (.frz o u) → H' b = some (.frz o u)) ∧
    (∀ b ps, H b = some (.tbl ps) → ∃ more, H' b = some (.tbl (ps ++ more))) ∧ E cls dx H'
theorem HOk.hide {P : Program} {w : World} {H : Hp} {h : Heap} {l : List Addr} (ok : HOk P w H h) (hl : ∀ b ∈ l, H b = none) : HOk P w H (PySem.W.hideAll h l) := fun a o e =>
  (ok a o e).stay (fun b u hb q => PySem.W.hideAll_get _ q fun m => by
    rcases hb with z | z
    · rw [z] at m; rw [hl a m] at e; cases e
    · rw [hl b m] at z; cases z) (fun _ q => q) fun _ _ q => q
def RaisesTo (X : Cx) (E : XK) : Prop := ∀ (pins : List (Addr × Obj)) (σ : St) (H : Hp) (s : Shared) (ea C : Addr) (vs : List Value) (h' : Heap), Inv X pins σ H s →
  Heap.MadeExcOf s.heap h' ea (.ref C) vs → E (.ref C) none H → X.xe (.ref ea) { s with heap := h' }
section
variable {P : Program} {w : World} {K : PySem.W.Frag} {mg : Str → Option Value} {base : Heap} {N : List Str} {qual : Str} {scope : Scope} {f : Addr} {cd : Value} {A : Around} {outer : List Env} {s₀ : Shared} {H₀ : Hp} {E : XK}
theorem raises_fn : RaisesTo (cxOf (CXE P w) P w K mg base N qual scope f cd A outer s₀ H₀ E) E := by
  intro pins σ H s ea C vs h' I hm hE
  let X := cxOf (CXE P w) P w K mg base N qual scope f cd A outer s₀ H₀ E
  have hst : X.stack = X.env :: outer := rfl
  have hfrl : ∀ b, b ∈ frs X.stack ↔ b = X.env.locals ∨ b ∈ frs outer := fun b => by
    show b ∈ X.env.locals :: frs outer ↔ _
    exact List.mem_cons
  have hF : s.heap.FunFrames (PySem.W.hideAll s.heap (frs X.stack)) X.stack := PySem.W.funFrames_hide I.stack fun env he a ha => List.mem_filterMap.mpr ⟨env, he, ha⟩
  show wpAny (model P w) X.A (leaving X.env (.ref ea)) _ _ _
  refine wpAny_leaves_madeW (s := { s with heap := h' }) (base := PySem.W.hideAll s.heap (frs X.stack)) (h := s.heap) (env := X.env) (outer := outer) (L := X.env.locals) I.ok.frames rfl (fun b o q => PySem.W.of_hideAll _ q) hF hm fun h1 t x1 x2 x3 x4 => ?_
  have up : ∀ b o, s.heap.get? b = some o → b ∈ frs X.stack → ∃ sl, h1.get? b = some { o with slots := sl } := fun b o e hb => by
    obtain ⟨o', e', nd⟩ := (I.stack.mem hb).2
    rw [e] at e'; cases e'
    exact x4 b o (hm.keeps b o e) nd
  refine ⟨ea, .ref C, .ref t, _, H, none, rfl, I.os, I.bare, x1, I.hok.hide I.stkFree, fun b o e n hb => ?_, fun b o e n hb => ?_, fun b o e n => I.base.free b o e n (by simp [cxOf]), fun b o e hb => ?_, I.base.tups, I.base.frzs, I.base.tbls, hE⟩
  · have hL : b ≠ X.env.locals := Nat.ne_of_lt (Nat.lt_of_lt_of_le (Heap.lt_size e) I.ok.above)
    refine PySem.W.hideAll_get _ (I.base.keep b o e n hb (by simp [cxOf])) fun m => ?_
    rcases (hfrl b).mp m with z | z
    · exact hL z
    · exact hb z
  · obtain ⟨sl, e1⟩ := I.base.slot b o e n hb (by simp [cxOf])
    obtain ⟨sl', e2⟩ := up b _ e1 ((hfrl b).mpr (.inr hb))
    exact ⟨sl', e2⟩
  · have hL : b ≠ X.env.locals := Nat.ne_of_lt (Nat.lt_of_lt_of_le (Heap.lt_size e) I.ok.above)
    obtain ⟨o', e1⟩ := I.base.there b o e (by simp [cxOf])
    refine ⟨o', PySem.W.hideAll_get _ e1 fun m => ?_⟩
    rcases (hfrl b).mp m with z | z
    · exact hL z
    · exact hb z
theorem pass_fn : Passes (CXE P w) (cxOf (CXE P w) P w K mg base N qual scope f cd A outer s₀ H₀ E) E := by
  intro pins σ H s e s' I h
  obtain ⟨ea, cls, a0, B, H', dx, rfl, ho, hb, fly, hok, keep, slot, free, there, tups, frzs, tbls, hE⟩ := h
  let X := cxOf (CXE P w) P w K mg base N qual scope f cd A outer s₀ H₀ E
  have hfrl : ∀ b, b ∈ frs X.stack ↔ b = X.env.locals ∨ b ∈ frs outer := fun b => by
    show b ∈ X.env.locals :: frs outer ↔ _
    exact List.mem_cons
  show wpAny (model P w) X.A (leaving X.env (.ref ea)) _ _ _
  refine wpAny_leaves_onW (base := B) (env := X.env) (outer := outer) (L := X.env.locals) I.ok.frames rfl fly fun h1 x1 x4 => ?_
  have ndata : ∀ b, b ∈ frs X.stack → ∀ o, s'.heap.get? b = some o → ∃ sl, h1.get? b = some { o with slots := sl } := fun b hb o e => by
    obtain ⟨o', e', nd⟩ := (fly.2.2.1.mem hb).2
    rw [e] at e'; cases e'
    exact x4 b o e nd
  refine ⟨ea, cls, a0, B, H', dx, rfl, ho.trans I.os, hb, x1, hok, fun b o e n hb => ?_, fun b o e n hb => ?_, fun b o e n => ?_, fun b o e hb => ?_, fun b xs q => tups b xs (I.base.tups b xs q), fun b o u q => frzs b o u (I.base.frzs b o u q), fun b ps q => ?_, hE⟩
  · have hL : b ≠ X.env.locals := Nat.ne_of_lt (Nat.lt_of_lt_of_le (Heap.lt_size e) I.ok.above)
    refine keep b o (I.base.keep b o e n hb (by simp [cxOf])) (I.base.free b o e n (by simp [cxOf])) fun m => ?_
    rcases (hfrl b).mp m with z | z
    · exact hL z
    · exact hb z
  · obtain ⟨sl, e1⟩ := I.base.slot b o e n hb (by simp [cxOf])
    obtain ⟨sl', e2⟩ := slot b _ e1 (I.base.free b o e n (by simp [cxOf])) ((hfrl b).mpr (.inr hb))
    obtain ⟨sl2, e3⟩ := ndata b ((hfrl b).mpr (.inr hb)) _ e2
    exact ⟨sl2, e3⟩
  · obtain ⟨o', e1⟩ := I.base.there b o e (by simp [cxOf])
    exact free b o' e1 (I.base.free b o e n (by simp [cxOf]))
  · have hL : b ≠ X.env.locals := Nat.ne_of_lt (Nat.lt_of_lt_of_le (Heap.lt_size e) I.ok.above)
    obtain ⟨o', e1⟩ := I.base.there b o e (by simp [cxOf])
    refine there b o' e1 fun m => ?_
    rcases (hfrl b).mp m with z | z
    · exact hL z
    · exact hb z
  · obtain ⟨m1, q1⟩ := I.base.tbls b ps q
    obtain ⟨m2, q2⟩ := tbls b _ q1
    exact ⟨m1 ++ m2, by rw [q2, Array.append_assoc]⟩
end
abbrev bmVE : List Value := [.type "ValueError", .type "Exception", .type "BaseException", .type "object"]
theorem exc_make {K : PySem.W.Frag} {h : Heap} {C : Addr} {bmB : List Value} {newId : String} (X : K.In h) (q : PySem.W.excIn K C bmB newId = true) :
    ∃ bm N nm qn bs hdct sn sub ab col dd k0 k1 k2 k3 k5 mN, h.get? C = some (excClassObj nm qn C N bs bm hdct sn sub ab col dd k0 k1 k2 k3 k5 newId) ∧ h.Ns N mN ∧ mN "__init__" = none ∧ OwnTail h bmB bm := by
  unfold PySem.W.excIn at q
  split at q
  · rename_i dct cdt slt look
    split at q
    · rename_i C2 bm2 j0 j1 j2 j3 nid j5 em es
      simp only [Bool.and_eq_true, beq_iff_eq, Bool.not_eq_true'] at q
      obtain ⟨⟨⟨⟨⟨c1, c2⟩, c3⟩, tl⟩, okN⟩, noI⟩ := q
      subst c1 c2
      have ob := X _ _ look
      obtain ⟨a1, a2, a3, a4, a5, a6, a7, a8, a9, b1, b2⟩ := cdt
      have em : a3 = .ref C2 :: bm2 := em
      have c3 : b2 = false := c3
      have hsl : slt = #[j0, j1, j2, j3, some (.builtin nid), j5] := by
        obtain ⟨l⟩ := slt
        exact congrArg Array.mk es
      rw [em, c3, hsl] at ob
      exact ⟨_, _, _, _, _, _, _, _, _, _, _, _, _, _, _, _, _, ob, .of_isNs (PySem.W.isNs_of_in X okN), PySem.W.nsMap_none_of_in X okN noI, PySem.W.tail_of_in X tl⟩
    · cases q
  · cases q
section
variable {X : Cx}
def sRaise (C : Addr) (E : XK) (t : TA) : TS := fun _ σ H => t σ H fun vs H1 => vs.length ≤ sizeLine ∧ E (.ref C) none H1
theorem ps_raise {C : Addr} {E : XK} {x : Str} {np cpos pos : Pos} {e : Expr} {es : List Expr} {t : TA} (hx : RaisesTo X E) (hc : X.calm = true) (q : PySem.W.excIn X.K C bmVE "ValueError.__new__" = true) (hg : Gl X x) (hm : X.mg x = some (.ref C)) (ha : PA X (e :: es) t)
    (hdb : (x == ("__debug__" : Str)) = false := by decide) (he : starEach (e :: es) X.env = (false, eval e X.env) :: starEach es X.env := by rfl) (hpl : (backTo cpos (starEach es X.env)).any (·.1) = false := by rfl) :
    PS X (.Raise (some (.Call (.Name x np) (e :: es) [] cpos)) none pos) (sRaise C E t) := by
  intro pins s σ H D I h
  obtain ⟨bm, N, nm, qn, bs, hdct, sn, sub, ab, col, dd, k0, k1, k2, k3, k5, mN, hC, hN, hni, T⟩ := exc_make I.ok.mod.kin q
  refine wpAny_Raise_call_subT (C := C) (nm := nm) (q := qn) (N := N) (bs := bs) (bm := bm) (hdct := hdct) (sn := sn) (sub := sub) (ab := ab) (col := col) (dd := dd) (k0 := k0) (k1 := k1) (k2 := k2) (k3 := k3) (k5 := k5)
    PySem.F.excBase_ValueError (mN := mN) (T.hasType PySem.F.excBase_ValueError.hasBase) (I.ok.hd hc) (by rw [he]; show (false || (backTo cpos (starEach es X.env)).any (·.1)) = false; rw [hpl]; rfl) hni (ld_glob I hg hm ⟨rfl, ?_⟩ hdb)
  have a := ha cpos pins s σ H _ I h
  rw [he] at a ⊢
  exact Calls.evalArgs_plain (thn a fun us s2 ⟨vs, H2, I2, r, l, z⟩ => ⟨rfl, by show us.length ≤ sizeLine; rw [← r.length]; exact l, I2.bk _ _ hC, hN.keeps I2.bk, T.keeps I2.bk, fun h' ea mk => hx pins σ H2 s2 ea C us h' I2 mk z⟩)
end
structure FunV (K : PySem.W.Frag) (x qual : Str) (st : Stmt) (dV : Value) (f : Addr) (fd : FuncData) : Prop where
  ex : ∃ (oc : Value) (od : Option Addr) (kV doc pm : Value) (an : Option Addr) (cdv ct : Value) (osl : Array (Option Value)),
    fd = PySem.W.fnOf x qual (defArgs st) (defBody st) (defScope st) dV kV doc pm an cdv ct ∧ K.lookup f = some ⟨oc, od, .func fd, osl⟩ ∧ PySem.W.codeIn K cdv qual = true
  kp : PySem.W.keepIn K (.ref f) = true
section
variable {P : Program} {w : World} {K : PySem.W.Frag} {mg : Str → Option Value} {base : Heap}
theorem Fun.toV {x qual : Str} {st : Stmt} {f : Addr} {fd : FuncData} (F : Fun K x qual st f fd) : FunV K x qual st .none f fd := ⟨F.ex, F.kp⟩
theorem FunV.okE {x qual : Str} {st : Stmt} {dV : Value} {f : Addr} {fd : FuncData} {N ps : List Str} {k : Nat} {sp : Sp} (F : FunV K x qual st dV f fd) (S : FnScope N ps (defScope st)) (len : ∀ vs H Q E, sp vs H Q E → vs.length = ps.length)
    (hbody : ∀ (cdv : Value) (A : Around) (outer : List Env) (s : Shared) (H : Hp) (vs : List V) (Q : VK) (E : XK), Room k (A.deeper (envOfC qual (defScope st) s.heap.objs.size f cdv)) → sp vs H Q E →
      ∃ t, PSs (cxOf (CXE P w) P w K mg base N qual (defScope st) f cdv A outer s H E) (defBody st) t ∧ t { nx := fun _ H' => Q .non H', rt := Q } (start N vs) H) : FnOk P w K mg base (CXE P w) (k + 1) f fd ps sp := by
  obtain ⟨oc, od, kV, doc, pm, an, cdv, ct, osl, rfl, lk, hcd⟩ := F.ex
  exact fn_of lk hcd S len fun A outer s H vs Q E hr hsp => hbody cdv A outer s H vs Q E hr hsp
theorem FnOk.calm {k : Nat} {f : Addr} {fd : FuncData} {ps : List Str} {sp : Sp} (F : FnOk P w K mg base (CXE P w) k f fd ps sp) : FnOk P w K mg base CX0 k f fd ps (fun vs H Q _ => sp vs H Q E0) :=
  ⟨fun vs H Q _ h => F.len vs H Q E0 h, fun A outer s H args us vs Q E hr e0 hb r h => codeAny_mono (F.run A outer s H args us vs Q E0 hr e0 hb r h) fun res s' q => by
    cases res with
    | ok fl => cases fl <;> exact q
    | error e =>
      obtain ⟨_, _, _, _, _, _, _, _, _, _, _, _, _, _, _, _, _, _, z⟩ := q
      exact z⟩
end
end L2
set_option Elab.async false
set_option linter.all false
set_option maxRecDepth 100000
namespace L2
open PySem PySem.Spec PyProof.Rows
section
variable {X : Cx} {pins : List (Addr × Obj)} {σ : St} {H : Hp} {s : Shared} {a : Addr}
end
theorem KV.at {kvs : List (Key × V)} {vs : List (Key × Value)} (r : KV kvs vs) {i : Nat} {k : Key} {v : V} (e : kvs[i]? = some (k, v)) : ∃ u, vs[i]? = some (k, u) ∧ RelV v u := by
  induction r generalizing i with
  | nil => simp at e
  | cons p t ih =>
    cases i with
    | zero =>
      simp at e
      rename_i a b _ _
      obtain ⟨p1, p2⟩ := p
      refine ⟨b.2, ?_, ?_⟩
      · simp only [List.getElem?_cons_zero, Option.some.injEq]
        rw [e] at p1
        exact Prod.ext p1.symm rfl
      · rw [e] at p2; exact p2
    | succ j =>
      obtain ⟨u, h1, h2⟩ := ih (i := j) (by simpa using e)
      exact ⟨u, by simpa using h1, h2⟩
theorem key_rel {P : Program} {w : World} {k : Key} {u : Value} (h : (mixKind P w).is k u = true) : RelV (kV k) u := by
  rcases keyIs_shape h with ⟨i, t, rfl, rfl⟩ | ⟨x, t, rfl, rfl⟩
  · exact ⟨t, rfl⟩
  · exact ⟨t, rfl⟩
section
variable {X : Cx} {tg : Expr}
end
end L2
set_option Elab.async false
set_option linter.all false
set_option maxRecDepth 100000
namespace L2
open PySem PySem.Spec PyProof.Rows
def capOk (X : Cx) (scope : Scope) (cl : List (Str × Addr)) : List Str → List Nat → Prop
  | [], [] => True
  | x :: xs, j :: js => (X.N[j]? = some x ∧ Vis X.env.scope x ∧ (X.env.kindOf x = some .cell ∨ X.env.kindOf x = some .free) ∧ ((relabel scope X.env).names.lookup x = some .cell ∨ (relabel scope X.env).names.lookup x = some .free) ∧ cl.lookup x = X.env.cells.lookup x) ∧ capOk X scope cl xs js
  | _, _ => False
def capSt (σ : St) (js : List Nat) : St := js.map fun j => (σ[j]?).join
theorem capOk.len {X : Cx} {scope : Scope} {cl : List (Str × Addr)} : ∀ {xs : List Str} {js : List Nat}, capOk X scope cl xs js → xs.length = js.length
  | [], [], _ => rfl
  | _ :: xs, _ :: js, h => by simp [capOk.len h.2]
theorem capOk.get {X : Cx} {scope : Scope} {cl : List (Str × Addr)} : ∀ {xs : List Str} {js : List Nat} {k : Nat} {x : Str}, capOk X scope cl xs js → xs[k]? = some x → ∃ j, js[k]? = some j ∧ X.N[j]? = some x ∧ Vis X.env.scope x ∧
    (X.env.kindOf x = some .cell ∨ X.env.kindOf x = some .free) ∧ ((relabel scope X.env).names.lookup x = some .cell ∨ (relabel scope X.env).names.lookup x = some .free) ∧ cl.lookup x = X.env.cells.lookup x
  | [], [], _, _, _, e => by simp at e
  | y :: xs, j :: js, 0, x, h, e => by
    simp at e
    subst e
    exact ⟨j, rfl, h.1⟩
  | y :: xs, j :: js, k + 1, x, h, e => by
    obtain ⟨j', h1, h2⟩ := capOk.get (k := k) h.2 (by simpa using e)
    exact ⟨j', by simpa using h1, h2⟩
abbrev compCx (X : Cx) (scope : Scope) (cl : List (Str × Addr)) (N' : List Str) (fp : List Addr) (s3 : Shared) (H2 : Hp) : Cx :=
  { X with N := N', s₀ := s3, H₀ := H2, env := compEnvC scope cl s3.heap.objs.size X.env, outer := X.stack, stack := X.stack, ex := fp, fn := fun _ => false, pn := [], xe := fun _ _ => False, kn := [] }
structure CompTxt (X : Cx) (scope : Scope) (cl : List (Str × Addr)) (ts xs : List Str) (js : List Nat) : Prop where
  clos : closureFor scope X.env = pure cl
  ncell : ∀ y ∈ scope.names, y.2 ≠ .cell
  kind : scope.kind = .function
  names : ∀ y ∈ scope.names, y.2 = .local → scope.names.lookup y.1 = some .local
  sub : ∀ p ∈ cl, X.env.cells.lookup p.1 = some p.2
  has : (scope.names.filter fun y => y.2 == .free).all (fun y => (cl.map (·.1)).contains y.1) = true
  cap : capOk X scope cl xs js
def tYes : TT := fun _ H Q => Q true H
def CompGo (p : Addr) (J : It) (g : TG) (tc : TT) (te : TE) (Q : VK) (W : Nat → Nat → St → Hp → List V → Prop) : Prop :=
  ∀ i m σ2 H2 acc, W i m σ2 H2 acc → H2 p = some (.lst acc) ∧ ((J.stop i H2 ∧ Q (.ref p) H2) ∨ (J.go i H2 ∧ ∃ N : St → Hp → List V → Prop, (∀ σ' H' acc', N σ' H' acc' → ∃ m', m' < m ∧ W (i + 1) m' σ' H' acc') ∧ ∀ x H3, J.yld i H2 x H3 → g x σ2 H3 fun σ4 H4 => tc σ4 H4 fun ok H5 =>
      if ok = true then te σ4 H5 fun y H6 => H6 p = some (.lst acc) ∧ acc.length < sizeLine ∧ N σ4 (upd H6 p (.lst (acc ++ [y]))) (acc ++ [y]) else N σ4 H5 acc))
def tComp (nt : Nat) (js : List Nat) (wi : TI) (g : TG) (tc : TT) (te : TE) : TE := fun σ H Q => wi σ H fun J H1 => ∀ p, H1 p = none →
  ∃ W : Nat → Nat → St → Hp → List V → Prop, (∃ m, W 0 m (List.replicate nt none ++ capSt σ js) (upd H1 p (.lst [])) []) ∧ CompGo p J g tc te Q W
section
variable {X : Cx} {pins : List (Addr × Obj)} {σ : St} {H1 : Hp} {s2 : Shared} {scope : Scope} {cl : List (Str × Addr)} {ts xs : List Str} {js : List Nat} {fp : List Addr} {it : Addr} {tn : Nat → Heap → Prop} {J : It} {tg : Expr}
theorem comp_start {s3 : Shared} {h4 : Heap} {tk : Nat} {H2 : Hp} (C : CompTxt X scope cl ts xs js) (I3 : Inv X pins σ H2 s3) (fo : ∀ b ∈ fp, FpOk X pins H2 b) (fl : ∀ b ∈ fp, b < s3.heap.objs.size)
    (ns : ∃ m, h4.Ns s3.heap.objs.size m) (k : ∀ b o, s3.heap.get? b = some o → h4.get? b = some o) :
    Inv (compCx X scope cl (ts ++ xs) fp s3 H2) [] (List.replicate ts.length none ++ capSt σ js) H2 { s3 with heap := h4, toks := tk } := by
  have lk : ∀ x c, cl.lookup x = some c → X.env.cells.lookup x = some c := fun x c e => C.sub (x, c) (PySem.mem_of_lookup e)
  have clt : ∀ x c, X.env.cells.lookup x = some c → c < s3.heap.objs.size := fun x c e => by
    obtain ⟨v, o, ho, _⟩ := I3.cell x c e
    exact Heap.lt_size ho
  have hasC : ∀ x, ((relabel scope X.env).names.lookup x = some .cell ∨ (relabel scope X.env).names.lookup x = some .free) → ∃ c, cl.lookup x = some c := fun x h => by
    have hfree : (x, NameKind.free) ∈ scope.names := by
      obtain ⟨k, hk, hm⟩ : ∃ k, (k = .cell ∨ k = .free) ∧ (x, k) ∈ (relabel scope X.env).names := by
        rcases h with h | h
        · exact ⟨_, .inl rfl, PySem.mem_of_lookup h⟩
        · exact ⟨_, .inr rfl, PySem.mem_of_lookup h⟩
      obtain ⟨⟨n, k'⟩, hm', e⟩ := List.mem_map.mp hm
      have nc := C.ncell _ hm'
      dsimp only at e nc
      split at e
      · rename_i c
        cases e
        simp only [Bool.and_eq_true, beq_iff_eq] at c
        rw [← c.1.1]
        exact hm'
      · cases e
        rcases hk with rfl | rfl
        · exact absurd rfl nc
        · exact hm'
    have q := List.all_eq_true.mp C.has _ (List.mem_filter.mpr ⟨hfree, rfl⟩)
    have q : x ∈ cl.map (·.1) := by simpa using q
    obtain ⟨⟨y, c⟩, hy, rfl⟩ := List.mem_map.mp q
    cases z : cl.lookup y with
    | some c' => exact ⟨c', rfl⟩
    | none =>
      exfalso
      have := List.lookup_eq_none_iff.mp z (y, c) hy
      simp at this
  obtain ⟨m, hm⟩ := ns
  refine ⟨⟨I3.ok.mod, C.kind, I3.ok.glob, I3.ok.blt, Nat.le_refl _, fun x y c h1 h2 => I3.ok.inj x y c (lk x c h1) (lk y c h2), fun x h => hasC x h, (fun x c h => nomatch h), I3.ok.hd, I3.ok.frames, .inl rfl, fun b hb => ⟨Nat.ne_of_lt (fl b hb), fun x c e => (fo b hb).2.2.2.2.1 x c (lk x c e)⟩,
      I3.bs, Nat.le_trans I3.ok.bsz I3.sz, fun b o e hb => ?_, fun b hb hf => ?_, I3.stack, I3.stkFree⟩,
    rfl, I3.bare, Un.kept k, ⟨m, hm, fun i x v e1 e2 e3 => ?_⟩, fun x c e => ?_, I3.hok.fresh (Nat.le_refl _), fun x c e => I3.freeC x c (lk x c e), fun p hp => absurd hp (by simp), I3.hok.kept k, ?_, (fun i v e => nomatch (show (none : Option (Option V)) = some (some v) from e))⟩
  · rcases (fo b hb).2.2.2.1 with z | z
    · exact I3.ok.noex b o e z
    · exact absurd (Nat.lt_of_lt_of_le (Heap.lt_size (I3.ok.bs b o e).1) z) (Nat.lt_irrefl _)
  · rcases List.mem_cons.mp (I3.stkSub b hf) with z | z
    · exact (fo b hb).2.1 z
    · exact (fo b hb).2.2.1 z
  · by_cases hi : i < ts.length
    · rw [List.getElem?_append_left (by simpa using hi), List.getElem?_replicate] at e2
      split at e2 <;> cases e2
    · have hi : ts.length ≤ i := Nat.not_lt.mp hi
      rw [List.getElem?_append_right hi] at e1
      rw [List.getElem?_append_right (by simpa using hi), List.length_replicate] at e2
      obtain ⟨j, hj, hN, hv, hk, hk2, hc⟩ := C.cap.get e1
      unfold capSt at e2
      rw [List.getElem?_map, hj] at e2
      have e2 : (σ[j]?).join = some v := by simpa using e2
      have e4 : σ[j]? = some (some v) := by
        cases q : σ[j]? with
        | none => rw [q] at e2; cases e2
        | some o => rw [q] at e2; exact congrArg some e2
      obtain ⟨m0, _, hl⟩ := I3.loc
      obtain ⟨u, ru, l⟩ := hl j x v hN e4 hv
      refine ⟨u, ru, .inr ⟨hk2, ?_⟩⟩
      rcases l with ⟨z, _⟩ | ⟨_, c, ec, cc⟩
      · rcases hk with hk | hk <;> (rw [z] at hk; cases hk)
      · obtain ⟨oc, ho, hd⟩ := cc
        exact ⟨c, hc.trans ec, oc, k _ _ ho, hd⟩
  · obtain ⟨v, o, ho, hd⟩ := I3.cell x c (lk x c e)
    exact ⟨v, o, k _ _ ho, hd⟩
  · show (List.replicate ts.length none ++ capSt σ js).length = (ts ++ xs).length
    rw [List.length_append, List.length_replicate, List.length_append, C.cap.len]
    simp [capSt]
theorem comp_end {s3 : Shared} {H2 H' : Hp} {s' : Shared} {σ' : St} (I3 : Inv X pins σ H2 s3) (fo : ∀ b ∈ fp, FpOk X pins H2 b) (Ic : Inv (compCx X scope cl (ts ++ xs) fp s3 H2) [] σ' H' s') :
    Inv X pins σ H' s' ∧ (∃ m, s'.heap.Ns s3.heap.objs.size m) ∧ H' s3.heap.objs.size = none :=
  ⟨I3.call' Ic.os Ic.base Ic.hok Ic.bare fun b hb => let ⟨_, f2, _, f4, f5, f6⟩ := fo b hb; ⟨f4, f2, f5, f6⟩, let ⟨m, hm, _⟩ := Ic.loc; ⟨m, hm⟩, Ic.free⟩
variable {elt iter c : Expr} {pos : Pos} {g : TG} {tc : TT} {te : TE} {Q : VK}
def CompInv (Xc : Cx) (fp : List Addr) (tn : Nat → Heap → Prop) (W : Nat → Nat → St → Hp → List V → Prop) (n : Nat) (s' : Shared) : Prop :=
  ∃ i σ' H' acc, Inv Xc [] σ' H' s' ∧ tn i s'.heap ∧ (∀ b ∈ fp, H' b = none) ∧ W i n σ' H' acc
theorem comp_turn {Xc : Cx} {p : Addr} {W : Nat → Nat → St → Hp → List V → Prop} {n : Nat} {s' : Shared} {E : Value → Shared → Prop} {R : Option Value → Shared → Prop} (hc : Xc.calm = true) (T : Turn Xc.prog Xc.w Xc.K tg J fp it tn) (go : CompGo p J g tc te Q W)
    (hg : PG Xc tg g) (hxe : Xc.xe = fun _ _ => False) (fo : ∀ {H' : Hp} {b : Addr}, H' b = none → b ∈ fp → FpOk Xc [] H' b) (h : CompInv Xc fp tn W n s')
    (hend : ∀ σ' H' s1, Inv Xc [] σ' H' s1 → Q (.ref p) H' → R none s1)
    (hsome : ∀ v s1, wpAny (model Xc.prog Xc.w) Xc.A (letOwnedTupleGo tg (.ref it) v) (fun _ s2 => wpAny (model Xc.prog Xc.w) Xc.A (assign tg Xc.env v) (fun _ s3 => ∃ (i : Nat) (pins : List (Addr × Obj)) (acc : List V) (σ4 : St) (H4 : Hp) (N : St → Hp → List V → Prop), Inv Xc pins σ4 H4 s3 ∧ (∀ σ' H' acc', N σ' H' acc' → ∃ m', m' < n ∧ W (i + 1) m' σ' H' acc') ∧
        (∀ b ∈ fp, ∃ o, (b, o) ∈ pins ∧ s3.heap.get? b = some o) ∧ (∀ h', (∀ b ∈ fp, ∀ o, s3.heap.get? b = some o → h'.get? b = some o) → tn (i + 1) h') ∧
        tc σ4 H4 fun ok H5 => if ok = true then te σ4 H5 fun y H6 => H6 p = some (.lst acc) ∧ acc.length < sizeLine ∧ N σ4 (upd H6 p (.lst (acc ++ [y]))) (acc ++ [y]) else N σ4 H5 acc) E s2) E s1 → R (some v) s1) :
    wpAny (model Xc.prog Xc.w) Xc.A (pyNext (.ref it)) R E s' := by
  obtain ⟨i, σ', H', acc, I, st, fr, w⟩ := h
  obtain ⟨hp, cs⟩ := go i n σ' H' acc w
  rcases cs with ⟨stop, q⟩ | ⟨gg, N, hN, step⟩
  · refine thn (T.done Xc rfl rfl rfl hc i [] s' σ' H' E I (fun b hb => fo (fr b hb) hb) st stop) fun r s1 ⟨hr, I1⟩ => ?_
    subst hr
    exact hend σ' H' s1 I1 q
  · refine thn (T.item Xc rfl rfl rfl hc i [] s' σ' H' E I (fun b hb => fo (fr b hb) hb) st gg) fun r s1 ⟨u, hr, h1⟩ => ?_
    subst hr
    refine hsome u s1 (thn h1 fun _ s2 ⟨x, H3, I3, r3, y3, st3, fr3⟩ => ?_)
    have I3' := I3.pinned (fun b hb => fo (fr3 b hb) hb) (T.obj _ _ st3)
    refine wpAny_mono (hg _ s2 σ' H3 x u _ I3' r3 (step x H3 y3)) (fun _ s3 ⟨σ4, H4, I4, q4⟩ => ?_) fun e s z => by rw [hxe] at z; exact z.elim
    have pn : ∀ b ∈ fp, ∀ o, s2.heap.get? b = some o → s3.heap.get? b = some o := fun b hb o e => (I4.pin (b, o) (List.mem_append_right _ (List.mem_append_right _ (mem_pinsAt hb e)))).1
    refine ⟨i, _, acc, σ4, H4, N, I4, hN, fun b hb => ?_, fun h' k => T.keep _ _ _ st3 fun b hb o e => k b hb o (pn b hb o e), q4⟩
    obtain ⟨o, e, _⟩ := T.obj _ _ st3 b hb
    exact ⟨o, List.mem_append_right _ (mem_pinsAt hb e), pn b hb o e⟩
theorem comp_coreT (hc : X.calm = true) (C : CompTxt X scope cl ts xs js) (I2 : Inv X pins σ H1 s2) (T : Turn X.prog X.w X.K tg J fp it tn) (st : tn 0 s2.heap) (fo : ∀ b ∈ fp, FpOk X pins H1 b)
    (q : ∀ p, H1 p = none → ∃ W : Nat → Nat → St → Hp → List V → Prop, (∃ m, W 0 m (List.replicate ts.length none ++ capSt σ js) (upd H1 p (.lst [])) []) ∧ CompGo p J g tc te Q W)
    (hg : ∀ fp s3 H2, PG (compCx X scope cl (ts ++ xs) fp s3 H2) tg g) (ht : ∀ fp s3 H2, PT (compCx X scope cl (ts ++ xs) fp s3 H2) c tc) (he : ∀ fp s3 H2, PE (compCx X scope cl (ts ++ xs) fp s3 H2) elt te)
    {RR : Value → Addr → Result → Shared → Prop} (hRR : ∀ p C H' s', Inv X pins σ H' s' → (∃ m, s'.heap.Ns C m) → H' C = none → s2.heap.objs.size ≤ C → Q (.ref p) H' → RR (.ref p) C (.ok .next) s') :
    wpAny (model X.prog X.w) X.A (newList []) (fun acc s3 => wpAny (model X.prog X.w) X.A (newFunctionEnv scope X.env.globals cl [] X.env.qual none .none (some X.env)) (fun cenv s4 =>
      codeAny (model X.prog X.w) X.A (.compStart (.ListComp elt [⟨tg, iter, [c], 0⟩] scope pos) 0 (.ref it) acc { cenv with scope := relabel scope X.env }) (RR acc cenv.locals) s4) X.xe s3) X.xe s2 := by
  refine wpAny_newObj_type (wpAny_newFunctionEnv C.ncell (by intro y hy; simp at hy) (fun h4 ns4 sb4 => ?_) C.kind)
  dsimp only at ns4 sb4 ⊢
  have I3 : Inv X pins σ (upd H1 s2.heap.objs.size (.lst [])) { s2 with heap := s2.heap.push { cls := .type "list", data := .seq ([] : List Value).toArray } } :=
    I2.laid (t' := s2.toks) (fun b o e => Heap.get?_push_of_some _ e) (Nat.le_refl _) ⟨Nat.zero_le _, [], _, .nil, Heap.get?_push_size _ rfl⟩
  generalize hs3 : ({ s2 with heap := s2.heap.push { cls := .type "list", data := .seq ([] : List Value).toArray } } : Shared) = s3 at I3
  have hsz : s3.heap.objs.size = s2.heap.objs.size + 1 := by rw [← hs3]; exact Heap.size_push ..
  have hp3 : s2.heap.push { cls := .type "list", data := .seq ([] : List Value).toArray } = s3.heap := by rw [← hs3]
  obtain ⟨W, ⟨m0, w0⟩, go⟩ := q s2.heap.objs.size (I2.hok.fresh (Nat.le_refl _))
  have fl : ∀ b ∈ fp, b < s2.heap.objs.size := fun b hb => by
    obtain ⟨o, e, _⟩ := T.obj _ _ st b hb
    exact Heap.lt_size e
  have fo3 : ∀ b ∈ fp, FpOk X pins (upd H1 s2.heap.objs.size (.lst [])) b := fun b hb => ⟨by rw [upd_ne (Nat.ne_of_lt (fl b hb))]; exact (fo b hb).1, (fo b hb).2⟩
  have k4 : ∀ b o, s3.heap.get? b = some o → h4.get? b = some o := fun b o e => by
    have hb : b ≠ s3.heap.objs.size := Nat.ne_of_lt (Heap.lt_size e)
    rw [hp3] at sb4
    exact sb4.extBut b o hb (Heap.get?_push_of_some _ e)
  rw [hp3] at ns4
  have k24 : ∀ b o, s2.heap.get? b = some o → h4.get? b = some o := fun b o e => k4 b o (by rw [← hp3]; exact Heap.get?_push_of_some _ e)
  have st4 : tn 0 h4 := T.keep _ _ _ st fun b _ o e => k24 b o e
  have Ic : Inv (compCx X scope cl (ts ++ xs) fp s3 (upd H1 s2.heap.objs.size (.lst []))) [] _ (upd H1 s2.heap.objs.size (.lst [])) { s3 with heap := h4, toks := s3.toks + ([] : List (Str × Value)).length } :=
    comp_start C I3 fo3 (fun b hb => by rw [hsz]; exact Nat.lt_succ_of_lt (fl b hb)) ⟨_, ns4⟩ k4
  have fo' : ∀ {H' : Hp} {b : Addr}, H' b = none → b ∈ fp → FpOk (compCx X scope cl (ts ++ xs) fp s3 (upd H1 s2.heap.objs.size (.lst []))) [] H' b := fun {H' b} n hb =>
    ⟨n, Nat.ne_of_lt (show b < s3.heap.objs.size by rw [hsz]; exact Nat.lt_succ_of_lt (fl b hb)), fun hf => (Ic.ok.exfs b hb) hf, .inl hb, fun x c e => (Ic.ok.exf b hb).2 x c e, fun p hp => absurd hp (by simp)⟩
  have loop : ∀ s4 : Shared, s4 = { s3 with heap := h4, toks := s3.toks + ([] : List (Str × Value)).length } → codeAny (model X.prog X.w) X.A (.compLoop (.ListComp elt [⟨tg, iter, [c], 0⟩] scope pos) 0 (.ref it) (.ref s2.heap.objs.size) (compEnvC scope cl s3.heap.objs.size X.env)) (RR (.ref s2.heap.objs.size) s3.heap.objs.size) s4 := by
    rintro s4 rfl
    refine PySem.W.kct_loop (CompInv (compCx X scope cl (ts ++ xs) fp s3 (upd H1 s2.heap.objs.size (.lst []))) fp tn W) (fun n s' hI => ?_) m0 ⟨0, _, _, [], Ic, st4, fun b hb => (fo3 b hb).1, w0⟩
    refine comp_turn (Xc := compCx X scope cl (ts ++ xs) fp s3 (upd H1 s2.heap.objs.size (.lst []))) hc T go (hg _ _ _) rfl fo' hI (fun σ' H' s1 I1 q1 => ?_) (fun v s1 h1 => ?_)
    · obtain ⟨J1, J2, J3⟩ := comp_end I3 fo3 I1
      exact hRR _ _ H' s1 J1 J2 J3 (by rw [hsz]; exact Nat.le_succ _) q1
    · refine thn h1 fun _ s5 h5 => thn h5 fun _ s6 h6 => ?_
      obtain ⟨i, pins', acc, σ4, H4, N, I4, hN, pin4, keep4, q4⟩ := h6
      have fin : ∀ {H7 : Hp} {s7 : Shared} {acc' : List V}, Inv (compCx X scope cl (ts ++ xs) fp s3 (upd H1 s2.heap.objs.size (.lst []))) pins' σ4 H7 s7 → N σ4 H7 acc' → ∃ m, m < n ∧ CompInv (compCx X scope cl (ts ++ xs) fp s3 (upd H1 s2.heap.objs.size (.lst []))) fp tn W m s7 := fun {H7 s7 acc'} I7 n7 => by
        obtain ⟨m', hm, w7⟩ := hN _ _ _ n7
        refine ⟨m', hm, i + 1, σ4, H7, acc', I7.pins_of (fun p hp => absurd hp (by simp)), keep4 _ fun b hb o e => ?_, fun b hb => ?_, w7⟩
        · obtain ⟨o', hm', e'⟩ := pin4 b hb
          rw [e] at e'
          cases e'
          exact (I7.pin (b, o) (List.mem_append_right _ hm')).1
        · obtain ⟨o', hm', e'⟩ := pin4 b hb
          exact (I7.pin (b, o') (List.mem_append_right _ hm')).2.1
      refine wpAny_mono (ht fp s3 _ pins' s6 σ4 H4 _ I4 q4) (fun ok s7 ⟨H7, I7, q7⟩ => ?_) fun _ _ z => z.elim
      cases ok with
      | false =>
        have n7 : N σ4 H7 acc := by simpa using q7
        have := fin I7 n7
        simpa using this
      | true =>
        have q7 := (if_pos (c := (true = true)) rfl).mp q7
        show wpAny _ _ (eval elt _) _ _ _
        refine wpAny_mono (he fp s3 _ pins' s7 σ4 H7 _ I7 q7) (fun y s8 ⟨yv, H8, I8, ry, e8, l8, n8⟩ => ?_) fun _ _ z => z.elim
        refine wpAny_mono (mt_append (X := compCx X scope cl (ts ++ xs) fp s3 (upd H1 s2.heap.objs.size (.lst []))) pins' s8 σ4 H8 (.ref s2.heap.objs.size) [yv] (.ref s2.heap.objs.size) [y] (fun _ H9 => H9 = upd H8 s2.heap.objs.size (.lst (acc ++ [yv]))) I8 rfl (.cons ry .nil) ⟨_, acc, yv, rfl, rfl, e8, l8, rfl⟩) (fun _ s9 ⟨_, H9, I9, _, e9⟩ => ?_) fun _ _ z => z.elim
        subst e9
        exact fin I9 n8
  have hself := T.self X.A 0 { s3 with heap := h4, toks := s3.toks + ([] : List (Str × Value)).length } (fun it' s' => codeAny (model X.prog X.w) X.A (.compLoop (.ListComp elt [⟨tg, iter, [c], 0⟩] scope pos) 0 it' (.ref s2.heap.objs.size) (compEnvC scope cl s3.heap.objs.size X.env)) (RR (.ref s2.heap.objs.size) s3.heap.objs.size) s') (notedBy (model X.prog X.w) X.A (compEnvC scope cl s3.heap.objs.size X.env) fun x s' => RR (.ref s2.heap.objs.size) s3.heap.objs.size (.error x) s') st4 (loop _ rfl)
  subst hs3
  exact codeAny_compStart_list (loop _ rfl) hself
theorem comp_core0 (hc : X.calm = true) (C : CompTxt X scope cl ts xs js) (I2 : Inv X pins σ H1 s2) (T : Turn X.prog X.w X.K tg J fp it tn) (st : tn 0 s2.heap) (fo : ∀ b ∈ fp, FpOk X pins H1 b)
    (q : ∀ p, H1 p = none → ∃ W : Nat → Nat → St → Hp → List V → Prop, (∃ m, W 0 m (List.replicate ts.length none ++ capSt σ js) (upd H1 p (.lst [])) []) ∧ CompGo p J g tYes te Q W)
    (hg : ∀ fp s3 H2, PG (compCx X scope cl (ts ++ xs) fp s3 H2) tg g) (he : ∀ fp s3 H2, PE (compCx X scope cl (ts ++ xs) fp s3 H2) elt te)
    {RR : Value → Addr → Result → Shared → Prop} (hRR : ∀ p C H' s', Inv X pins σ H' s' → (∃ m, s'.heap.Ns C m) → H' C = none → s2.heap.objs.size ≤ C → Q (.ref p) H' → RR (.ref p) C (.ok .next) s') :
    wpAny (model X.prog X.w) X.A (newList []) (fun acc s3 => wpAny (model X.prog X.w) X.A (newFunctionEnv scope X.env.globals cl [] X.env.qual none .none (some X.env)) (fun cenv s4 =>
      codeAny (model X.prog X.w) X.A (.compStart (.ListComp elt [⟨tg, iter, [], 0⟩] scope pos) 0 (.ref it) acc { cenv with scope := relabel scope X.env }) (RR acc cenv.locals) s4) X.xe s3) X.xe s2 := by
  refine wpAny_newObj_type (wpAny_newFunctionEnv C.ncell (by intro y hy; simp at hy) (fun h4 ns4 sb4 => ?_) C.kind)
  dsimp only at ns4 sb4 ⊢
  have I3 : Inv X pins σ (upd H1 s2.heap.objs.size (.lst [])) { s2 with heap := s2.heap.push { cls := .type "list", data := .seq ([] : List Value).toArray } } :=
    I2.laid (t' := s2.toks) (fun b o e => Heap.get?_push_of_some _ e) (Nat.le_refl _) ⟨Nat.zero_le _, [], _, .nil, Heap.get?_push_size _ rfl⟩
  generalize hs3 : ({ s2 with heap := s2.heap.push { cls := .type "list", data := .seq ([] : List Value).toArray } } : Shared) = s3 at I3
  have hsz : s3.heap.objs.size = s2.heap.objs.size + 1 := by rw [← hs3]; exact Heap.size_push ..
  have hp3 : s2.heap.push { cls := .type "list", data := .seq ([] : List Value).toArray } = s3.heap := by rw [← hs3]
  obtain ⟨W, ⟨m0, w0⟩, go⟩ := q s2.heap.objs.size (I2.hok.fresh (Nat.le_refl _))
  have fl : ∀ b ∈ fp, b < s2.heap.objs.size := fun b hb => by
    obtain ⟨o, e, _⟩ := T.obj _ _ st b hb
    exact Heap.lt_size e
  have fo3 : ∀ b ∈ fp, FpOk X pins (upd H1 s2.heap.objs.size (.lst [])) b := fun b hb => ⟨by rw [upd_ne (Nat.ne_of_lt (fl b hb))]; exact (fo b hb).1, (fo b hb).2⟩
  have k4 : ∀ b o, s3.heap.get? b = some o → h4.get? b = some o := fun b o e => by
    have hb : b ≠ s3.heap.objs.size := Nat.ne_of_lt (Heap.lt_size e)
    rw [hp3] at sb4
    exact sb4.extBut b o hb (Heap.get?_push_of_some _ e)
  rw [hp3] at ns4
  have k24 : ∀ b o, s2.heap.get? b = some o → h4.get? b = some o := fun b o e => k4 b o (by rw [← hp3]; exact Heap.get?_push_of_some _ e)
  have st4 : tn 0 h4 := T.keep _ _ _ st fun b _ o e => k24 b o e
  have Ic : Inv (compCx X scope cl (ts ++ xs) fp s3 (upd H1 s2.heap.objs.size (.lst []))) [] _ (upd H1 s2.heap.objs.size (.lst [])) { s3 with heap := h4, toks := s3.toks + ([] : List (Str × Value)).length } :=
    comp_start C I3 fo3 (fun b hb => by rw [hsz]; exact Nat.lt_succ_of_lt (fl b hb)) ⟨_, ns4⟩ k4
  have fo' : ∀ {H' : Hp} {b : Addr}, H' b = none → b ∈ fp → FpOk (compCx X scope cl (ts ++ xs) fp s3 (upd H1 s2.heap.objs.size (.lst []))) [] H' b := fun {H' b} n hb =>
    ⟨n, Nat.ne_of_lt (show b < s3.heap.objs.size by rw [hsz]; exact Nat.lt_succ_of_lt (fl b hb)), fun hf => (Ic.ok.exfs b hb) hf, .inl hb, fun x c e => (Ic.ok.exf b hb).2 x c e, fun p hp => absurd hp (by simp)⟩
  have loop : ∀ s4 : Shared, s4 = { s3 with heap := h4, toks := s3.toks + ([] : List (Str × Value)).length } → codeAny (model X.prog X.w) X.A (.compLoop (.ListComp elt [⟨tg, iter, [], 0⟩] scope pos) 0 (.ref it) (.ref s2.heap.objs.size) (compEnvC scope cl s3.heap.objs.size X.env)) (RR (.ref s2.heap.objs.size) s3.heap.objs.size) s4 := by
    rintro s4 rfl
    refine PySem.W.kcp_loop (CompInv (compCx X scope cl (ts ++ xs) fp s3 (upd H1 s2.heap.objs.size (.lst []))) fp tn W) (fun n s' hI => ?_) m0 ⟨0, _, _, [], Ic, st4, fun b hb => (fo3 b hb).1, w0⟩
    refine comp_turn (Xc := compCx X scope cl (ts ++ xs) fp s3 (upd H1 s2.heap.objs.size (.lst []))) hc T go (hg _ _ _) rfl fo' hI (fun σ' H' s1 I1 q1 => ?_) (fun v s1 h1 => ?_)
    · obtain ⟨J1, J2, J3⟩ := comp_end I3 fo3 I1
      exact hRR _ _ H' s1 J1 J2 J3 (by rw [hsz]; exact Nat.le_succ _) q1
    · refine thn h1 fun _ s5 h5 => thn h5 fun _ s6 h6 => ?_
      obtain ⟨i, pins', acc, σ4, H4, N, I4, hN, pin4, keep4, q4⟩ := h6
      have fin : ∀ {H7 : Hp} {s7 : Shared} {acc' : List V}, Inv (compCx X scope cl (ts ++ xs) fp s3 (upd H1 s2.heap.objs.size (.lst []))) pins' σ4 H7 s7 → N σ4 H7 acc' → ∃ m, m < n ∧ CompInv (compCx X scope cl (ts ++ xs) fp s3 (upd H1 s2.heap.objs.size (.lst []))) fp tn W m s7 := fun {H7 s7 acc'} I7 n7 => by
        obtain ⟨m', hm, w7⟩ := hN _ _ _ n7
        refine ⟨m', hm, i + 1, σ4, H7, acc', I7.pins_of (fun p hp => absurd hp (by simp)), keep4 _ fun b hb o e => ?_, fun b hb => ?_, w7⟩
        · obtain ⟨o', hm', e'⟩ := pin4 b hb
          rw [e] at e'
          cases e'
          exact (I7.pin (b, o) (List.mem_append_right _ hm')).1
        · obtain ⟨o', hm', e'⟩ := pin4 b hb
          exact (I7.pin (b, o') (List.mem_append_right _ hm')).2.1
      have q4 : te σ4 H4 (fun y H6 => H6 s2.heap.objs.size = some (.lst acc) ∧ acc.length < sizeLine ∧ N σ4 (upd H6 s2.heap.objs.size (.lst (acc ++ [y]))) (acc ++ [y])) := by
        have z := q4
        unfold tYes at z
        dsimp only at z
        rw [if_pos rfl] at z
        exact z
      refine wpAny_mono (he fp s3 _ pins' s6 σ4 H4 _ I4 q4) (fun y s8 ⟨yv, H8, I8, ry, e8, l8, n8⟩ => ?_) fun _ _ z => z.elim
      refine wpAny_mono (mt_append (X := compCx X scope cl (ts ++ xs) fp s3 (upd H1 s2.heap.objs.size (.lst []))) pins' s8 σ4 H8 (.ref s2.heap.objs.size) [yv] (.ref s2.heap.objs.size) [y] (fun _ H9 => H9 = upd H8 s2.heap.objs.size (.lst (acc ++ [yv]))) I8 rfl (.cons ry .nil) ⟨_, acc, yv, rfl, rfl, e8, l8, rfl⟩) (fun _ s9 ⟨_, H9, I9, _, e9⟩ => ?_) fun _ _ z => z.elim
      subst e9
      exact fin I9 n8
  have hself := T.self X.A 0 { s3 with heap := h4, toks := s3.toks + ([] : List (Str × Value)).length } (fun it' s' => codeAny (model X.prog X.w) X.A (.compLoop (.ListComp elt [⟨tg, iter, [], 0⟩] scope pos) 0 it' (.ref s2.heap.objs.size) (compEnvC scope cl s3.heap.objs.size X.env)) (RR (.ref s2.heap.objs.size) s3.heap.objs.size) s') (notedBy (model X.prog X.w) X.A (compEnvC scope cl s3.heap.objs.size X.env) fun x s' => RR (.ref s2.heap.objs.size) s3.heap.objs.size (.error x) s') st4 (loop _ rfl)
  subst hs3
  exact codeAny_compStart_list (loop _ rfl) hself
theorem comp_after {C : Addr} {H' : Hp} {s' : Shared} {h' : Heap} (I2 : Inv X pins σ H1 s2) (I : Inv X pins σ H' s') (n : H' C = none) (hC : s2.heap.objs.size ≤ C) (hs : Heap.SameBut C s'.heap h') : Inv X pins σ H' { s' with heap := h' } := by
  refine I.turned (t' := s'.toks) (it := C) (fun b o hb e => hs.extBut b o hb e) n (Nat.ne_of_gt (Nat.lt_of_lt_of_le I2.lt hC)) (.inr (Nat.le_trans I2.sz hC)) (fun x c e => ?_) fun p hp => ?_
  · obtain ⟨v, o, ho, _⟩ := I2.cell x c e
    exact Nat.ne_of_lt (Nat.lt_of_lt_of_le (Heap.lt_size ho) hC)
  · exact Nat.ne_of_lt (Nat.lt_of_lt_of_le (Heap.lt_size (I2.pin p hp).1) hC)
end
section
variable {X : Cx} {elt iter c tg : Expr} {pos : Pos} {g : TG} {tc : TT} {te : TE} {wi : TI} {scope : Scope} {cl : List (Str × Addr)} {ts xs : List Str} {js : List Nat}
theorem pe_compT (hc : X.calm = true) (C : CompTxt X scope cl ts xs js) (hi : PI X tg iter wi) (hg : ∀ fp s3 H2, PG (compCx X scope cl (ts ++ xs) fp s3 H2) tg g) (ht : ∀ fp s3 H2, PT (compCx X scope cl (ts ++ xs) fp s3 H2) c tc) (he : ∀ fp s3 H2, PE (compCx X scope cl (ts ++ xs) fp s3 H2) elt te)
    (hs : ∀ x, foldedSetIterable iter X.env x = pure x := by intro _; rfl) : PE X (.ListComp elt [⟨tg, iter, [c], 0⟩] scope pos) (tComp ts.length js wi g tc te) := by
  intro pins s σ H Q I h
  rw [eval_ListComp]
  refine wpAny_comprehension_free (use := none) rfl hs C.clos C.kind C.names (thn (hi pins s σ H _ I h) fun xv s1 h1 => thn h1 fun itv s2 h2 => ?_)
  obtain ⟨it, fp, tn, J, H1, rfl, I2, T, st2, fo, q⟩ := h2
  exact comp_coreT (RR := compPost (model X.prog X.w) X.A X.xe none (EP X pins σ Q)) hc C I2 T st2 fo q hg ht he fun p D H' s' I' ns n hD q' => by
    obtain ⟨m, hm⟩ := ns
    exact ⟨m, hm, fun h' sb => ⟨.ref p, H', comp_after I2 I' n hD sb, rfl, q'⟩⟩
theorem pe_comp (hc : X.calm = true) (C : CompTxt X scope cl ts xs js) (hi : PI X tg iter wi) (hg : ∀ fp s3 H2, PG (compCx X scope cl (ts ++ xs) fp s3 H2) tg g) (he : ∀ fp s3 H2, PE (compCx X scope cl (ts ++ xs) fp s3 H2) elt te)
    (hs : ∀ x, foldedSetIterable iter X.env x = pure x := by intro _; rfl) : PE X (.ListComp elt [⟨tg, iter, [], 0⟩] scope pos) (tComp ts.length js wi g tYes te) := by
  intro pins s σ H Q I h
  rw [eval_ListComp]
  refine wpAny_comprehension_free (use := none) rfl hs C.clos C.kind C.names (thn (hi pins s σ H _ I h) fun xv s1 h1 => thn h1 fun itv s2 h2 => ?_)
  obtain ⟨it, fp, tn, J, H1, rfl, I2, T, st2, fo, q⟩ := h2
  exact comp_core0 (RR := compPost (model X.prog X.w) X.A X.xe none (EP X pins σ Q)) hc C I2 T st2 fo q hg he fun p D H' s' I' ns n hD q' => by
    obtain ⟨m, hm⟩ := ns
    exact ⟨m, hm, fun h' sb => ⟨.ref p, H', comp_after I2 I' n hD sb, rfl, q'⟩⟩
theorem ps_setComp {i : Nat} {y : Str} {py spos : Pos} (hc : X.calm = true) (C : CompTxt X scope cl ts xs js) (hi : PI X tg iter wi) (hg : ∀ fp s3 H2, PG (compCx X scope cl (ts ++ xs) fp s3 H2) tg g) (he : ∀ fp s3 H2, PE (compCx X scope cl (ts ++ xs) fp s3 H2) elt te)
    (hN : X.N.Nodup) (hy : X.N[i]? = some y) (hx : Loc X.env.scope y) (hkn : ∀ u : V, X.kn[i]? ≠ some (some u)) (hf : X.fn y = true ∨ X.env.scope.names.lookup y = some .local := by first | exact .inl rfl | exact .inr rfl | assumption)
    (hsw : swapsWith (.ListComp elt [⟨tg, iter, [], 0⟩] scope pos) (some (.Name y py)) spos.line X.env = pure true := by rfl)
    (hs : ∀ x, foldedSetIterable iter X.env x = pure x := by intro _; rfl) : PS X (.Assign [.Name y py] (.ListComp elt [⟨tg, iter, [], 0⟩] scope pos) spos) (tAsg (tComp ts.length js wi g tYes te) (gName i)) := by
  intro pins s σ H D I h
  rw [exec_Assign_Name_used _ _ _ _ hsw]
  refine wpAny_bind (wpAny_standAt (wpAny_bind ?_))
  show wpAny _ X.A (do let _ ← comprehension (.ListComp elt [⟨tg, iter, [], 0⟩] scope pos) scope X.env _ (newList []) false (eval iter X.env) (some (assign (.Name y py) X.env))) _ _ s
  refine wpAny_bind (wpAny_mono (wpAny_comprehension_free (use := some (assign (.Name y py) X.env)) (Q := fun _ s' => SP X pins D .next s') rfl hs C.clos C.kind C.names (thn (hi pins s σ H _ I h) fun xv s1 h1 => thn h1 fun itv s2 h2 => ?_)) (fun _ s' hq => wpAny_pure (wpAny_pure hq)) fun _ _ e => e)
  obtain ⟨it, fp, tn, J, H1, rfl, I2, T, st2, fo, q⟩ := h2
  refine comp_core0 (Q := fun x H1 => gName i x σ H1 D.nx) (g := g) (te := te) (RR := compPost (model X.prog X.w) X.A X.xe (some (assign (.Name y py) X.env)) (fun _ s' => SP X pins D .next s')) hc C I2 T st2 fo q hg he fun p E H' s' I' ns n hE q' => ?_
  obtain ⟨m, hm⟩ := ns
  show wpAny _ X.A (assign (.Name y py) X.env (.ref p)) _ _ _
  refine wpAny_assign_Name (store_ok2 I' hN hy hx (show RelV (.ref p) (.ref p) from rfl) (fun s3 I3 ⟨b, sb, hb⟩ => ?_) hf hkn)
  refine ⟨m, hm.sameBut sb (fun z => ?_), fun h' sb' => ⟨_, H', ?_, q'⟩⟩
  · rcases hb with hb | hb
    · exact absurd (Nat.lt_of_lt_of_le I2.lt hE) (by rw [z, hb]; exact Nat.lt_irrefl _)
    · obtain ⟨v, o, ho, _⟩ := I2.cell y b hb
      exact absurd (Nat.lt_of_lt_of_le (Heap.lt_size ho) hE) (by rw [z]; exact Nat.lt_irrefl _)
  · refine I3.turned (t' := s3.toks) (it := E) (fun b o hb e => sb'.extBut b o hb e) n (Nat.ne_of_gt (Nat.lt_of_lt_of_le I2.lt hE)) (.inr (Nat.le_trans I2.sz hE)) (fun x c e => ?_) fun p hp => ?_
    · obtain ⟨v, o, ho, _⟩ := I2.cell x c e
      exact Nat.ne_of_lt (Nat.lt_of_lt_of_le (Heap.lt_size ho) hE)
    · exact Nat.ne_of_lt (Nat.lt_of_lt_of_le (Heap.lt_size (I2.pin p hp).1) hE)
end
end L2
set_option Elab.async false
set_option linter.all false
set_option maxRecDepth 100000
namespace L2
open PySem PySem.Spec PyProof.Rows
section
variable {X : Cx}
theorem call_list_dict (hc : X.calm = true) : CallR X (.type "list") (fun xs H Q => ∃ a kvs, xs = [.ref a] ∧ Rd H a (.dK kvs) ∧ ∀ l, H l = none → Q (.ref l) (upd H l (.lst (kvs.map fun p => kV p.1)))) := by
  intro pins s σ H xs us Q I r h
  obtain ⟨a, kvs, rfl, rd, q⟩ := h
  obtain ⟨u, rfl, ru⟩ := vals1 r
  cases ru
  obtain ⟨zl, zm, vs, rv, d⟩ := dk_rd I.hok rd
  obtain ⟨ep, da⟩ := d.dictAt
  have hl : kvs.length = vs.length := rv.length
  refine PySem.W.kdl_call (PySem.W.kdl_dict (knd := mixKind X.prog X.w) (kvs := vs) (ep := ep) zm) (I.ok.hd hc) da (by omega) fun h' tk acc c k e items => ?_
  refine ⟨.ref s.heap.objs.size, _, I.laid (t' := tk) (o := .lst (kvs.map fun p => kV p.1)) k (Nat.le_refl _) ⟨by rw [List.length_map]; exact zl, acc.toList, c, ?_, by simpa using e⟩, rfl, q _ (I.hok.fresh (Nat.le_refl _))⟩
  obtain ⟨n1, n2⟩ := items
  have go : ∀ (ks : List (Key × V)) (as : List Value), ks.length = as.length → (∀ (j : Nat) (u : Value), as[j]? = some u → ∃ p : Key × V, ks[j]? = some p ∧ RelV (kV p.1) u) → Vals (ks.map fun p => kV p.1) as := by
    intro ks
    induction ks with
    | nil => intro as hl _; cases as with | nil => exact .nil | cons _ _ => simp at hl
    | cons p ks ih =>
      intro as hl h
      cases as with
      | nil => simp at hl
      | cons u as =>
        obtain ⟨p', e1, r1⟩ := h 0 u rfl
        simp at e1
        subst e1
        exact .cons r1 (ih as (by simpa using hl) fun j w' e => by simpa using h (j + 1) w' (by simpa using e))
  refine go kvs acc.toList (by have z : acc.toList.length = acc.size := Array.length_toList; omega) fun j u e => ?_
  obtain ⟨k', x', e1, e2⟩ := n2 j u (by rw [← Array.getElem?_toList]; exact e)
  have hj : j < kvs.length := by rw [hl]; exact (List.getElem?_eq_some_iff.mp e1).1
  obtain ⟨w', e3, _⟩ := rv.at (i := j) (k := (kvs[j]).1) (v := (kvs[j]).2) (by simp [hj])
  rw [e1] at e3
  cases e3
  exact ⟨kvs[j], by simp [hj], key_rel e2⟩
theorem call_isinst : CallR X (.builtin "isinstance") (fun xs H Q => ∃ x c cu t b, xs = [x, c] ∧ RelV c cu ∧ (∀ u, RelV c u → u = cu) ∧ TyOf X.K H x t ∧ PySem.W.kitOne X.K t cu = some b ∧ Q (.bl b) H) := by
  intro pins s σ H xs us Q I r h
  obtain ⟨x, c, cu, t, b, rfl, _, hu, ty, e, q⟩ := h
  obtain ⟨u, w', rfl, rx, rc⟩ := vals2 r
  cases hu w' rc
  exact isinst_ok I rx ty e fun tk => ⟨.bl b, H, I.tok tk, rfl, q⟩
theorem vals_strs : ∀ {ys : List Str} {us : List Value}, Vals (ys.map V.str) us → StrsAre us ys
  | [], [], _ => .nil
  | y :: ys, u :: us, h => by
    cases h with
    | cons p t =>
      obtain ⟨tk, rfl⟩ := p
      exact .cons _ _ (vals_strs t)
  | [], _ :: _, h => nomatch h
  | _ :: _, [], h => nomatch h
theorem mt_join : MtR X "str.join" (fun x xs H Q => ∃ z l ys, x = .str z ∧ xs = [.ref l] ∧ SqL X.K H l (ys.map V.str) ∧ (ys.map (·.length)).sum + ys.length * z.length ≤ 16777216 ∧ Q (.str (Txt.join z ys)) H) := by
  intro pins s σ H x xs v us Q I rx rv h
  obtain ⟨z, l, ys, rfl, rfl, sq, hz, q⟩ := h
  obtain ⟨t, rfl⟩ := rx
  obtain ⟨u, rfl, ru⟩ := rv.one
  cases ru
  obtain ⟨its, r, pl, _⟩ := I.list sq
  exact join_list pl.isList (vals_strs r) hz fun t' k => ⟨.str _, H, I.tok k, ⟨t', rfl⟩, q⟩
theorem pe_repr {e : Expr} {te : TE} {pos : Pos} (he : PE X e te) : PE X (.FormattedValue e 114 none pos) (fun σ H Q => te σ H fun v H1 => ∃ y, v = .str y ∧ (reprText y).length ≤ sizeLine ∧ Q (.str (reprText y)) H1) := by
  intro pins s σ H Q I h
  refine wpAny_FormattedValue_repr (thn (he pins s σ H _ I h) fun v s1 ⟨x, H1, I1, r, y, e, l, q⟩ => ?_)
  subst e
  obtain ⟨t, rfl⟩ := r
  refine wpAny_pyReprObj_str (hsz := l) ?_
  exact formatField_str (hsz := l) fun t' tk => ⟨.str _, H1, I1.tok tk, ⟨t', rfl⟩, q⟩
def tJ : Str → List TE → TE
  | acc, [] => fun _ H Q => acc.length ≤ sizeLine ∧ Q (.str acc) H
  | acc, t :: ts => fun σ H Q => t σ H fun v H1 => ∃ y, v = .str y ∧ (acc ++ y).length ≤ sizeLine ∧ tJ (acc ++ y) ts σ H1 Q
inductive PJ (X : Cx) : List Expr → List TE → Prop where
  | nil : PJ X [] []
  | cons {e : Expr} {es : List Expr} {t : TE} {ts : List TE} : PE X e t → PJ X es ts → PJ X (e :: es) (t :: ts)
theorem joins_of {es : List Expr} {ts : List TE} (hj : PJ X es ts) : ∀ {acc : Str} {pins : List (Addr × Obj)} {s : Shared} {σ : St} {H : Hp} {Q : VK}, Inv X pins σ H s → tJ acc ts σ H Q →
    wpAny (model X.prog X.w) X.A (joinParts acc (evalEach es X.env)) (EP X pins σ Q) X.xe s := by
  induction hj with
  | nil => intro acc pins s σ H Q I h; exact joinParts_nil (hsz := h.1) ⟨.str acc, H, I.tok _, ⟨_, rfl⟩, h.2⟩
  | @cons e es t ts he hj ih =>
    intro acc pins s σ H Q I h
    show wpAny _ _ (joinParts acc (eval e X.env :: evalEach es X.env)) _ _ _
    refine joinParts_cons (thn (he pins s σ H _ I h) fun v s1 ⟨x, H1, I1, r, y, e, l, q⟩ => ?_)
    subst e
    obtain ⟨tk, rfl⟩ := r
    exact ⟨l, ih I1 q⟩
theorem pe_joined {a b : Expr} {r : List Expr} {ts : List TE} {pos : Pos} (h : PJ X (a :: b :: r) ts) : PE X (.JoinedStr (a :: b :: r) pos) (tJ Str.empty ts) := fun pins s σ H Q I q => JoinedStr_many (joins_of h I q)
end
end L2
set_option Elab.async false
set_option linter.all false
set_option maxRecDepth 100000
namespace L2
open PySem PySem.Spec PyProof.Rows
theorem hash_none {prog : Program} {w : World} {A : Around} {E : Value → Shared → Prop} {s : Shared} {Q : Int → Shared → Prop} (h : Q 0xFCA86420 { s with toks := s.toks + 1 }) : wpAny (model prog w) A (pyHash .none) Q E s := by
  have hT : s.TypeIs .none "NoneType" := rfl
  show wpAny _ _ (pyHashByItsType .none) Q E s
  unfold pyHashByItsType
  refine wpAny_bind ?_
  rw [cRoomFor, if_neg (by decide)]
  refine wpAny_pure ?_
  refine wpAny_bind (wpAny_specialOf hT PySem.F.slot_NoneType_hash.lookup ?_)
  rw [if_neg (by decide)]
  refine wpAny_bind (wpAny_specialOf hT PySem.F.slot_NoneType_hash.lookup ?_)
  show wpAny _ _ (callSpecialIfBoundUnlessNone? .none "__hash__" _ >>= _) Q E s
  refine wpAny_bind (wpAny_callSpecialIfBoundUnlessNone?_slot hT PySem.F.slot_NoneType_hash (wpAny_call_entry PySem.F.slot_NoneType_hash hT PySem.F.entry_NoneType_hash
    (show wpAny _ _ (do ret (← mkInt 0xFCA86420)) _ _ s from wpAny_ret_mkInt ?_) (PySem.F.args_NoneType_hash_1 _)))
  show wpAny _ _ (if (decide (-(2 : Int) ^ 63 ≤ 0xFCA86420) && decide ((0xFCA86420 : Int) < 2 ^ 63)) = true then _ else _) Q E _
  rw [if_pos (by decide)]
  exact wpAny_pure h
def optIs : Option Key → Value → Bool
  | none, .none => true
  | none, _ => false
  | some k, v => keyIs k v
def optH (w : World) : Option Key → Int
  | none => 0xFCA86420
  | some k => keyH w k
theorem optIs_none {v : Value} (h : optIs none v = true) : v = .none := by
  cases v <;> first | rfl | cases h
theorem not_both {k : Key} (h : keyIs k .none = true) : False := by
  rcases keyIs_shape h with ⟨_, _, _, e⟩ | ⟨_, _, _, e⟩ <;> cases e
def optKind (prog : Program) (w : World) : PySem.KeyKind prog w (Option Key) where
  is := optIs
  hash := optH w
  inj := fun v a b ha hb => by
    cases a with
    | none =>
      cases b with
      | none => rfl
      | some b => cases optIs_none ha; exact (not_both hb).elim
    | some a =>
      cases b with
      | none => cases optIs_none hb; exact (not_both ha).elim
      | some b => exact congrArg some ((mixKind prog w).inj v a b ha hb)
  byValue := fun k v h => by
    cases k with
    | none => cases optIs_none h; rfl
    | some k => exact (mixKind prog w).byValue k v h
  pyHash := fun {A E s k v Q} hv h => by
    cases k with
    | none => cases optIs_none hv; exact hash_none h
    | some k => exact (mixKind prog w).pyHash (k := k) hv h
  eqBool := fun {A E s a b u v Q} hu hv h => by
    cases a with
    | none =>
      cases optIs_none hu
      cases b with
      | none => cases optIs_none hv; exact SeqAt.EqAt.same _ _ _ _ _ (by simpa using h)
      | some b =>
        rcases keyIs_shape hv with ⟨i, t, rfl, rfl⟩ | ⟨x, t, rfl, rfl⟩
        · exact SeqAt.EqAt.none_int _ _ _ _ _ _ (by simpa using h)
        · exact SeqAt.EqAt.none_str _ _ _ _ _ _ (by simpa using h)
    | some a =>
      cases b with
      | none =>
        cases optIs_none hv
        rcases keyIs_shape hu with ⟨i, t, rfl, rfl⟩ | ⟨x, t, rfl, rfl⟩
        · exact SeqAt.EqAt.int_none _ _ _ _ _ _ (by simpa using h)
        · exact SeqAt.EqAt.str_none _ _ _ _ _ _ (by simpa using h)
      | some b => exact (mixKind prog w).eqBool (a := a) (b := b) hu hv (by simpa using h)
  «strs» := fun k x t v h => by
    cases k with
    | none => cases h
    | some k => exact (mixKind prog w).strs k x t v h
theorem opt_map {P : Program} {w : World} {h : Heap} {a : Addr} {vs : List (Key × Value)} (d : h.DictOf (mixKind P w) a vs) : ∃ f, h.MapOf (optKind P w) a f ∧ f none = none := by
  obtain ⟨o, es, ep, ho, ex, hd, keys, r⟩ := id d
  refine ⟨fun k => findBy (optKind P w).is es k, ⟨o, es, ep, ho, ex, hd, fun e he => ?_, fun k => rfl⟩, ?_⟩
  · obtain ⟨k, h1, h2⟩ := keys e he
    exact ⟨some k, h1, h2⟩
  · show findBy optIs es none = none
    unfold findBy
    rw [Option.map_eq_none_iff, Array.find?_eq_none]
    intro e he z
    obtain ⟨k, h1, _⟩ := keys e he
    rw [optIs_none z] at h1
    exact not_both h1
section
variable {X : Cx} {o i : Expr} {td ty : TE}
def tDInN (ty td : TE) : TE := fun σ H Q => ty σ H fun y H1 => td σ H1 fun x H2 => ∃ a, x = .ref a ∧ ((∃ r, DGet H2 a y r ∧ Q (.bl r.isSome) H2) ∨ (y = .non ∧ (∃ kvs, Rd H2 a (.dK kvs)) ∧ Q (.bl false) H2))
theorem pc_dinN (hu : X.A.units + 1 < cLine) (hi : PE X i ty) (ho : PE X o td) : PC X .In i o (tDInN ty td) := by
  intro pins s σ H Q I h
  refine thn (hi pins s σ H _ I h) fun v s1 ⟨y, H1, I1, ry, q1⟩ => thn (ho pins s1 σ H1 _ I1 q1) fun u s2 ⟨x, H2, I2, rx, a, ex, q2⟩ => ?_
  subst ex
  cases (show u = Value.ref a from rx)
  rcases q2 with ⟨r, g, q⟩ | ⟨ey, ⟨kvs, rd⟩, q⟩
  · exact d_in hu I2 g ry fun s' I' => ⟨.bl _, H2, I', rfl, q⟩
  · subst ey
    cases (show v = Value.none from ry)
    obtain ⟨z, hd, vs, rel, dd⟩ := dk_rd I2.hok rd
    obtain ⟨f, mf, fn⟩ := opt_map dd
    refine wpAny_in_of (knd := optKind X.prog X.w) (k := none) (f := f) rfl hd mf ?_
    rw [fn]
    exact ⟨.bl false, H2, I2.tok _, rfl, q⟩
end
end L2
set_option Elab.async false
set_option linter.all false
set_option maxRecDepth 100000
namespace L2
open PySem PySem.Spec PyProof.Rows
section
variable {X : Cx}
theorem op_isB : OpR X (compareOp .Is) (fun x y H Q => ∃ a b, x = .bl a ∧ y = .bl b ∧ Q (.bl (a == b)) H) := by
  intro pins s σ H x y v u Q I rx ry h
  obtain ⟨a, b, rfl, rfl, q⟩ := h
  cases rx
  cases ry
  refine wpAny_is_plain rfl ⟨.bl (a == b), H, I, ?_, q⟩
  show Value.bool (Value.bool a == Value.bool b) = Value.bool (a == b)
  cases a <;> cases b <;> rfl
end
end L2
set_option Elab.async false
set_option linter.all false
set_option maxRecDepth 100000
namespace L2
open PySem PySem.Spec PyProof.Rows
section
variable {X : Cx}
theorem Vals.at : ∀ {xs : List V} {us : List Value}, Vals xs us → ∀ {i : Nat} {u : Value}, us[i]? = some u → ∃ x, xs[i]? = some x ∧ RelV x u
  | _, _, .nil, i, u, h => by simp at h
  | _, _, .cons r t, 0, u, h => by
    simp at h
    subst h
    exact ⟨_, rfl, r⟩
  | _, _, .cons r t, i + 1, u, h => by
    obtain ⟨x, h1, h2⟩ := Vals.at t (i := i) (u := u) (by simpa using h)
    exact ⟨x, by simpa using h1, h2⟩
end
section
variable {X : Cx} {elt iter c tg : Expr} {pos : Pos} {g : TG} {tc : TT} {te : TE} {wi : TI} {scope : Scope} {cl : List (Str × Addr)} {ts xs : List Str} {js : List Nat}
end
end L2
set_option Elab.async false
set_option linter.all false
set_option maxRecDepth 100000
namespace MF
open PySem L2
inductive T where
  | non | bl (b : Bool) | int (i : Int) | str (x : Str) | lst (ts : List T) | tup (ts : List T) | dic (kvs : List (Key × T)) | obj (k : Nat)
inductive Cell where
  | lst (ts : List T) | dic (kvs : List (Key × T)) | ins (C : Addr) (fs : List (Str × T))
abbrev Sto := List Cell
structure Wd where
  HS : Hp
  μ : Nat → Addr
  n : Nat
  Z : Addr → Option Obj
  P : Hp
structure Wd.le (W W' : Wd) : Prop where
  hs : ∀ a o, W.HS a = some o → W'.HS a = some o
  z : ∀ a o, W.Z a = some o → W'.Z a = some o
  p : ∀ a o, W.P a = some o → W'.P a = some o
  n : W.n ≤ W'.n
  μ : ∀ k, k < W.n → W'.μ k = W.μ k
theorem Wd.le.refl (W : Wd) : W.le W := ⟨fun _ _ h => h, fun _ _ h => h, fun _ _ h => h, Nat.le_refl _, fun _ _ => rfl⟩
theorem Wd.le.trans {W W1 W2 : Wd} (a : W.le W1) (b : W1.le W2) : W.le W2 :=
  ⟨fun x o h => b.hs x o (a.hs x o h), fun x o h => b.z x o (a.z x o h), fun x o h => b.p x o (a.p x o h), Nat.le_trans a.n b.n, fun k h => (b.μ k (Nat.lt_of_lt_of_le h a.n)).trans (a.μ k h)⟩
mutual
def Den (W : Wd) : T → V → Prop
  | .non, v => v = .non
  | .bl b, v => v = .bl b
  | .int i, v => v = .int i
  | .str x, v => v = .str x
  | .lst ts, v => ∃ a vs, v = .ref a ∧ W.HS a = some (.lst vs) ∧ Dens W ts vs
  | .tup ts, v => ∃ a vs, v = .ref a ∧ W.HS a = some (.tup vs) ∧ Dens W ts vs
  | .dic kvs, v => ∃ a ks, v = .ref a ∧ W.HS a = some (.dK ks) ∧ DenK W kvs ks
  | .obj k, v => v = .ref (W.μ k) ∧ k < W.n
def Dens (W : Wd) : List T → List V → Prop
  | [], vs => vs = []
  | t :: ts, vs => ∃ v r, vs = v :: r ∧ Den W t v ∧ Dens W ts r
def DenK (W : Wd) : List (Key × T) → List (Key × V) → Prop
  | [], vs => vs = []
  | (k, t) :: ts, vs => ∃ v r, vs = (k, v) :: r ∧ Den W t v ∧ DenK W ts r
end
mutual
theorem Den.mono {W W' : Wd} (l : W.le W') : ∀ (t : T) (v : V), Den W t v → Den W' t v
  | .non, _, h => by simpa [Den] using h
  | .bl _, _, h => by simpa [Den] using h
  | .int _, _, h => by simpa [Den] using h
  | .str _, _, h => by simpa [Den] using h
  | .lst ts, v, h => by
    obtain ⟨a, vs, e, h1, h2⟩ := (by simpa only [Den] using h : ∃ a vs, v = .ref a ∧ W.HS a = some (.lst vs) ∧ Dens W ts vs)
    simp only [Den]; exact ⟨a, vs, e, l.hs _ _ h1, Dens.mono l ts vs h2⟩
  | .tup ts, v, h => by
    obtain ⟨a, vs, e, h1, h2⟩ := (by simpa only [Den] using h : ∃ a vs, v = .ref a ∧ W.HS a = some (.tup vs) ∧ Dens W ts vs)
    simp only [Den]; exact ⟨a, vs, e, l.hs _ _ h1, Dens.mono l ts vs h2⟩
  | .dic ks, v, h => by
    obtain ⟨a, vs, e, h1, h2⟩ := (by simpa only [Den] using h : ∃ a vs, v = .ref a ∧ W.HS a = some (.dK vs) ∧ DenK W ks vs)
    simp only [Den]; exact ⟨a, vs, e, l.hs _ _ h1, DenK.mono l ks vs h2⟩
  | .obj k, v, h => by
    obtain ⟨e, h1⟩ := (by simpa only [Den] using h : v = .ref (W.μ k) ∧ k < W.n)
    simp only [Den]; exact ⟨by rw [l.μ k h1]; exact e, Nat.lt_of_lt_of_le h1 l.n⟩
theorem Dens.mono {W W' : Wd} (l : W.le W') : ∀ (ts : List T) (vs : List V), Dens W ts vs → Dens W' ts vs
  | [], vs, h => by simpa only [Dens] using h
  | t :: ts, vs, h => by
    obtain ⟨v, r, e, h1, h2⟩ := (by simpa only [Dens] using h : ∃ v r, vs = v :: r ∧ Den W t v ∧ Dens W ts r)
    simp only [Dens]; exact ⟨v, r, e, Den.mono l t v h1, Dens.mono l ts r h2⟩
theorem DenK.mono {W W' : Wd} (l : W.le W') : ∀ (ts : List (Key × T)) (vs : List (Key × V)), DenK W ts vs → DenK W' ts vs
  | [], vs, h => by simpa only [DenK] using h
  | (k, t) :: ts, vs, h => by
    obtain ⟨v, r, e, h1, h2⟩ := (by simpa only [DenK] using h : ∃ v r, vs = (k, v) :: r ∧ Den W t v ∧ DenK W ts r)
    simp only [DenK]; exact ⟨v, r, e, Den.mono l t v h1, DenK.mono l ts r h2⟩
end
section
variable {W : Wd}
theorem den_non {v : V} : Den W .non v ↔ v = .non := by simp only [Den]
theorem den_bl {b : Bool} {v : V} : Den W (.bl b) v ↔ v = .bl b := by simp only [Den]
theorem den_int {i : Int} {v : V} : Den W (.int i) v ↔ v = .int i := by simp only [Den]
theorem den_str {x : Str} {v : V} : Den W (.str x) v ↔ v = .str x := by simp only [Den]
theorem den_lst {ts : List T} {v : V} : Den W (.lst ts) v ↔ ∃ a vs, v = .ref a ∧ W.HS a = some (.lst vs) ∧ Dens W ts vs := by simp only [Den]
theorem den_tup {ts : List T} {v : V} : Den W (.tup ts) v ↔ ∃ a vs, v = .ref a ∧ W.HS a = some (.tup vs) ∧ Dens W ts vs := by simp only [Den]
theorem den_dic {ts : List (Key × T)} {v : V} : Den W (.dic ts) v ↔ ∃ a vs, v = .ref a ∧ W.HS a = some (.dK vs) ∧ DenK W ts vs := by simp only [Den]
theorem den_obj {k : Nat} {v : V} : Den W (.obj k) v ↔ v = .ref (W.μ k) ∧ k < W.n := by simp only [Den]
theorem dens_nil {vs : List V} : Dens W [] vs ↔ vs = [] := by simp only [Dens]
theorem dens_cons {t : T} {ts : List T} {vs : List V} : Dens W (t :: ts) vs ↔ ∃ v r, vs = v :: r ∧ Den W t v ∧ Dens W ts r := by simp only [Dens]
theorem denk_nil {vs : List (Key × V)} : DenK W [] vs ↔ vs = [] := by simp only [DenK]
theorem denk_cons {k : Key} {t : T} {ts : List (Key × T)} {vs : List (Key × V)} : DenK W ((k, t) :: ts) vs ↔ ∃ v r, vs = (k, v) :: r ∧ Den W t v ∧ DenK W ts r := by simp only [DenK]
theorem Dens.nil' : Dens W [] [] := dens_nil.mpr rfl
theorem Dens.cons' {t : T} {ts : List T} {v : V} {vs : List V} (h : Den W t v) (r : Dens W ts vs) : Dens W (t :: ts) (v :: vs) := dens_cons.mpr ⟨v, vs, rfl, h, r⟩
theorem Dens.length : ∀ {ts : List T} {vs : List V}, Dens W ts vs → ts.length = vs.length
  | [], vs, h => by rw [dens_nil.mp h]; rfl
  | t :: ts, vs, h => by
    obtain ⟨v, r, e, _, h2⟩ := dens_cons.mp h
    subst e
    simp [Dens.length h2]
theorem Dens.get : ∀ {ts : List T} {vs : List V} {i : Nat} {t : T}, Dens W ts vs → ts[i]? = some t → ∃ v, vs[i]? = some v ∧ Den W t v
  | [], _, _, _, _, e => by simp at e
  | t0 :: ts, vs, i, t, h, e => by
    obtain ⟨v, r, rfl, h1, h2⟩ := dens_cons.mp h
    cases i with
    | zero => simp at e; subst e; exact ⟨v, rfl, h1⟩
    | succ i =>
      obtain ⟨v', e1, e2⟩ := Dens.get (i := i) h2 (by simpa using e)
      exact ⟨v', by simpa using e1, e2⟩
theorem Dens.get' : ∀ {ts : List T} {vs : List V} {i : Nat} {v : V}, Dens W ts vs → vs[i]? = some v → ∃ t, ts[i]? = some t ∧ Den W t v
  | [], _, _, _, h, e => by rw [dens_nil.mp h] at e; simp at e
  | t0 :: ts, vs, i, v', h, e => by
    obtain ⟨v, r, rfl, h1, h2⟩ := dens_cons.mp h
    cases i with
    | zero => simp at e; subst e; exact ⟨t0, rfl, h1⟩
    | succ i =>
      obtain ⟨t, e1, e2⟩ := Dens.get' (i := i) h2 (by simpa using e)
      exact ⟨t, by simpa using e1, e2⟩
theorem Dens.append : ∀ {ts us : List T} {vs ws : List V}, Dens W ts vs → Dens W us ws → Dens W (ts ++ us) (vs ++ ws)
  | [], _, _, _, h, g => by rw [dens_nil.mp h]; exact g
  | t :: ts, us, vs, ws, h, g => by
    obtain ⟨v, r, rfl, h1, h2⟩ := dens_cons.mp h
    exact Dens.cons' h1 (Dens.append h2 g)
theorem Dens.set {t : T} {v : V} (hv : Den W t v) : ∀ {ts : List T} {vs : List V} (i : Nat), Dens W ts vs → Dens W (ts.set i t) (vs.set i v)
  | [], _, _, h => by rw [dens_nil.mp h]; exact Dens.nil'
  | t :: ts, vs, i, h => by
    obtain ⟨v, r, rfl, h1, h2⟩ := dens_cons.mp h
    cases i with
    | zero => exact Dens.cons' hv h2
    | succ i => exact Dens.cons' h1 (Dens.set hv i h2)
theorem Dens.take : ∀ {ts : List T} {vs : List V} (i : Nat), Dens W ts vs → Dens W (ts.take i) (vs.take i)
  | ts, vs, 0, _ => by simpa using Dens.nil'
  | [], _, _, h => by rw [dens_nil.mp h]; simpa using Dens.nil'
  | t :: ts, vs, i + 1, h => by
    obtain ⟨v, r, rfl, h1, h2⟩ := dens_cons.mp h
    exact Dens.cons' h1 (Dens.take i h2)
theorem Dens.drop : ∀ {ts : List T} {vs : List V} (i : Nat), Dens W ts vs → Dens W (ts.drop i) (vs.drop i)
  | ts, vs, 0, h => by simpa using h
  | [], _, _, h => by rw [dens_nil.mp h]; simpa using Dens.nil'
  | t :: ts, vs, i + 1, h => by
    obtain ⟨v, r, rfl, h1, h2⟩ := dens_cons.mp h
    simpa using Dens.drop i h2
theorem Dens.reverse {ts : List T} {vs : List V} (h : Dens W ts vs) : Dens W ts.reverse vs.reverse := by
  induction ts generalizing vs with
  | nil => rw [dens_nil.mp h]; exact Dens.nil'
  | cons t ts ih =>
    obtain ⟨v, r, rfl, h1, h2⟩ := dens_cons.mp h
    rw [List.reverse_cons, List.reverse_cons]
    exact (ih h2).append (Dens.cons' h1 Dens.nil')
theorem DenK.length : ∀ {ts : List (Key × T)} {vs : List (Key × V)}, DenK W ts vs → ts.length = vs.length
  | [], vs, h => by rw [denk_nil.mp h]; rfl
  | (k, t) :: ts, vs, h => by
    obtain ⟨v, r, e, _, h2⟩ := denk_cons.mp h
    subst e
    simp [DenK.length h2]
theorem DenK.nil' : DenK W [] [] := denk_nil.mpr rfl
theorem DenK.cons' {k : Key} {t : T} {ts : List (Key × T)} {v : V} {vs : List (Key × V)} (h : Den W t v) (r : DenK W ts vs) : DenK W ((k, t) :: ts) ((k, v) :: vs) := denk_cons.mpr ⟨v, vs, rfl, h, r⟩
end
def DenF (W : Wd) : List (Str × T) → List (Str × V) → Prop
  | [], vs => vs = []
  | (k, t) :: ts, vs => ∃ v r, vs = (k, v) :: r ∧ Den W t v ∧ DenF W ts r
theorem DenF.mono {W W' : Wd} (l : W.le W') : ∀ {ts : List (Str × T)} {vs : List (Str × V)}, DenF W ts vs → DenF W' ts vs
  | [], _, h => h
  | (k, t) :: ts, vs, h => by
    obtain ⟨v, r, e, h1, h2⟩ := h
    exact ⟨v, r, e, Den.mono l _ _ h1, DenF.mono l h2⟩
theorem DenF.length {W : Wd} : ∀ {ts : List (Str × T)} {vs : List (Str × V)}, DenF W ts vs → ts.length = vs.length
  | [], _, h => by rw [show _ = [] from h]; rfl
  | (k, t) :: ts, vs, h => by
    obtain ⟨v, r, rfl, h1, h2⟩ := h
    simp [DenF.length h2]
def CellOk (W : Wd) (H : Hp) (a : Addr) : Cell → Prop
  | .lst ts => ∃ vs, H a = some (.lst vs) ∧ Dens W ts vs
  | .dic kvs => ∃ ks, H a = some (.dK ks) ∧ DenK W kvs ks
  | .ins C fs => ∃ dx ks, H a = some (.ins C dx ks) ∧ DenF W fs ks
theorem CellOk.mono {W W' : Wd} (l : W.le W') {H : Hp} {a : Addr} : ∀ {c : Cell}, CellOk W H a c → CellOk W' H a c
  | .lst ts, ⟨vs, h1, h2⟩ => ⟨vs, h1, Dens.mono l _ _ h2⟩
  | .dic ts, ⟨vs, h1, h2⟩ => ⟨vs, h1, DenK.mono l _ _ h2⟩
  | .ins C ts, ⟨dx, vs, h1, h2⟩ => ⟨dx, vs, h1, DenF.mono l h2⟩
theorem CellOk.at {W : Wd} {H H' : Hp} {a : Addr} (e : H' a = H a) : ∀ {c : Cell}, CellOk W H a c → CellOk W H' a c
  | .lst ts, ⟨vs, h1, h2⟩ => ⟨vs, e.trans h1, h2⟩
  | .dic ts, ⟨vs, h1, h2⟩ => ⟨vs, e.trans h1, h2⟩
  | .ins C ts, ⟨dx, vs, h1, h2⟩ => ⟨dx, vs, e.trans h1, h2⟩
theorem CellOk.some {W : Wd} {H : Hp} {a : Addr} : ∀ {c : Cell}, CellOk W H a c → ∃ o, H a = some o ∧ (∀ q u, o ≠ .frz q u) ∧ ∀ y, o ≠ .own y
  | .lst ts, ⟨vs, h1, h2⟩ => ⟨_, h1, (by intro _ _ z; cases z), (by intro _ z; cases z)⟩
  | .dic ts, ⟨vs, h1, h2⟩ => ⟨_, h1, (by intro _ _ z; cases z), (by intro _ z; cases z)⟩
  | .ins C ts, ⟨dx, vs, h1, h2⟩ => ⟨_, h1, (by intro _ _ z; cases z), (by intro _ z; cases z)⟩
def NoFrz : HO → Prop
  | .frz _ _ => False
  | _ => True
def RdX (H : Hp) (a : Addr) (o : HO) : Prop := H a = some o ∨ ((∃ q, H a = some (.frz q o)) ∧ ∀ xs, o ≠ .tup xs)
theorem RdX.rd {H : Hp} {a : Addr} {o : HO} (h : RdX H a o) : Rd H a o := by
  rcases h with h | ⟨h, _⟩
  · exact .inl h
  · exact .inr h
theorem RdX.ex {H : Hp} {a : Addr} {o : HO} (h : RdX H a o) : ∃ u, H a = some u := by
  rcases h with h | ⟨⟨q, h⟩, _⟩
  · exact ⟨_, h⟩
  · exact ⟨_, h⟩
theorem RdX.at {H H' : Hp} {a : Addr} {o : HO} (e : H' a = H a) (h : RdX H a o) : RdX H' a o := by
  rcases h with h | ⟨⟨q, h⟩, n⟩
  · exact .inl (e.trans h)
  · exact .inr ⟨⟨q, e.trans h⟩, n⟩
theorem RdX.tup {H : Hp} {a : Addr} {xs : List V} (h : RdX H a (.tup xs)) : H a = some (.tup xs) := by
  rcases h with h | ⟨_, n⟩
  · exact h
  · exact absurd rfl (n xs)
structure Rep (W : Wd) (S : Sto) (H : Hp) : Prop where
  sub : ∀ a o, W.HS a = some o → RdX H a o ∧ NoFrz o
  len : S.length = W.n
  cell : ∀ k c, S[k]? = some c → CellOk W H (W.μ k) c ∧ W.HS (W.μ k) = none
  inj : ∀ j k, j < W.n → k < W.n → W.μ j = W.μ k → j = k
  zed : ∀ a o, W.Z a = some o → ∃ u, W.HS a = some u ∧ H a = some (.frz o u)
  prv : ∀ a o, W.P a = some o → H a = some o ∧ W.HS a = none ∧ ∀ k, k < W.n → W.μ k ≠ a
theorem Rep.lt {W : Wd} {S : Sto} {H : Hp} (r : Rep W S H) {k : Nat} {c : Cell} (h : S[k]? = some c) : k < W.n := by
  rw [← r.len]; exact (List.getElem?_eq_some_iff.mp h).1
inductive R (α : Type) where
  | ok (a : α) (S : Sto)
  | exc (C : Addr) (fs : Option (List (Str × T))) (S : Sto)
  | bad
abbrev M (α : Type) := Sto → R α
def M.pure {α : Type} (a : α) : M α := fun S => .ok a S
def M.bind {α β : Type} (m : M α) (f : α → M β) : M β := fun S => match m S with
  | .ok a S' => f a S'
  | .exc C fs S' => .exc C fs S'
  | .bad => .bad
def M.bad {α : Type} : M α := fun _ => .bad
def XOk (W : Wd) (H : Hp) : Option Addr → Option (List (Str × T)) → Prop
  | none, none => True
  | some d, some fs => ∃ ks, H d = some (.xd ks) ∧ DenF W fs ks
  | _, _ => False
def Post {α : Type} (E : XK) (W : Wd) (Q : α → Wd → Sto → Hp → Prop) : R α → Prop
  | .ok a S' => ∀ W' H', W.le W' → Rep W' S' H' → Q a W' S' H'
  | .exc C fs S' => ∀ W' H' dx, W.le W' → Rep W' S' H' → XOk W' H' dx fs → E (.ref C) dx H'
  | .bad => False
theorem Post.imp {α : Type} {E : XK} {W : Wd} {Q Q' : α → Wd → Sto → Hp → Prop} {r : R α} (h : Post E W Q r) (f : ∀ a W' S' H', W.le W' → Rep W' S' H' → Q a W' S' H' → Q' a W' S' H') : Post E W Q' r := by
  cases r with
  | ok a S => exact fun W' H' l rp => f a W' S H' l rp (h W' H' l rp)
  | exc C fs S => exact h
  | bad => exact h
theorem Post.bind {α β : Type} {E : XK} {W : Wd} {Q : β → Wd → Sto → Hp → Prop} {m : M α} {f : α → M β} {S : Sto} (h : Post E W Q (M.bind m f S)) :
    Post E W (fun a W1 S1 _ => Post E W1 Q (f a S1)) (m S) := by
  unfold M.bind at h
  cases e : m S with
  | ok a S1 =>
    rw [e] at h
    have h : Post E W Q (f a S1) := h
    intro W1 H1 l _
    show Post E W1 Q (f a S1)
    cases e2 : f a S1 with
    | ok b S2 => rw [e2] at h; exact fun W2 H2 l2 rp => h W2 H2 (l.trans l2) rp
    | exc C fs S2 => rw [e2] at h; exact fun W2 H2 dx l2 rp => h W2 H2 dx (l.trans l2) rp
    | bad => rw [e2] at h; exact h
  | exc C fs S1 => rw [e] at h; exact h
  | bad => rw [e] at h; exact h
abbrev Ev := List (Option T)
def SlotOk (W : Wd) : Option T → Option V → Prop
  | none, _ => True
  | some t, some v => Den W t v
  | some _, none => False
def EnvOk (W : Wd) : Ev → St → Prop
  | [], σ => σ = []
  | o :: ρ, σ => ∃ s r, σ = s :: r ∧ SlotOk W o s ∧ EnvOk W ρ r
theorem SlotOk.mono {W W' : Wd} (l : W.le W') : ∀ {o : Option T} {s : Option V}, SlotOk W o s → SlotOk W' o s
  | none, _, _ => trivial
  | some t, some v, h => Den.mono l t v h
theorem EnvOk.mono {W W' : Wd} (l : W.le W') : ∀ {ρ : Ev} {σ : St}, EnvOk W ρ σ → EnvOk W' ρ σ
  | [], _, h => h
  | o :: ρ, σ, ⟨s, r, e, h1, h2⟩ => ⟨s, r, e, h1.mono l, h2.mono l⟩
theorem EnvOk.get {W : Wd} : ∀ {ρ : Ev} {σ : St} {i : Nat} {t : T}, EnvOk W ρ σ → ρ[i]? = some (some t) → ∃ v, σ[i]? = some (some v) ∧ Den W t v
  | [], _, _, _, _, e => by simp at e
  | o :: ρ, σ, i, t, ⟨s, r, e0, h1, h2⟩, e => by
    subst e0
    cases i with
    | zero =>
      simp at e
      subst e
      cases s with
      | none => exact h1.elim
      | some v => exact ⟨v, rfl, h1⟩
    | succ i =>
      obtain ⟨v, e1, e2⟩ := EnvOk.get (i := i) h2 (by simpa using e)
      exact ⟨v, by simpa using e1, e2⟩
theorem EnvOk.set {W : Wd} {t : T} {v : V} (hv : Den W t v) : ∀ {ρ : Ev} {σ : St} (i : Nat), EnvOk W ρ σ → EnvOk W (ρ.set i (some t)) (σ.set i (some v))
  | [], σ, i, h => by rw [show σ = [] from h]; exact rfl
  | o :: ρ, σ, i, ⟨s, r, e0, h1, h2⟩ => by
    subst e0
    cases i with
    | zero => exact ⟨_, _, rfl, hv, h2⟩
    | succ i => exact ⟨_, _, rfl, h1, EnvOk.set hv i h2⟩
theorem EnvOk.append {W : Wd} : ∀ {ρ ρ' : Ev} {σ σ' : St}, EnvOk W ρ σ → EnvOk W ρ' σ' → EnvOk W (ρ ++ ρ') (σ ++ σ')
  | [], _, σ, _, h, g => by rw [show σ = [] from h]; exact g
  | o :: ρ, ρ', σ, σ', ⟨s, r, e0, h1, h2⟩, g => by
    subst e0
    exact ⟨_, _, rfl, h1, EnvOk.append h2 g⟩
theorem EnvOk.nones {W : Wd} {σ : St} : ∀ (n : Nat), σ.length = n → EnvOk W (List.replicate n none) σ := by
  induction σ with
  | nil => intro n h; subst h; exact rfl
  | cons s σ ih =>
    intro n h
    subst h
    exact ⟨s, σ, rfl, trivial, ih _ rfl⟩
theorem EnvOk.length {W : Wd} : ∀ {ρ : Ev} {σ : St}, EnvOk W ρ σ → ρ.length = σ.length
  | [], σ, h => by rw [show σ = [] from h]; rfl
  | o :: ρ, σ, ⟨s, r, e0, h1, h2⟩ => by
    subst e0
    simp [EnvOk.length h2]
theorem EnvOk.ofDens {W : Wd} : ∀ {ts : List T} {vs : List V}, Dens W ts vs → EnvOk W (ts.map some) (vs.map some)
  | [], vs, h => by rw [dens_nil.mp h]; exact rfl
  | t :: ts, vs, h => by
    obtain ⟨v, r, rfl, h1, h2⟩ := dens_cons.mp h
    exact ⟨_, _, rfl, h1, EnvOk.ofDens h2⟩
theorem EnvOk.cap {W : Wd} {ρ : Ev} {σ : St} (h : EnvOk W ρ σ) : ∀ (js : List Nat), EnvOk W (js.map fun j => (ρ[j]?).join) (capSt σ js)
  | [] => rfl
  | j :: js => by
    refine ⟨_, _, rfl, ?_, EnvOk.cap h js⟩
    show SlotOk W ((ρ[j]?).join) ((σ[j]?).join)
    cases e : ρ[j]? with
    | none => exact trivial
    | some o =>
      cases o with
      | none => exact trivial
      | some t =>
        obtain ⟨v, e1, h1⟩ := h.get e
        rw [e1]
        exact h1
abbrev DE := Ev → M T
abbrev DT := Ev → M Bool
abbrev DA := Ev → M (List T)
inductive Fl where
  | nx (ρ : Ev) | rt (t : T) | bk (ρ : Ev) | ct (ρ : Ev)
abbrev DS := Ev → M Fl
abbrev QV (Q : VK) : T → Wd → Sto → Hp → Prop := fun t W' _ H' => ∀ v, Den W' t v → Q v H'
def RE (E : XK) (f : DE) : TE := fun σ H Q => ∃ W S ρ, Rep W S H ∧ EnvOk W ρ σ ∧ Post E W (QV Q) (f ρ S)
def RT (E : XK) (f : DT) : TT := fun σ H Q => ∃ W S ρ, Rep W S H ∧ EnvOk W ρ σ ∧ Post E W (fun b _ _ H' => Q b H') (f ρ S)
def RA (E : XK) (f : DA) : TA := fun σ H Q => ∃ W S ρ, Rep W S H ∧ EnvOk W ρ σ ∧ Post E W (fun ts W' _ H' => ∀ vs, Dens W' ts vs → Q vs H') (f ρ S)
def QF (D : Ends) : Fl → Wd → Sto → Hp → Prop
  | .nx ρ', W', _, H' => ∀ σ', EnvOk W' ρ' σ' → D.nx σ' H'
  | .rt t, W', _, H' => ∀ v, Den W' t v → D.rt v H'
  | .bk ρ', W', _, H' => ∀ σ', EnvOk W' ρ' σ' → D.bk σ' H'
  | .ct ρ', W', _, H' => ∀ σ', EnvOk W' ρ' σ' → D.ct σ' H'
def RS (E : XK) (f : DS) : TS := fun D σ H => ∃ W S ρ, Rep W S H ∧ EnvOk W ρ σ ∧ Post E W (QF D) (f ρ S)
theorem pe_of {X : Cx} {e : Expr} {t t' : TE} (h : PE X e t) (w : ∀ σ H Q, t' σ H Q → t σ H Q) : PE X e t' := fun pins s σ H Q I q => h pins s σ H Q I (w σ H Q q)
theorem pt_of {X : Cx} {e : Expr} {t t' : TT} (h : PT X e t) (w : ∀ σ H Q, t' σ H Q → t σ H Q) : PT X e t' := fun pins s σ H Q I q => h pins s σ H Q I (w σ H Q q)
theorem pa_of {X : Cx} {e : List Expr} {t t' : TA} (h : PA X e t) (w : ∀ σ H Q, t' σ H Q → t σ H Q) : PA X e t' := fun p pins s σ H Q I q => h p pins s σ H Q I (w σ H Q q)
theorem ps_of {X : Cx} {st : Stmt} {t t' : TS} (h : PS X st t) (w : ∀ D σ H, t' D σ H → t D σ H) : PS X st t' := fun pins s σ H D I q => h pins s σ H D I (w D σ H q)
theorem pss_of {X : Cx} {st : List Stmt} {t t' : TS} (h : PSs X st t) (w : ∀ D σ H, t' D σ H → t D σ H) : PSs X st t' := fun pins s σ H D I q => h pins s σ H D I (w D σ H q)
end MF
set_option Elab.async false
set_option linter.all false
set_option maxRecDepth 100000
namespace MF
open PySem L2
section
variable {W : Wd} {S : Sto} {H : Hp}
theorem Rep.hsNone (r : Rep W S H) {p : Addr} (h : H p = none) : W.HS p = none := by
  cases e : W.HS p with
  | none => rfl
  | some o =>
    obtain ⟨u, z⟩ := (r.sub p o e).1.ex
    rw [h] at z
    cases z
theorem Rep.cellAt (r : Rep W S H) {k : Nat} (h : k < W.n) : ∃ c, S[k]? = some c := by
  rw [← r.len] at h
  exact ⟨S[k], List.getElem?_eq_getElem h⟩
theorem Rep.μne (r : Rep W S H) {p : Addr} (h : H p = none) {k : Nat} (hk : k < W.n) : W.μ k ≠ p := by
  intro e
  obtain ⟨c, hc⟩ := r.cellAt hk
  obtain ⟨o, ho, _⟩ := (r.cell k c hc).1.some
  rw [e, h] at ho
  cases ho
def Wd.frz (W : Wd) (p : Addr) (o : HO) : Wd := ⟨upd W.HS p o, W.μ, W.n, W.Z, W.P⟩
theorem Wd.frz_le {p : Addr} {o : HO} (h : W.HS p = none) : W.le (W.frz p o) := ⟨fun a u e => by
  show upd W.HS p o a = some u
  rw [upd_ne (fun z => by rw [z, h] at e; cases e)]; exact e, fun _ _ e => e, fun _ _ e => e, Nat.le_refl _, fun _ _ => rfl⟩
theorem RdX.upd {p a : Addr} {o u : HO} (hp : H p = none) (h : RdX H a u) : RdX (upd H p o) a u := by
  obtain ⟨w, z⟩ := h.ex
  exact h.at (upd_ne (ne_of_none z hp))
theorem Rep.frz (r : Rep W S H) {p : Addr} (hp : H p = none) (o : HO) (no : NoFrz o) : Rep (W.frz p o) S (upd H p o) where
  sub := fun a u e => by
    by_cases z : a = p
    · subst z
      have e : upd W.HS a o a = some u := e
      rw [upd_same] at e
      cases e
      exact ⟨.inl upd_same, no⟩
    · have e : upd W.HS p o a = some u := e
      rw [upd_ne z] at e
      exact ⟨RdX.upd hp (r.sub a u e).1, (r.sub a u e).2⟩
  len := r.len
  cell := fun k c e => ⟨((r.cell k c e).1.at (upd_ne (r.μne hp (r.lt e)))).mono (Wd.frz_le (r.hsNone hp)), by
    show upd W.HS p o (W.μ k) = none
    rw [upd_ne (r.μne hp (r.lt e))]; exact (r.cell k c e).2⟩
  inj := r.inj
  zed := fun a q e => by
    obtain ⟨u, h1, h2⟩ := r.zed a q e
    have ne := ne_of_none h2 hp
    exact ⟨u, by show upd W.HS p o a = some u; rw [upd_ne ne]; exact h1, by rw [upd_ne ne]; exact h2⟩
  prv := fun a q e => by
    obtain ⟨h1, h2, h3⟩ := r.prv a q e
    have ne := ne_of_none h1 hp
    exact ⟨by rw [upd_ne ne]; exact h1, by show upd W.HS p o a = none; rw [upd_ne ne]; exact h2, h3⟩
def Wd.add (W : Wd) (p : Addr) : Wd := ⟨W.HS, fun k => if k = W.n then p else W.μ k, W.n + 1, W.Z, W.P⟩
theorem Wd.add_le {p : Addr} : W.le (W.add p) := ⟨fun _ _ e => e, fun _ _ e => e, fun _ _ e => e, Nat.le_succ _, fun k h => by
  show (if k = W.n then p else W.μ k) = W.μ k
  rw [if_neg (Nat.ne_of_lt h)]⟩
theorem Wd.add_at {p : Addr} : (W.add p).μ W.n = p := by show (if W.n = W.n then p else _) = p; rw [if_pos rfl]
theorem Wd.add_old {p : Addr} {k : Nat} (h : k < W.n) : (W.add p).μ k = W.μ k := Wd.add_le.μ k h
theorem Rep.cellNew' (r : Rep W S H) {p : Addr} {H' : Hp} (hp : H p = none) (keep : ∀ a o, H a = some o → H' a = some o) (c : Cell) (hc : CellOk (W.add p) H' p c) : Rep (W.add p) (S ++ [c]) H' where
  sub := fun a u e => by
    obtain ⟨h1, h2⟩ := r.sub a u e
    obtain ⟨w, z⟩ := h1.ex
    exact ⟨h1.at ((keep _ _ z).trans z.symm), h2⟩
  len := by rw [List.length_append, List.length_singleton, r.len]; rfl
  cell := fun k c' e => by
    by_cases z : k < S.length
    · rw [List.getElem?_append_left z] at e
      have hk : k < W.n := r.len ▸ z
      rw [Wd.add_old hk]
      obtain ⟨h1, h2⟩ := r.cell k c' e
      obtain ⟨o, ho, _⟩ := h1.some
      exact ⟨(h1.at ((keep _ _ ho).trans ho.symm)).mono Wd.add_le, h2⟩
    · have hk : k = W.n := by
        have := (List.getElem?_eq_some_iff.mp e).1
        rw [List.length_append, List.length_singleton] at this
        have l := r.len
        omega
      subst hk
      rw [← r.len, List.getElem?_append_right (Nat.le_refl _), Nat.sub_self] at e
      have e : c = c' := by simpa using e
      subst e
      rw [Wd.add_at]
      exact ⟨hc, r.hsNone hp⟩
  inj := fun j k hj hk e => by
    have hj : j < W.n + 1 := hj
    have hk : k < W.n + 1 := hk
    by_cases z : j < W.n
    · by_cases y : k < W.n
      · rw [Wd.add_old z, Wd.add_old y] at e; exact r.inj j k z y e
      · have : k = W.n := by omega
        subst this
        rw [Wd.add_old z, Wd.add_at] at e
        exact absurd e (r.μne hp z)
    · have : j = W.n := by omega
      subst this
      by_cases y : k < W.n
      · rw [Wd.add_old y, Wd.add_at] at e
        exact absurd e.symm (r.μne hp y)
      · omega
  zed := fun a q e => by
    obtain ⟨u, h1, h2⟩ := r.zed a q e
    exact ⟨u, h1, keep _ _ h2⟩
  prv := fun a q e => by
    obtain ⟨h1, h2, h3⟩ := r.prv a q e
    refine ⟨keep _ _ h1, h2, fun k hk z => ?_⟩
    have hk : k < W.n + 1 := hk
    by_cases y : k < W.n
    · rw [Wd.add_old y] at z; exact h3 k y z
    · have : k = W.n := by omega
      subst this
      rw [Wd.add_at] at z
      rw [z, h1] at hp
      cases hp
theorem Rep.cellNew (r : Rep W S H) {p : Addr} (hp : H p = none) (c : Cell) (o : HO) (hc : CellOk (W.add p) (upd H p o) p c) : Rep (W.add p) (S ++ [c]) (upd H p o) :=
  r.cellNew' hp (fun a u e => by rw [upd_ne (ne_of_none e hp)]; exact e) c hc
theorem Rep.cellSet (r : Rep W S H) {k : Nat} {c : Cell} (h : S[k]? = some c) (c' : Cell) (o : HO) (hc : CellOk W (upd H (W.μ k) o) (W.μ k) c') : Rep W (S.set k c') (upd H (W.μ k) o) where
  sub := fun a u e => by
    have ne : a ≠ W.μ k := fun z => by rw [z, (r.cell k c h).2] at e; cases e
    exact ⟨(r.sub a u e).1.at (upd_ne ne), (r.sub a u e).2⟩
  len := by rw [List.length_set]; exact r.len
  cell := fun j c2 e => by
    by_cases z : j = k
    · subst z
      have hj := r.lt h
      rw [List.getElem?_set_self (by rw [r.len]; exact hj)] at e
      cases e
      exact ⟨hc, (r.cell j c h).2⟩
    · rw [List.getElem?_set_ne (Ne.symm z)] at e
      have hj := r.lt e
      exact ⟨(r.cell j c2 e).1.at (upd_ne fun y => z (r.inj j k hj (r.lt h) y)), (r.cell j c2 e).2⟩
  inj := r.inj
  zed := fun a q e => by
    obtain ⟨u, h1, h2⟩ := r.zed a q e
    exact ⟨u, h1, by rw [upd_ne fun z => by rw [z, (r.cell k c h).2] at h1; cases h1]; exact h2⟩
  prv := fun a q e => by
    obtain ⟨h1, h2, h3⟩ := r.prv a q e
    exact ⟨by rw [upd_ne (Ne.symm (h3 k (r.lt h)))]; exact h1, h2, h3⟩
def Wd.priv (W : Wd) (p : Addr) (o : HO) : Wd := ⟨W.HS, W.μ, W.n, W.Z, upd W.P p o⟩
theorem Wd.priv_le {p : Addr} {o : HO} (h : W.P p = none) : W.le (W.priv p o) := ⟨fun _ _ e => e, fun _ _ e => e, fun a u e => by
  show upd W.P p o a = some u
  rw [upd_ne (fun z => by rw [z, h] at e; cases e)]; exact e, Nat.le_refl _, fun _ _ => rfl⟩
theorem Rep.prvNone (r : Rep W S H) {p : Addr} (h : H p = none) : W.P p = none := by
  cases e : W.P p with
  | none => rfl
  | some o => rw [(r.prv p o e).1] at h; cases h
theorem Den.priv {p : Addr} {o : HO} {t : T} {v : V} (q : W.P p = none) (d : Den W t v) : Den (W.priv p o) t v := Den.mono (Wd.priv_le q) t v d
theorem Rep.samePriv {W' : Wd} {H' : Hp} (r : Rep W S H) (hs : W'.HS = W.HS) (hμ : W'.μ = W.μ) (hn : W'.n = W.n) (hz : W'.Z = W.Z) (c : ∀ {k : Nat} {c : Cell}, S[k]? = some c → CellOk W H (W.μ k) c → CellOk W' H' (W.μ k) c)
    (sub : ∀ a o, W.HS a = some o → RdX H a o → RdX H' a o) (z : ∀ a o u, W.HS a = some u → H a = some (.frz o u) → H' a = some (.frz o u))
    (prv : ∀ a o, W'.P a = some o → H' a = some o ∧ W.HS a = none ∧ ∀ k, k < W.n → W.μ k ≠ a) : Rep W' S H' where
  sub := fun a o e => by rw [hs] at e; exact ⟨sub a o e (r.sub a o e).1, (r.sub a o e).2⟩
  len := by rw [hn]; exact r.len
  cell := fun k c' e => by rw [hs, hμ]; exact ⟨c e (r.cell k c' e).1, (r.cell k c' e).2⟩
  inj := by rw [hn, hμ]; exact r.inj
  zed := fun a o e => by
    rw [hz] at e
    obtain ⟨u, h1, h2⟩ := r.zed a o e
    exact ⟨u, by rw [hs]; exact h1, z a o u h1 h2⟩
  prv := fun a o e => by rw [hs, hn, hμ]; exact prv a o e
mutual
theorem Den.hs {W W' : Wd} (hs : W'.HS = W.HS) (hμ : W'.μ = W.μ) (hn : W'.n = W.n) : ∀ (t : T) (v : V), Den W t v → Den W' t v
  | .non, _, h => den_non.mpr (den_non.mp h)
  | .bl _, _, h => den_bl.mpr (den_bl.mp h)
  | .int _, _, h => den_int.mpr (den_int.mp h)
  | .str _, _, h => den_str.mpr (den_str.mp h)
  | .lst ts, v, h => by obtain ⟨a, vs, e, h1, h2⟩ := den_lst.mp h; exact den_lst.mpr ⟨a, vs, e, by rw [hs]; exact h1, Dens.hs hs hμ hn ts vs h2⟩
  | .tup ts, v, h => by obtain ⟨a, vs, e, h1, h2⟩ := den_tup.mp h; exact den_tup.mpr ⟨a, vs, e, by rw [hs]; exact h1, Dens.hs hs hμ hn ts vs h2⟩
  | .dic ts, v, h => by obtain ⟨a, vs, e, h1, h2⟩ := den_dic.mp h; exact den_dic.mpr ⟨a, vs, e, by rw [hs]; exact h1, DenK.hs hs hμ hn ts vs h2⟩
  | .obj k, v, h => by obtain ⟨e, h1⟩ := den_obj.mp h; exact den_obj.mpr ⟨by rw [hμ]; exact e, by rw [hn]; exact h1⟩
theorem Dens.hs {W W' : Wd} (hs : W'.HS = W.HS) (hμ : W'.μ = W.μ) (hn : W'.n = W.n) : ∀ (ts : List T) (vs : List V), Dens W ts vs → Dens W' ts vs
  | [], vs, h => dens_nil.mpr (dens_nil.mp h)
  | t :: ts, vs, h => by obtain ⟨v, r, e, h1, h2⟩ := dens_cons.mp h; exact dens_cons.mpr ⟨v, r, e, Den.hs hs hμ hn t v h1, Dens.hs hs hμ hn ts r h2⟩
theorem DenK.hs {W W' : Wd} (hs : W'.HS = W.HS) (hμ : W'.μ = W.μ) (hn : W'.n = W.n) : ∀ (ts : List (Key × T)) (vs : List (Key × V)), DenK W ts vs → DenK W' ts vs
  | [], vs, h => denk_nil.mpr (denk_nil.mp h)
  | (k, t) :: ts, vs, h => by obtain ⟨v, r, e, h1, h2⟩ := denk_cons.mp h; exact denk_cons.mpr ⟨v, r, e, Den.hs hs hμ hn t v h1, DenK.hs hs hμ hn ts r h2⟩
end
theorem DenF.hs {W W' : Wd} (hs : W'.HS = W.HS) (hμ : W'.μ = W.μ) (hn : W'.n = W.n) : ∀ {ts : List (Str × T)} {vs : List (Str × V)}, DenF W ts vs → DenF W' ts vs
  | [], _, h => h
  | (k, t) :: ts, vs, ⟨v, r, e, h1, h2⟩ => ⟨v, r, e, Den.hs hs hμ hn t v h1, DenF.hs hs hμ hn h2⟩
theorem CellOk.hs {W W' : Wd} (hs : W'.HS = W.HS) (hμ : W'.μ = W.μ) (hn : W'.n = W.n) {a : Addr} : ∀ {c : Cell}, CellOk W H a c → CellOk W' H a c
  | .lst ts, ⟨vs, h1, h2⟩ => ⟨vs, h1, Dens.hs hs hμ hn _ _ h2⟩
  | .dic ts, ⟨vs, h1, h2⟩ => ⟨vs, h1, DenK.hs hs hμ hn _ _ h2⟩
  | .ins C ts, ⟨dx, vs, h1, h2⟩ => ⟨dx, vs, h1, DenF.hs hs hμ hn h2⟩
theorem Rep.privNew (r : Rep W S H) {p : Addr} (hp : H p = none) (o : HO) : Rep (W.priv p o) S (upd H p o) :=
  r.samePriv rfl rfl rfl rfl (fun e c => CellOk.hs (W := W) (W' := W.priv p o) rfl rfl rfl (CellOk.at (upd_ne (r.μne hp (r.lt e))) c)) (fun a u _ h => RdX.upd hp h) (fun a q u _ h => by rw [upd_ne (ne_of_none h hp)]; exact h) fun a u e => by
    have e : upd W.P p o a = some u := e
    by_cases z : a = p
    · subst z
      rw [upd_same] at e
      cases e
      exact ⟨upd_same, r.hsNone hp, fun k hk => r.μne hp hk⟩
    · rw [upd_ne z] at e ⊢
      exact r.prv a u e
theorem Rep.privSet (r : Rep W S H) {p : Addr} {o : HO} (hp : W.P p = some o) (o' : HO) : Rep (W.priv p o') S (upd H p o') := by
  obtain ⟨h1, h2, h3⟩ := r.prv p o hp
  have ne : ∀ a u, W.HS a = some u → a ≠ p := fun a u e z => by rw [z, h2] at e; cases e
  refine r.samePriv rfl rfl rfl rfl (fun e c => CellOk.hs (W := W) (W' := W.priv p o') rfl rfl rfl (CellOk.at (upd_ne (h3 _ (r.lt e))) c)) (fun a u e h => h.at (upd_ne (ne a u e))) (fun a q u e h => by rw [upd_ne (ne a u e)]; exact h) fun a u e => ?_
  have e : upd W.P p o' a = some u := e
  by_cases z : a = p
  · subst z
    rw [upd_same] at e
    cases e
    exact ⟨upd_same, h2, h3⟩
  · rw [upd_ne z] at e ⊢
    exact r.prv a u e
def Wd.unp (W : Wd) (p : Addr) : Wd := ⟨W.HS, W.μ, W.n, W.Z, fun a => if a = p then none else W.P a⟩
theorem Rep.unp (r : Rep W S H) (p : Addr) : Rep (W.unp p) S H :=
  r.samePriv rfl rfl rfl rfl (fun e c => CellOk.hs (W := W) (W' := W.unp p) rfl rfl rfl c) (fun a u _ h => h) (fun a q u _ h => h) fun a u e => by
    have e : (if a = p then none else W.P a) = some u := e
    by_cases z : a = p
    · rw [if_pos z] at e; cases e
    · rw [if_neg z] at e; exact r.prv a u e
theorem Rep.privFrz (r : Rep W S H) {p : Addr} {o : HO} (hp : W.P p = some o) (no : NoFrz o) : Rep ((W.unp p).frz p o) S H := by
  obtain ⟨h1, h2, h3⟩ := r.prv p o hp
  have r' := r.unp p
  have l : (W.unp p).le ((W.unp p).frz p o) := Wd.frz_le h2
  refine ⟨fun a u e => ?_, r.len, fun k c e => ⟨(r'.cell k c e).1.mono l, ?_⟩, r.inj, fun a q e => ?_, fun a u e => ?_⟩
  · have e : upd W.HS p o a = some u := e
    by_cases z : a = p
    · subst z
      rw [upd_same] at e
      cases e
      exact ⟨.inl h1, no⟩
    · rw [upd_ne z] at e; exact r.sub a u e
  · show upd W.HS p o (W.μ k) = none
    rw [upd_ne (h3 k (r.lt e))]; exact (r.cell k c e).2
  · obtain ⟨u, g1, g2⟩ := r'.zed a q e
    exact ⟨u, l.hs a u g1, g2⟩
  · obtain ⟨g1, g2, g3⟩ := r'.prv a u e
    refine ⟨g1, ?_, g3⟩
    show upd W.HS p o a = none
    by_cases z : a = p
    · have e : (if a = p then none else W.P a) = some u := e
      rw [if_pos z] at e; cases e
    · rw [upd_ne z]; exact g2
theorem Rep.privCell (r : Rep W S H) {p : Addr} {o : HO} (hp : W.P p = some o) (c : Cell) (hc : CellOk ((W.unp p).add p) H p c) : Rep ((W.unp p).add p) (S ++ [c]) H := by
  obtain ⟨h1, h2, h3⟩ := r.prv p o hp
  have r' := r.unp p
  have l : (W.unp p).le ((W.unp p).add p) := Wd.add_le
  refine ⟨r.sub, by rw [List.length_append, List.length_singleton, r.len]; rfl, fun k c' e => ?_, fun j k hj hk e => ?_, r'.zed, fun a u e => ?_⟩
  · by_cases z : k < S.length
    · rw [List.getElem?_append_left z] at e
      have hk : k < W.n := r.len ▸ z
      rw [show ((W.unp p).add p).μ k = W.μ k from Wd.add_old (W := W.unp p) hk]
      exact ⟨(r'.cell k c' e).1.mono l, (r.cell k c' e).2⟩
    · have hk : k = W.n := by
        have := (List.getElem?_eq_some_iff.mp e).1
        rw [List.length_append, List.length_singleton] at this
        have l := r.len
        omega
      subst hk
      rw [← r.len, List.getElem?_append_right (Nat.le_refl _), Nat.sub_self] at e
      have e : c = c' := by simpa using e
      subst e
      have hμ : ((W.unp p).add p).μ W.n = p := Wd.add_at (W := W.unp p)
      rw [hμ]
      exact ⟨hc, h2⟩
  · have hj : j < W.n + 1 := hj
    have hk : k < W.n + 1 := hk
    have hμ : ((W.unp p).add p).μ W.n = p := Wd.add_at (W := W.unp p)
    by_cases z : j < W.n
    · have ej : ((W.unp p).add p).μ j = W.μ j := Wd.add_old (W := W.unp p) z
      by_cases y : k < W.n
      · have ek : ((W.unp p).add p).μ k = W.μ k := Wd.add_old (W := W.unp p) y
        rw [ej, ek] at e; exact r.inj j k z y e
      · have : k = W.n := by omega
        subst this
        rw [ej, hμ] at e
        exact absurd e (h3 j z)
    · have : j = W.n := by omega
      subst this
      by_cases y : k < W.n
      · have ek : ((W.unp p).add p).μ k = W.μ k := Wd.add_old (W := W.unp p) y
        rw [ek, hμ] at e
        exact absurd e.symm (h3 k y)
      · omega
  · obtain ⟨g1, g2, g3⟩ := r'.prv a u e
    refine ⟨g1, g2, fun k hk z => ?_⟩
    have hk : k < W.n + 1 := hk
    by_cases y : k < W.n
    · rw [show ((W.unp p).add p).μ k = W.μ k from Wd.add_old (W := W.unp p) y] at z; exact g3 k y z
    · have : k = W.n := by omega
      subst this
      rw [show ((W.unp p).add p).μ W.n = p from Wd.add_at (W := W.unp p)] at z
      have e : (if a = p then none else W.P a) = some u := e
      rw [if_pos z.symm] at e; cases e
end
def lstOf (S : Sto) : T → Option (List T)
  | .lst ts => some ts
  | .obj k => match S[k]? with
    | some (.lst ts) => some ts
    | _ => none
  | _ => none
def seqOf (S : Sto) : T → Option (List T)
  | .tup ts => some ts
  | t => lstOf S t
def dicOf (S : Sto) : T → Option (List (Key × T))
  | .dic ts => some ts
  | .obj k => match S[k]? with
    | some (.dic ts) => some ts
    | _ => none
  | _ => none
section
variable {W : Wd} {S : Sto} {H : Hp}
theorem lstOf_obj {k : Nat} {ts : List T} (h : lstOf S (.obj k) = some ts) : S[k]? = some (.lst ts) := by
  unfold lstOf at h
  cases e : S[k]? with
  | none => simp [e] at h
  | some c => cases c <;> simp [e] at h; subst h; rfl
theorem dicOf_obj {k : Nat} {ts : List (Key × T)} (h : dicOf S (.obj k) = some ts) : S[k]? = some (.dic ts) := by
  unfold dicOf at h
  cases e : S[k]? with
  | none => simp [e] at h
  | some c => cases c <;> simp [e] at h; subst h; rfl
theorem Rep.list (r : Rep W S H) {t : T} {v : V} {ts : List T} (d : Den W t v) (h : lstOf S t = some ts) : ∃ a vs, v = .ref a ∧ Rd H a (.lst vs) ∧ Dens W ts vs := by
  cases t with
  | lst xs =>
    have e : xs = ts := by simpa [lstOf] using h
    subst e
    obtain ⟨a, vs, rfl, h1, h2⟩ := den_lst.mp d
    exact ⟨a, vs, rfl, (r.sub a _ h1).1.rd, h2⟩
  | obj k =>
    obtain ⟨rfl, hk⟩ := den_obj.mp d
    obtain ⟨⟨vs, h1, h2⟩, _⟩ := r.cell k _ (lstOf_obj h)
    exact ⟨_, vs, rfl, .inl h1, h2⟩
  | _ => simp [lstOf] at h
theorem Rep.seq (r : Rep W S H) {t : T} {v : V} {ts : List T} (d : Den W t v) (h : seqOf S t = some ts) : ∃ a vs, v = .ref a ∧ (Rd H a (.lst vs) ∨ Rd H a (.tup vs)) ∧ Dens W ts vs := by
  cases t with
  | tup xs =>
    have e : xs = ts := by simpa [seqOf] using h
    subst e
    obtain ⟨a, vs, rfl, h1, h2⟩ := den_tup.mp d
    exact ⟨a, vs, rfl, .inr (r.sub a _ h1).1.rd, h2⟩
  | lst xs => obtain ⟨a, vs, e, h1, h2⟩ := r.list d (by simpa [seqOf] using h); exact ⟨a, vs, e, .inl h1, h2⟩
  | obj k => obtain ⟨a, vs, e, h1, h2⟩ := r.list d (by simpa [seqOf] using h); exact ⟨a, vs, e, .inl h1, h2⟩
  | _ => simp [seqOf, lstOf] at h
theorem Rep.dict (r : Rep W S H) {t : T} {v : V} {ts : List (Key × T)} (d : Den W t v) (h : dicOf S t = some ts) : ∃ a vs, v = .ref a ∧ Rd H a (.dK vs) ∧ DenK W ts vs := by
  cases t with
  | dic xs =>
    have e : xs = ts := by simpa [dicOf] using h
    subst e
    obtain ⟨a, vs, rfl, h1, h2⟩ := den_dic.mp d
    exact ⟨a, vs, rfl, (r.sub a _ h1).1.rd, h2⟩
  | obj k =>
    obtain ⟨rfl, hk⟩ := den_obj.mp d
    obtain ⟨⟨vs, h1, h2⟩, _⟩ := r.cell k _ (dicOf_obj h)
    exact ⟨_, vs, rfl, .inl h1, h2⟩
  | _ => simp [dicOf] at h
end
def eVar (i : Nat) : DE := fun ρ => match ρ[i]? with
  | some (some t) => M.pure t
  | _ => M.bad
def eC (t : T) : DE := fun _ => M.pure t
def e2 (g : T → T → M T) (fa fb : DE) : DE := fun ρ => (fa ρ).bind fun x => (fb ρ).bind fun y => g x y
def e1 (g : T → M T) (fa : DE) : DE := fun ρ => (fa ρ).bind g
def aNil : DA := fun _ => M.pure []
def aCons (fa : DE) (r : DA) : DA := fun ρ => (fa ρ).bind fun t => (r ρ).bind fun ts => M.pure (t :: ts)
section
variable {X : Cx} {E : XK} {a b e : Expr} {es : List Expr} {fa fb : DE} {fr : DA} {pos : Pos}
theorem re_var {i : Nat} {σ : St} {H : Hp} {Q : VK} (h : RE E (eVar i) σ H Q) : tVar i σ H Q := by
  obtain ⟨W, S, ρ, r, env, p⟩ := h
  unfold eVar at p
  cases e : ρ[i]? with
  | none => rw [e] at p; exact p.elim
  | some o =>
    cases o with
    | none => rw [e] at p; exact p.elim
    | some t =>
      rw [e] at p
      obtain ⟨v, e1, d⟩ := env.get e
      exact ⟨v, e1, p W H (Wd.le.refl W) r v d⟩
theorem ev (i : Nat) {x : Str} (hN : X.N[i]? = some x := by rfl) (hv : Vis X.env.scope x := by first | exact Or.inl rfl | exact Or.inr (Or.inl rfl) | exact Or.inr (Or.inr rfl)) (hd : (x == ("__debug__" : Str)) = false := by decide)
    (hcd : (x == ("__classdict__" : Str)) = false := by decide) : PE X (.Name x pos) (RE E (eVar i)) := pe_of (pv i hN hv hd hcd) fun _ _ _ => re_var
theorem re_c {t : T} {v : V} (hd : ∀ W, Den W t v) {σ : St} {H : Hp} {Q : VK} (h : RE E (eC t) σ H Q) : Q v H := by
  obtain ⟨W, S, ρ, r, env, p⟩ := h
  exact p W H (Wd.le.refl W) r v (hd W)
theorem ec_int {i j} : PE X (.Constant (.int i) j pos) (RE E (eC (.int i))) := pe_of pe_int fun _ _ _ => re_c fun W => den_int.mpr rfl
theorem ec_bl {i j} : PE X (.Constant (.bool i) j pos) (RE E (eC (.bl i))) := pe_of pe_bl fun _ _ _ => re_c fun W => den_bl.mpr rfl
theorem ec_str {i j} : PE X (.Constant (.str i) j pos) (RE E (eC (.str i))) := pe_of pe_str fun _ _ _ => re_c fun W => den_str.mpr rfl
theorem ec_non {j} : PE X (.Constant .none j pos) (RE E (eC .non)) := pe_of pe_non fun _ _ _ => re_c fun W => den_non.mpr rfl
def G2 (E : XK) (r : R2) (g : T → T → M T) : Prop := ∀ (tx ty : T) (W : Wd) (S : Sto) (H : Hp) (x y : V) (Q : VK), Rep W S H → Den W tx x → Den W ty y → Post E W (QV Q) (g tx ty S) → r x y H Q
theorem re2 {r : R2} {g : T → T → M T} (hg : G2 E r g) {σ : St} {H : Hp} {Q : VK} (h : RE E (e2 g fa fb) σ H Q) : tOp r (RE E fa) (RE E fb) σ H Q := by
  obtain ⟨W, S, ρ, rp, env, p⟩ := h
  refine ⟨W, S, ρ, rp, env, (Post.bind p).imp fun tx W1 S1 H1 l1 r1 p1 x dx => ?_⟩
  refine ⟨W1, S1, ρ, r1, env.mono l1, (Post.bind p1).imp fun ty W2 S2 H2 l2 r2 p2 y dy => ?_⟩
  exact hg tx ty W2 S2 H2 x y Q r2 (Den.mono l2 _ _ dx) dy p2
def G1 (E : XK) (r : V → Hp → VK → Prop) (g : T → M T) : Prop := ∀ (tx : T) (W : Wd) (S : Sto) (H : Hp) (x : V) (Q : VK), Rep W S H → Den W tx x → Post E W (QV Q) (g tx S) → r x H Q
theorem re1 {r : V → Hp → VK → Prop} {g : T → M T} (hg : G1 E r g) {σ : St} {H : Hp} {Q : VK} (h : RE E (e1 g fa) σ H Q) : RE E fa σ H (fun x H1 => r x H1 Q) := by
  obtain ⟨W, S, ρ, rp, env, p⟩ := h
  exact ⟨W, S, ρ, rp, env, (Post.bind p).imp fun tx W1 S1 H1 l1 r1 p1 x dx => hg tx W1 S1 H1 x Q r1 dx p1⟩
theorem ra_nil : PA X [] (RA E aNil) := pa_of pa_nil fun σ H Q h => by
  obtain ⟨W, S, ρ, r, env, p⟩ := h
  exact p W H (Wd.le.refl W) r [] Dens.nil'
theorem ra_cons (ha : PE X e (RE E fa)) (hr : PA X es (RA E fr)) (hs : starEach (e :: es) X.env = (false, eval e X.env) :: starEach es X.env := by rfl) : PA X (e :: es) (RA E (aCons fa fr)) :=
  pa_of (pa_cons ha hr hs) fun σ H Q h => by
    obtain ⟨W, S, ρ, rp, env, p⟩ := h
    refine ⟨W, S, ρ, rp, env, (Post.bind p).imp fun tx W1 S1 H1 l1 r1 p1 x dx => ?_⟩
    refine ⟨W1, S1, ρ, r1, env.mono l1, (Post.bind p1).imp fun ts W2 S2 H2 l2 r2 p2 vs dvs => ?_⟩
    exact p2 W2 H2 (Wd.le.refl _) r2 _ (Dens.cons' (Den.mono l2 _ _ dx) dvs)
end
def gI (f : Int → Int → Option T) (x y : T) : M T := fun S => match x, y with
  | .int i, .int j => (match f i j with
    | some t => .ok t S
    | none => .bad)
  | _, _ => .bad
theorem gI_ok {E : XK} {W : Wd} {S : Sto} {f : Int → Int → Option T} {tx ty : T} {Q : T → Wd → Sto → Hp → Prop} (p : Post E W Q (gI f tx ty S)) : ∃ i j t, tx = .int i ∧ ty = .int j ∧ f i j = some t ∧ Post E W Q (.ok t S) := by
  unfold gI at p
  cases tx with
  | int i =>
    cases ty with
    | int j =>
      cases e : f i j with
      | none => simp only [e] at p; exact p.elim
      | some t => simp only [e] at p; exact ⟨i, j, t, rfl, rfl, e, p⟩
    | _ => exact p.elim
  | _ => exact p.elim
def fSub (i j : Int) : Option T := some (.int (i - j))
def fMul (i j : Int) : Option T := if (-(2 ^ 64) < i ∧ i < 2 ^ 64) ∨ (-(2 ^ 64) < j ∧ j < 2 ^ 64) then some (.int (i * j)) else none
def fDiv (i j : Int) : Option T := if 0 < j ∧ j < 1073741824 then some (.int (i / j)) else none
def fMod (i j : Int) : Option T := if 0 < j then some (.int (i % j)) else none
def fPow (i j : Int) : Option T := if 0 ≤ j ∧ j ≤ 1000 ∧ i.natAbs < 2 ^ 64 then some (.int (i ^ j.toNat)) else none
def fLt (i j : Int) : Option T := some (.bl (decide (i < j)))
def fGt (i j : Int) : Option T := some (.bl (decide (j < i)))
def fGe (i j : Int) : Option T := some (.bl (decide (j ≤ i)))
section
variable {X : Cx} {E : XK} {a b e : Expr} {fa fb : DE} {pos : Pos}
theorem now {E : XK} {W : Wd} {S : Sto} {H : Hp} {t : T} {v : V} {Q : VK} (p : Post E W (QV Q) (.ok t S)) (r : Rep W S H) (d : Den W t v) : Q v H := p W H (Wd.le.refl W) r v d
theorem g2_I0 {f : Int → Int → V} {g : Int → Int → Option T} (h : ∀ i j t, g i j = some t → ∀ W, Den W t (f i j)) : G2 E (rI0 f) (gI g) := by
  intro tx ty W S H x y Q r dx dy p
  obtain ⟨i, j, t, rfl, rfl, e, p⟩ := gI_ok p
  exact ⟨i, j, den_int.mp dx, den_int.mp dy, now p r (h i j t e W)⟩
theorem g2_I {C : Int → Int → Prop} {f : Int → Int → V} {g : Int → Int → Option T} (h : ∀ i j t, g i j = some t → C i j ∧ ∀ W, Den W t (f i j)) : G2 E (rI C f) (gI g) := by
  intro tx ty W S H x y Q r dx dy p
  obtain ⟨i, j, t, rfl, rfl, e, p⟩ := gI_ok p
  exact ⟨i, j, den_int.mp dx, den_int.mp dy, (h i j t e).1, now p r ((h i j t e).2 W)⟩
theorem e_sub (ha : PE X a (RE E fa)) (hb : PE X b (RE E fb)) : PE X (.BinOp a .Sub b pos) (RE E (e2 (gI fSub) fa fb)) := pe_of (pe_op op_sub ha hb) fun _ _ _ => re2 (g2_I0 fun i j t e W => by cases e; exact den_int.mpr rfl)
theorem e_mul (ha : PE X a (RE E fa)) (hb : PE X b (RE E fb)) : PE X (.BinOp a .Mult b pos) (RE E (e2 (gI fMul) fa fb)) := pe_of (pe_op op_mul ha hb) fun _ _ _ => re2 (g2_I fun i j t e => by
  unfold fMul at e; split at e
  · rename_i h; cases e; exact ⟨h, fun W => den_int.mpr rfl⟩
  · cases e)
theorem e_div (ha : PE X a (RE E fa)) (hb : PE X b (RE E fb)) : PE X (.BinOp a .FloorDiv b pos) (RE E (e2 (gI fDiv) fa fb)) := pe_of (pe_op op_fdiv ha hb) fun _ _ _ => re2 (g2_I fun i j t e => by
  unfold fDiv at e; split at e
  · rename_i h; cases e; exact ⟨h, fun W => den_int.mpr rfl⟩
  · cases e)
theorem e_mod (ha : PE X a (RE E fa)) (hb : PE X b (RE E fb)) : PE X (.BinOp a .Mod b pos) (RE E (e2 (gI fMod) fa fb)) := pe_of (pe_op op_mod ha hb) fun _ _ _ => re2 (g2_I fun i j t e => by
  unfold fMod at e; split at e
  · rename_i h; cases e; exact ⟨h, fun W => den_int.mpr rfl⟩
  · cases e)
theorem e_pow (ha : PE X a (RE E fa)) (hb : PE X b (RE E fb)) : PE X (.BinOp a .Pow b pos) (RE E (e2 (gI fPow) fa fb)) := pe_of (pe_op op_pow ha hb) fun _ _ _ => re2 (g2_I fun i j t e => by
  unfold fPow at e; split at e
  · rename_i h; cases e; exact ⟨⟨h.1, Int.le_trans h.2.1 (by decide), h.2.2⟩, fun W => den_int.mpr rfl⟩
  · cases e)
def gAdd (x y : T) : M T := fun S => match x, y with
  | .int i, .int j => .ok (.int (i + j)) S
  | .str i, .str j => if i.length + j.length ≤ 1000 then .ok (.str (i ++ j)) S else .bad
  | _, _ => match lstOf S x, lstOf S y with
    | some xs, some ys => if xs.length + ys.length ≤ 1000 then .ok (.lst (xs ++ ys)) S else .bad
    | _, _ => .bad
theorem op_catR : OpR X (binaryOp .Add) (fun x y H Q => ∃ l b xs zs, x = .ref l ∧ y = .ref b ∧ Rd H l (.lst xs) ∧ Rd H b (.lst zs) ∧ xs.length + zs.length ≤ sizeLine ∧ ∀ p, H p = none → Q (.ref p) (upd H p (.lst (xs ++ zs)))) := by
  intro pins s σ H x y v u Q I rx ry h
  obtain ⟨l, b, xs, zs, rfl, rfl, hH, hB, hz, q⟩ := h
  cases rx
  cases ry
  obtain ⟨z, its, n, r, e⟩ := hH.ok I.hok
  obtain ⟨z2, its2, n2, r2, e2⟩ := hB.ok I.hok
  have hl := r.length
  have hl2 := r2.length
  refine PySem.P.add_list e e2 ?_ (by rw [List.size_toArray, List.size_toArray]; omega)
  have ea : its.toArray ++ its2.toArray = (its ++ its2).toArray := by simp
  rw [ea]
  exact ⟨.ref _, _, I.lnew (t' := s.toks) (r.append r2) (by rw [List.length_append]; omega), rfl, q _ I.fresh⟩
theorem big {n : Nat} (h : n ≤ 1000) : n ≤ sizeLine := Nat.le_of_lt (small1000 h)
theorem frzNew {E : XK} {W : Wd} {S : Sto} {H : Hp} {Q : VK} {ts : List T} {vs : List V} (p : Post E W (QV Q) (.ok (.lst ts) S)) (r : Rep W S H) (d : Dens W ts vs) : ∀ a, H a = none → Q (.ref a) (upd H a (.lst vs)) := fun a ha => by
  have l : W.le (W.frz a (.lst vs)) := Wd.frz_le (r.hsNone ha)
  exact p (W.frz a (.lst vs)) _ l (r.frz ha _ trivial) _ (den_lst.mpr ⟨a, vs, rfl, upd_same, Dens.mono l _ _ d⟩)
theorem frzNewT {E : XK} {W : Wd} {S : Sto} {H : Hp} {Q : VK} {ts : List T} {vs : List V} (p : Post E W (QV Q) (.ok (.tup ts) S)) (r : Rep W S H) (d : Dens W ts vs) : ∀ a, H a = none → Q (.ref a) (upd H a (.tup vs)) := fun a ha => by
  have l : W.le (W.frz a (.tup vs)) := Wd.frz_le (r.hsNone ha)
  exact p (W.frz a (.tup vs)) _ l (r.frz ha _ trivial) _ (den_tup.mpr ⟨a, vs, rfl, upd_same, Dens.mono l _ _ d⟩)
theorem cellNewL {E : XK} {W : Wd} {S : Sto} {H : Hp} {Q : VK} {ts : List T} {vs : List V} (p : Post E W (QV Q) (.ok (.obj S.length) (S ++ [.lst ts]))) (r : Rep W S H) (d : Dens W ts vs) : ∀ a, H a = none → Q (.ref a) (upd H a (.lst vs)) := fun a ha => by
  refine p (W.add a) _ Wd.add_le (r.cellNew ha (.lst ts) _ ⟨vs, upd_same, Dens.mono Wd.add_le _ _ d⟩) _ (den_obj.mpr ⟨?_, ?_⟩)
  · rw [r.len, Wd.add_at]
  · rw [r.len]; exact Nat.lt_succ_self _
theorem g2_add : G2 E (fun x y H Q => (rI0 (fun i j => .int (i + j)) x y H Q ∨ (∃ i j, x = .str i ∧ y = .str j ∧ i.length + j.length ≤ sizeLine ∧ Q (.str (i ++ j)) H)) ∨ (∃ l b xs zs, x = .ref l ∧ y = .ref b ∧ Rd H l (.lst xs) ∧ Rd H b (.lst zs) ∧ xs.length + zs.length ≤ sizeLine ∧ ∀ p, H p = none → Q (.ref p) (upd H p (.lst (xs ++ zs))))) gAdd := by
  intro tx ty W S H x y Q r dx dy p
  have lists : ∀ {tx ty : T}, Den W tx x → Den W ty y → Post E W (QV Q) (match lstOf S tx, lstOf S ty with | some xs, some ys => if xs.length + ys.length ≤ 1000 then .ok (.lst (xs ++ ys)) S else .bad | _, _ => .bad) → (∃ l b xs zs, x = .ref l ∧ y = .ref b ∧ Rd H l (.lst xs) ∧ Rd H b (.lst zs) ∧ xs.length + zs.length ≤ sizeLine ∧ ∀ p, H p = none → Q (.ref p) (upd H p (.lst (xs ++ zs)))) := by
    intro tx ty dx dy p
    cases e1 : lstOf S tx with
    | none => simp only [e1] at p; exact p.elim
    | some xs =>
      cases e2 : lstOf S ty with
      | none => simp only [e1, e2] at p; exact p.elim
      | some ys =>
        simp only [e1, e2] at p
        split at p
        · rename_i hl
          obtain ⟨a, vs, rfl, h1, h2⟩ := r.list dx e1
          obtain ⟨b, ws, rfl, h3, h4⟩ := r.list dy e2
          refine ⟨a, b, vs, ws, rfl, rfl, h1, h3, big (by rw [← h2.length, ← h4.length]; exact hl), frzNew p r (h2.append h4)⟩
        · exact p.elim
  unfold gAdd at p
  split at p
  · exact .inl (.inl ⟨_, _, den_int.mp dx, den_int.mp dy, now p r (den_int.mpr rfl)⟩)
  · split at p
    · rename_i hl
      exact .inl (.inr ⟨_, _, den_str.mp dx, den_str.mp dy, big hl, now p r (den_str.mpr rfl)⟩)
    · exact p.elim
  · exact .inr (lists dx dy p)
theorem e_add (ha : PE X a (RE E fa)) (hb : PE X b (RE E fb)) : PE X (.BinOp a .Add b pos) (RE E (e2 gAdd fa fb)) := pe_of (pe_op ((op_add.or op_add_str).or op_catR) ha hb) fun _ _ _ => re2 g2_add
end
end MF
set_option Elab.async false
set_option linter.all false
set_option maxRecDepth 100000
namespace MF
open PySem L2 PySem.SeqAt
mutual
def pd : T → Option PyData
  | .non => some .none
  | .bl b => some (.bool b)
  | .int i => some (.int i)
  | .str x => some (.str x)
  | .lst ts => (pds ts).map .list
  | .tup ts => (pds ts).map .tuple
  | .dic _ => none
  | .obj _ => none
def pds : List T → Option (List PyData)
  | [] => some []
  | t :: ts => match pd t, pds ts with
    | some d, some ds => some (d :: ds)
    | _, _ => none
end
mutual
def RdD (H : Hp) : PyData → V → Prop
  | .none, v => v = .non
  | .bool b, v => v = .bl b
  | .int i, v => v = .int i
  | .str x, v => v = .str x
  | .list ds, v => ∃ a vs, v = .ref a ∧ Rd H a (.lst vs) ∧ RdDs H ds vs
  | .tuple ds, v => ∃ a vs, v = .ref a ∧ Rd H a (.tup vs) ∧ RdDs H ds vs
  | .dict _, _ => False
def RdDs (H : Hp) : List PyData → List V → Prop
  | [], vs => vs = []
  | d :: ds, vs => ∃ v r, vs = v :: r ∧ RdD H d v ∧ RdDs H ds r
end
section
variable {W : Wd} {S : Sto} {H : Hp}
mutual
theorem rdD_of (r : Rep W S H) : ∀ (t : T) (v : V) (d : PyData), Den W t v → pd t = some d → RdD H d v
  | .non, v, d, h, e => by simp only [pd] at e; cases e; simp only [RdD]; exact den_non.mp h
  | .bl _, v, d, h, e => by simp only [pd] at e; cases e; simp only [RdD]; exact den_bl.mp h
  | .int _, v, d, h, e => by simp only [pd] at e; cases e; simp only [RdD]; exact den_int.mp h
  | .str _, v, d, h, e => by simp only [pd] at e; cases e; simp only [RdD]; exact den_str.mp h
  | .lst ts, v, d, h, e => by
    simp only [pd] at e
    obtain ⟨ds, e1, rfl⟩ := Option.map_eq_some_iff.mp e
    obtain ⟨a, vs, rfl, h1, h2⟩ := den_lst.mp h
    simp only [RdD]
    exact ⟨a, vs, rfl, (r.sub _ _ h1).1.rd, rdDs_of r ts vs ds h2 e1⟩
  | .tup ts, v, d, h, e => by
    simp only [pd] at e
    obtain ⟨ds, e1, rfl⟩ := Option.map_eq_some_iff.mp e
    obtain ⟨a, vs, rfl, h1, h2⟩ := den_tup.mp h
    simp only [RdD]
    exact ⟨a, vs, rfl, (r.sub _ _ h1).1.rd, rdDs_of r ts vs ds h2 e1⟩
  | .dic _, v, d, h, e => by simp only [pd] at e; cases e
  | .obj _, v, d, h, e => by simp only [pd] at e; cases e
theorem rdDs_of (r : Rep W S H) : ∀ (ts : List T) (vs : List V) (ds : List PyData), Dens W ts vs → pds ts = some ds → RdDs H ds vs
  | [], vs, ds, h, e => by simp only [pds] at e; cases e; simp only [RdDs]; exact dens_nil.mp h
  | t :: ts, vs, ds, h, e => by
    obtain ⟨v, q, rfl, h1, h2⟩ := dens_cons.mp h
    simp only [pds] at e
    cases e1 : pd t with
    | none => simp [e1] at e
    | some d =>
      cases e2 : pds ts with
      | none => simp [e1, e2] at e
      | some ds' =>
        simp [e1, e2] at e
        subst e
        simp only [RdDs]
        exact ⟨v, q, rfl, rdD_of r t v d h1 e1, rdDs_of r ts q ds' h2 e2⟩
end
end
mutual
theorem reads_of {P : Program} {w : World} {H : Hp} {h : Heap} (ok : HOk P w H h) : ∀ (d : PyData) (v : V) (u : Value), RdD H d v → RelV v u → ∃ as, Reads h u d as
  | .none, v, u, q, r => by simp only [RdD] at q; subst q; cases r; exact ⟨_, .none⟩
  | .bool b, v, u, q, r => by simp only [RdD] at q; subst q; cases r; exact ⟨_, .bool b⟩
  | .int i, v, u, q, r => by simp only [RdD] at q; subst q; obtain ⟨t, rfl⟩ := r; exact ⟨_, .int i t⟩
  | .str i, v, u, q, r => by simp only [RdD] at q; subst q; obtain ⟨t, rfl⟩ := r; exact ⟨_, .str i t⟩
  | .list ds, v, u, q, r => by
    simp only [RdD] at q
    obtain ⟨a, vs, rfl, h1, h2⟩ := q
    cases r
    obtain ⟨_, its, n, r, e⟩ := h1.ok ok
    obtain ⟨as, ra⟩ := readsAll_of ok ds vs its h2 r
    exact ⟨_, .list e rfl rfl (by simpa using ra)⟩
  | .tuple ds, v, u, q, r => by
    simp only [RdD] at q
    obtain ⟨a, vs, rfl, h1, h2⟩ := q
    cases r
    obtain ⟨_, its, r, o, e, hc, n, hd⟩ := h1.ok ok
    obtain ⟨as, ra⟩ := readsAll_of ok ds vs its h2 r
    exact ⟨_, .tuple e hc hd (by simpa using ra)⟩
  | .dict _, v, u, q, r => by simp only [RdD] at q
theorem readsAll_of {P : Program} {w : World} {H : Hp} {h : Heap} (ok : HOk P w H h) : ∀ (ds : List PyData) (vs : List V) (us : List Value), RdDs H ds vs → Vals vs us → ∃ as, ReadsAll h us ds as
  | [], vs, us, q, r => by simp only [RdDs] at q; subst q; cases r; exact ⟨_, .nil⟩
  | d :: ds, vs, us, q, r => by
    simp only [RdDs] at q
    obtain ⟨v, vr, rfl, h1, h2⟩ := q
    cases r with
    | cons r1 r2 =>
      obtain ⟨as, ra⟩ := reads_of ok d v _ h1 r1
      obtain ⟨bs, rb⟩ := readsAll_of ok ds vr _ h2 r2
      exact ⟨_, .cons ra rb⟩
end
def pdS (S : Sto) : T → Option PyData
  | .obj k => match S[k]? with
    | some (.lst ts) => (pds ts).map .list
    | _ => none
  | t => pd t
theorem rdS_of {W : Wd} {S : Sto} {H : Hp} (r : Rep W S H) {t : T} {v : V} {d : PyData} (h : Den W t v) (e : pdS S t = some d) : RdD H d v := by
  cases t with
  | obj k =>
    obtain ⟨rfl, hk⟩ := den_obj.mp h
    unfold pdS at e
    cases e0 : S[k]? with
    | none => simp [e0] at e
    | some c =>
      cases c with
      | lst ts =>
        simp only [e0] at e
        obtain ⟨ds, e1, rfl⟩ := Option.map_eq_some_iff.mp e
        obtain ⟨⟨vs, h1, h2⟩, _⟩ := r.cell k _ e0
        simp only [RdD]
        exact ⟨_, vs, rfl, .inl h1, rdDs_of r ts vs ds h2 e1⟩
      | dic _ => simp [e0] at e
      | ins _ _ => simp [e0] at e
  | _ => exact rdD_of r _ v d h (by simpa [pdS] using e)
def toV : T → Option V
  | .non => some .non
  | .bl b => some (.bl b)
  | .int i => some (.int i)
  | .str x => some (.str x)
  | _ => none
theorem toV_den {W : Wd} {t : T} {v u : V} (h : Den W t v) (e : toV t = some u) : v = u := by
  cases t <;> simp only [toV, Option.some.injEq] at e <;> first | (subst e; first | exact den_non.mp h | exact den_bl.mp h | exact den_int.mp h | exact den_str.mp h) | cases e
def eqS (S : Sto) (x y : T) : Option Bool := match toV x, toV y with
  | some u, some v => if scal u v = true then some (decide (u = v)) else none
  | _, _ => match pdS S x, pdS S y with
    | some a, some b => if (a.canLay0 && b.canLay0 && decide (a.depth ≤ 50)) = true then some (PyData.eqv a b) else none
    | _, _ => none
def gEq (x y : T) : M T := fun S => match eqS S x y with
  | some b => .ok (.bl b) S
  | none => .bad
def gNe (x y : T) : M T := fun S => match eqS S x y with
  | some b => .ok (.bl (!b)) S
  | none => .bad
def rEqD (neg : Bool) : R2 := fun x y H Q => ∃ a b, RdD H a x ∧ RdD H b y ∧ a.canLay0 = true ∧ b.canLay0 = true ∧ a.depth ≤ 50 ∧ Q (.bl (if neg then !PyData.eqv a b else PyData.eqv a b)) H
section
variable {X : Cx} {E : XK} {a b e : Expr} {es : List Expr} {fa fb fc : DE} {fr : DA} {pos : Pos}
theorem op_eqD (hu : X.A.units + 64 < cLine) : OpR X (compareOp .Eq) (rEqD false) := by
  intro pins s σ H x y v u Q I rx ry h
  obtain ⟨a, b, ra, rb, ca, cb, hd, q⟩ := h
  obtain ⟨as, qa⟩ := reads_of I.hok a x v ra rx
  obtain ⟨bs, qb⟩ := reads_of I.hok b y u rb ry
  exact compareEq_reads qa qb ca cb (by have := Nat.min_le_left a.depth b.depth; omega) ⟨.bl _, H, I, rfl, q⟩
theorem op_neD (hu : X.A.units + 64 < cLine) : OpR X (compareOp .NotEq) (rEqD true) := by
  intro pins s σ H x y v u Q I rx ry h
  obtain ⟨a, b, ra, rb, ca, cb, hd, q⟩ := h
  obtain ⟨as, qa⟩ := reads_of I.hok a x v ra rx
  obtain ⟨bs, qb⟩ := reads_of I.hok b y u rb ry
  exact compareNe_reads qa qb ca cb (by have := Nat.min_le_left a.depth b.depth; omega) ⟨.bl _, H, I, rfl, q⟩
theorem eqS_ok {W : Wd} {S : Sto} {H : Hp} {tx ty : T} {x y : V} {c : Bool} (r : Rep W S H) (dx : Den W tx x) (dy : Den W ty y) (e : eqS S tx ty = some c) :
    (scal x y = true ∧ c = decide (x = y)) ∨ ∃ a b, RdD H a x ∧ RdD H b y ∧ a.canLay0 = true ∧ b.canLay0 = true ∧ a.depth ≤ 50 ∧ c = PyData.eqv a b := by
  have data : (match pdS S tx, pdS S ty with | some a, some b => if (a.canLay0 && b.canLay0 && decide (a.depth ≤ 50)) = true then some (PyData.eqv a b) else none | _, _ => none) = some c → ∃ a b, RdD H a x ∧ RdD H b y ∧ a.canLay0 = true ∧ b.canLay0 = true ∧ a.depth ≤ 50 ∧ c = PyData.eqv a b := fun e => by
    cases e1 : pdS S tx with
    | none => simp [e1] at e
    | some a =>
      cases e2 : pdS S ty with
      | none => simp [e1, e2] at e
      | some b =>
        simp only [e1, e2] at e
        split at e
        · rename_i hc
          simp only [Bool.and_eq_true, decide_eq_true_eq] at hc
          cases e
          exact ⟨a, b, rdS_of r dx e1, rdS_of r dy e2, hc.1.1, hc.1.2, hc.2, rfl⟩
        · cases e
  unfold eqS at e
  cases e1 : toV tx with
  | none => simp only [e1] at e; exact .inr (data e)
  | some u =>
    cases e2 : toV ty with
    | none => simp only [e1, e2] at e; exact .inr (data e)
    | some v =>
      simp only [e1, e2] at e
      split at e
      · rename_i hs
        cases e
        have h1 := toV_den dx e1
        have h2 := toV_den dy e2
        subst h1 h2
        exact .inl ⟨hs, rfl⟩
      · cases e
theorem g2_eq : G2 E (fun x y H Q => rEq x y H Q ∨ rEqD false x y H Q) gEq := by
  intro tx ty W S H x y Q r dx dy p
  unfold gEq at p
  cases e : eqS S tx ty with
  | none => simp only [e] at p; exact p.elim
  | some c =>
    simp only [e] at p
    rcases eqS_ok r dx dy e with ⟨h1, rfl⟩ | ⟨a, b, h1, h2, h3, h4, h5, rfl⟩
    · exact .inl ⟨h1, now p r (den_bl.mpr rfl)⟩
    · exact .inr ⟨a, b, h1, h2, h3, h4, h5, now p r (den_bl.mpr rfl)⟩
theorem g2_ne : G2 E (fun x y H Q => rNe x y H Q ∨ rEqD true x y H Q) gNe := by
  intro tx ty W S H x y Q r dx dy p
  unfold gNe at p
  cases e : eqS S tx ty with
  | none => simp only [e] at p; exact p.elim
  | some c =>
    simp only [e] at p
    rcases eqS_ok r dx dy e with ⟨h1, rfl⟩ | ⟨a, b, h1, h2, h3, h4, h5, rfl⟩
    · exact .inl ⟨h1, now p r (den_bl.mpr rfl)⟩
    · exact .inr ⟨a, b, h1, h2, h3, h4, h5, now p r (den_bl.mpr rfl)⟩
theorem e_eq (hu : X.A.units + 64 < cLine) (ha : PE X a (RE E fa)) (hb : PE X b (RE E fb)) : PE X (.Compare a [.Eq] [b] pos) (RE E (e2 gEq fa fb)) := pe_of (pe_cmpR (op_eq.or (op_eqD hu)) ha hb (nomark _)) fun _ _ _ => re2 g2_eq
theorem e_ne (hu : X.A.units + 64 < cLine) (ha : PE X a (RE E fa)) (hb : PE X b (RE E fb)) : PE X (.Compare a [.NotEq] [b] pos) (RE E (e2 gNe fa fb)) := pe_of (pe_cmpR (op_ne.or (op_neD hu)) ha hb (nomark _)) fun _ _ _ => re2 g2_ne
def inF (x : T) (ts : List T) : Option Bool := match toV x, ts.mapM toV with
  | some u, some vs => if (flatV u && vs.all flatV) = true then some (inV u vs) else none
  | _, _ => none
def inS (S : Sto) (x y : T) : Option Bool := match seqOf S y with
  | some ts => (match inF x ts with
    | some b => some b
    | none => match pd x, pds ts with
      | some d, some ds => if (d.canLay0 && PyData.canLayAll0 ds && decide (d.depth ≤ 20) && decide (PyData.depthAll ds ≤ 20)) = true then some (ds.any fun z => PyData.eqv z d) else none
      | _, _ => none)
  | none => none
def gIn (x y : T) : M T := fun S => match inS S x y with
  | some b => .ok (.bl b) S
  | none => .bad
def gNotIn (x y : T) : M T := fun S => match inS S x y with
  | some b => .ok (.bl (!b)) S
  | none => .bad
theorem mapM_den {W : Wd} : ∀ {ts : List T} {vs us : List V}, Dens W ts vs → ts.mapM toV = some us → vs = us
  | [], vs, us, h, e => by
    have e : some [] = some us := by simpa using e
    rw [dens_nil.mp h, ← Option.some.inj e]
  | t :: ts, vs, us, h, e => by
    obtain ⟨v, r, rfl, h1, h2⟩ := dens_cons.mp h
    rw [List.mapM_cons] at e
    cases e1 : toV t with
    | none => simp [e1] at e
    | some u =>
      cases e2 : ts.mapM toV with
      | none => simp [e1, e2] at e
      | some ws =>
        simp [e1, e2] at e
        subst e
        rw [toV_den h1 e1, mapM_den h2 e2]
def rInD (neg : Bool) : R2 := fun x y H Q => ∃ p xs ds d, y = .ref p ∧ (Rd H p (.lst xs) ∨ Rd H p (.tup xs)) ∧ RdDs H ds xs ∧ RdD H d x ∧ PyData.canLayAll0 ds = true ∧ d.canLay0 = true ∧ d.depth ≤ 20 ∧ PyData.depthAll ds ≤ 20 ∧
  Q (.bl (if neg then !(ds.any fun z => PyData.eqv z d) else ds.any fun z => PyData.eqv z d)) H
theorem inS_ok {W : Wd} {S : Sto} {H : Hp} {tx ty : T} {x y : V} {c : Bool} (K : PySem.W.Frag) (r : Rep W S H) (dx : Den W tx x) (dy : Den W ty y) (e : inS S tx ty = some c) :
    (∃ p xs, y = .ref p ∧ (SqL K H p xs ∨ SqT K H p xs) ∧ flatV x = true ∧ xs.all flatV = true ∧ c = inV x xs) ∨
    ∃ p xs ds d, y = .ref p ∧ (Rd H p (.lst xs) ∨ Rd H p (.tup xs)) ∧ RdDs H ds xs ∧ RdD H d x ∧ PyData.canLayAll0 ds = true ∧ d.canLay0 = true ∧ d.depth ≤ 20 ∧ PyData.depthAll ds ≤ 20 ∧ c = ds.any fun z => PyData.eqv z d := by
  unfold inS at e
  cases e0 : seqOf S ty with
  | none => simp only [e0] at e; cases e
  | some ts =>
    obtain ⟨p, xs, rfl, h1, h2⟩ := r.seq dy e0
    simp only [e0] at e
    cases ef : inF tx ts with
    | some b =>
      simp only [ef] at e
      cases e
      unfold inF at ef
      cases e1 : toV tx with
      | none => simp [e1] at ef
      | some u =>
        cases e2 : ts.mapM toV with
        | none => simp [e1, e2] at ef
        | some us =>
          simp only [e1, e2] at ef
          split at ef
          · rename_i hf
            rw [Bool.and_eq_true] at hf
            cases ef
            have q1 := toV_den dx e1
            have q2 := mapM_den h2 e2
            subst q1 q2
            refine .inl ⟨p, xs, rfl, ?_, hf.1, hf.2, rfl⟩
            rcases h1 with h1 | h1
            · exact .inl (.inl h1)
            · exact .inr (.inl h1)
          · cases ef
    | none =>
      simp only [ef] at e
      cases e1 : pd tx with
      | none => simp [e1] at e
      | some d =>
        cases e2 : pds ts with
        | none => simp [e1, e2] at e
        | some ds =>
          simp only [e1, e2] at e
          split at e
          · rename_i hc
            simp only [Bool.and_eq_true, decide_eq_true_eq] at hc
            cases e
            exact .inr ⟨p, xs, ds, d, rfl, h1, rdDs_of r _ _ _ h2 e2, rdD_of r _ _ _ dx e1, hc.1.1.2, hc.1.1.1, hc.1.2, hc.2, rfl⟩
          · cases e
theorem op_inD (hu : X.A.units + 64 < cLine) : OpR X (compareOp .In) (rInD false) := by
  intro pins s σ H x y v u Q I rx ry h
  obtain ⟨p, xs, ds, d, rfl, hp, rs, rd, cs, cd, hd, hds, q⟩ := h
  cases ry
  obtain ⟨bs, qb⟩ := reads_of I.hok d x v rd rx
  rcases hp with hp | hp
  · obtain ⟨as, qa⟩ := reads_of I.hok (.list ds) (.ref p) (.ref p) (by simp only [RdD]; exact ⟨p, xs, rfl, hp, rs⟩) rfl
    exact in_list_reads qa qb cs cd (by omega) ⟨.bl _, H, I, rfl, q⟩
  · obtain ⟨as, qa⟩ := reads_of I.hok (.tuple ds) (.ref p) (.ref p) (by simp only [RdD]; exact ⟨p, xs, rfl, hp, rs⟩) rfl
    exact in_tuple_reads qa qb cs cd (by omega) ⟨.bl _, H, I, rfl, q⟩
theorem op_notInD (hu : X.A.units + 64 < cLine) : OpR X (compareOp .NotIn) (rInD true) := by
  intro pins s σ H x y v u Q I rx ry h
  obtain ⟨p, xs, ds, d, rfl, hp, rs, rd, cs, cd, hd, hds, q⟩ := h
  cases ry
  obtain ⟨bs, qb⟩ := reads_of I.hok d x v rd rx
  rcases hp with hp | hp
  · obtain ⟨as, qa⟩ := reads_of I.hok (.list ds) (.ref p) (.ref p) (by simp only [RdD]; exact ⟨p, xs, rfl, hp, rs⟩) rfl
    exact notIn_list_reads qa qb cs cd (by omega) ⟨.bl _, H, I, rfl, q⟩
  · obtain ⟨as, qa⟩ := reads_of I.hok (.tuple ds) (.ref p) (.ref p) (by simp only [RdD]; exact ⟨p, xs, rfl, hp, rs⟩) rfl
    exact notIn_tuple_reads qa qb cs cd (by omega) ⟨.bl _, H, I, rfl, q⟩
theorem g2_in (K : PySem.W.Frag) : G2 E (fun x y H Q => rIn K false x y H Q ∨ rInD false x y H Q) gIn := by
  intro tx ty W S H x y Q r dx dy p
  unfold gIn at p
  cases e : inS S tx ty with
  | none => simp only [e] at p; exact p.elim
  | some c =>
    simp only [e] at p
    rcases inS_ok K r dx dy e with ⟨q, xs, rfl, h1, h2, h3, rfl⟩ | ⟨q, xs, ds, d, rfl, h1, h2, h3, h4, h5, h6, h7, rfl⟩
    · exact .inl ⟨q, xs, rfl, h1, h2, h3, now p r (den_bl.mpr rfl)⟩
    · exact .inr ⟨q, xs, ds, d, rfl, h1, h2, h3, h4, h5, h6, h7, now p r (den_bl.mpr rfl)⟩
theorem g2_notIn (K : PySem.W.Frag) : G2 E (fun x y H Q => rIn K true x y H Q ∨ rInD true x y H Q) gNotIn := by
  intro tx ty W S H x y Q r dx dy p
  unfold gNotIn at p
  cases e : inS S tx ty with
  | none => simp only [e] at p; exact p.elim
  | some c =>
    simp only [e] at p
    rcases inS_ok K r dx dy e with ⟨q, xs, rfl, h1, h2, h3, rfl⟩ | ⟨q, xs, ds, d, rfl, h1, h2, h3, h4, h5, h6, h7, rfl⟩
    · exact .inl ⟨q, xs, rfl, h1, h2, h3, now p r (den_bl.mpr rfl)⟩
    · exact .inr ⟨q, xs, ds, d, rfl, h1, h2, h3, h4, h5, h6, h7, now p r (den_bl.mpr rfl)⟩
end
end MF
set_option Elab.async false
set_option linter.all false
set_option maxRecDepth 100000
namespace MF
open PySem L2
def boolM (t : T) : M Bool := fun S => match t with
  | .bl b => .ok b S
  | _ => .bad
def truM (t : T) : M Bool := fun S => match t with
  | .non => .ok false S
  | .bl b => .ok b S
  | .int i => .ok (i != 0) S
  | .str x => if x.length ≤ 1000 then .ok ((x.length : Int) != 0) S else .bad
  | t => match seqOf S t with
    | some ts => .ok (!ts.isEmpty) S
    | none => .bad
def tst (f : DE) : DT := fun ρ => (f ρ).bind boolM
def tru (f : DE) : DT := fun ρ => (f ρ).bind truM
def tOrD (f g : DT) : DT := fun ρ => (f ρ).bind fun c => if c = true then M.pure true else g ρ
def tNotD (f : DT) : DT := fun ρ => (f ρ).bind fun c => M.pure (!c)
section
variable {X : Cx} {E : XK} {a b c e : Expr} {es : List Expr} {fa fb fc : DE} {ta tb : DT} {fr : DA} {pos : Pos}
theorem rt_val {f : DE} {σ : St} {H : Hp} {Q : Bool → Hp → Prop} (h : RT E (tst f) σ H Q) : RE E f σ H (fun x H' => ∃ k, x = .bl k ∧ Q k H') := by
  obtain ⟨W, S, ρ, rp, env, p⟩ := h
  refine ⟨W, S, ρ, rp, env, (Post.bind p).imp fun t W1 S1 H1 l1 r1 p1 v dv => ?_⟩
  cases t with
  | bl k => exact ⟨k, den_bl.mp dv, p1 W1 H1 (Wd.le.refl _) r1⟩
  | _ => exact p1.elim
theorem t_cmp {op : CmpOp} {r : R2} {g : T → T → M T} (ho : OpR X (compareOp op) r) (hg : G2 E r g) (ha : PE X a (RE E fa)) (hb : PE X b (RE E fb)) (hm : behindInMarks op b = false) : PT X (.Compare a [op] [b] pos) (RT E (tst (e2 g fa fb))) :=
  pt_of (pt_cmpR ho ha hb hm) fun σ H Q h => re2 hg (rt_val h)
theorem t_eq (hu : X.A.units + 64 < cLine) (ha : PE X a (RE E fa)) (hb : PE X b (RE E fb)) : PT X (.Compare a [.Eq] [b] pos) (RT E (tst (e2 gEq fa fb))) := t_cmp (op_eq.or (op_eqD hu)) g2_eq ha hb (nomark _)
theorem t_ne (hu : X.A.units + 64 < cLine) (ha : PE X a (RE E fa)) (hb : PE X b (RE E fb)) : PT X (.Compare a [.NotEq] [b] pos) (RT E (tst (e2 gNe fa fb))) := t_cmp (op_ne.or (op_neD hu)) g2_ne ha hb (nomark _)
theorem t_lt (ha : PE X a (RE E fa)) (hb : PE X b (RE E fb)) : PT X (.Compare a [.Lt] [b] pos) (RT E (tst (e2 (gI fLt) fa fb))) := t_cmp op_lt (g2_I0 fun i j t e W => by cases e; exact den_bl.mpr rfl) ha hb (nomark _)
theorem t_gt (ha : PE X a (RE E fa)) (hb : PE X b (RE E fb)) : PT X (.Compare a [.Gt] [b] pos) (RT E (tst (e2 (gI fGt) fa fb))) := t_cmp op_gt (g2_I0 fun i j t e W => by cases e; exact den_bl.mpr rfl) ha hb (nomark _)
theorem t_ge (ha : PE X a (RE E fa)) (hb : PE X b (RE E fb)) : PT X (.Compare a [.GtE] [b] pos) (RT E (tst (e2 (gI fGe) fa fb))) := t_cmp op_ge (g2_I0 fun i j t e W => by cases e; exact den_bl.mpr rfl) ha hb (nomark _)
theorem t_in (hu : X.A.units + 64 < cLine) (ha : PE X a (RE E fa)) (hb : PE X b (RE E fb)) (hm : behindInMarks .In b = false := by with_unfolding_all rfl) : PT X (.Compare a [.In] [b] pos) (RT E (tst (e2 gIn fa fb))) := t_cmp (op_in_seq.or (op_inD hu)) (g2_in X.K) ha hb hm
theorem t_notIn (hu : X.A.units + 64 < cLine) (ha : PE X a (RE E fa)) (hb : PE X b (RE E fb)) (hm : behindInMarks .NotIn b = false := by with_unfolding_all rfl) : PT X (.Compare a [.NotIn] [b] pos) (RT E (tst (e2 gNotIn fa fb))) := t_cmp (op_notIn_seq.or (op_notInD hu)) (g2_notIn X.K) ha hb hm
theorem tru_of {W : Wd} {S : Sto} {H : Hp} {t : T} {v : V} {Q : Bool → Hp → Prop} {K : PySem.W.Frag} (r : Rep W S H) (d : Den W t v) (p : Post E W (fun b _ _ H' => Q b H') (truM t S)) : ∃ k, TruV K v H k ∧ Q k H := by
  have go : ∀ {k : Bool}, Post E W (fun b _ _ H' => Q b H') (.ok k S) → Q k H := fun p => p W H (Wd.le.refl _) r
  have sq : ∀ {t : T}, Den W t v → Post E W (fun b _ _ H' => Q b H') (match seqOf S t with | some ts => .ok (!ts.isEmpty) S | none => .bad) → ∃ k, TruV K v H k ∧ Q k H := fun {t} d p => by
    cases e : seqOf S t with
    | none => simp only [e] at p; exact p.elim
    | some ts =>
      simp only [e] at p
      obtain ⟨a, vs, rfl, h1, h2⟩ := r.seq d e
      have hl : (!ts.isEmpty) = !vs.isEmpty := by
        have := h2.length
        cases ts <;> cases vs <;> simp_all
      refine ⟨_, ?_, go p⟩
      rcases h1 with h1 | h1
      · exact .inl ⟨vs, .inl h1, hl⟩
      · exact .inr (.inl ⟨vs, .inl h1, hl⟩)
  unfold truM at p
  split at p
  · rw [den_non.mp d]; exact ⟨_, rfl, go p⟩
  · rw [den_bl.mp d]; exact ⟨_, rfl, go p⟩
  · rw [den_int.mp d]; exact ⟨_, rfl, go p⟩
  · split at p
    · rename_i hl; rw [den_str.mp d]; exact ⟨_, ⟨big hl, rfl⟩, go p⟩
    · exact p.elim
  · exact sq d p
theorem t_val (ha : PE X a (RE E fa)) (he : ∀ whole, isTrue a X.env whole = (do let v ← whole; standAt a.pos; holding [v] (truthy v)) := by intro _; rfl) : PT X a (RT E (tru fa)) :=
  pt_of (pt_truth ha he) fun σ H Q h => by
    obtain ⟨W, S, ρ, rp, env, p⟩ := h
    exact ⟨W, S, ρ, rp, env, (Post.bind p).imp fun t W1 S1 H1 l1 r1 p1 v dv => tru_of r1 dv p1⟩
theorem pw_of {e : Expr} {t t' : TT} (h : PW X e t) (w : ∀ σ H Q, t' σ H Q → t σ H Q) : PW X e t' := fun wh pins s σ H Q I q => h wh pins s σ H Q I (w σ H Q q)
theorem t_or1 (ha : PT X a (RT E ta)) : PW X (.BoolOp .Or [a] pos) (RT E ta) := pw_or1 ha
theorem rt_pure {c : Bool} {σ : St} {H : Hp} {Q : Bool → Hp → Prop} (h : RT E (fun _ => M.pure c) σ H Q) : Q c H := by
  obtain ⟨W, S, ρ, rp, env, p⟩ := h
  exact p W H (Wd.le.refl _) rp
theorem t_or (ha : PT X a (RT E ta)) (hb : PW X (.BoolOp .Or (b :: es) pos) (RT E tb)) : PW X (.BoolOp .Or (a :: b :: es) pos) (RT E (tOrD ta tb)) :=
  pw_of (pw_or ha hb) fun σ H Q h => by
    obtain ⟨W, S, ρ, rp, env, p⟩ := h
    refine ⟨W, S, ρ, rp, env, (Post.bind p).imp fun c W1 S1 H1 l1 r1 p1 => ?_⟩
    cases c with
    | false => exact iteF ⟨W1, S1, ρ, r1, env.mono l1, p1⟩
    | true => exact iteT (p1 W1 H1 (Wd.le.refl _) r1)
theorem t_not (ha : PT X a (RT E ta)) : PT X (.UnaryOp .Not a pos) (RT E (tNotD ta)) := pt_of (pt_not ha) fun σ H Q h => by
  obtain ⟨W, S, ρ, rp, env, p⟩ := h
  exact ⟨W, S, ρ, rp, env, (Post.bind p).imp fun c W1 S1 H1 l1 r1 p1 => p1 W1 H1 (Wd.le.refl _) r1⟩
def eAnd (f g : DE) : DE := fun ρ => (f ρ).bind fun x => match x with
  | .bl true => g ρ
  | .bl false => M.pure (.bl false)
  | _ => M.bad
def eIf (c : DT) (f g : DE) : DE := fun ρ => (c ρ).bind fun b => if b = true then f ρ else g ρ
theorem e_one {op} (ha : PE X a (RE E fa)) : PE X (.BoolOp op [a] pos) (RE E fa) := pe_one ha
theorem e_and (ha : PE X a (RE E fa)) (hb : PE X (.BoolOp .And (b :: es) pos) (RE E fb)) : PE X (.BoolOp .And (a :: b :: es) pos) (RE E (eAnd fa fb)) := pe_of (pe_and ha hb) fun σ H Q h => by
  obtain ⟨W, S, ρ, rp, env, p⟩ := h
  refine ⟨W, S, ρ, rp, env, (Post.bind p).imp fun t W1 S1 H1 l1 r1 p1 v dv => ?_⟩
  cases t with
  | bl k =>
    refine ⟨k, den_bl.mp dv, ?_⟩
    cases k with
    | true => exact iteT ⟨W1, S1, ρ, r1, env.mono l1, p1⟩
    | false => exact iteF (now p1 r1 (den_bl.mpr rfl))
  | _ => exact p1.elim
theorem e_ifExp (hc : PT X c (RT E ta)) (ha : PE X a (RE E fa)) (hb : PE X b (RE E fb)) : PE X (.IfExp c a b pos) (RE E (eIf ta fa fb)) := pe_of (pe_ifExp hc ha hb) fun σ H Q h => by
  obtain ⟨W, S, ρ, rp, env, p⟩ := h
  refine ⟨W, S, ρ, rp, env, (Post.bind p).imp fun k W1 S1 H1 l1 r1 p1 => ?_⟩
  cases k with
  | true => exact iteT ⟨W1, S1, ρ, r1, env.mono l1, p1⟩
  | false => exact iteF ⟨W1, S1, ρ, r1, env.mono l1, p1⟩
def isNon : T → Bool
  | .non => true
  | _ => false
theorem isNon_den {W : Wd} {t : T} {v : V} (d : Den W t v) : decide (v = .non) = isNon t := by
  cases t with
  | non => rw [den_non.mp d]; rfl
  | bl _ => rw [den_bl.mp d]; rfl
  | int _ => rw [den_int.mp d]; rfl
  | str _ => rw [den_str.mp d]; rfl
  | lst _ => obtain ⟨a, vs, rfl, _⟩ := den_lst.mp d; rfl
  | tup _ => obtain ⟨a, vs, rfl, _⟩ := den_tup.mp d; rfl
  | dic _ => obtain ⟨a, vs, rfl, _⟩ := den_dic.mp d; rfl
  | obj _ => obtain ⟨rfl, _⟩ := den_obj.mp d; rfl
def gIs (x y : T) : M T := fun S => match y with
  | .non => .ok (.bl (isNon x)) S
  | .bl b => (match x with
    | .bl a => .ok (.bl (a == b)) S
    | _ => .bad)
  | _ => .bad
def gIsNot (x y : T) : M T := fun S => match y with
  | .non => .ok (.bl (!isNon x)) S
  | .bl b => (match x with
    | .bl a => .ok (.bl (!(a == b))) S
    | _ => .bad)
  | _ => .bad
theorem op_isnotB : OpR X (compareOp .IsNot) (fun x y H Q => ∃ a b, x = .bl a ∧ y = .bl b ∧ Q (.bl (!(a == b))) H) := by
  intro pins s σ H x y v u Q I rx ry h
  obtain ⟨a, b, rfl, rfl, q⟩ := h
  cases rx
  cases ry
  refine wpAny_isNot_plain rfl ⟨.bl (!(a == b)), H, I, ?_, q⟩
  show Value.bool (!(Value.bool a == Value.bool b)) = Value.bool (!(a == b))
  cases a <;> cases b <;> rfl
theorem g2_is : G2 E (fun x y H Q => (y = .non ∧ Q (.bl (decide (x = .non))) H) ∨ (∃ a b, x = .bl a ∧ y = .bl b ∧ Q (.bl (a == b)) H)) gIs := by
  intro tx ty W S H x y Q r dx dy p
  unfold gIs at p
  split at p
  · exact .inl ⟨den_non.mp dy, by rw [isNon_den dx]; exact now p r (den_bl.mpr rfl)⟩
  · split at p
    · exact .inr ⟨_, _, den_bl.mp dx, den_bl.mp dy, now p r (den_bl.mpr rfl)⟩
    · exact p.elim
  · exact p.elim
theorem g2_isnot : G2 E (fun x y H Q => (y = .non ∧ Q (.bl (!decide (x = .non))) H) ∨ (∃ a b, x = .bl a ∧ y = .bl b ∧ Q (.bl (!(a == b))) H)) gIsNot := by
  intro tx ty W S H x y Q r dx dy p
  unfold gIsNot at p
  split at p
  · exact .inl ⟨den_non.mp dy, by rw [isNon_den dx]; exact now p r (den_bl.mpr rfl)⟩
  · split at p
    · exact .inr ⟨_, _, den_bl.mp dx, den_bl.mp dy, now p r (den_bl.mpr rfl)⟩
    · exact p.elim
  · exact p.elim
theorem t_is (ha : PE X a (RE E fa)) (hb : PE X b (RE E fb)) : PT X (.Compare a [.Is] [b] pos) (RT E (tst (e2 gIs fa fb))) := t_cmp (op_isN.or op_isB) g2_is ha hb (nomark _)
theorem t_isnot (ha : PE X a (RE E fa)) (hb : PE X b (RE E fb)) : PT X (.Compare a [.IsNot] [b] pos) (RT E (tst (e2 gIsNot fa fb))) := t_cmp (op_notN.or op_isnotB) g2_isnot ha hb (nomark _)
theorem Dens.atI {W : Wd} {ts : List T} {vs : List V} {i : Int} {t : T} (h : Dens W ts vs) (e : atI ts i = some t) : ∃ v, L2.atI vs i = some v ∧ Den W t v := by
  unfold L2.atI at e ⊢
  rw [← h.length]
  cases e1 : ixN ts.length i with
  | none => rw [e1] at e; cases e
  | some j =>
    rw [e1] at e
    exact h.get e
def gIx (x y : T) : M T := fun S => match y with
  | .int i => (match seqOf S x with
    | some ts => (match atI ts i with
      | some t => .ok t S
      | none => .bad)
    | none => match x with
      | .str z => if z.length ≤ 1000 then (match atI z.cps.toList i with
        | some c => .ok (.str ⟨#[c]⟩) S
        | none => .bad) else .bad
      | _ => .bad)
  | _ => .bad
theorem g2_ix (K : PySem.W.Frag) : G2 E (rIx K) gIx := by
  intro tx ty W S H x y Q r dx dy p
  unfold gIx at p
  split at p
  · rename_i i
    cases e : seqOf S tx with
    | some ts =>
      simp only [e] at p
      cases e2 : atI ts i with
      | none => simp only [e2] at p; exact p.elim
      | some t =>
        simp only [e2] at p
        obtain ⟨a, vs, rfl, h1, h2⟩ := r.seq dx e
        obtain ⟨v, e3, dv⟩ := h2.atI e2
        rcases h1 with h1 | h1
        · exact .inl ⟨a, vs, i, v, rfl, den_int.mp dy, .inl h1, e3, now p r dv⟩
        · exact .inr (.inl ⟨a, vs, i, v, rfl, den_int.mp dy, .inl h1, e3, now p r dv⟩)
    | none =>
      simp only [e] at p
      split at p
      · rename_i z
        split at p
        · rename_i hl
          cases e2 : atI z.cps.toList i with
          | none => simp only [e2] at p; exact p.elim
          | some c =>
            simp only [e2] at p
            exact .inr (.inr ⟨z, i, c, den_str.mp dx, den_int.mp dy, big hl, e2, now p r (den_str.mpr rfl)⟩)
        · exact p.elim
      · exact p.elim
  · exact p.elim
theorem e_ix (ha : PE X a (RE E fa)) (hb : PE X b (RE E fb)) (hs : PlainIx b := by exact fun _ _ => rfl) : PE X (.Subscript a b pos) (RE E (e2 gIx fa fb)) := pe_of (pe_ix ix_seq ha hb hs) fun _ _ _ => re2 (g2_ix X.K)
def keyT : T → Option Key
  | .int i => some (.inl i)
  | .str x => some (.inr x)
  | _ => none
theorem keyT_den {W : Wd} {t : T} {v : V} {k : Key} (d : Den W t v) (e : keyT t = some k) : v = kV k := by
  cases t with
  | int i => cases e; exact den_int.mp d
  | str i => cases e; exact den_str.mp d
  | _ => cases e
def valT (kvs : List (Key × T)) (k : Key) : Option T := (kvs.find? fun kv => decide (kv.1 = k)).map (·.2)
def putT (kvs : List (Key × T)) (k : Key) (v : T) : List (Key × T) :=
  if (kvs.any fun kv => decide (kv.1 = k)) = true then kvs.map (fun kv => if kv.1 = k then (kv.1, v) else kv) else kvs ++ [(k, v)]
def dropT (kvs : List (Key × T)) (k : Key) : List (Key × T) := kvs.filter fun kv => decide (kv.1 ≠ k)
theorem DenK.val {W : Wd} : ∀ {kvs : List (Key × T)} {ks : List (Key × V)} (k : Key), DenK W kvs ks → (∀ t, valT kvs k = some t → ∃ v, valV ks k = some v ∧ Den W t v) ∧ (valT kvs k = none → valV ks k = none)
  | [], ks, k, h => by rw [denk_nil.mp h]; exact ⟨(fun t e => by cases e), fun _ => rfl⟩
  | (k', t) :: kvs, ks, k, h => by
    obtain ⟨v, r, rfl, h1, h2⟩ := denk_cons.mp h
    have ih := DenK.val k h2
    by_cases e : k' = k
    · have a : valT ((k', t) :: kvs) k = some t := by simp [valT, List.find?_cons, e]
      have b : valV ((k', v) :: r) k = some v := valV_pos e
      rw [a, b]
      exact ⟨fun t' e' => by cases e'; exact ⟨v, rfl, h1⟩, fun z => by cases z⟩
    · have a : valT ((k', t) :: kvs) k = valT kvs k := by simp [valT, List.find?_cons, e]
      have b : valV ((k', v) :: r) k = valV r k := valV_neg e
      rw [a, b]
      exact ih
theorem DenK.any {W : Wd} : ∀ {kvs : List (Key × T)} {ks : List (Key × V)} (k : Key), DenK W kvs ks → (kvs.any fun kv => decide (kv.1 = k)) = ks.any fun kv => decide (kv.1 = k)
  | [], ks, k, h => by rw [denk_nil.mp h]; rfl
  | (k', t) :: kvs, ks, k, h => by
    obtain ⟨v, r, rfl, h1, h2⟩ := denk_cons.mp h
    rw [List.any_cons, List.any_cons, DenK.any k h2]
theorem DenK.repl {W : Wd} {t0 : T} {v0 : V} (d : Den W t0 v0) : ∀ {kvs : List (Key × T)} {ks : List (Key × V)} (k : Key), DenK W kvs ks → DenK W (kvs.map (fun kv => if kv.1 = k then (kv.1, t0) else kv)) (ks.map (fun kv => if kv.1 = k then (kv.1, v0) else kv))
  | [], ks, k, h => by rw [denk_nil.mp h]; exact DenK.nil'
  | (k', t) :: kvs, ks, k, h => by
    obtain ⟨v, r, rfl, h1, h2⟩ := denk_cons.mp h
    have ih := DenK.repl d k h2
    rw [List.map_cons, List.map_cons]
    by_cases e : k' = k
    · rw [if_pos e, if_pos e]; exact DenK.cons' d ih
    · rw [if_neg e, if_neg e]; exact DenK.cons' h1 ih
theorem DenK.snoc {W : Wd} {t0 : T} {v0 : V} (d : Den W t0 v0) : ∀ {kvs : List (Key × T)} {ks : List (Key × V)} (k : Key), DenK W kvs ks → DenK W (kvs ++ [(k, t0)]) (ks ++ [(k, v0)])
  | [], ks, k, h => by rw [denk_nil.mp h]; exact DenK.cons' d DenK.nil'
  | (k', t) :: kvs, ks, k, h => by
    obtain ⟨v, r, rfl, h1, h2⟩ := denk_cons.mp h
    exact DenK.cons' h1 (DenK.snoc d k h2)
theorem DenK.put {W : Wd} {t0 : T} {v0 : V} (d : Den W t0 v0) {kvs : List (Key × T)} {ks : List (Key × V)} (k : Key) (h : DenK W kvs ks) : DenK W (putT kvs k t0) (putK ks k v0) := by
  unfold putT putK
  rw [h.any k]
  by_cases e : (ks.any fun kv => decide (kv.1 = k)) = true
  · rw [if_pos e, if_pos e]; exact DenK.repl d k h
  · rw [if_neg e, if_neg e]; exact DenK.snoc d k h
theorem DenK.drop {W : Wd} : ∀ {kvs : List (Key × T)} {ks : List (Key × V)} (k : Key), DenK W kvs ks → DenK W (dropT kvs k) (dropK ks k)
  | [], ks, k, h => by rw [denk_nil.mp h]; exact DenK.nil'
  | (k', t) :: kvs, ks, k, h => by
    obtain ⟨v, r, rfl, h1, h2⟩ := denk_cons.mp h
    have ih := DenK.drop k h2
    unfold dropT dropK at ih ⊢
    rw [List.filter_cons, List.filter_cons]
    by_cases e : k' = k
    · have a : ¬ decide ((k', t).1 ≠ k) = true := by simp [e]
      have b : ¬ decide ((k', v).1 ≠ k) = true := by simp [e]
      rw [if_neg a, if_neg b]; exact ih
    · have a : decide ((k', t).1 ≠ k) = true := by simp [e]
      have b : decide ((k', v).1 ≠ k) = true := by simp [e]
      rw [if_pos a, if_pos b]; exact DenK.cons' h1 ih
def gDix (x y : T) : M T := fun S => match dicOf S x, keyT y with
  | some kvs, some k => (match valT kvs k with
    | some t => .ok t S
    | none => .bad)
  | _, _ => .bad
def gDin (y x : T) : M T := fun S => match dicOf S x with
  | some kvs => (match keyT y with
    | some k => .ok (.bl (valT kvs k).isSome) S
    | none => match y with
      | .non => .ok (.bl false) S
      | _ => .bad)
  | none => .bad
def gDnotin (y x : T) : M T := fun S => match dicOf S x, keyT y with
  | some kvs, some k => .ok (.bl (!(valT kvs k).isSome)) S
  | _, _ => .bad
theorem dget_of {W : Wd} {S : Sto} {H : Hp} (r : Rep W S H) {tx ty : T} {x y : V} {kvs : List (Key × T)} {k : Key} (dx : Den W tx x) (dy : Den W ty y) (e1 : dicOf S tx = some kvs) (e2 : keyT ty = some k) :
    ∃ a o, x = .ref a ∧ DGet H a y o ∧ (∀ t, valT kvs k = some t → ∃ v, o = some v ∧ Den W t v) ∧ (valT kvs k).isSome = o.isSome := by
  obtain ⟨a, ks, rfl, h1, h2⟩ := r.dict dx e1
  obtain ⟨q1, q2⟩ := h2.val k
  refine ⟨a, valV ks k, rfl, .inl ⟨ks, k, h1, keyT_den dy e2, rfl⟩, q1, ?_⟩
  cases e : valT kvs k with
  | none => rw [q2 e]; rfl
  | some t => obtain ⟨v, e3, _⟩ := q1 t e; rw [e3]; rfl
theorem e_dix (hu : X.A.units + 1 < cLine) (ha : PE X a (RE E fa)) (hb : PE X b (RE E fb)) (hs : NoSl b := by exact fun _ _ => rfl) : PE X (.Subscript a b pos) (RE E (e2 gDix fa fb)) :=
  pe_of (pe_dget hu ha hb hs) fun σ H Q h => re2 (r := fun x y H Q => ∃ a v, x = .ref a ∧ DGet H a y (some v) ∧ Q v H) (fun tx ty W S H x y Q r dx dy p => by
    unfold gDix at p
    cases e1 : dicOf S tx with
    | none => simp only [e1] at p; exact p.elim
    | some kvs =>
      cases e2 : keyT ty with
      | none => simp only [e1, e2] at p; exact p.elim
      | some k =>
        simp only [e1, e2] at p
        cases e3 : valT kvs k with
        | none => simp only [e3] at p; exact p.elim
        | some t =>
          simp only [e3] at p
          obtain ⟨a, o, rfl, g, q1, _⟩ := dget_of r dx dy e1 e2
          obtain ⟨v, rfl, dv⟩ := q1 t e3
          exact ⟨a, v, rfl, g, now p r dv⟩) h
theorem g2_din : G2 E (fun y x H Q => ∃ a, x = .ref a ∧ ((∃ r, DGet H a y r ∧ Q (.bl r.isSome) H) ∨ (y = .non ∧ (∃ kvs, Rd H a (.dK kvs)) ∧ Q (.bl false) H))) gDin := by
  intro ty tx W S H y x Q r dy dx p
  unfold gDin at p
  cases e1 : dicOf S tx with
  | none => simp only [e1] at p; exact p.elim
  | some kvs =>
    simp only [e1] at p
    cases e2 : keyT ty with
    | some k =>
      simp only [e2] at p
      obtain ⟨a, o, rfl, g, _, q⟩ := dget_of r dx dy e1 e2
      exact ⟨a, rfl, .inl ⟨o, g, by rw [← q]; exact now p r (den_bl.mpr rfl)⟩⟩
    | none =>
      simp only [e2] at p
      split at p
      · obtain ⟨a, ks, rfl, h1, h2⟩ := r.dict dx e1
        exact ⟨a, rfl, .inr ⟨den_non.mp dy, ⟨ks, h1⟩, now p r (den_bl.mpr rfl)⟩⟩
      · exact p.elim
theorem g2_dnotin : G2 E (fun y x H Q => ∃ a o, x = .ref a ∧ DGet H a y o ∧ Q (.bl (!o.isSome)) H) gDnotin := by
  intro ty tx W S H y x Q r dy dx p
  unfold gDnotin at p
  cases e1 : dicOf S tx with
  | none => simp only [e1] at p; exact p.elim
  | some kvs =>
    cases e2 : keyT ty with
    | none => simp only [e1, e2] at p; exact p.elim
    | some k =>
      simp only [e1, e2] at p
      obtain ⟨a, o, rfl, g, _, q⟩ := dget_of r dx dy e1 e2
      exact ⟨a, o, rfl, g, by rw [← q]; exact now p r (den_bl.mpr rfl)⟩
theorem t_din (hu : X.A.units + 1 < cLine) (ha : PE X a (RE E fa)) (hb : PE X b (RE E fb)) (hm : behindInMarks .In b = false := by with_unfolding_all rfl) : PT X (.Compare a [.In] [b] pos) (RT E (tst (e2 gDin fa fb))) := pt_of (pt_cmp (pc_dinN hu ha hb) hm) fun σ H Q h => re2 g2_din (rt_val h)
theorem t_dnotin (hu : X.A.units + 1 < cLine) (ha : PE X a (RE E fa)) (hb : PE X b (RE E fb)) (hm : behindInMarks .NotIn b = false := by with_unfolding_all rfl) : PT X (.Compare a [.NotIn] [b] pos) (RT E (tst (e2 gDnotin fa fb))) := pt_of (pt_cmp (pc_dnotin hu ha hb) hm) fun σ H Q h => re2 g2_dnotin (rt_val h)
end
end MF
set_option Elab.async false
set_option linter.all false
set_option maxRecDepth 100000
namespace MF
open PySem L2
def lstF (ts : List T) : M T := fun S => if ts.length ≤ 1000 then .ok (.lst ts) S else .bad
def lstC (ts : List T) : M T := fun S => if ts.length ≤ 1000 then .ok (.obj S.length) (S ++ [.lst ts]) else .bad
def tupF (ts : List T) : M T := fun S => if ts.length ≤ 1000 then .ok (.tup ts) S else .bad
def eA (g : List T → M T) (f : DA) : DE := fun ρ => (f ρ).bind g
def eDict0 : DE := fun _ S => .ok (.obj S.length) (S ++ [.dic []])
section
variable {X : Cx} {E : XK} {a b c e o : Expr} {es : List Expr} {fa fb fc : DE} {ta tb : DT} {fr : DA} {pos : Pos}
theorem reA {g : List T → M T} {r : List V → Hp → VK → Prop} (hg : ∀ (ts : List T) (W : Wd) (S : Sto) (H : Hp) (vs : List V) (Q : VK), Rep W S H → Dens W ts vs → Post E W (QV Q) (g ts S) → r vs H Q) {σ : St} {H : Hp} {Q : VK}
    (h : RE E (eA g fr) σ H Q) : RA E fr σ H (fun vs H1 => r vs H1 Q) := by
  obtain ⟨W, S, ρ, rp, env, p⟩ := h
  exact ⟨W, S, ρ, rp, env, (Post.bind p).imp fun ts W1 S1 H1 l1 r1 p1 vs dv => hg ts W1 S1 H1 vs Q r1 dv p1⟩
theorem e_lst (h : PA X es (RA E fr)) : PE X (.List es pos) (RE E (eA lstF fr)) := pe_of (pe_lst h) fun σ H Q q => reA (r := fun vs H Q => vs.length ≤ sizeLine ∧ ∀ p, H p = none → Q (.ref p) (upd H p (.lst vs))) (fun ts W S H vs Q r d p => by
  unfold lstF at p
  split at p
  · rename_i hl; exact ⟨big (by rw [← d.length]; exact hl), frzNew p r d⟩
  · exact p.elim) q
theorem e_lstC (h : PA X es (RA E fr)) : PE X (.List es pos) (RE E (eA lstC fr)) := pe_of (pe_lst h) fun σ H Q q => reA (r := fun vs H Q => vs.length ≤ sizeLine ∧ ∀ p, H p = none → Q (.ref p) (upd H p (.lst vs))) (fun ts W S H vs Q r d p => by
  unfold lstC at p
  split at p
  · rename_i hl; exact ⟨big (by rw [← d.length]; exact hl), cellNewL p r d⟩
  · exact p.elim) q
theorem e_tup {k} (h : PA X es (RA E fr)) : PE X (.Tuple es k pos) (RE E (eA tupF fr)) := pe_of (pe_tup h) fun σ H Q q => reA (r := fun vs H Q => vs.length ≤ sizeLine ∧ ∀ p, H p = none → Q (.ref p) (upd H p (.tup vs))) (fun ts W S H vs Q r d p => by
  unfold tupF at p
  split at p
  · rename_i hl; exact ⟨big (by rw [← d.length]; exact hl), frzNewT p r d⟩
  · exact p.elim) q
theorem e_dict0 : PE X (.Dict [] [] pos) (RE E eDict0) := pe_of pe_dnewK fun σ H Q h a ha => by
  obtain ⟨W, S, ρ, r, env, p⟩ := h
  refine p (W.add a) _ Wd.add_le (r.cellNew ha (.dic []) _ ⟨[], upd_same, DenK.nil'⟩) _ (den_obj.mpr ⟨?_, ?_⟩)
  · rw [r.len, Wd.add_at]
  · rw [r.len]; exact Nat.lt_succ_self _
def gLen (t : T) : M T := fun S => match seqOf S t with
  | some ts => .ok (.int ts.length) S
  | none => match t with
    | .str x => if x.length ≤ 1000 then .ok (.int x.length) S else .bad
    | _ => .bad
def one (g : T → M T) : List T → M T
  | [t] => g t
  | _ => M.bad
theorem dens_one {W : Wd} {t : T} {vs : List V} (h : Dens W [t] vs) : ∃ v, vs = [v] ∧ Den W t v := by
  obtain ⟨v, r, rfl, h1, h2⟩ := dens_cons.mp h
  rw [dens_nil.mp h2]
  exact ⟨v, rfl, h1⟩
theorem e_call1 {x : Str} {id : String} {p : Pos} {r : List V → Hp → VK → Prop} {g : T → M T} (hc : CallR X (.builtin id) r) (hg : ∀ (t : T) (W : Wd) (S : Sto) (H : Hp) (v : V) (Q : VK), Rep W S H → Den W t v → Post E W (QV Q) (g t S) → r [v] H Q)
    (gl : Gl X x) (hm : X.mg x = none) (hv : bootBuiltins x = some (.builtin id)) (ha : PE X e (RE E fa)) (hn : x ≠ "__name__") (hdb : (x == ("__debug__" : Str)) = false)
    (he : starEach [e] X.env = (false, eval e X.env) :: starEach [] X.env) (hpl : (backTo pos (starEach [] X.env)).any (·.1) = false) : PE X (.Call (.Name x p) [e] [] pos) (RE E (e1 g fa)) :=
  pe_of (pe_callB hc gl hm hv (pa_cons ha pa_nil he) hn hdb he hpl) fun σ H Q h => re1 (r := fun x H Q => r [x] H Q) hg h
theorem e_callT {x : Str} {id : String} {p : Pos} {r : List V → Hp → VK → Prop} {g : T → M T} (hc : CallR X (.type id) r) (hg : ∀ (t : T) (W : Wd) (S : Sto) (H : Hp) (v : V) (Q : VK), Rep W S H → Den W t v → Post E W (QV Q) (g t S) → r [v] H Q)
    (gl : Gl X x) (hm : X.mg x = none) (hv : bootBuiltins x = some (.type id)) (ha : PE X e (RE E fa)) (hn : x ≠ "__name__") (hdb : (x == ("__debug__" : Str)) = false)
    (he : starEach [e] X.env = (false, eval e X.env) :: starEach [] X.env) (hpl : (backTo pos (starEach [] X.env)).any (·.1) = false) : PE X (.Call (.Name x p) [e] [] pos) (RE E (e1 g fa)) :=
  pe_of (pe_callTy hc gl hm hv (pa_cons ha pa_nil he) hn hdb he hpl) fun σ H Q h => re1 (r := fun x H Q => r [x] H Q) hg h
theorem g_len (K : PySem.W.Frag) (t : T) (W : Wd) (S : Sto) (H : Hp) (v : V) (Q : VK) (r : Rep W S H) (d : Den W t v) (p : Post E W (QV Q) (gLen t S)) : ∃ x n, [v] = [x] ∧ LenV K x H n ∧ Q (.int n) H := by
  unfold gLen at p
  cases e : seqOf S t with
  | some ts =>
    simp only [e] at p
    obtain ⟨a, vs, rfl, h1, h2⟩ := r.seq d e
    refine ⟨_, ts.length, rfl, ?_, now p r (den_int.mpr rfl)⟩
    rcases h1 with h1 | h1
    · exact .inl ⟨vs, .inl h1, h2.length⟩
    · exact .inr ⟨vs, .inl h1, h2.length⟩
  | none =>
    simp only [e] at p
    split at p
    · split at p
      · rename_i hl; rw [den_str.mp d]; exact ⟨_, _, rfl, ⟨big hl, rfl⟩, now p r (den_int.mpr rfl)⟩
      · exact p.elim
    · exact p.elim
theorem e_len {p : Pos} (gl : Gl X "len") (hm : X.mg "len" = none) (ha : PE X e (RE E fa))
    (he : starEach [e] X.env = (false, eval e X.env) :: starEach [] X.env := by rfl) (hpl : (backTo pos (starEach [] X.env)).any (·.1) = false := by rfl) : PE X (.Call (.Name "len" p) [e] [] pos) (RE E (e1 gLen fa)) :=
  e_call1 call_len (g_len X.K) gl hm PySem.boot_len ha (by decide) (by decide) he hpl
def gLenD (t : T) : M T := fun S => match t with
  | .obj k => (match S[k]? with
    | some (.dic kvs) => .ok (.int kvs.length) S
    | _ => .bad)
  | _ => .bad
theorem e_lenD {p : Pos} (gl : Gl X "len") (hm : X.mg "len" = none) (ha : PE X e (RE E fa))
    (he : starEach [e] X.env = (false, eval e X.env) :: starEach [] X.env := by rfl) (hpl : (backTo pos (starEach [] X.env)).any (·.1) = false := by rfl) : PE X (.Call (.Name "len" p) [e] [] pos) (RE E (e1 gLenD fa)) :=
  e_call1 call_lenD (fun t W S H v Q r d p => by
    unfold gLenD at p
    split at p
    · rename_i k
      split at p
      · rename_i kvs e
        obtain ⟨rfl, _⟩ := den_obj.mp d
        obtain ⟨⟨ks, h1, h2⟩, _⟩ := r.cell k _ e
        exact ⟨_, ks, rfl, h1, by rw [← h2.length]; exact now p r (den_int.mpr rfl)⟩
      · exact p.elim
    · exact p.elim) gl hm PySem.boot_len ha (by decide) (by decide) he hpl
def kT : Key → T
  | .inl i => .int i
  | .inr x => .str x
theorem kT_den {W : Wd} (k : Key) : Den W (kT k) (kV k) := by
  cases k with
  | inl i => exact den_int.mpr rfl
  | inr i => exact den_str.mpr rfl
def itemsOf (S : Sto) (t : T) : Option (List T) := match seqOf S t with
  | some ts => some ts
  | none => (dicOf S t).map fun kvs => kvs.map fun p => kT p.1
def gList (t : T) : M T := fun S => match itemsOf S t with
  | some ts => .ok (.lst ts) S
  | none => .bad
theorem keys_den {W : Wd} : ∀ {kvs : List (Key × T)} {ks : List (Key × V)}, DenK W kvs ks → Dens W (kvs.map fun p => kT p.1) (ks.map fun p => kV p.1)
  | [], ks, h => by rw [denk_nil.mp h]; exact Dens.nil'
  | (k, t) :: kvs, ks, h => by
    obtain ⟨v, r, rfl, h1, h2⟩ := denk_cons.mp h
    exact Dens.cons' (kT_den k) (keys_den h2)
abbrev rList (K : PySem.W.Frag) : List V → Hp → VK → Prop := fun xs H Q => (∃ p ys, xs = [.ref p] ∧ (SqL K H p ys ∨ SqT K H p ys) ∧ ∀ l, H l = none → Q (.ref l) (upd H l (.lst ys))) ∨
  (∃ a kvs, xs = [.ref a] ∧ Rd H a (.dK kvs) ∧ ∀ l, H l = none → Q (.ref l) (upd H l (.lst (kvs.map fun p => kV p.1))))
theorem items_ok {K : PySem.W.Frag} {W : Wd} {S : Sto} {H : Hp} {t : T} {v : V} {ts : List T} {Q : VK} (r : Rep W S H) (d : Den W t v) (e : itemsOf S t = some ts) (h : ∀ vs, Dens W ts vs → ∀ l, H l = none → Q (.ref l) (upd H l (.lst vs))) : rList K [v] H Q := by
  unfold itemsOf at e
  cases e1 : seqOf S t with
  | some us =>
    simp only [e1] at e
    cases e
    obtain ⟨a, vs, rfl, h1, h2⟩ := r.seq d e1
    refine .inl ⟨a, vs, rfl, ?_, h vs h2⟩
    rcases h1 with h1 | h1
    · exact .inl (.inl h1)
    · exact .inr (.inl h1)
  | none =>
    simp only [e1] at e
    obtain ⟨kvs, e2, rfl⟩ := Option.map_eq_some_iff.mp e
    obtain ⟨a, ks, rfl, h1, h2⟩ := r.dict d e2
    exact .inr ⟨a, ks, rfl, h1, h _ (keys_den h2)⟩
theorem bList : bootBuiltins "list" = some (.type "list") := by decide +kernel
theorem bTuple : bootBuiltins "tuple" = some (.type "tuple") := by decide +kernel
theorem e_list {p : Pos} (hc : X.calm = true) (gl : Gl X "list") (hm : X.mg "list" = none) (ha : PE X e (RE E fa))
    (he : starEach [e] X.env = (false, eval e X.env) :: starEach [] X.env := by rfl) (hpl : (backTo pos (starEach [] X.env)).any (·.1) = false := by rfl) : PE X (.Call (.Name "list" p) [e] [] pos) (RE E (e1 gList fa)) :=
  e_callT (call_list_of.or (call_list_dict hc)) (fun t W S H v Q r d p => by
    unfold gList at p
    cases e : itemsOf S t with
    | none => simp only [e] at p; exact p.elim
    | some ts => simp only [e] at p; exact items_ok r d e fun vs dv => frzNew p r dv) gl hm bList ha (by decide) (by decide) he hpl
def gTuple (t : T) : M T := fun S => match seqOf S t with
  | some ts => .ok (.tup ts) S
  | none => .bad
theorem e_tuple {p : Pos} (gl : Gl X "tuple") (hm : X.mg "tuple" = none) (ha : PE X e (RE E fa))
    (he : starEach [e] X.env = (false, eval e X.env) :: starEach [] X.env := by rfl) (hpl : (backTo pos (starEach [] X.env)).any (·.1) = false := by rfl) : PE X (.Call (.Name "tuple" p) [e] [] pos) (RE E (e1 gTuple fa)) :=
  e_callT call_tuple_of (fun t W S H v Q r d p => by
    unfold gTuple at p
    cases t with
    | tup ts =>
      simp only [seqOf] at p
      obtain ⟨a, vs, rfl, h1, h2⟩ := den_tup.mp d
      exact ⟨a, vs, rfl, .inr ⟨.inl (r.sub _ _ h1).1.rd, now p r d⟩⟩
    | lst ts =>
      simp only [seqOf, lstOf] at p
      obtain ⟨a, vs, rfl, h1, h2⟩ := r.list d rfl
      exact ⟨a, vs, rfl, .inl ⟨.inl h1, frzNewT p r h2⟩⟩
    | obj k =>
      cases e : lstOf S (.obj k) with
      | none => simp only [seqOf, e] at p; exact p.elim
      | some ts =>
        simp only [seqOf, e] at p
        obtain ⟨a, vs, rfl, h1, h2⟩ := r.list d e
        exact ⟨a, vs, rfl, .inl ⟨.inl h1, frzNewT p r h2⟩⟩
    | _ => exact p.elim) gl hm bTuple ha (by decide) (by decide) he hpl
inductive BT where
  | list | tuple | str | int | bool
def BT.nm : BT → String
  | .list => "list" | .tuple => "tuple" | .str => "str" | .int => "int" | .bool => "bool"
def isaS (S : Sto) (c : BT) : T → Option Bool
  | .non => some false
  | .bl _ => some (match c with | .bool => true | .int => true | _ => false)
  | .int _ => some (match c with | .int => true | _ => false)
  | .str _ => some (match c with | .str => true | _ => false)
  | .lst _ => some (match c with | .list => true | _ => false)
  | .tup _ => some (match c with | .tuple => true | _ => false)
  | .dic _ => none
  | .obj k => match S[k]? with
    | some (.lst _) => some (match c with | .list => true | _ => false)
    | _ => none
def gIsa (c : BT) (t : T) : M T := fun S => match isaS S c t with
  | some b => .ok (.bl b) S
  | none => .bad
theorem bIsinst : bootBuiltins "isinstance" = some (.builtin "isinstance") := by decide +kernel
theorem tyL {K : PySem.W.Frag} {H : Hp} {a : Addr} {vs : List V} (h : Rd H a (.lst vs)) : TyOf K H (.ref a) (.type "list") := by
  rcases h with h | ⟨o, h⟩
  · exact .lst h
  · exact .frz h
theorem e_isa {p q : Pos} {y : Str} (c : BT) (gl : Gl X "isinstance") (hm : X.mg "isinstance" = none) (ha : PE X e (RE E fa)) (gy : Gl X y) (my : X.mg y = none) (by_ : bootBuiltins y = some (.type c.nm)) (ny : y ≠ "__name__" := by decide) (dy : (y == ("__debug__" : Str)) = false := by decide)
    (he : starEach [e, .Name y q] X.env = (false, eval e X.env) :: starEach [.Name y q] X.env := by rfl) (he2 : starEach [.Name y q] X.env = (false, eval (.Name y q) X.env) :: starEach [] X.env := by rfl) (hpl : (backTo pos (starEach [.Name y q] X.env)).any (·.1) = false := by rfl) :
    PE X (.Call (.Name "isinstance" p) [e, .Name y q] [] pos) (RE E (e1 (gIsa c) fa)) :=
  pe_of (pe_callB call_isinst gl hm bIsinst (pa_cons ha (pa_cons (pe_bltn (v := .ty c.nm) gy my by_ rfl ny dy) pa_nil he2) he) (by decide) (by decide) he hpl) fun σ H Q h =>
    re1 (r := fun x H Q => ∃ x' c' cu t b, [x, .ty c.nm] = [x', c'] ∧ RelV c' cu ∧ (∀ u, RelV c' u → u = cu) ∧ TyOf X.K H x' t ∧ PySem.W.kitOne X.K t cu = some b ∧ Q (.bl b) H) (fun t W S H v Q r d p => by
      have go : ∀ {ty : Value} {b : Bool}, Post E W (QV Q) (.ok (.bl b) S) → TyOf X.K H v ty → PySem.W.kitOne X.K ty (.type c.nm) = some b → ∃ x' c' cu t b, [v, .ty c.nm] = [x', c'] ∧ RelV c' cu ∧ (∀ u, RelV c' u → u = cu) ∧ TyOf X.K H x' t ∧ PySem.W.kitOne X.K t cu = some b ∧ Q (.bl b) H :=
        fun p ht hk => ⟨_, _, _, _, _, rfl, rfl, (fun u z => z), ht, hk, now p r (den_bl.mpr rfl)⟩
      unfold gIsa at p
      cases t with
      | non => rw [den_non.mp d] at go ⊢; cases c <;> exact go p .non rfl
      | bl b => rw [den_bl.mp d] at go ⊢; cases c <;> exact go p (.bl b) rfl
      | int b => rw [den_int.mp d] at go ⊢; cases c <;> exact go p (.int b) rfl
      | str b => rw [den_str.mp d] at go ⊢; cases c <;> exact go p (.str b) rfl
      | lst ts => obtain ⟨a, vs, rfl, h1, h2⟩ := r.list d rfl; cases c <;> exact go p (tyL h1) rfl
      | tup ts =>
        obtain ⟨a, vs, rfl, h1, h2⟩ := den_tup.mp d
        cases c <;> exact go p (.tup (r.sub _ _ h1).1.tup) rfl
      | dic _ => exact p.elim
      | obj k =>
        obtain ⟨rfl, _⟩ := den_obj.mp d
        cases e : S[k]? with
        | none => simp only [isaS, e] at p; exact p.elim
        | some cl =>
          cases cl with
          | lst ts =>
            simp only [isaS, e] at p
            obtain ⟨⟨vs, h1, h2⟩, _⟩ := r.cell k _ e
            cases c <;> exact go p (.lst h1) rfl
          | dic _ => simp only [isaS, e] at p; exact p.elim
          | ins _ _ => simp only [isaS, e] at p; exact p.elim) h
end
end MF
set_option Elab.async false
set_option linter.all false
set_option maxRecDepth 100000
namespace MF
open PySem L2
def putFT (f : Str) (v : T) : List (Str × T) → List (Str × T)
  | [] => [(f, v)]
  | (g, x) :: r => if g = f then (g, v) :: r else (g, x) :: putFT f v r
theorem DenF.look {W : Wd} {f : Str} : ∀ {fs : List (Str × T)} {ks : List (Str × V)}, DenF W fs ks → (∀ t, fs.lookup f = some t → ∃ v, ks.lookup f = some v ∧ Den W t v) ∧ (fs.lookup f = none → ks.lookup f = none)
  | [], ks, h => by rw [show ks = [] from h]; exact ⟨(fun t e => by cases e), fun _ => rfl⟩
  | (g, t) :: fs, ks, h => by
    obtain ⟨v, r, rfl, h1, h2⟩ := h
    have ih := DenF.look (f := f) h2
    by_cases e : f = g
    · have b : (f == g) = true := beq_iff_eq.mpr e
      simp only [List.lookup, b]
      exact ⟨fun t' e' => by cases e'; exact ⟨v, rfl, h1⟩, fun z => by cases z⟩
    · have b : (f == g) = false := beq_eq_false_iff_ne.mpr e
      simp only [List.lookup, b]
      exact ih
theorem DenF.put {W : Wd} {f : Str} {t0 : T} {v0 : V} (d : Den W t0 v0) : ∀ {fs : List (Str × T)} {ks : List (Str × V)}, DenF W fs ks → DenF W (putFT f t0 fs) (putF f v0 ks)
  | [], ks, h => by rw [show ks = [] from h]; exact ⟨_, _, rfl, d, rfl⟩
  | (g, t) :: fs, ks, h => by
    obtain ⟨v, r, rfl, h1, h2⟩ := h
    have ih := DenF.put (f := f) d h2
    rw [show putFT f t0 ((g, t) :: fs) = (if g = f then (g, t0) :: fs else (g, t) :: putFT f t0 fs) from rfl, show putF f v0 ((g, v) :: r) = (if g = f then (g, v0) :: r else (g, v) :: putF f v0 r) from rfl]
    by_cases e : g = f
    · rw [if_pos e, if_pos e]; exact ⟨_, _, rfl, d, h2⟩
    · rw [if_neg e, if_neg e]; exact ⟨_, _, rfl, h1, ih⟩
def insOf (S : Sto) (C : Addr) : T → Option (Nat × List (Str × T))
  | .obj k => match S[k]? with
    | some (.ins C' fs) => if C' = C then some (k, fs) else none
    | _ => none
  | _ => none
theorem Rep.inst {W : Wd} {S : Sto} {H : Hp} (r : Rep W S H) {C : Addr} {t : T} {v : V} {k : Nat} {fs : List (Str × T)} (d : Den W t v) (h : insOf S C t = some (k, fs)) :
    ∃ dx ks, v = .ref (W.μ k) ∧ S[k]? = some (.ins C fs) ∧ H (W.μ k) = some (.ins C dx ks) ∧ DenF W fs ks := by
  cases t with
  | obj j =>
    obtain ⟨rfl, hj⟩ := den_obj.mp d
    unfold insOf at h
    cases e : S[j]? with
    | none => simp [e] at h
    | some c =>
      cases c with
      | ins C' fs' =>
        simp only [e] at h
        split at h
        · rename_i hc
          cases h
          subst hc
          obtain ⟨⟨dx, ks, h1, h2⟩, _⟩ := r.cell _ _ e
          exact ⟨dx, ks, rfl, e, h1, h2⟩
        · cases h
      | lst _ => simp [e] at h
      | dic _ => simp [e] at h
  | _ => simp [insOf] at h
def gFld (C : Addr) (f : Str) (t : T) : M T := fun S => match insOf S C t with
  | some (_, fs) => (match fs.lookup f with
    | some u => .ok u S
    | none => .bad)
  | none => .bad
def sFldS (C : Addr) (f : Str) (fo fv : DE) : DS := fun ρ => (fv ρ).bind fun t => (fo ρ).bind fun o => fun S => match insOf S C o with
  | some (k, fs) => if fs.length < 900 then .ok (.nx ρ) (S.set k (.ins C (putFT f t fs))) else .bad
  | none => .bad
def sDput (fd fk fv : DE) : DS := fun ρ => (fv ρ).bind fun t => (fd ρ).bind fun d => (fk ρ).bind fun k => fun S => match d, keyT k with
  | .obj j, some key => (match S[j]? with
    | some (.dic kvs) => if kvs.length ≤ 900 then .ok (.nx ρ) (S.set j (.dic (putT kvs key t))) else .bad
    | _ => .bad)
  | _, _ => .bad
section
variable {X : Cx} {E : XK} {a b c e o i value : Expr} {es : List Expr} {fa fb fc fo fv fi : DE} {ta tb : DT} {fr : DA} {pos pos' : Pos} {f : Str} {C : Addr}
theorem e_fld (cl : Cls X.K C) (na : NoAttr X.K C f) (ha : PE X e (RE E fa)) (hb : attributeBase e f X.env (eval e X.env) = eval e X.env := by rfl) : PE X (.Attribute e f pos) (RE E (e1 (gFld C f) fa)) :=
  pe_of (pe_fld ha hb) fun σ H Q h => re1 (r := fun x H1 Q => ∃ a C dx fs v, x = .ref a ∧ H1 a = some (.ins C dx fs) ∧ Cls X.K C ∧ NoAttr X.K C f ∧ fs.lookup f = some v ∧ Q v H1) (fun t W S H v Q r d p => by
    unfold gFld at p
    cases e : insOf S C t with
    | none => simp only [e] at p; exact p.elim
    | some q =>
      obtain ⟨k, fs⟩ := q
      simp only [e] at p
      cases e2 : fs.lookup f with
      | none => simp only [e2] at p; exact p.elim
      | some u =>
        simp only [e2] at p
        obtain ⟨dx, ks, rfl, h0, h1, h2⟩ := r.inst d e
        obtain ⟨v, e3, dv⟩ := h2.look.1 u e2
        exact ⟨_, C, dx, ks, v, rfl, h1, cl, na, e3, now p r dv⟩) h
theorem s_fld (cl : Cls X.K C) (na : NoAttr X.K C f) (ho : PE X o (RE E fo)) (hv : PE X value (RE E fv)) (hs : swapsWith value (some (.Attribute o f pos')) pos.line X.env = pure false := by rfl) : PS X (.Assign [.Attribute o f pos'] value pos) (RS E (sFldS C f fo fv)) :=
  ps_of (ps_fld ho hv hs) fun D σ H h => by
    obtain ⟨W, S, ρ, rp, env, p⟩ := h
    refine ⟨W, S, ρ, rp, env, (Post.bind p).imp fun t W1 S1 H1 l1 r1 p1 y dy => ?_⟩
    refine ⟨W1, S1, ρ, r1, env.mono l1, (Post.bind p1).imp fun o W2 S2 H2 l2 r2 p2 x dx => ?_⟩
    cases e : insOf S2 C o with
    | none => simp only [e] at p2; exact p2.elim
    | some q =>
      obtain ⟨k, fs⟩ := q
      simp only [e] at p2
      split at p2
      · rename_i hl
        obtain ⟨d', ks, rfl, h0, h1, h2⟩ := r2.inst dx e
        refine ⟨_, C, d', ks, rfl, h1, cl, na, by rw [← h2.length]; omega, ?_⟩
        exact p2 W2 _ (Wd.le.refl _) (r2.cellSet h0 _ _ ⟨d', _, upd_same, h2.put (Den.mono l2 _ _ dy)⟩) σ (env.mono (l1.trans l2))
      · exact p2.elim
theorem s_dput (hu : X.A.units + 1 < cLine) (ho : PE X o (RE E fo)) (hi : PE X i (RE E fi)) (hv : PE X value (RE E fv)) (hs : swapsWith value (some (.Subscript o i pos')) pos.line X.env = pure false := by rfl) : PS X (.Assign [.Subscript o i pos'] value pos) (RS E (sDput fo fi fv)) :=
  ps_of (ps_dput hu ho hi hv hs) fun D σ H h => by
    obtain ⟨W, S, ρ, rp, env, p⟩ := h
    refine ⟨W, S, ρ, rp, env, (Post.bind p).imp fun t W1 S1 H1 l1 r1 p1 v dv => ?_⟩
    refine ⟨W1, S1, ρ, r1, env.mono l1, (Post.bind p1).imp fun d W2 S2 H2 l2 r2 p2 x dx => ?_⟩
    refine ⟨W2, S2, ρ, r2, env.mono (l1.trans l2), (Post.bind p2).imp fun k W3 S3 H3 l3 r3 p3 y dy => ?_⟩
    have dx := Den.mono l3 _ _ dx
    have dv := Den.mono (l2.trans l3) _ _ dv
    split at p3
    · rename_i e2
      split at p3
      · rename_i kvs e
        split at p3
        · rename_i hl
          obtain ⟨rfl, _⟩ := den_obj.mp dx
          obtain ⟨⟨ks, h1, h2⟩, _⟩ := r3.cell _ _ e
          refine ⟨_, _, rfl, .inl ⟨ks, _, h1, keyT_den dy ‹keyT k = some _›, small1000 (by rw [← h2.length]; omega), rfl⟩, ?_⟩
          exact p3 W3 _ (Wd.le.refl _) (r3.cellSet e _ _ ⟨_, upd_same, h2.put dv _⟩) σ (env.mono (l1.trans (l2.trans l3)))
        · exact p3.elim
      · exact p3.elim
    · exact p3.elim
def eMt (ok : Sto → T → Bool) (g : T → List T → M T) (fo : DE) (fr : DA) : DE := fun ρ => (fo ρ).bind fun t => fun S => if ok S t = true then ((fr ρ).bind fun ts => g t ts) S else .bad
def okL (S : Sto) (t : T) : Bool := (lstOf S t).isSome
def okS (_ : Sto) : T → Bool
  | .str _ => true
  | _ => false
def GM (E : XK) (r : V → List V → Hp → VK → Prop) (g : T → List T → M T) : Prop := ∀ (t : T) (ts : List T) (W : Wd) (S : Sto) (H : Hp) (v : V) (vs : List V) (Q : VK), Rep W S H → Den W t v → Dens W ts vs → Post E W (QV Q) (g t ts S) → r v vs H Q
theorem tyL_ok {K : PySem.W.Frag} {W : Wd} {S : Sto} {H : Hp} {t : T} {v : V} (r : Rep W S H) (d : Den W t v) (h : okL S t = true) : tyV K "list" v H := by
  obtain ⟨ts, e⟩ := Option.isSome_iff_exists.mp h
  obtain ⟨a, vs, rfl, h1, _⟩ := r.list d e
  exact .inl ⟨rfl, vs, .inl h1⟩
theorem tyS_ok {K : PySem.W.Frag} {W : Wd} {S : Sto} {H : Hp} {t : T} {v : V} (r : Rep W S H) (d : Den W t v) (h : okS S t = true) : tyV K "str" v H := by
  cases t with
  | str x => rw [den_str.mp d]; exact rfl
  | _ => cases h
theorem e_mt {ok : Sto → T → Bool} {T' id : String} {name : Str} {r : V → List V → Hp → VK → Prop} {g : T → List T → M T} {apos : Pos} (pa : PlainAttrs T') (slot : Slot T' name id) (hty : typeOf (.builtin id) = pure (.type "method_descriptor")) (hm : MtR X id r)
    (hok : ∀ {W : Wd} {S : Sto} {H : Hp} {t : T} {v : V}, Rep W S H → Den W t v → ok S t = true → tyV X.K T' v H) (hg : GM E r g) (ho : PE X o (RE E fo)) (ha : PA X (e :: es) (RA E fr))
    (hbase : attributeBase o name X.env (eval o X.env) = eval o X.env := by rfl)
    (hfew : ((backTo pos (starEach (e :: es) X.env)).all (fun x => !x.1) && (backToKw pos (keywordEach [] X.env)).all (fun x => x.1.isSome)
      && decide ((e :: es).length + ([] : List Keyword).length + (if ([] : List Keyword).isEmpty then 0 else 1) < 30)) = true := by rfl)
    (hline : (apos.endLine == pos.line) = true := by rfl) (hs : starEach (e :: es) X.env = (false, eval e X.env) :: starEach es X.env := by rfl) (hplain : (backTo pos (starEach es X.env)).any (·.1) = false := by rfl) :
    PE X (.Call (.Attribute o name apos) (e :: es) [] pos) (RE E (eMt ok g fo fr)) :=
  pe_of (pe_bm pa slot hty hm ho ha hbase hfew hline hs hplain) fun σ H Q h => by
    obtain ⟨W, S, ρ, rp, env, p⟩ := h
    refine ⟨W, S, ρ, rp, env, (Post.bind p).imp fun t W1 S1 H1 l1 r1 p1 v dv => ?_⟩
    split at p1
    · rename_i h
      refine ⟨hok r1 dv h, W1, S1, ρ, r1, env.mono l1, (Post.bind p1).imp fun ts W2 S2 H2 l2 r2 p2 vs dvs => ?_⟩
      exact hg t ts W2 S2 H2 v vs Q r2 (Den.mono l2 _ _ dv) dvs p2
    · exact p1.elim
def cellL (S : Sto) : T → Option (Nat × List T)
  | .obj k => match S[k]? with
    | some (.lst ts) => some (k, ts)
    | _ => none
  | _ => none
theorem Rep.cellL {W : Wd} {S : Sto} {H : Hp} (r : Rep W S H) {t : T} {v : V} {k : Nat} {ts : List T} (d : Den W t v) (h : cellL S t = some (k, ts)) : ∃ vs, v = .ref (W.μ k) ∧ S[k]? = some (.lst ts) ∧ H (W.μ k) = some (.lst vs) ∧ Dens W ts vs := by
  cases t with
  | obj j =>
    obtain ⟨rfl, hj⟩ := den_obj.mp d
    unfold MF.cellL at h
    cases e : S[j]? with
    | none => simp [e] at h
    | some c =>
      cases c with
      | lst us =>
        simp only [e] at h
        cases h
        obtain ⟨⟨vs, h1, h2⟩, _⟩ := r.cell _ _ e
        exact ⟨vs, rfl, e, h1, h2⟩
      | dic _ => simp [e] at h
      | ins _ _ => simp [e] at h
  | _ => simp [MF.cellL] at h
def gApp (t : T) (as : List T) : M T := fun S => match cellL S t, as with
  | some (k, ts), [y] => if ts.length < 1000 then .ok .non (S.set k (.lst (ts ++ [y]))) else .bad
  | _, _ => .bad
def gExt (t : T) (as : List T) : M T := fun S => match cellL S t, as with
  | some (k, ts), [y] => (match lstOf S y with
    | some us => if ts.length + us.length ≤ 1000 then .ok .non (S.set k (.lst (ts ++ us))) else .bad
    | none => .bad)
  | _, _ => .bad
theorem gm_app : GM E rAppend gApp := by
  intro t as W S H v vs Q r d da p
  unfold gApp at p
  split at p
  · rename_i k ts y e
    split at p
    · rename_i hl
      obtain ⟨us, rfl, h0, h1, h2⟩ := r.cellL d e
      obtain ⟨w, rfl, dw⟩ := dens_one da
      exact ⟨_, us, w, rfl, rfl, h1, Nat.lt_of_lt_of_le (by rw [← h2.length]; exact hl) (big (Nat.le_refl _)), p W _ (Wd.le.refl _) (r.cellSet h0 _ _ ⟨_, upd_same, h2.append (Dens.cons' dw Dens.nil')⟩) _ (den_non.mpr rfl)⟩
    · exact p.elim
  · exact p.elim
def rExtendR : V → List V → Hp → VK → Prop := fun x vs H Q => ∃ l b xs zs, x = .ref l ∧ vs = [.ref b] ∧ H l = some (.lst xs) ∧ Rd H b (.lst zs) ∧ xs.length + zs.length ≤ sizeLine ∧ Q .non (upd H l (.lst (xs ++ zs)))
theorem mt_extendR : MtR X "list.extend" rExtendR := by
  intro pins s σ H x vs v us Q I rx rv h
  obtain ⟨l, b, xs, zs, rfl, rfl, hH, hB, hz, q⟩ := h
  cases rx
  obtain ⟨u, rfl, ru⟩ := rv.one
  cases ru
  obtain ⟨z, its, n, r, hl, e⟩ := I.lstM hH
  obtain ⟨z2, its2, n2, r2, e2⟩ := hB.ok I.hok
  have hl2 := r2.length
  have hsz : its.toArray.size + its2.toArray.size ≤ sizeLine := by rw [List.size_toArray, List.size_toArray]; omega
  have hlong : ¬ (!its.toArray.isEmpty && Builtin.List.listTooLong (its.toArray.size + its2.toArray.size)) = true := by
    rw [notLongL hsz, Bool.and_false]
    exact Bool.false_ne_true
  refine call_meets F.slot_list_extend ⟨_, e, rfl⟩ F.entry_list_extend (F.args_list_extend_2 _ _)
    (AutoSeq1.list_extend_list_list_0 l its.toArray n b its2.toArray n2 hlong (by rw [List.size_toArray]; omega) (by omega)) ⟨e, e2, ?_⟩
  refine ⟨.non, _, I.lset (its' := its ++ its2) hH e (by simp) (r.append r2) ?_, rfl, q⟩
  rw [List.length_append]
  omega
theorem gm_ext : GM E rExtendR gExt := by
  intro t as W S H v vs Q r d da p
  unfold gExt at p
  split at p
  · rename_i k ts y e
    cases e2 : lstOf S y with
    | none => simp only [e2] at p; exact p.elim
    | some zs =>
      simp only [e2] at p
      split at p
      · rename_i hl
        obtain ⟨us, rfl, h0, h1, h2⟩ := r.cellL d e
        obtain ⟨w, rfl, dw⟩ := dens_one da
        obtain ⟨b, ws, rfl, h3, h4⟩ := r.list dw e2
        exact ⟨_, b, us, ws, rfl, rfl, h1, h3, big (by rw [← h2.length, ← h4.length]; exact hl), p W _ (Wd.le.refl _) (r.cellSet h0 _ _ ⟨_, upd_same, h2.append h4⟩) _ (den_non.mpr rfl)⟩
      · exact p.elim
  · exact p.elim
def strsOf : List T → Option (List Str)
  | [] => some []
  | .str x :: ts => (strsOf ts).map (x :: ·)
  | _ :: _ => none
theorem strs_den {W : Wd} : ∀ {ts : List T} {vs : List V} {ys : List Str}, Dens W ts vs → strsOf ts = some ys → vs = ys.map V.str
  | [], vs, ys, h, e => by cases e; exact dens_nil.mp h
  | t :: ts, vs, ys, h, e => by
    obtain ⟨v, r, rfl, h1, h2⟩ := dens_cons.mp h
    cases t with
    | str x =>
      simp only [strsOf] at e
      obtain ⟨zs, e1, rfl⟩ := Option.map_eq_some_iff.mp e
      rw [den_str.mp h1, strs_den h2 e1]
      rfl
    | _ => simp [strsOf] at e
def gJoin (t : T) (as : List T) : M T := fun S => match t, as with
  | .str z, [y] => (match (lstOf S y).bind strsOf with
    | some ys => if (ys.map (·.length)).sum + ys.length * z.length ≤ 100000 then .ok (.str (Txt.join z ys)) S else .bad
    | none => .bad)
  | _, _ => .bad
theorem gm_join (K : PySem.W.Frag) : GM E (fun x xs H Q => ∃ z l ys, x = .str z ∧ xs = [.ref l] ∧ SqL K H l (ys.map V.str) ∧ (ys.map (·.length)).sum + ys.length * z.length ≤ 16777216 ∧ Q (.str (Txt.join z ys)) H) gJoin := by
  intro t as W S H v vs Q r d da p
  unfold gJoin at p
  split at p
  · rename_i z y
    cases e : (lstOf S y).bind strsOf with
    | none => simp only [e] at p; exact p.elim
    | some ys =>
      simp only [e] at p
      split at p
      · rename_i hl
        obtain ⟨us, e1, e2⟩ := Option.bind_eq_some_iff.mp e
        obtain ⟨w, rfl, dw⟩ := dens_one da
        obtain ⟨b, ws, rfl, h3, h4⟩ := r.list dw e1
        rw [strs_den h4 e2] at h3
        exact ⟨z, b, ys, den_str.mp d, rfl, .inl h3, by omega, now p r (den_str.mpr rfl)⟩
      · exact p.elim
  · exact p.elim
theorem m_app {apos : Pos} (ho : PE X o (RE E fo)) (ha : PA X [e] (RA E fr)) (hbase : attributeBase o "append" X.env (eval o X.env) = eval o X.env := by rfl)
    (hline : (apos.endLine == pos.line) = true := by rfl) (hs : starEach [e] X.env = (false, eval e X.env) :: starEach [] X.env := by rfl)
    (hfew : ((backTo pos (starEach [e] X.env)).all (fun x => !x.1) && (backToKw pos (keywordEach [] X.env)).all (fun x => x.1.isSome) && decide ([e].length + ([] : List Keyword).length + (if ([] : List Keyword).isEmpty then 0 else 1) < 30)) = true := by rfl) : PE X (.Call (.Attribute o "append" apos) [e] [] pos) (RE E (eMt okL gApp fo fr)) :=
  e_mt PySem.F.plainAttrs_list PySem.F.slot_list_append PySem.F.type_list_append mt_append tyL_ok gm_app ho ha hbase hfew hline hs rfl
theorem m_ext {apos : Pos} (ho : PE X o (RE E fo)) (ha : PA X [e] (RA E fr)) (hbase : attributeBase o "extend" X.env (eval o X.env) = eval o X.env := by rfl)
    (hline : (apos.endLine == pos.line) = true := by rfl) (hs : starEach [e] X.env = (false, eval e X.env) :: starEach [] X.env := by rfl)
    (hfew : ((backTo pos (starEach [e] X.env)).all (fun x => !x.1) && (backToKw pos (keywordEach [] X.env)).all (fun x => x.1.isSome) && decide ([e].length + ([] : List Keyword).length + (if ([] : List Keyword).isEmpty then 0 else 1) < 30)) = true := by rfl) : PE X (.Call (.Attribute o "extend" apos) [e] [] pos) (RE E (eMt okL gExt fo fr)) :=
  e_mt PySem.F.plainAttrs_list PySem.F.slot_list_extend PySem.F.type_list_extend mt_extendR tyL_ok gm_ext ho ha hbase hfew hline hs rfl
theorem m_join {apos : Pos} (ho : PE X o (RE E fo)) (ha : PA X [e] (RA E fr)) (hbase : attributeBase o "join" X.env (eval o X.env) = eval o X.env := by rfl)
    (hline : (apos.endLine == pos.line) = true := by rfl) (hs : starEach [e] X.env = (false, eval e X.env) :: starEach [] X.env := by rfl)
    (hfew : ((backTo pos (starEach [e] X.env)).all (fun x => !x.1) && (backToKw pos (keywordEach [] X.env)).all (fun x => x.1.isSome) && decide ([e].length + ([] : List Keyword).length + (if ([] : List Keyword).isEmpty then 0 else 1) < 30)) = true := by rfl) : PE X (.Call (.Attribute o "join" apos) [e] [] pos) (RE E (eMt okS gJoin fo fr)) :=
  e_mt PySem.F.plainAttrs_str PySem.F.slot_str_join PySem.F.type_str_join mt_join tyS_ok (gm_join X.K) ho ha hbase hfew hline hs rfl
end
end MF
set_option Elab.async false
set_option linter.all false
set_option maxRecDepth 100000
namespace MF
open PySem L2
def sNx : DS := fun ρ => M.pure (.nx ρ)
def sSeq (f g : DS) : DS := fun ρ => (f ρ).bind fun x => match x with
  | .nx ρ' => g ρ'
  | o => M.pure o
def sRet (f : DE) : DS := fun ρ => (f ρ).bind fun t => M.pure (.rt t)
def sExpr (f : DE) : DS := fun ρ => (f ρ).bind fun _ => M.pure (.nx ρ)
def sSet (i : Nat) (f : DE) : DS := fun ρ => (f ρ).bind fun t => M.pure (.nx (ρ.set i (some t)))
def sIf (c : DT) (f g : DS) : DS := fun ρ => (c ρ).bind fun b => if b = true then f ρ else g ρ
theorem post_le {α : Type} {E : XK} {W W' : Wd} {Q : α → Wd → Sto → Hp → Prop} {r : R α} (h : Post E W Q r) (l : W.le W') : Post E W' Q r := by
  cases r with
  | ok a S => exact fun W2 H2 l2 rp => h W2 H2 (l.trans l2) rp
  | exc C fs S => exact fun W2 H2 dx l2 rp => h W2 H2 dx (l.trans l2) rp
  | bad => exact h
section
variable {X : Cx} {E : XK} {a b c e o : Expr} {es : List Expr} {fa fb fc : DE} {tc : DT} {fr : DA} {pos : Pos} {st : Stmt} {rest sa sb : List Stmt} {f g : DS}
theorem rs_nx {D : Ends} {σ : St} {H : Hp} (h : RS E sNx D σ H) : D.nx σ H := by
  obtain ⟨W, S, ρ, rp, env, p⟩ := h
  exact p W H (Wd.le.refl _) rp σ env
theorem ss_nil : PSs X [] (RS E sNx) := pss_of pss_nil fun D σ H h => rs_nx h
theorem rs_seq {D : Ends} {σ : St} {H : Hp} (h : RS E (sSeq f g) D σ H) : tSeq (RS E f) (RS E g) D σ H := by
  obtain ⟨W, S, ρ, rp, env, p⟩ := h
  refine ⟨W, S, ρ, rp, env, (Post.bind p).imp fun x W1 S1 H1 l1 r1 p1 => ?_⟩
  cases x with
  | nx ρ' => exact fun σ' e' => ⟨W1, S1, ρ', r1, e', p1⟩
  | rt t => exact p1 W1 H1 (Wd.le.refl _) r1
  | bk ρ' => exact p1 W1 H1 (Wd.le.refl _) r1
  | ct ρ' => exact p1 W1 H1 (Wd.le.refl _) r1
theorem ss_cons (h1 : PS X st (RS E f)) (h2 : PSs X rest (RS E g)) : PSs X (st :: rest) (RS E (sSeq f g)) := pss_of (pss_cons h1 h2) fun D σ H h => rs_seq h
theorem ss_one (h1 : PS X st (RS E f)) : PSs X [st] (RS E f) := pss_one h1
theorem s_ret (ha : PE X e (RE E fa)) : PS X (.Return (some e) pos) (RS E (sRet fa)) := ps_of (ps_ret ha) fun D σ H h => by
  obtain ⟨W, S, ρ, rp, env, p⟩ := h
  exact ⟨W, S, ρ, rp, env, (Post.bind p).imp fun t W1 S1 H1 l1 r1 p1 v dv => p1 W1 H1 (Wd.le.refl _) r1 v dv⟩
theorem s_expr (ha : PE X e (RE E fa)) (hs : swapsWith e none pos.line X.env = pure false := by rfl) : PS X (.Expr e pos) (RS E (sExpr fa)) := ps_of (ps_expr ha hs) fun D σ H h => by
  obtain ⟨W, S, ρ, rp, env, p⟩ := h
  exact ⟨W, S, ρ, rp, env, (Post.bind p).imp fun t W1 S1 H1 l1 r1 p1 v dv => p1 W1 H1 (Wd.le.refl _) r1 σ (env.mono l1)⟩
theorem rs_set {i : Nat} {D : Ends} {σ : St} {H : Hp} (h : RS E (sSet i fa) D σ H) : tAsg (RE E fa) (gName i) D σ H := by
  obtain ⟨W, S, ρ, rp, env, p⟩ := h
  exact ⟨W, S, ρ, rp, env, (Post.bind p).imp fun t W1 S1 H1 l1 r1 p1 v dv => p1 W1 H1 (Wd.le.refl _) r1 _ ((env.mono l1).set dv i)⟩
theorem s_set {i : Nat} {x : Str} {pos' : Pos} (hN : X.N.Nodup) (hi : X.N[i]? = some x) (hx : Loc X.env.scope x) (he : PE X e (RE E fa)) (hs : swapsWith e (some (.Name x pos')) pos.line X.env = pure false := by rfl) (hf : X.fn x = true ∨ X.env.scope.names.lookup x = some .local := by first | exact .inl rfl | exact .inr rfl | assumption)
    (hkn : ∀ u : V, X.kn[i]? ≠ some (some u) := by first | assumption | exact fun u h => nomatch (show (none : Option (Option V)) = some (some u) from h) | exact fun u h => nomatch (Option.some.inj (show some (none : Option V) = some (some u) from h))) :
    PS X (.Assign [.Name x pos'] e pos) (RS E (sSet i fa)) := ps_of (ps_set hN hi hx he hs hf hkn) fun D σ H h => rs_set h
theorem s_if (hc : PT X c (RT E tc)) (ha : PSs X sa (RS E f)) (hb : PSs X sb (RS E g)) : PS X (.If c sa sb pos) (RS E (sIf tc f g)) := ps_of (ps_if hc ha hb) fun D σ H h => by
  obtain ⟨W, S, ρ, rp, env, p⟩ := h
  refine ⟨W, S, ρ, rp, env, (Post.bind p).imp fun k W1 S1 H1 l1 r1 p1 => ?_⟩
  cases k with
  | true => exact iteT ⟨W1, S1, ρ, r1, env.mono l1, p1⟩
  | false => exact iteF ⟨W1, S1, ρ, r1, env.mono l1, p1⟩
abbrev DG := T → Ev → Option Ev
def GT (gl : TG) (g : DG) : Prop := ∀ (W : Wd) (S : Sto) (H : Hp) (t : T) (x : V) (ρ ρ2 : Ev) (σ : St) (Q : St → Hp → Prop), Rep W S H → Den W t x → EnvOk W ρ σ → g t ρ = some ρ2 → (∀ σ2, EnvOk W ρ2 σ2 → Q σ2 H) → gl x σ H Q
def dName (i : Nat) : DG := fun t ρ => some (ρ.set i (some t))
theorem gt_name (i : Nat) : GT (gName i) (dName i) := fun W S H t x ρ ρ2 σ Q r d env e h => by
  cases e
  exact h _ (env.set d i)
structure ItOk (W1 : Wd) (ts : List T) (st : Sto → Prop) (J : It) : Prop where
  go : ∀ i W' S' H', W1.le W' → Rep W' S' H' → st S' → i < ts.length → J.go i H' ∧ ∀ x H'', J.yld i H' x H'' → ∃ W'' t, W'.le W'' ∧ Rep W'' S' H'' ∧ ts[i]? = some t ∧ Den W'' t x
  stop : ∀ i W' S' H', W1.le W' → Rep W' S' H' → st S' → i = ts.length → J.stop i H'
abbrev DI := Ev → M (List T × (Sto → Prop))
def RI (E : XK) (it : DI) (wi : TI) : Prop := ∀ (σ : St) (H : Hp) (R : It → Hp → Prop), (∃ W S ρ, Rep W S H ∧ EnvOk W ρ σ ∧ Post E W (fun q W1 S1 H1 => ∀ J W2 H2, W1.le W2 → Rep W2 S1 H2 → ItOk W2 q.1 q.2 J → R J H2) (it ρ S)) → wi σ H R
def iL (f : DE) : DI := fun ρ => (f ρ).bind fun t => fun S => match lstOf S t with
  | some ts => .ok (ts, fun S' => lstOf S' t = some ts) S
  | none => .bad
theorem ri_list (K : PySem.W.Frag) : RI E (iL fa) (iList K (RE E fa)) := fun σ H R h => by
  obtain ⟨W, S, ρ, rp, env, p⟩ := h
  refine ⟨W, S, ρ, rp, env, (Post.bind p).imp fun t W1 S1 H1 l1 r1 p1 v dv => ?_⟩
  cases e : lstOf S1 t with
  | none => simp only [e] at p1; exact p1.elim
  | some ts =>
    simp only [e] at p1
    obtain ⟨a, vs, rfl, h1, h2⟩ := r1.list dv e
    refine ⟨a, rfl, ⟨vs, .inl h1⟩, p1 W1 H1 (Wd.le.refl _) r1 _ W1 H1 (Wd.le.refl _) r1 ⟨fun i W' S' H' l r' st hi => ?_, fun i W' S' H' l r' st hi => ?_⟩⟩
    · obtain ⟨a', us, ea, g1, g2⟩ := r'.list (Den.mono l _ _ dv) st
      cases ea
      have hi' : i < us.length := g2.length ▸ hi
      refine ⟨⟨us, us[i], .inl g1, List.getElem?_eq_getElem hi'⟩, fun x H'' y => ?_⟩
      obtain ⟨rfl, y⟩ := y
      have ex := y us (.inl g1)
      obtain ⟨t', e1, d1⟩ := g2.get' ex
      exact ⟨W', t', Wd.le.refl _, r', e1, d1⟩
    · obtain ⟨a', us, ea, g1, g2⟩ := r'.list (Den.mono l _ _ dv) st
      cases ea
      exact ⟨us, .inl g1, by rw [← g2.length]; exact Nat.le_of_eq hi.symm⟩
def intsT (lo : Int) (n : Nat) : List T := (List.range n).map fun (k : Nat) => T.int (lo + k)
theorem intsT_len (lo : Int) (n : Nat) : (intsT lo n).length = n := by simp [intsT]
theorem intsT_at {lo : Int} {n i : Nat} (h : i < n) : (intsT lo n)[i]? = some (.int (lo + i)) := by simp [intsT, h]
def iR1 (f : DA) : DI := fun ρ => (f ρ).bind fun ts => fun S => match ts with
  | [.int j] => if -1000000 ≤ j ∧ j ≤ 1000000 then .ok (intsT 0 j.toNat, fun _ => True) S else .bad
  | _ => .bad
theorem it_range (W : Wd) (lo : Int) (n : Nat) : ItOk W (intsT lo n) (fun _ => True) (Itr lo n) := ⟨fun i W' S' H' l r' _ hi => by
  rw [intsT_len] at hi
  refine ⟨hi, fun x H'' y => ?_⟩
  obtain ⟨rfl, rfl⟩ := y
  exact ⟨W', _, Wd.le.refl _, r', intsT_at hi, den_int.mpr rfl⟩, fun i W' S' H' l r' _ hi => by
  rw [intsT_len] at hi
  exact Nat.le_of_eq hi.symm⟩
theorem ri_range1 : RI E (iR1 fr) (iRng1 (RA E fr)) := fun σ H R h => by
  obtain ⟨W, S, ρ, rp, env, p⟩ := h
  refine ⟨W, S, ρ, rp, env, (Post.bind p).imp fun ts W1 S1 H1 l1 r1 p1 vs dv => ?_⟩
  split at p1
  · rename_i j
    split at p1
    · rename_i hj
      obtain ⟨v, rfl, d1⟩ := dens_one dv
      exact ⟨j, by rw [den_int.mp d1], by omega, by omega, p1 W1 H1 (Wd.le.refl _) r1 _ W1 H1 (Wd.le.refl _) r1 (it_range W1 0 _)⟩
    · exact p1.elim
  · exact p1.elim
def Wd.zed (W : Wd) (a : Addr) (o : Obj) : Wd := ⟨W.HS, W.μ, W.n, fun b => if b = a then some o else W.Z b, W.P⟩
end
open Classical in
noncomputable def loopT (st : Sto → Prop) (g : DG) (body : DS) : List T → Ev → M Fl
  | [], ρ => fun S => if st S then .ok (.nx ρ) S else .bad
  | t :: ts, ρ => fun S => if st S then (match g t ρ with
    | some ρ1 => (body ρ1).bind (fun x => match x with
      | .nx ρ2 => loopT st g body ts ρ2
      | .ct ρ2 => loopT st g body ts ρ2
      | .bk ρ2 => M.pure (.nx ρ2)
      | .rt t => M.pure (.rt t)) S
    | none => .bad) else .bad
noncomputable def sFor (it : DI) (g : DG) (body : DS) : DS := fun ρ => (it ρ).bind fun q => loopT q.2 g body q.1 ρ
section
variable {X : Cx} {E : XK} {tg iter : Expr} {body : List Stmt} {it : DI} {wi : TI} {gl : TG} {g : DG} {fb : DS} {pos : Pos}
theorem s_for (hp : PassesOwn (model X.prog X.w) X.A X.env X.xe) (hc : X.calm = true) (hi : PI X tg iter wi) (hI : RI E it wi) (hg : PG X tg gl) (hG : GT gl g) (hb : PSs X body (RS E fb))
    (hs : ∀ x, foldedSetIterable iter X.env x = pure x := by intro _; rfl) : PS X (.For tg iter body [] pos) (RS E (sFor it g fb)) :=
  ps_of (ps_for hp hc hi hg hb hs) fun D σ H h => by
    obtain ⟨W, S, ρ, rp, env, p⟩ := h
    refine hI σ H _ ⟨W, S, ρ, rp, env, (Post.bind p).imp fun q W1 S1 H1 l1 r1 p1 J W2 H2 l2 r2 ok => ?_⟩
    obtain ⟨ts, st⟩ := q
    refine ⟨fun i m σ H => i ≤ ts.length ∧ m = ts.length - i ∧ ∃ W S ρ, W2.le W ∧ Rep W S H ∧ EnvOk W ρ σ ∧ Post E W (QF D) (loopT st g fb (ts.drop i) ρ S), ⟨_, Nat.zero_le _, rfl, W2, S1, ρ, Wd.le.refl _, r2, env.mono (l1.trans l2), ?_⟩, ?_⟩
    · rw [List.drop_zero]
      exact post_le p1 l2
    · rintro i m σ H ⟨hi, rfl, W3, S3, ρ3, l3, r3, e3, p3⟩
      by_cases hlt : i < ts.length
      · rw [List.drop_eq_getElem_cons hlt] at p3
        unfold loopT at p3
        split at p3
        · rename_i hst
          obtain ⟨go, yl⟩ := ok.go i W3 S3 H l3 r3 hst hlt
          refine .inr ⟨go, _, fun σ' H' n => ⟨ts.length - (i + 1), by omega, hlt, rfl, n⟩, fun x H' y => ?_⟩
          obtain ⟨W4, t, l4, r4, et, dt⟩ := yl x H' y
          rw [List.getElem?_eq_getElem hlt] at et
          cases et
          cases e : g ts[i] ρ3 with
          | none => simp only [e] at p3; exact p3.elim
          | some ρ4 =>
            simp only [e] at p3
            refine hG W4 S3 H' _ x ρ3 ρ4 σ _ r4 dt (e3.mono l4) e fun σ2 e4 => ⟨W4, S3, ρ4, r4, e4, (Post.bind (post_le p3 l4)).imp fun fl W5 S5 H5 l5 r5 p5 => ?_⟩
            cases fl with
            | nx ρ5 => exact fun σ5 e5 => ⟨W5, S5, ρ5, l3.trans (l4.trans l5), r5, e5, p5⟩
            | ct ρ5 => exact fun σ5 e5 => ⟨W5, S5, ρ5, l3.trans (l4.trans l5), r5, e5, p5⟩
            | bk ρ5 => exact p5 W5 H5 (Wd.le.refl _) r5
            | rt t => exact p5 W5 H5 (Wd.le.refl _) r5
        · exact p3.elim
      · have e : i = ts.length := by omega
        subst e
        rw [List.drop_length] at p3
        unfold loopT at p3
        split at p3
        · rename_i hst
          exact .inl ⟨ok.stop _ W3 S3 H l3 r3 hst rfl, p3 W3 H (Wd.le.refl _) r3 σ e3⟩
        · exact p3.elim
end
end MF
set_option Elab.async false
set_option linter.all false
set_option maxRecDepth 100000
namespace MF
open PySem L2
section
variable {X : Cx} {E : XK} {c : Expr} {body : List Stmt} {tc : DT} {fb : DS} {pos : Pos}
end
def noX {α : Type} (m : M α) : M α := fun S => match m S with
  | .exc _ _ _ => .bad
  | r => r
theorem post_noX {α : Type} {E E' : XK} {W : Wd} {Q : α → Wd → Sto → Hp → Prop} {m : M α} {S : Sto} (h : Post E W Q (noX m S)) : Post E' W Q (m S) := by
  unfold noX at h
  cases e : m S with
  | ok a S1 => rw [e] at h; exact h
  | exc C fs S1 => rw [e] at h; exact h.elim
  | bad => rw [e] at h; exact h.elim
def yesD : DT := fun _ => M.pure true
open Classical in
noncomputable def compT (st : Sto → Prop) (g : DG) (tc : DT) (te : DE) : List T → Ev → List T → M (List T)
  | [], _, acc => fun S => if st S then .ok acc S else .bad
  | t :: ts, ρ, acc => fun S => if st S then (match g t ρ with
    | some ρ1 => ((tc ρ1).bind fun ok => if ok = true then (te ρ1).bind fun y => if acc.length < 1000 then compT st g tc te ts ρ1 (acc ++ [y]) else M.bad else compT st g tc te ts ρ1 acc) S
    | none => .bad) else .bad
noncomputable def eComp (nt : Nat) (js : List Nat) (it : DI) (g : DG) (tc : DT) (te : DE) (fin : List T → M T) : DE := fun ρ =>
  (it ρ).bind fun q => (noX (compT q.2 g tc te q.1 (List.replicate nt none ++ js.map fun j => (ρ[j]?).join) [])).bind fin
def finF (ts : List T) : M T := M.pure (.lst ts)
def finC (ts : List T) : M T := fun S => .ok (.obj S.length) (S ++ [.lst ts])
theorem unp_le (W : Wd) (p : Addr) : (W.unp p).le W := ⟨fun _ _ e => e, fun _ _ e => e, fun a o e => by
  have e : (if a = p then none else W.P a) = some o := e
  by_cases z : a = p
  · rw [if_pos z] at e; cases e
  · rw [if_neg z] at e; exact e, Nat.le_refl _, fun _ _ => rfl⟩
theorem unp_mono {W W' : Wd} (l : W.le W') (p : Addr) : (W.unp p).le (W'.unp p) := ⟨l.hs, l.z, fun a o e => by
  have e : (if a = p then none else W.P a) = some o := e
  show (if a = p then none else W'.P a) = some o
  by_cases z : a = p
  · rw [if_pos z] at e; cases e
  · rw [if_neg z] at e ⊢; exact l.p a o e, l.n, l.μ⟩
theorem unp_priv {W : Wd} {p : Addr} {o : HO} : (W.unp p).le ((W.priv p o).unp p) := ⟨fun _ _ e => e, fun _ _ e => e, fun a u e => by
  have e : (if a = p then none else W.P a) = some u := e
  show (if a = p then none else upd W.P p o a) = some u
  by_cases z : a = p
  · rw [if_pos z] at e; cases e
  · rw [if_neg z] at e ⊢; rw [upd_ne z]; exact e, Nat.le_refl _, fun _ _ => rfl⟩
theorem le_unp {W : Wd} {p : Addr} (h : W.P p = none) : W.le (W.unp p) := ⟨fun _ _ e => e, fun _ _ e => e, fun a u e => by
  show (if a = p then none else W.P a) = some u
  rw [if_neg (fun z => by rw [z, h] at e; cases e)]; exact e, Nat.le_refl _, fun _ _ => rfl⟩
theorem EnvOk.hs {W W' : Wd} (hs : W'.HS = W.HS) (hμ : W'.μ = W.μ) (hn : W'.n = W.n) : ∀ {ρ : Ev} {σ : St}, EnvOk W ρ σ → EnvOk W' ρ σ
  | [], _, h => h
  | none :: ρ, σ, ⟨s, r, e, h1, h2⟩ => ⟨s, r, e, trivial, EnvOk.hs hs hμ hn h2⟩
  | some t :: ρ, σ, ⟨none, r, e, h1, h2⟩ => h1.elim
  | some t :: ρ, σ, ⟨some v, r, e, h1, h2⟩ => ⟨some v, r, e, Den.hs hs hμ hn t v h1, EnvOk.hs hs hμ hn h2⟩
def FinOk (E : XK) (fin : List T → M T) : Prop := ∀ (acc : List V) (ts : List T) (W1 W3 : Wd) (S : Sto) (H : Hp) (p : Addr) (Q : VK), W1.le (W3.unp p) → W3.P p = some (.lst acc) → Rep W3 S H → Dens W3 ts acc → Post E W1 (QV Q) (fin ts S) → Q (.ref p) H
theorem fin_F {E : XK} : FinOk E finF := fun acc ts W1 W3 S H p Q l hp r d h => by
  have l2 : (W3.unp p).le ((W3.unp p).frz p (.lst acc)) := Wd.frz_le (r.prv p _ hp).2.1
  have d1 : Dens (W3.unp p) ts acc := Dens.hs (W := W3) (W' := W3.unp p) rfl rfl rfl ts acc d
  exact h _ _ (l.trans l2) (r.privFrz hp trivial) _ (den_lst.mpr ⟨p, acc, rfl, upd_same, Dens.mono l2 _ _ d1⟩)
theorem fin_C {E : XK} : FinOk E finC := fun acc ts W1 W3 S H p Q l hp r d h => by
  have l2 : (W3.unp p).le ((W3.unp p).add p) := Wd.add_le
  have d1 : Dens (W3.unp p) ts acc := Dens.hs (W := W3) (W' := W3.unp p) rfl rfl rfl ts acc d
  refine h _ _ (l.trans l2) (r.privCell hp (.lst ts) ⟨acc, (r.prv p _ hp).1, Dens.mono l2 _ _ d1⟩) _ (den_obj.mpr ⟨?_, ?_⟩)
  · rw [r.len]; exact congrArg V.ref (Wd.add_at (W := W3.unp p)).symm
  · rw [r.len]; exact Nat.lt_succ_self _
section
variable {X : Cx} {E : XK} {elt iter c tg : Expr} {it : DI} {wi : TI} {gl : TG} {g : DG} {tc : DT} {tcl : TT} {te : DE} {fin : List T → M T} {nt : Nat} {js : List Nat}
theorem Post.bindAt {α β : Type} {E : XK} {W W2 : Wd} {Q : β → Wd → Sto → Hp → Prop} {m : M α} {f : α → M β} {S : Sto} (h : Post E W2 Q (M.bind m f S)) (l : W2.le W) : Post E W (fun a _ S1 _ => Post E W2 Q (f a S1)) (m S) := by
  unfold M.bind at h
  cases e : m S with
  | ok a S1 => rw [e] at h; exact fun _ _ _ _ => h
  | exc C fs S1 => rw [e] at h; exact fun W' H' dx l' => h W' H' dx (l.trans l')
  | bad => rw [e] at h; exact h
theorem re_comp (hI : RI E it wi) (hG : GT gl g) (htc : ∀ σ H Q, RT E0 tc σ H Q → tcl σ H Q) (hf : FinOk E fin) {σ : St} {H : Hp} {Q : VK} (h : RE E (eComp nt js it g tc te fin) σ H Q) : tComp nt js wi gl tcl (RE E0 te) σ H Q := by
  obtain ⟨W, S, ρ, rp, env, p⟩ := h
  refine hI σ H _ ⟨W, S, ρ, rp, env, (Post.bind p).imp fun q W1 S1 H1 l1 r1 p1 J W2 H2 l2 r2 ok a ha => ?_⟩
  obtain ⟨ts, st⟩ := q
  have p1 := post_noX (E' := E0) (Post.bind (post_le p1 l2))
  have pn : W2.P a = none := r2.prvNone ha
  have l12 := l1.trans l2
  refine ⟨fun i m σ2 H acc => i ≤ ts.length ∧ m = ts.length - i ∧ ∃ W3 S ρ accT, W2.le (W3.unp a) ∧ W3.P a = some (.lst acc) ∧ Rep W3 S H ∧ EnvOk W3 ρ σ2 ∧ Dens W3 accT acc ∧
    Post E0 W2 (fun res W' S' _ => Post E W' (QV Q) (fin res S')) (compT st g tc te (ts.drop i) ρ accT S), ⟨_, Nat.zero_le _, rfl, W2.priv a (.lst []), S1, List.replicate nt none ++ js.map fun j => (ρ[j]?).join, [], ?_, upd_same, r2.privNew ha _, ?_, Dens.nil', ?_⟩, ?_⟩
  · exact (le_unp pn).trans unp_priv
  · refine EnvOk.append (EnvOk.nones nt (List.length_replicate ..)) ?_
    exact (EnvOk.cap (env.mono l12) js).mono (Wd.priv_le pn)
  · rw [List.drop_zero]; exact p1
  · rintro i m σ2 H acc ⟨hi, rfl, W3, S3, ρ3, accT, l3, hp, r3, e3, dacc, p3⟩
    have l23 : W2.le W3 := l3.trans (unp_le W3 a)
    refine ⟨(r3.prv a _ hp).1, ?_⟩
    by_cases hlt : i < ts.length
    · rw [List.drop_eq_getElem_cons hlt] at p3
      unfold compT at p3
      split at p3
      · rename_i hst
        obtain ⟨go, yl⟩ := ok.go i W3 S3 H l23 r3 hst hlt
        refine .inr ⟨go, _, fun σ' H' acc' n => ⟨ts.length - (i + 1), by omega, hlt, rfl, n⟩, fun x H' y => ?_⟩
        obtain ⟨W4, t, l4, r4, et, dt⟩ := yl x H' y
        rw [List.getElem?_eq_getElem hlt] at et
        cases et
        cases e : g ts[i] ρ3 with
        | none => simp only [e] at p3; exact p3.elim
        | some ρ4 =>
          simp only [e] at p3
          refine hG W4 S3 H' _ x ρ3 ρ4 σ2 _ r4 dt (e3.mono l4) e fun σ4 e4 => ?_
          refine htc _ _ _ ⟨W4, S3, ρ4, r4, e4, (Post.bindAt p3 (l23.trans l4)).imp fun b W5 S5 H5 l5 r5 p5 => ?_⟩
          have l35 : W3.le W5 := l4.trans l5
          cases b with
          | false => exact iteF ⟨W5, S5, ρ4, accT, l3.trans (unp_mono l35 a), l35.p a _ hp, r5, e4.mono l5, Dens.mono l35 _ _ dacc, p5⟩
          | true =>
            refine iteT ⟨W5, S5, ρ4, r5, e4.mono l5, (Post.bindAt (show Post E0 W2 _ (M.bind (te ρ4) _ S5) from p5) (l23.trans l35)).imp fun ty W6 S6 H6 l6 r6 p6 y dy => ?_⟩
            have l36 : W3.le W6 := l35.trans l6
            have hp6 := l36.p a _ hp
            split at p6
            · rename_i hl
              have hla : acc.length < 1000 := by rw [← dacc.length]; exact hl
              refine ⟨(r6.prv a _ hp6).1, Nat.lt_of_lt_of_le hla (big (Nat.le_refl _)), W6.priv a (.lst (acc ++ [y])), S6, ρ4, accT ++ [ty], (l3.trans (unp_mono l36 a)).trans unp_priv, upd_same, r6.privSet hp6 _, ?_, ?_, p6⟩
              · exact EnvOk.hs (W := W6) (W' := W6.priv a (.lst (acc ++ [y]))) rfl rfl rfl ((e4.mono l5).mono l6)
              · exact Dens.hs (W := W6) (W' := W6.priv a (.lst (acc ++ [y]))) rfl rfl rfl _ _ ((Dens.mono l36 _ _ dacc).append (Dens.cons' dy Dens.nil'))
            · exact p6.elim
      · exact p3.elim
    · have e : i = ts.length := by omega
      subst e
      rw [List.drop_length] at p3
      unfold compT at p3
      split at p3
      · rename_i hst
        exact .inl ⟨ok.stop _ W3 S3 H l23 r3 hst rfl, hf acc accT (W3.unp a) W3 S3 H a Q (Wd.le.refl _) hp r3 dacc (p3 (W3.unp a) H l3 (r3.unp a))⟩
      · exact p3.elim
variable {scope : Scope} {cl : List (Str × Addr)} {nts xs : List Str} {pos : Pos}
theorem e_comp (hc : X.calm = true) (C : CompTxt X scope cl nts xs js) (hi : PI X tg iter wi) (hI : RI E it wi) (hg : ∀ fp s3 H2, PG (compCx X scope cl (nts ++ xs) fp s3 H2) tg gl) (hG : GT gl g) (he : ∀ fp s3 H2, PE (compCx X scope cl (nts ++ xs) fp s3 H2) elt (RE E0 te)) (hf : FinOk E fin)
    (hs : ∀ x, foldedSetIterable iter X.env x = pure x := by intro _; rfl) : PE X (.ListComp elt [⟨tg, iter, [], 0⟩] scope pos) (RE E (eComp nts.length js it g yesD te fin)) :=
  pe_of (pe_comp hc C hi hg he hs) fun σ H Q h => re_comp hI hG (fun σ H Q h => rt_pure h) hf h
theorem e_compT (hc : X.calm = true) (C : CompTxt X scope cl nts xs js) (hi : PI X tg iter wi) (hI : RI E it wi) (hg : ∀ fp s3 H2, PG (compCx X scope cl (nts ++ xs) fp s3 H2) tg gl) (hG : GT gl g) (ht : ∀ fp s3 H2, PT (compCx X scope cl (nts ++ xs) fp s3 H2) c (RT E0 tc)) (he : ∀ fp s3 H2, PE (compCx X scope cl (nts ++ xs) fp s3 H2) elt (RE E0 te)) (hf : FinOk E fin)
    (hs : ∀ x, foldedSetIterable iter X.env x = pure x := by intro _; rfl) : PE X (.ListComp elt [⟨tg, iter, [c], 0⟩] scope pos) (RE E (eComp nts.length js it g tc te fin)) :=
  pe_of (pe_compT hc C hi hg ht he hs) fun σ H Q h => re_comp hI hG (fun σ H Q h => h) hf h
theorem s_comp {i : Nat} {y : Str} {py spos : Pos} (hc : X.calm = true) (C : CompTxt X scope cl nts xs js) (hi : PI X tg iter wi) (hI : RI E it wi) (hg : ∀ fp s3 H2, PG (compCx X scope cl (nts ++ xs) fp s3 H2) tg gl) (hG : GT gl g) (he : ∀ fp s3 H2, PE (compCx X scope cl (nts ++ xs) fp s3 H2) elt (RE E0 te)) (hf : FinOk E fin)
    (hN : X.N.Nodup) (hy : X.N[i]? = some y) (hx : Loc X.env.scope y) (hkn : ∀ u : V, X.kn[i]? ≠ some (some u)) (hff : X.fn y = true ∨ X.env.scope.names.lookup y = some .local := by first | exact .inl rfl | exact .inr rfl | assumption)
    (hsw : swapsWith (.ListComp elt [⟨tg, iter, [], 0⟩] scope pos) (some (.Name y py)) spos.line X.env = pure true := by rfl)
    (hs : ∀ x, foldedSetIterable iter X.env x = pure x := by intro _; rfl) : PS X (.Assign [.Name y py] (.ListComp elt [⟨tg, iter, [], 0⟩] scope pos) spos) (RS E (sSet i (eComp nts.length js it g yesD te fin))) :=
  ps_of (ps_setComp hc C hi hg he hN hy hx hkn hff hsw hs) fun D σ H h => re_comp hI hG (fun σ H Q h => rt_pure h) hf (rs_set h)
end
end MF
set_option Elab.async false
set_option linter.all false
set_option maxRecDepth 100000
namespace MF
open PySem PySem.Spec PyProof.Rows L2
abbrev Fn := List T → M T
def spM (n : Nat) (F : Fn) : Sp := fun vs H Q E => ∃ W S ts, Rep W S H ∧ Dens W ts vs ∧ ts.length = n ∧ Post E W (QV Q) (F ts S)
def runD (n : Nat) (d : DS) : Fn := fun ts => (d (ts.map some ++ List.replicate (n - ts.length) none)).bind fun x => match x with
  | .rt t => M.pure t
  | .nx _ => M.pure .non
  | _ => M.bad
section
variable {P : Program} {w : World} {K : PySem.W.Frag} {mg : Str → Option Value} {base : Heap}
theorem fn_mf {x qual : Str} {st : Stmt} {dV : Value} {f : Addr} {fd : FuncData} {N ps : List Str} {k : Nat} {d : DS} (F : FunV K x qual st dV f fd) (S : FnScope N ps (defScope st))
    (hbody : ∀ (cdv : Value) (A : Around) (outer : List Env) (s : Shared) (H : Hp) (E : XK), Room k (A.deeper (envOfC qual (defScope st) s.heap.objs.size f cdv)) →
      PSs (cxOf (CXE P w) P w K mg base N qual (defScope st) f cdv A outer s H E) (defBody st) (RS E d)) : FnOk P w K mg base (CXE P w) (k + 1) f fd ps (spM ps.length (runD N.length d)) := by
  refine F.okE S (fun vs H Q E h => ?_) fun cdv A outer s H vs Q E hr h => ⟨RS E d, hbody cdv A outer s H E hr, ?_⟩
  · obtain ⟨W, S, ts, _, d, e, _⟩ := h
    rw [← d.length]; exact e
  · obtain ⟨W, S0, ts, rp, dn, e, p⟩ := h
    refine ⟨W, S0, ts.map some ++ List.replicate (N.length - ts.length) none, rp, ?_, (Post.bind p).imp fun x W1 S1 H1 l1 r1 p1 => ?_⟩
    · unfold L2.start
      rw [← dn.length]
      exact EnvOk.append (EnvOk.ofDens dn) (EnvOk.nones _ (List.length_replicate ..))
    · cases x with
      | rt t => exact p1 W1 H1 (Wd.le.refl _) r1
      | nx ρ => exact fun σ' _ => p1 W1 H1 (Wd.le.refl _) r1 .non (den_non.mpr rfl)
      | bk ρ => exact p1.elim
      | ct ρ => exact p1.elim
end
mutual
def HB (n : Nat) : T → Prop
  | .lst ts => HBs n ts
  | .tup ts => HBs n ts
  | .dic kvs => HBk n kvs
  | .obj k => k < n
  | .non => True
  | .bl _ => True
  | .int _ => True
  | .str _ => True
def HBs (n : Nat) : List T → Prop
  | [] => True
  | t :: ts => HB n t ∧ HBs n ts
def HBk (n : Nat) : List (Key × T) → Prop
  | [] => True
  | (_, t) :: ts => HB n t ∧ HBk n ts
end
def HBf (n : Nat) : List (Str × T) → Prop
  | [] => True
  | (_, t) :: ts => HB n t ∧ HBf n ts
mutual
theorem hb_of {W : Wd} : ∀ (t : T) (v : V), Den W t v → HB W.n t
  | .non, _, _ => by simp only [HB]
  | .bl _, _, _ => by simp only [HB]
  | .int _, _, _ => by simp only [HB]
  | .str _, _, _ => by simp only [HB]
  | .lst ts, v, h => by obtain ⟨a, vs, _, _, h2⟩ := den_lst.mp h; simp only [HB]; exact hbs_of ts vs h2
  | .tup ts, v, h => by obtain ⟨a, vs, _, _, h2⟩ := den_tup.mp h; simp only [HB]; exact hbs_of ts vs h2
  | .dic ts, v, h => by obtain ⟨a, vs, _, _, h2⟩ := den_dic.mp h; simp only [HB]; exact hbk_of ts vs h2
  | .obj k, v, h => by simp only [HB]; exact (den_obj.mp h).2
theorem hbs_of {W : Wd} : ∀ (ts : List T) (vs : List V), Dens W ts vs → HBs W.n ts
  | [], _, _ => by simp only [HBs]
  | t :: ts, vs, h => by obtain ⟨v, r, _, h1, h2⟩ := dens_cons.mp h; simp only [HBs]; exact ⟨hb_of t v h1, hbs_of ts r h2⟩
theorem hbk_of {W : Wd} : ∀ (ts : List (Key × T)) (vs : List (Key × V)), DenK W ts vs → HBk W.n ts
  | [], _, _ => by simp only [HBk]
  | (k, t) :: ts, vs, h => by obtain ⟨v, r, _, h1, h2⟩ := denk_cons.mp h; simp only [HBk]; exact ⟨hb_of t v h1, hbk_of ts r h2⟩
end
theorem hbf_of {W : Wd} : ∀ {ts : List (Str × T)} {vs : List (Str × V)}, DenF W ts vs → HBf W.n ts
  | [], _, _ => trivial
  | (k, t) :: ts, vs, ⟨v, r, _, h1, h2⟩ => ⟨hb_of t v h1, hbf_of h2⟩
structure Cut (W W' : Wd) (n : Nat) : Prop where
  hs : ∀ a o, W.HS a = some o → W'.HS a = some o
  μ : ∀ k, k < n → W'.μ k = W.μ k
  n : W'.n = n
mutual
theorem Den.cut {W W' : Wd} {n : Nat} (c : Cut W W' n) : ∀ (t : T) (v : V), HB n t → Den W t v → Den W' t v
  | .non, _, _, h => den_non.mpr (den_non.mp h)
  | .bl _, _, _, h => den_bl.mpr (den_bl.mp h)
  | .int _, _, _, h => den_int.mpr (den_int.mp h)
  | .str _, _, _, h => den_str.mpr (den_str.mp h)
  | .lst ts, v, b, h => by obtain ⟨a, vs, e, h1, h2⟩ := den_lst.mp h; simp only [HB] at b; exact den_lst.mpr ⟨a, vs, e, c.hs _ _ h1, Dens.cut c ts vs b h2⟩
  | .tup ts, v, b, h => by obtain ⟨a, vs, e, h1, h2⟩ := den_tup.mp h; simp only [HB] at b; exact den_tup.mpr ⟨a, vs, e, c.hs _ _ h1, Dens.cut c ts vs b h2⟩
  | .dic ts, v, b, h => by obtain ⟨a, vs, e, h1, h2⟩ := den_dic.mp h; simp only [HB] at b; exact den_dic.mpr ⟨a, vs, e, c.hs _ _ h1, DenK.cut c ts vs b h2⟩
  | .obj k, v, b, h => by obtain ⟨e, h1⟩ := den_obj.mp h; simp only [HB] at b; exact den_obj.mpr ⟨by rw [c.μ k b]; exact e, by rw [c.n]; exact b⟩
theorem Dens.cut {W W' : Wd} {n : Nat} (c : Cut W W' n) : ∀ (ts : List T) (vs : List V), HBs n ts → Dens W ts vs → Dens W' ts vs
  | [], vs, _, h => dens_nil.mpr (dens_nil.mp h)
  | t :: ts, vs, b, h => by obtain ⟨v, r, e, h1, h2⟩ := dens_cons.mp h; simp only [HBs] at b; exact dens_cons.mpr ⟨v, r, e, Den.cut c t v b.1 h1, Dens.cut c ts r b.2 h2⟩
theorem DenK.cut {W W' : Wd} {n : Nat} (c : Cut W W' n) : ∀ (ts : List (Key × T)) (vs : List (Key × V)), HBk n ts → DenK W ts vs → DenK W' ts vs
  | [], vs, _, h => denk_nil.mpr (denk_nil.mp h)
  | (k, t) :: ts, vs, b, h => by obtain ⟨v, r, e, h1, h2⟩ := denk_cons.mp h; simp only [HBk] at b; exact denk_cons.mpr ⟨v, r, e, Den.cut c t v b.1 h1, DenK.cut c ts r b.2 h2⟩
end
theorem DenF.cut {W W' : Wd} {n : Nat} (c : Cut W W' n) : ∀ {ts : List (Str × T)} {vs : List (Str × V)}, HBf n ts → DenF W ts vs → DenF W' ts vs
  | [], _, _, h => h
  | (k, t) :: ts, vs, b, ⟨v, r, e, h1, h2⟩ => ⟨v, r, e, Den.cut c t v b.1 h1, DenF.cut c b.2 h2⟩
def HBc (n : Nat) : Cell → Prop
  | .lst ts => HBs n ts
  | .dic ts => HBk n ts
  | .ins _ fs => HBf n fs
theorem hbc_of {W : Wd} {H : Hp} {a : Addr} : ∀ {c : Cell}, CellOk W H a c → HBc W.n c
  | .lst _, ⟨_, _, h⟩ => hbs_of _ _ h
  | .dic _, ⟨_, _, h⟩ => hbk_of _ _ h
  | .ins _ _, ⟨_, _, _, h⟩ => hbf_of h
theorem CellOk.cut {W W' : Wd} {H : Hp} {a : Addr} {n : Nat} (c : Cut W W' n) : ∀ {q : Cell}, HBc n q → CellOk W H a q → CellOk W' H a q
  | .lst _, b, ⟨_, h1, h⟩ => ⟨_, h1, Dens.cut c _ _ b h⟩
  | .dic _, b, ⟨_, h1, h⟩ => ⟨_, h1, DenK.cut c _ _ b h⟩
  | .ins _ _, b, ⟨_, _, h1, h⟩ => ⟨_, _, h1, DenF.cut c b h⟩
def mapO {α β : Type} (f : α → Option β) : List α → Option (List β)
  | [] => some []
  | a :: r => match f a, mapO f r with
    | some b, some bs => some (b :: bs)
    | _, _ => none
open Classical in
noncomputable def fz (S : Sto) (n : Nat) : Nat → T → Option T
  | 0, t => if HB n t then some t else none
  | f + 1, t => if HB n t then some t else match t with
    | .obj k => (match S[k]? with
      | some (.lst ts) => (mapO (fz S n f) ts).map .lst
      | some (.dic kvs) => (mapO (fun p => (fz S n f p.2).map fun t => (p.1, t)) kvs).map .dic
      | _ => none)
    | .lst ts => (mapO (fz S n f) ts).map .lst
    | .tup ts => (mapO (fz S n f) ts).map .tup
    | _ => none
open Classical in
noncomputable def frzF (F : Fn) : Fn := fun ts S => match F ts S with
  | .ok t S' => if S'.take S.length = S then (match fz S' S.length 6 t with
    | some t' => .ok t' S
    | none => .bad) else .bad
  | .exc C none S' => if S'.take S.length = S then .exc C none S else .bad
  | .exc _ (some _) _ => .bad
  | .bad => .bad
section
variable {W : Wd} {S : Sto} {H : Hp}
open Classical in
noncomputable def Wd.cut (W : Wd) (H : Hp) (n : Nat) : Wd := ⟨fun a => if W.HS a ≠ none then W.HS a else if (∃ k, n ≤ k ∧ k < W.n ∧ W.μ k = a) then H a else none, W.μ, n, W.Z, W.P⟩
open Classical in
theorem cut_hs {n : Nat} {a : Addr} {o : HO} (h : W.HS a = some o) : (W.cut H n).HS a = some o := by
  show (if W.HS a ≠ none then W.HS a else _) = some o
  rw [if_pos (by rw [h]; intro z; cases z)]; exact h
open Classical in
theorem cut_new {n k : Nat} (r : Rep W S H) (hk : n ≤ k) (hn : k < W.n) : (W.cut H n).HS (W.μ k) = H (W.μ k) := by
  obtain ⟨c, hc⟩ := r.cellAt hn
  show (if W.HS (W.μ k) ≠ none then _ else if (∃ j, n ≤ j ∧ j < W.n ∧ W.μ j = W.μ k) then H (W.μ k) else none) = _
  rw [if_neg (by rw [(r.cell k c hc).2]; exact fun z => z rfl), if_pos ⟨k, hk, hn, rfl⟩]
theorem cut_ok {n : Nat} : Cut W (W.cut H n) n := ⟨fun _ _ h => cut_hs h, fun _ _ => rfl, rfl⟩
theorem cut_le {W0 : Wd} {n : Nat} (l : W0.le W) (hn : W0.n = n) : W0.le (W.cut H n) := ⟨fun a o h => cut_hs (l.hs a o h), l.z, l.p, Nat.le_of_eq hn, l.μ⟩
open Classical in
theorem Rep.cut (r : Rep W S H) {n : Nat} (hn : n ≤ W.n) (hb : ∀ k c, k < n → S[k]? = some c → HBc n c) : Rep (W.cut H n) (S.take n) H where
  sub := fun a o e => by
    have e : (if W.HS a ≠ none then W.HS a else if (∃ k, n ≤ k ∧ k < W.n ∧ W.μ k = a) then H a else none) = some o := e
    split at e
    · exact r.sub a o e
    · split at e
      · rename_i hk
        obtain ⟨k, h1, h2, rfl⟩ := hk
        obtain ⟨c, hc⟩ := r.cellAt h2
        obtain ⟨u, hu, nf, _⟩ := (r.cell k c hc).1.some
        rw [hu] at e
        cases e
        refine ⟨.inl hu, ?_⟩
        cases o <;> first | trivial | exact absurd rfl (nf _ _)
      · cases e
  len := by rw [List.length_take, r.len]; exact Nat.min_eq_left hn
  cell := fun k c e => by
    have hk : k < n := by
      have := (List.getElem?_eq_some_iff.mp e).1
      rw [List.length_take] at this
      omega
    rw [List.getElem?_take_of_lt hk] at e
    refine ⟨(r.cell k c e).1.cut cut_ok (hb k c hk e), ?_⟩
    show (if W.HS (W.μ k) ≠ none then _ else if (∃ j, n ≤ j ∧ j < W.n ∧ W.μ j = W.μ k) then _ else none) = none
    rw [if_neg (by rw [(r.cell k c e).2]; exact fun z => z rfl), if_neg]
    rintro ⟨j, h1, h2, h3⟩
    have := r.inj j k h2 (r.lt e) h3
    omega
  inj := fun j k hj hk e => r.inj j k (Nat.lt_of_lt_of_le hj hn) (Nat.lt_of_lt_of_le hk hn) e
  zed := fun a o e => by
    obtain ⟨u, h1, h2⟩ := r.zed a o e
    exact ⟨u, cut_hs h1, h2⟩
  prv := fun a o e => by
    obtain ⟨h1, h2, h3⟩ := r.prv a o e
    refine ⟨h1, ?_, fun k hk => h3 k (Nat.lt_of_lt_of_le hk hn)⟩
    show (if W.HS a ≠ none then _ else if (∃ k, n ≤ k ∧ k < W.n ∧ W.μ k = a) then _ else none) = none
    rw [if_neg (by rw [h2]; exact fun z => z rfl), if_neg]
    rintro ⟨j, _, h5, h6⟩
    exact h3 j h5 h6
theorem fzs_den {n : Nat} {g : T → Option T} (hg : ∀ t t' v, g t = some t' → Den W t v → Den (W.cut H n) t' v) : ∀ {ts ts' : List T} {vs : List V}, mapO g ts = some ts' → Dens W ts vs → Dens (W.cut H n) ts' vs
  | [], ts', vs, e, h => by cases e; exact dens_nil.mpr (dens_nil.mp h)
  | t :: ts, ts', vs, e, h => by
    obtain ⟨v, r, rfl, h1, h2⟩ := dens_cons.mp h
    unfold mapO at e
    cases e1 : g t with
    | none => simp [e1] at e
    | some t' =>
      cases e2 : mapO g ts with
      | none => simp [e1, e2] at e
      | some ts2 =>
        simp [e1, e2] at e
        subst e
        exact Dens.cons' (hg t t' v e1 h1) (fzs_den hg e2 h2)
theorem fzk_den {n : Nat} {g : T → Option T} (hg : ∀ t t' v, g t = some t' → Den W t v → Den (W.cut H n) t' v) : ∀ {ts ts' : List (Key × T)} {vs : List (Key × V)}, mapO (fun p => (g p.2).map fun t => (p.1, t)) ts = some ts' → DenK W ts vs → DenK (W.cut H n) ts' vs
  | [], ts', vs, e, h => by cases e; exact denk_nil.mpr (denk_nil.mp h)
  | (k, t) :: ts, ts', vs, e, h => by
    obtain ⟨v, r, rfl, h1, h2⟩ := denk_cons.mp h
    unfold mapO at e
    cases e1 : g t with
    | none => simp [e1] at e
    | some t' =>
      cases e2 : mapO (fun p => (g p.2).map fun t => (p.1, t)) ts with
      | none => simp [e1, e2] at e
      | some ts2 =>
        simp [e1, e2] at e
        subst e
        exact DenK.cons' (hg t t' v e1 h1) (fzk_den hg e2 h2)
theorem fz_den (r : Rep W S H) {n : Nat} : ∀ (f : Nat) (t t' : T) (v : V), fz S n f t = some t' → Den W t v → Den (W.cut H n) t' v
  | 0, t, t', v, e, d => by
    unfold fz at e
    split at e
    · rename_i h; cases e; exact Den.cut cut_ok _ _ h d
    · cases e
  | f + 1, t, t', v, e, d => by
    unfold fz at e
    split at e
    · rename_i h; cases e; exact Den.cut cut_ok _ _ h d
    · rename_i hnb
      split at e
      · rename_i k
        obtain ⟨rfl, hk⟩ := den_obj.mp d
        have hnk : n ≤ k := by
          simp only [HB] at hnb; omega
        split at e
        · rename_i ts ec
          obtain ⟨ts', e1, rfl⟩ := Option.map_eq_some_iff.mp e
          obtain ⟨⟨vs, h1, h2⟩, _⟩ := r.cell k _ ec
          exact den_lst.mpr ⟨_, vs, rfl, (cut_new r hnk hk).trans h1, fzs_den (fz_den r f) e1 h2⟩
        · rename_i kvs ec
          obtain ⟨ts', e1, rfl⟩ := Option.map_eq_some_iff.mp e
          obtain ⟨⟨vs, h1, h2⟩, _⟩ := r.cell k _ ec
          exact den_dic.mpr ⟨_, vs, rfl, (cut_new r hnk hk).trans h1, fzk_den (fz_den r f) e1 h2⟩
        · cases e
      · rename_i ts
        obtain ⟨ts', e1, rfl⟩ := Option.map_eq_some_iff.mp e
        obtain ⟨a, vs, rfl, h1, h2⟩ := den_lst.mp d
        exact den_lst.mpr ⟨a, vs, rfl, cut_hs h1, fzs_den (fz_den r f) e1 h2⟩
      · rename_i ts
        obtain ⟨ts', e1, rfl⟩ := Option.map_eq_some_iff.mp e
        obtain ⟨a, vs, rfl, h1, h2⟩ := den_tup.mp d
        exact den_tup.mpr ⟨a, vs, rfl, cut_hs h1, fzs_den (fz_den r f) e1 h2⟩
      · cases e
end
theorem spM_frz {n : Nat} {F : Fn} {vs : List V} {H : Hp} {Q : VK} {E : XK} (h : spM n (frzF F) vs H Q E) : spM n F vs H Q E := by
  obtain ⟨W, S, ts, rp, d, hl, p⟩ := h
  refine ⟨W, S, ts, rp, d, hl, ?_⟩
  have old : ∀ {S' : Sto} {W' : Wd} {H' : Hp}, S'.take S.length = S → W.le W' → Rep W' S' H' → Rep (W'.cut H' W.n) S H' := fun {S' W' H'} e l r => by
    have := r.cut (n := W.n) l.n (fun k c hk ec => by
      have e2 : S[k]? = some c := by rw [← e, List.getElem?_take_of_lt (by rw [rp.len]; exact hk)]; exact ec
      exact hbc_of (rp.cell k c e2).1)
    rw [← rp.len] at this
    rw [e] at this
    rw [← rp.len]
    exact this
  unfold frzF at p
  cases e : F ts S with
  | bad => rw [e] at p; exact p.elim
  | ok t S' =>
    rw [e] at p
    simp only at p
    split at p
    · rename_i es
      cases ez : fz S' S.length 6 t with
      | none => rw [ez] at p; exact p.elim
      | some t' =>
        rw [ez] at p
        intro W' H' l r v dv
        refine p (W'.cut H' W.n) H' (cut_le l rfl) (old es l r) v ?_
        rw [rp.len] at ez
        exact fz_den r 6 t t' v ez dv
    · exact p.elim
  | exc C fs S' =>
    rw [e] at p
    cases fs with
    | some _ => exact p.elim
    | none =>
      simp only at p
      split at p
      · rename_i es
        intro W' H' dx l r x
        refine p (W'.cut H' W.n) H' dx (cut_le l rfl) (old es l r) ?_
        cases dx with
        | none => exact trivial
        | some _ => exact x.elim
      · exact p.elim
theorem FnOk.frz {P : Program} {w : World} {K : PySem.W.Frag} {mg : Str → Option Value} {base : Heap} {CX : CXT} {k : Nat} {f : Addr} {fd : FuncData} {ps : List Str} {n : Nat} {F : Fn} (h : FnOk P w K mg base CX k f fd ps (spM n F)) : FnOk P w K mg base CX k f fd ps (spM n (frzF F)) :=
  h.imp fun vs H Q E q => spM_frz q
end MF
set_option Elab.async false
set_option linter.all false
set_option maxRecDepth 100000
namespace MF
open PySem PySem.Spec L2
structure FnAt (P : Program) (w : World) (K : PySem.W.Frag) (mg : Str → Option Value) (base : Heap) (k : Nat) (x : Str) (ps : List Str) (F : Fn) (f : Addr) (fd : FuncData) : Prop where
  ok : FnOk P w K mg base (CXE P w) k f fd ps (spM ps.length F)
  m : mg x = some (.ref f)
  kp : PySem.W.keepIn K (.ref f) = true
  b : Binds K fd ps []
structure MeAt (P : Program) (w : World) (K : PySem.W.Frag) (mg : Str → Option Value) (base : Heap) (k : Nat) (C : Addr) (m : Str) (ps : List Str) (F : Fn) (f : Addr) (fd : FuncData) : Prop where
  ok : FnOk P w K mg base (CXE P w) k f fd ps (spM ps.length F)
  cl : Cls K C
  me : Meth K C m f
  b : Binds K fd ps []
structure MkAt (P : Program) (w : World) (K : PySem.W.Frag) (mg : Str → Option Value) (base : Heap) (k : Nat) (x : Str) (C : Addr) (ps : List Str) (F : Fn) (f : Addr) (fd : FuncData) : Prop where
  ok : FnOk P w K mg base (CXE P w) k f fd ps (spM ps.length F)
  m : mg x = some (.ref C)
  mk1 : Mk K C f
  b : Binds K fd ps []
def eCall (F : Fn) (ds : List T) (fr : DA) : DE := fun ρ => (fr ρ).bind fun ts => F (ts ++ ds)
def eMeth (C : Addr) (m : Str) (F : Fn) (ds : List T) (fo : DE) (fr : DA) : DE := fun ρ => (fo ρ).bind fun o => fun S => match insOf S C o with
  | some (_, fs) => if (fs.lookup m).isNone = true then ((fr ρ).bind fun ts => F (o :: (ts ++ ds))) S else .bad
  | none => .bad
def eMake (C : Addr) (F : Fn) (ds : List T) (fr : DA) : DE := fun ρ => (fr ρ).bind fun ts => fun S => M.bind (F (.obj S.length :: (ts ++ ds))) (fun t => match t with
  | .non => M.pure (.obj S.length)
  | _ => M.bad) (S ++ [.ins C []])
section
variable {X : Cx} {E : XK} {k : Nat} {f C : Addr} {fd : FuncData} {ps : List Str} {F : Fn} {x m : Str} {p pos apos : Pos} {e o : Expr} {es : List Expr} {fo : DE} {fr : DA} {ds : List T} {dvs : List V} {dus : List Value}
def lenF (n : Nat) (F : Fn) : Fn := fun ts S => if ts.length = n then F ts S else .bad
theorem re_callL (hd : ∀ W, Dens W ds dvs) {σ : St} {H : Hp} {Q : VK} (h : RE E (eCall (lenF ps.length F) ds fr) σ H Q) : tCall (spM ps.length F) dvs E (RA E fr) σ H Q := by
  obtain ⟨W, S, ρ, rp, env, q⟩ := h
  refine ⟨W, S, ρ, rp, env, (Post.bind q).imp fun ts W1 S1 H1 l1 r1 p1 vs dv => ?_⟩
  unfold lenF at p1
  split at p1
  · rename_i z; exact ⟨W1, S1, ts ++ ds, r1, dv.append (hd W1), z, p1⟩
  · exact p1.elim
theorem e_call (G : FnAt X.prog X.w X.K X.mg X.base k x ps F f fd) (hr : Room k X.A) (hg : Gl X x) (hx : Passes (CXE X.prog X.w) X E) (ha : PA X (e :: es) (RA E fr))
    (hdb : (x == ("__debug__" : Str)) = false := by decide) (he : starEach (e :: es) X.env = (false, eval e X.env) :: starEach es X.env := by rfl) (hpl : (backTo pos (starEach es X.env)).any (·.1) = false := by rfl) :
    PE X (.Call (.Name x p) (e :: es) [] pos) (RE E (eCall (lenF ps.length F) [] fr)) :=
  pe_of (pe_call G.ok hr hg G.m G.kp G.b .nil hx ha hdb he hpl) fun σ H Q h => re_callL (fun W => Dens.nil') h
theorem re_meth (hd : ∀ W, Dens W ds dvs) {σ : St} {H : Hp} {Q : VK} (h : RE E (eMeth C m (lenF ps.length F) ds fo fr) σ H Q) : tMeth C m (spM ps.length F) dvs E (RE E fo) (RA E fr) σ H Q := by
  obtain ⟨W, S, ρ, rp, env, q⟩ := h
  refine ⟨W, S, ρ, rp, env, (Post.bind q).imp fun t W1 S1 H1 l1 r1 p1 v dv => ?_⟩
  cases e : insOf S1 C t with
  | none => simp only [e] at p1; exact p1.elim
  | some q =>
    obtain ⟨j, fs⟩ := q
    simp only [e] at p1
    split at p1
    · rename_i hm
      obtain ⟨dx, ks, rfl, h0, h1, h2⟩ := r1.inst dv e
      refine ⟨_, dx, ks, rfl, h1, h2.look.2 (Option.isNone_iff_eq_none.mp hm), W1, S1, ρ, r1, env.mono l1, (Post.bind p1).imp fun ts W2 S2 H2 l2 r2 p2 vs dvs => ?_⟩
      unfold lenF at p2
      split at p2
      · rename_i z; exact ⟨W2, S2, t :: (ts ++ ds), r2, Dens.cons' (Den.mono l2 _ _ dv) (dvs.append (hd W2)), z, p2⟩
      · exact p2.elim
    · exact p1.elim
theorem e_meth {pl : Sem Bool} (G : MeAt X.prog X.w X.K X.mg X.base k C m ps F f fd) (hr : Room k X.A) (hx : Passes (CXE X.prog X.w) X E) (ho : PE X o (RE E fo)) (ha : PA X (e :: es) (RA E fr))
    (hst : starEach (e :: es) X.env = (false, eval e X.env) :: starEach es X.env := by rfl) (hpl : (backTo pos (starEach es X.env)).any (·.1) = false := by rfl)
    (ht : eval (.Call (.Attribute o m apos) (e :: es) [] pos) X.env = (do
      let ov ← eval o X.env
      standAt apos.atName
      let (f, first) ← holding [ov] (getMethod ov m pl)
      callWith pos f first (backTo pos (starEach (e :: es) X.env)) (backToKw pos (keywordEach [] X.env))) := by rfl) :
    PE X (.Call (.Attribute o m apos) (e :: es) [] pos) (RE E (eMeth C m (lenF ps.length F) [] fo fr)) :=
  pe_of (pe_meth ho G.cl G.me G.ok hr G.b .nil hx ha hst hpl ht) fun σ H Q h => re_meth (fun W => Dens.nil') h
theorem e_methD {pl : Sem Bool} (G : MeAt X.prog X.w X.K X.mg X.base k C m ps F f fd) (hr : Room k X.A) (hx : Passes (CXE X.prog X.w) X E) (hb : Binds X.K fd ps dus) (hv : Vals dvs dus) (hd : ∀ W, Dens W ds dvs) (ho : PE X o (RE E fo)) (ha : PA X (e :: es) (RA E fr))
    (hst : starEach (e :: es) X.env = (false, eval e X.env) :: starEach es X.env := by rfl) (hpl : (backTo pos (starEach es X.env)).any (·.1) = false := by rfl)
    (ht : eval (.Call (.Attribute o m apos) (e :: es) [] pos) X.env = (do
      let ov ← eval o X.env
      standAt apos.atName
      let (f, first) ← holding [ov] (getMethod ov m pl)
      callWith pos f first (backTo pos (starEach (e :: es) X.env)) (backToKw pos (keywordEach [] X.env))) := by rfl) :
    PE X (.Call (.Attribute o m apos) (e :: es) [] pos) (RE E (eMeth C m (lenF ps.length F) ds fo fr)) :=
  pe_of (pe_meth ho G.cl G.me G.ok hr hb hv hx ha hst hpl ht) fun σ H Q h => re_meth hd h
theorem e_meth0 {pl : Sem Bool} (G : MeAt X.prog X.w X.K X.mg X.base k C m ps F f fd) (hr : Room k X.A) (hx : Passes (CXE X.prog X.w) X E) (ho : PE X o (RE E fo))
    (ht : eval (.Call (.Attribute o m apos) [] [] pos) X.env = (do
      let ov ← eval o X.env
      standAt apos.atName
      let (f, first) ← holding [ov] (getMethod ov m pl)
      callWith pos f first (backTo pos (starEach [] X.env)) (backToKw pos (keywordEach [] X.env))) := by rfl) :
    PE X (.Call (.Attribute o m apos) [] [] pos) (RE E (eMeth C m (lenF ps.length F) [] fo aNil)) :=
  pe_of (pe_meth0 ho G.cl G.me G.ok hr G.b .nil hx ht) fun σ H Q h => by
    have h := re_meth (fun W => Dens.nil') h
    obtain ⟨W, S, ρ, rp, env, p⟩ := h
    refine ⟨W, S, ρ, rp, env, p.imp fun t W1 S1 H1 l1 r1 p1 v dv => ?_⟩
    obtain ⟨a, dx, fs, e1, e2, e3, W2, S2, ρ2, r2, env2, p2⟩ := p1 v dv
    exact ⟨a, dx, fs, e1, e2, e3, p2 W2 _ (Wd.le.refl _) r2 [] Dens.nil'⟩
theorem re_make (hd : ∀ W, Dens W ds dvs) {σ : St} {H : Hp} {Q : VK} (h : RE E (eMake C (lenF ps.length F) ds fr) σ H Q) : tMake C (spM ps.length F) dvs E (RA E fr) σ H Q := by
  obtain ⟨W, S, ρ, rp, env, q⟩ := h
  refine ⟨W, S, ρ, rp, env, (Post.bind q).imp fun ts W1 S1 H1 l1 r1 p1 vs dv a dx ha hdx hne => ?_⟩
  have keep : ∀ b u, H1 b = some u → upd (upd H1 dx (.own a)) a (.ins C dx []) b = some u := fun b u z => by
    rw [upd_ne (ne_of_none z ha), upd_ne (ne_of_none z hdx)]; exact z
  have r2 : Rep (W1.add a) (S1 ++ [.ins C []]) (upd (upd H1 dx (.own a)) a (.ins C dx [])) := r1.cellNew' ha keep (.ins C []) ⟨dx, [], upd_same, rfl⟩
  have l2 : W1.le (W1.add a) := Wd.add_le
  have da : Den (W1.add a) (.obj S1.length) (.ref a) := den_obj.mpr ⟨by rw [r1.len, Wd.add_at], by rw [r1.len]; exact Nat.lt_succ_self _⟩
  have p2 := Post.bind (post_le p1 l2)
  by_cases z : (T.obj S1.length :: (ts ++ ds)).length = ps.length
  · have e : lenF ps.length F (.obj S1.length :: (ts ++ ds)) (S1 ++ [.ins C []]) = F (.obj S1.length :: (ts ++ ds)) (S1 ++ [.ins C []]) := if_pos z
    rw [e] at p2
    refine ⟨W1.add a, S1 ++ [.ins C []], .obj S1.length :: (ts ++ ds), r2, Dens.cons' da ((Dens.mono l2 _ _ dv).append (hd _)), z, p2.imp fun t W3 S3 H3 l3 r3 p4 v dv3 => ?_⟩
    cases t with
    | non => exact ⟨den_non.mp dv3, now p4 r3 (Den.mono l3 _ _ da)⟩
    | _ => exact p4.elim
  · have e : lenF ps.length F (.obj S1.length :: (ts ++ ds)) (S1 ++ [.ins C []]) = .bad := if_neg z
    rw [e] at p2; exact p2.elim
theorem e_make (G : MkAt X.prog X.w X.K X.mg X.base k x C ps F f fd) (hr : Room (k + 1) X.A) (hg : Gl X x) (hx : Passes (CXE X.prog X.w) X E) (ha : PA X (e :: es) (RA E fr))
    (hdb : (x == ("__debug__" : Str)) = false := by decide) (he : starEach (e :: es) X.env = (false, eval e X.env) :: starEach es X.env := by rfl) (hpl : (backTo pos (starEach es X.env)).any (·.1) = false := by rfl) :
    PE X (.Call (.Name x p) (e :: es) [] pos) (RE E (eMake C (lenF ps.length F) [] fr)) :=
  pe_of (pe_make G.mk1 G.ok hr hg G.m G.b .nil hx ha hdb he hpl) fun σ H Q h => re_make (fun W => Dens.nil') h
theorem e_make0 (G : MkAt X.prog X.w X.K X.mg X.base k x C ps F f fd) (hr : Room (k + 1) X.A) (hg : Gl X x) (hx : Passes (CXE X.prog X.w) X E)
    (hdb : (x == ("__debug__" : Str)) = false := by decide) : PE X (.Call (.Name x p) [] [] pos) (RE E (eMake C (lenF ps.length F) [] aNil)) :=
  pe_of (pe_make0 G.mk1 G.ok hr hg G.m G.b .nil hx hdb) fun σ H Q h => by
    have h := re_make (fun W => Dens.nil') h
    obtain ⟨W, S, ρ, rp, env, p⟩ := h
    exact p W H (Wd.le.refl _) rp [] Dens.nil'
theorem e_gint {i : Int} {t : Tok} (hg : Gl X x) (hm : X.mg x = some (.int i t)) (hd : (x == ("__debug__" : Str)) = false := by decide) : PE X (.Name x p) (RE E (eC (.int i))) :=
  pe_of (pe_glob (v := .int i) hg hm ⟨t, rfl⟩ hd) fun σ H Q h => re_c (fun W => den_int.mpr rfl) h
def gRepr (t : T) : M T := fun S => match t with
  | .str y => if (reprText y).length ≤ 1000 then .ok (.str (reprText y)) S else .bad
  | _ => .bad
theorem e_repr (he : PE X e (RE E fo)) : PE X (.FormattedValue e 114 none pos) (RE E (e1 gRepr fo)) := pe_of (pe_repr he) fun σ H Q h =>
  re1 (r := fun v H1 Q => ∃ y, v = .str y ∧ (reprText y).length ≤ sizeLine ∧ Q (.str (reprText y)) H1) (fun t W S H v Q r d p => by
    unfold gRepr at p
    split at p
    · split at p
      · rename_i hl; exact ⟨_, den_str.mp d, big hl, now p r (den_str.mpr rfl)⟩
      · exact p.elim
    · exact p.elim) h
def jT : Str → List DE → DE
  | acc, [] => fun _ S => if acc.length ≤ 1000 then .ok (.str acc) S else .bad
  | acc, f :: fs => fun ρ => (f ρ).bind fun t => match t with
    | .str y => (fun S => if (acc ++ y).length ≤ 1000 then jT (acc ++ y) fs ρ S else .bad)
    | _ => M.bad
inductive PJM (X : Cx) (E : XK) : List Expr → List DE → Prop where
  | nil : PJM X E [] []
  | cons {e : Expr} {es : List Expr} {f : DE} {fs : List DE} : PE X e (RE E f) → PJM X E es fs → PJM X E (e :: es) (f :: fs)
theorem PJM.pj {es : List Expr} {fs : List DE} (h : PJM X E es fs) : PJ X es (fs.map (RE E)) := by
  induction h with
  | nil => exact .nil
  | cons h _ ih => exact .cons h ih
theorem re_j : ∀ (fs : List DE) (acc : Str) {σ : St} {H : Hp} {Q : VK}, RE E (jT acc fs) σ H Q → tJ acc (fs.map (RE E)) σ H Q
  | [], acc, σ, H, Q, h => by
    obtain ⟨W, S, ρ, rp, env, p⟩ := h
    unfold jT at p
    split at p
    · rename_i hl; exact ⟨big hl, now p rp (den_str.mpr rfl)⟩
    · exact p.elim
  | f :: fs, acc, σ, H, Q, h => by
    obtain ⟨W, S, ρ, rp, env, p⟩ := h
    refine ⟨W, S, ρ, rp, env, (Post.bind p).imp fun t W1 S1 H1 l1 r1 p1 v dv => ?_⟩
    split at p1
    · split at p1
      · rename_i y hl
        exact ⟨y, den_str.mp dv, big hl, re_j fs (acc ++ y) ⟨W1, S1, ρ, r1, env.mono l1, p1⟩⟩
      · exact p1.elim
    · exact p1.elim
theorem e_joined {a b : Expr} {r : List Expr} {fs : List DE} (h : PJM X E (a :: b :: r) fs) : PE X (.JoinedStr (a :: b :: r) pos) (RE E (jT Str.empty fs)) := pe_of (pe_joined h.pj) fun σ H Q h => re_j fs Str.empty h
def sRaiseD (C : Addr) (fr : DA) : DS := fun ρ => (fr ρ).bind fun ts => fun S => if ts.length ≤ 1000 then .exc C none S else .bad
theorem s_raise {np cpos : Pos} (hx : RaisesTo X E) (hc : X.calm = true) (q : PySem.W.excIn X.K C bmVE "ValueError.__new__" = true) (hg : Gl X x) (hm : X.mg x = some (.ref C)) (ha : PA X (e :: es) (RA E fr))
    (hdb : (x == ("__debug__" : Str)) = false := by decide) (he : starEach (e :: es) X.env = (false, eval e X.env) :: starEach es X.env := by rfl) (hpl : (backTo cpos (starEach es X.env)).any (·.1) = false := by rfl) :
    PS X (.Raise (some (.Call (.Name x np) (e :: es) [] cpos)) none pos) (RS E (sRaiseD C fr)) := ps_of (ps_raise hx hc q hg hm ha hdb he hpl) fun D σ H h => by
  obtain ⟨W, S, ρ, rp, env, p⟩ := h
  refine ⟨W, S, ρ, rp, env, (Post.bind p).imp fun ts W1 S1 H1 l1 r1 p1 vs dv => ?_⟩
  split at p1
  · rename_i hl; exact ⟨big (by rw [← dv.length]; exact hl), p1 W1 H1 none (Wd.le.refl _) r1 trivial⟩
  · exact p1.elim
end
end MF
set_option Elab.async false
set_option linter.all false
set_option maxRecDepth 100000
namespace L2
open PySem PySem.Spec PyProof.Rows
def Itv (K : PySem.W.Frag) (a : Addr) (n : Nat) : It :=
  ⟨fun i H => ∃ xs x, SqL K H a xs ∧ xs.length = n ∧ i < n ∧ xs[n - 1 - i]? = some x, fun i H x H' => H' = H ∧ ∀ xs, SqL K H a xs → xs[n - 1 - i]? = some x, fun i H => i = n⟩
theorem turn_rev {P : Program} {w : World} {K : PySem.W.Frag} {tg : Expr} (a it : Addr) (n : Nat) : Turn P w K tg (Itv K a n) [it] it (fun i h => h.IsRevIter it a ((n : Int) - 1 - (i : Int))) where
  mem := by simp
  obj := fun i h st b hb => by
    have e : b = it := by simpa using hb
    subst e
    obtain ⟨o, e, c, d⟩ := st
    exact ⟨o, e, fun v z => by rw [d] at z; cases z⟩
  keep := fun i h h' st k => st.at fun o e => k it (by simp) o e
  item := by
    intro X hP hw hK hc i pins s σ H E I hf st hg
    subst hP hw hK
    obtain ⟨xs, x, hq, hn, hi, hx⟩ := hg
    obtain ⟨its, rv, p, hz⟩ := I.list hq
    obtain ⟨u, hu, ru⟩ := rv.get hx
    obtain ⟨f0, f1, f2, f3, f4, f5⟩ := hf it (by simp)
    have e0 : (n : Int) - 1 - (i : Int) = ((n - 1 - i : Nat) : Int) := by omega
    have st2 := st
    rw [e0] at st2
    refine wpAny_pyNext_rev_item st2 p.isList (x := u) (by simpa using hu) fun h' st' sb => ?_
    have e1 : ((n - 1 - i : Nat) : Int) - 1 = (n : Int) - 1 - ((i + 1 : Nat) : Int) := by omega
    rw [e1] at st'
    have I1 : Inv X pins σ H { s with heap := h' } := I.turned (t' := s.toks) (fun b o hb e => (sb.2 b hb).trans e) f0 f1 f3 f4 f5
    obtain ⟨o, e, c, d⟩ := id st'
    exact ⟨u, rfl, go_of (s := { s with heap := h' }) e c d (by decide) ⟨x, H, I1, ru, ⟨rfl, fun ys hy => by rw [I.list_inj hy hq]; exact hx⟩, st', fun b hb => (hf b hb).1⟩⟩
  done := by
    intro X hP hw hK hc i pins s σ H E I hf st hg
    subst hP hw hK
    have hg : i = n := hg
    subst hg
    obtain ⟨f0, f1, f2, f3, f4, f5⟩ := hf it (by simp)
    have e0 : (i : Int) - 1 - (i : Int) = -1 := by omega
    rw [e0] at st
    exact wpAny_pyNext_rev_end (I.ok.hd hc) st fun h' eb => ⟨rfl, I.turned (t' := s.toks) (fun b o hb e => eb b o hb e) f0 f1 f3 f4 f5⟩
  self := fun _ _ _ _ _ st h => wpAny_pyIter_revIter st h
def iRevT (K : PySem.W.Frag) (ta : TA) : TI := fun σ H R => ta σ H fun vs H1 => ∃ a xs, vs = [.ref a] ∧ SqL K H1 a xs ∧ R (Itv K a xs.length) H1
theorem bRev : bootBuiltins "reversed" = some (.type "reversed") := by decide +kernel
theorem pi_rev {X : Cx} {tg a : Expr} {ta : TA} {p pos : Pos} (hg : Gl X "reversed") (hm : X.mg "reversed" = none) (ha : PA X [a] ta) (hs : starEach [a] X.env = [(false, eval a X.env)] := by rfl) : PI X tg (.Call (.Name "reversed" p) [a] [] pos) (iRevT X.K ta) := by
  intro pins s σ H R I h
  refine Call_ (ld_blt I hg hm bRev (PyProof.Rows.callWith_type1 (thn (ha pos pins s σ H _ I h) fun us s1 ⟨vs, H1, I1, r1, q1⟩ => ?_) hs rfl))
  obtain ⟨b, xs, e, hq, q⟩ := q1
  subst e
  cases r1 with
  | cons r rr =>
    cases rr
    cases r
    obtain ⟨its, rv, pl, hz⟩ := I1.list hq
    have hlen := rv.length
    refine call_reversed_list pl.isList ?_
    refine wpAny_pyIter_revIter (it := s1.heap.objs.size) (l := b) (i := (its.toArray.size : Int) - 1) ⟨_, Heap.get?_push_size _ rfl, rfl, rfl⟩ ?_
    refine ⟨s1.heap.objs.size, [s1.heap.objs.size], _, _, H1, rfl, I1.kept (t' := s1.toks) fun b o e => Heap.get?_push_of_some _ e, turn_rev b _ xs.length, ?_, fun c hb => ?_, q⟩
    · refine ⟨_, Heap.get?_push_size _ rfl, rfl, ?_⟩
      show Data.fields #[.ref b, rawInt ((its.toArray.size : Int) - 1)] = Data.fields #[.ref b, rawInt ((xs.length : Int) - 1 - ((0 : Nat) : Int))]
      rw [show ((its.toArray.size : Int) - 1) = (xs.length : Int) - 1 - ((0 : Nat) : Int) by rw [List.size_toArray]; omega]
    · have e : c = s1.heap.objs.size := by simpa using hb
      subst e
      exact I1.fpOk (Nat.le_refl _) (I1.hok.fresh (Nat.le_refl _))
end L2
namespace MF
open PySem L2
theorem hknNil {i : Nat} : ∀ u : V, ([] : St)[i]? ≠ some (some u) := fun u h => nomatch (show (none : Option (Option V)) = some (some u) from h)
theorem vals_non1 : Vals [V.non] [Value.none] := .cons rfl .nil
theorem dens_non1 (W : Wd) : Dens W [T.non] [V.non] := Dens.cons' (den_non.mpr rfl) Dens.nil'
structure Cl where
  hall : Addr
  place : Addr
  piece : Addr
  run : Addr
  hallError : Addr
  nameThere : Addr
  noPlace : Addr
  noPiece : Addr
  tooMany : Addr
  noAnswer : Addr
  ring : Addr
  barred : Addr
  deedFault : Addr
section
variable {X : Cx} {E : XK} {a b c e o : Expr} {es : List Expr} {fa fb fc fo : DE} {fr : DA} {pos p : Pos} {x : Str}
theorem e_gcon {i : Int} (hg : Gl X x) (hm : ∃ t, X.mg x = some (.int i t)) (hd : (x == ("__debug__" : Str)) = false := by decide) : PE X (.Name x p) (RE E (eC (.int i))) := by
  obtain ⟨t, hm⟩ := hm
  exact e_gint hg hm hd
def iRev (f : DA) : DI := fun ρ => (f ρ).bind fun as => fun S => match as with
  | [t] => (match lstOf S t with
    | some ts => .ok (ts.reverse, fun S' => lstOf S' t = some ts) S
    | none => .bad)
  | _ => .bad
theorem ri_rev (K : PySem.W.Frag) : RI E (iRev fr) (iRevT K (RA E fr)) := fun σ H R h => by
  obtain ⟨W, S, ρ, rp, env, p⟩ := h
  refine ⟨W, S, ρ, rp, env, (Post.bind p).imp fun as W1 S1 H1 l1 r1 p1 vs dv => ?_⟩
  split at p1
  · rename_i t
    cases e : lstOf S1 t with
    | none => simp only [e] at p1; exact p1.elim
    | some ts =>
      simp only [e] at p1
      obtain ⟨v, rfl, d1⟩ := dens_one dv
      obtain ⟨a, us, rfl, h1, h2⟩ := r1.list d1 e
      have hn := h2.length
      refine ⟨a, us, rfl, .inl h1, p1 W1 H1 (Wd.le.refl _) r1 _ W1 H1 (Wd.le.refl _) r1 ⟨fun i W' S' H' l r' st hi => ?_, fun i W' S' H' l r' st hi => ?_⟩⟩
      · obtain ⟨a', zs, ea, g1, g2⟩ := r'.list (Den.mono l _ _ d1) st
        cases ea
        have hz := g2.length
        have hi : i < ts.reverse.length := hi
        rw [List.length_reverse] at hi
        have hj : us.length - 1 - i < zs.length := by omega
        refine ⟨⟨zs, zs[us.length - 1 - i], .inl g1, by omega, by omega, List.getElem?_eq_getElem hj⟩, fun x H'' y => ?_⟩
        obtain ⟨rfl, y⟩ := y
        have ex := y zs (.inl g1)
        obtain ⟨t', e1, d2⟩ := g2.get' ex
        refine ⟨W', t', Wd.le.refl _, r', ?_, d2⟩
        show ts.reverse[i]? = some t'
        rw [List.getElem?_reverse (by omega), ← e1]
        congr 1
        omega
      · have hi : i = ts.reverse.length := hi
        rw [List.length_reverse] at hi
        exact hi.trans hn
  · exact p1.elim
end
end MF
set_option Elab.async false
set_option linter.all false
set_option maxRecDepth 100000
namespace MF
open PySem L2
variable {S : Sto} {ρ : Ev}
@[simp] theorem x_bind {α β : Type} (m : M α) (f : α → M β) : M.bind m f S = (match m S with | .ok a S' => f a S' | .exc C fs S' => .exc C fs S' | .bad => .bad) := rfl
@[simp] theorem x_pure {α : Type} (a : α) : M.pure a S = .ok a S := rfl
@[simp] theorem x_bad {α : Type} : (M.bad : M α) S = .bad := rfl
@[simp] theorem x_var (i : Nat) : eVar i ρ S = (match ρ[i]? with | some (some t) => .ok t S | _ => .bad) := by
  unfold eVar
  split <;> simp_all
@[simp] theorem x_c (t : T) : eC t ρ S = .ok t S := rfl
@[simp] theorem x_e2 (g : T → T → M T) (a b : DE) : e2 g a b ρ S = (a ρ).bind (fun x => (b ρ).bind fun y => g x y) S := rfl
@[simp] theorem x_e1 (g : T → M T) (a : DE) : e1 g a ρ S = (a ρ).bind g S := rfl
@[simp] theorem x_anil : aNil ρ S = .ok [] S := rfl
@[simp] theorem x_acons (a : DE) (r : DA) : aCons a r ρ S = (a ρ).bind (fun t => (r ρ).bind fun ts => M.pure (t :: ts)) S := rfl
@[simp] theorem x_eA (g : List T → M T) (f : DA) : eA g f ρ S = (f ρ).bind g S := rfl
@[simp] theorem x_gI (f : Int → Int → Option T) (i j : Int) : gI f (.int i) (.int j) S = (match f i j with | some t => .ok t S | none => .bad) := rfl
@[simp] theorem x_fSub (i j : Int) : fSub i j = some (.int (i - j)) := rfl
@[simp] theorem x_fLt (i j : Int) : fLt i j = some (.bl (decide (i < j))) := rfl
@[simp] theorem x_fGt (i j : Int) : fGt i j = some (.bl (decide (j < i))) := rfl
@[simp] theorem x_fGe (i j : Int) : fGe i j = some (.bl (decide (j ≤ i))) := rfl
@[simp] theorem x_fMul (i j : Int) : fMul i j = (if (-(2 ^ 64) < i ∧ i < 2 ^ 64) ∨ (-(2 ^ 64) < j ∧ j < 2 ^ 64) then some (.int (i * j)) else none) := rfl
@[simp] theorem x_fDiv (i j : Int) : fDiv i j = (if 0 < j ∧ j < 1073741824 then some (.int (i / j)) else none) := rfl
@[simp] theorem x_fMod (i j : Int) : fMod i j = (if 0 < j then some (.int (i % j)) else none) := rfl
@[simp] theorem x_fPow (i j : Int) : fPow i j = (if 0 ≤ j ∧ j ≤ 1000 ∧ i.natAbs < 2 ^ 64 then some (.int (i ^ j.toNat)) else none) := rfl
@[simp] theorem x_addI (i j : Int) : gAdd (.int i) (.int j) S = .ok (.int (i + j)) S := rfl
@[simp] theorem x_addS (i j : Str) : gAdd (.str i) (.str j) S = (if i.length + j.length ≤ 1000 then .ok (.str (i ++ j)) S else .bad) := rfl
@[simp] theorem x_addL (xs ys : List T) : gAdd (.lst xs) (.lst ys) S = (if xs.length + ys.length ≤ 1000 then .ok (.lst (xs ++ ys)) S else .bad) := rfl
@[simp] theorem x_eqI (i j : Int) : gEq (.int i) (.int j) S = .ok (.bl (decide (i = j))) S := by
  simp [gEq, eqS, toV, scal]
@[simp] theorem x_eqS (i j : Str) : gEq (.str i) (.str j) S = .ok (.bl (decide (i = j))) S := by
  simp [gEq, eqS, toV, scal]
@[simp] theorem x_eqB (i j : Bool) : gEq (.bl i) (.bl j) S = .ok (.bl (decide (i = j))) S := by
  simp [gEq, eqS, toV, scal]
@[simp] theorem x_neI (i j : Int) : gNe (.int i) (.int j) S = .ok (.bl (!decide (i = j))) S := by
  simp [gNe, eqS, toV, scal]
@[simp] theorem x_neS (i j : Str) : gNe (.str i) (.str j) S = .ok (.bl (!decide (i = j))) S := by
  simp [gNe, eqS, toV, scal]
@[simp] theorem x_boolM (b : Bool) : boolM (.bl b) S = .ok b S := rfl
@[simp] theorem x_truB (b : Bool) : truM (.bl b) S = .ok b S := rfl
@[simp] theorem x_truL (ts : List T) : truM (.lst ts) S = .ok (!ts.isEmpty) S := rfl
@[simp] theorem x_tst (f : DE) : tst f ρ S = (f ρ).bind boolM S := rfl
@[simp] theorem x_tru (f : DE) : tru f ρ S = (f ρ).bind truM S := rfl
@[simp] theorem x_or (f g : DT) : tOrD f g ρ S = (f ρ).bind (fun c => if c = true then M.pure true else g ρ) S := rfl
@[simp] theorem x_not (f : DT) : tNotD f ρ S = (f ρ).bind (fun c => M.pure (!c)) S := rfl
@[simp] theorem x_eIf (c : DT) (f g : DE) : eIf c f g ρ S = (c ρ).bind (fun b => if b = true then f ρ else g ρ) S := rfl
@[simp] theorem x_lstF (ts : List T) : lstF ts S = (if ts.length ≤ 1000 then .ok (.lst ts) S else .bad) := rfl
@[simp] theorem x_lstC (ts : List T) : lstC ts S = (if ts.length ≤ 1000 then .ok (.obj S.length) (S ++ [.lst ts]) else .bad) := rfl
@[simp] theorem x_tupF (ts : List T) : tupF ts S = (if ts.length ≤ 1000 then .ok (.tup ts) S else .bad) := rfl
@[simp] theorem x_dict0 : eDict0 ρ S = .ok (.obj S.length) (S ++ [.dic []]) := rfl
@[simp] theorem x_nx : sNx ρ S = .ok (.nx ρ) S := rfl
@[simp] theorem x_seq (f g : DS) : sSeq f g ρ S = (f ρ).bind (fun x => match x with | .nx ρ' => g ρ' | o => M.pure o) S := rfl
@[simp] theorem x_ret (f : DE) : sRet f ρ S = (f ρ).bind (fun t => M.pure (.rt t)) S := rfl
@[simp] theorem x_expr (f : DE) : sExpr f ρ S = (f ρ).bind (fun _ => M.pure (.nx ρ)) S := rfl
@[simp] theorem x_set (i : Nat) (f : DE) : sSet i f ρ S = (f ρ).bind (fun t => M.pure (.nx (ρ.set i (some t)))) S := rfl
@[simp] theorem x_if (c : DT) (f g : DS) : sIf c f g ρ S = (c ρ).bind (fun b => if b = true then f ρ else g ρ) S := rfl
@[simp] theorem x_runD (n : Nat) (d : DS) (ts : List T) : runD n d ts S = (match d (ts.map some ++ List.replicate (n - ts.length) none) S with
  | .ok (.rt t) S' => .ok t S' | .ok (.nx _) S' => .ok .non S' | .ok _ _ => .bad | .exc C fs S' => .exc C fs S' | .bad => .bad) := by
  unfold runD
  rw [x_bind]
  split <;> simp_all
  rename_i x _ _
  cases x <;> rfl
@[simp] theorem x_call (F : Fn) (ds : List T) (fr : DA) : eCall F ds fr ρ S = (fr ρ).bind (fun ts => F (ts ++ ds)) S := rfl
@[simp] theorem x_len (n : Nat) (F : Fn) (ts : List T) : lenF n F ts S = (if ts.length = n then F ts S else .bad) := rfl
@[simp] theorem x_seqL (ts : List T) : seqOf S (.lst ts) = some ts := rfl
@[simp] theorem x_seqT (ts : List T) : seqOf S (.tup ts) = some ts := rfl
@[simp] theorem x_lstL (ts : List T) : lstOf S (.lst ts) = some ts := rfl
@[simp] theorem x_lenL (ts : List T) : gLen (.lst ts) S = .ok (.int ts.length) S := rfl
@[simp] theorem x_ixL (ts : List T) (i : Int) : gIx (.lst ts) (.int i) S = (match atI ts i with | some t => .ok t S | none => .bad) := rfl
@[simp] theorem x_ixT (ts : List T) (i : Int) : gIx (.tup ts) (.int i) S = (match atI ts i with | some t => .ok t S | none => .bad) := rfl
@[simp] theorem x_ixS (z : Str) (i : Int) : gIx (.str z) (.int i) S = (if z.length ≤ 1000 then (match atI z.cps.toList i with | some c => .ok (.str ⟨#[c]⟩) S | none => .bad) else .bad) := rfl
@[simp] theorem x_at0 {α : Type} (a : α) (r : List α) : atI (a :: r) 0 = some a := by
  have : (0 : Int) = ((0 : Nat) : Int) := rfl
  rw [this]; exact atI_nat rfl
@[simp] theorem x_at1 {α : Type} (a b : α) (r : List α) : atI (a :: b :: r) 1 = some b := by
  have : (1 : Int) = ((1 : Nat) : Int) := rfl
  rw [this]; exact atI_nat rfl
@[simp] theorem x_at2 {α : Type} (a b d : α) (r : List α) : atI (a :: b :: d :: r) 2 = some d := by
  have : (2 : Int) = ((2 : Nat) : Int) := rfl
  rw [this]; exact atI_nat rfl
@[simp] theorem x_at3 {α : Type} (a b d e : α) (r : List α) : atI (a :: b :: d :: e :: r) 3 = some e := by
  have : (3 : Int) = ((3 : Nat) : Int) := rfl
  rw [this]; exact atI_nat rfl
@[simp] theorem x_at4 {α : Type} (a b d e f : α) (r : List α) : atI (a :: b :: d :: e :: f :: r) 4 = some f := by
  have : (4 : Int) = ((4 : Nat) : Int) := rfl
  rw [this]; exact atI_nat rfl
theorem atI_ge {α : Type} {ts : List α} {i : Int} (h0 : 0 ≤ i) (h1 : i < ts.length) : atI ts i = ts[i.toNat]? := by
  obtain ⟨j, rfl⟩ := Int.eq_ofNat_of_zero_le h0
  have hl : j < ts.length := by omega
  have := atI_nat (j := j) (v := ts[j]) (List.getElem?_eq_getElem hl)
  rw [this, Int.toNat_natCast, List.getElem?_eq_getElem hl]
end MF
namespace MF
open PySem L2
variable {S : Sto} {ρ : Ev}
@[simp] theorem x_ite {α : Type} {p : Prop} [Decidable p] (m n : M α) : (if p then m else n) S = if p then m S else n S := by split <;> rfl
@[simp] theorem x_iL (f : DE) : iL f ρ S = (f ρ).bind (fun t => fun S => match lstOf S t with | some ts => .ok (ts, fun S' => lstOf S' t = some ts) S | none => .bad) S := rfl
@[simp] theorem x_iR1 (f : DA) : iR1 f ρ S = (f ρ).bind (fun ts => fun S => match ts with | [.int j] => if -1000000 ≤ j ∧ j ≤ 1000000 then .ok (intsT 0 j.toNat, fun (_ : Sto) => True) S else .bad | _ => .bad) S := rfl
@[simp] theorem x_iRev (f : DA) : iRev f ρ S = (f ρ).bind (fun as => fun S => match as with | [t] => (match lstOf S t with | some ts => .ok (ts.reverse, fun S' => lstOf S' t = some ts) S | none => .bad) | _ => .bad) S := rfl
theorem loop_inv {st : Sto → Prop} {g : DG} {body : DS} (Inv : List T → Ev → Sto → Prop) : ∀ (ts pre : List T) (ρ : Ev) (S : Sto), Inv pre ρ S →
    (∀ pre' t post ρ S, pre ++ ts = pre' ++ t :: post → Inv pre' ρ S → st S ∧ ∃ ρ1, g t ρ = some ρ1 ∧ ∃ ρ2 S2, body ρ1 S = .ok (.nx ρ2) S2 ∧ Inv (pre' ++ [t]) ρ2 S2) → (∀ ρ S, Inv (pre ++ ts) ρ S → st S) →
    ∃ ρ' S', loopT st g body ts ρ S = .ok (.nx ρ') S' ∧ Inv (pre ++ ts) ρ' S'
  | [], pre, ρ, S, h, _, he => by
    rw [List.append_nil] at he ⊢
    refine ⟨ρ, S, ?_, h⟩
    unfold loopT
    rw [if_pos (he ρ S h)]
  | t :: ts, pre, ρ, S, h, hs, he => by
    obtain ⟨hst, ρ1, e1, ρ2, S2, e2, h2⟩ := hs pre t ts ρ S rfl h
    have e : pre ++ t :: ts = (pre ++ [t]) ++ ts := by simp
    obtain ⟨ρ', S', e3, h3⟩ := loop_inv Inv ts (pre ++ [t]) ρ2 S2 h2 (by rw [← e]; exact hs) (by rw [← e]; exact he)
    refine ⟨ρ', S', ?_, by rw [e]; exact h3⟩
    unfold loopT
    rw [if_pos hst, e1]
    simp only [x_bind, e2]
    exact e3
theorem for_inv {it : DI} {g : DG} {body : DS} {ts : List T} {st : Sto → Prop} {S1 : Sto} (Inv : List T → Ev → Sto → Prop) (hit : it ρ S = .ok (ts, st) S1) (h0 : Inv [] ρ S1)
    (hs : ∀ pre t post ρ S, ts = pre ++ t :: post → Inv pre ρ S → st S ∧ ∃ ρ1, g t ρ = some ρ1 ∧ ∃ ρ2 S2, body ρ1 S = .ok (.nx ρ2) S2 ∧ Inv (pre ++ [t]) ρ2 S2) (he : ∀ ρ S, Inv ts ρ S → st S) :
    ∃ ρ' S', sFor it g body ρ S = .ok (.nx ρ') S' ∧ Inv ts ρ' S' := by
  obtain ⟨ρ', S', e, h⟩ := loop_inv (st := st) (g := g) (body := body) Inv ts [] ρ S1 h0 hs he
  refine ⟨ρ', S', ?_, h⟩
  unfold sFor
  simp only [x_bind, hit]
  exact e
theorem comp_run {st : Sto → Prop} {tc : DT} {te : DE} {caps : Ev} {p : T → Bool} {f : T → T} (hst : st S) : ∀ (ts : List T) (o : Option T) (acc : List T), acc.length + ts.length ≤ 1000 → (∀ t ∈ ts, tc (some t :: caps) S = .ok (p t) S) → (∀ t ∈ ts, p t = true → te (some t :: caps) S = .ok (f t) S) →
    compT st (dName 0) tc te ts (o :: caps) acc S = .ok (acc ++ (ts.filter p).map f) S
  | [], o, acc, _, _, _ => by
    unfold compT
    rw [if_pos hst]
    simp
  | t :: ts, o, acc, hl, hc, he => by
    have ih := fun acc h => comp_run (tc := tc) (te := te) hst ts (some t) acc h (fun u hu => hc u (List.mem_cons_of_mem _ hu)) (fun u hu => he u (List.mem_cons_of_mem _ hu))
    have h1 := hc t (List.mem_cons_self ..)
    rw [List.length_cons] at hl
    unfold compT
    rw [if_pos hst]
    show (M.bind (tc (some t :: caps)) _) S = _
    rw [x_bind, h1]
    cases e : p t with
    | false =>
      have := ih acc (by omega)
      simpa [e] using this
    | true =>
      have h2 := he t (List.mem_cons_self ..) e
      have := ih (acc ++ [f t]) (by rw [List.length_append, List.length_singleton]; omega)
      have hlt : acc.length < 1000 := by omega
      simp only [if_true, x_bind, h2, x_ite, hlt]
      simpa [e, h2] using this
theorem eComp_run {js : List Nat} {it : DI} {tc : DT} {te : DE} {ts : List T} {st : Sto → Prop} {p : T → Bool} {f : T → T} (hit : it ρ S = .ok (ts, st) S) (hst : st S) (hl : ts.length ≤ 1000)
    (hc : ∀ t ∈ ts, tc (some t :: js.map fun j => (ρ[j]?).join) S = .ok (p t) S) (he : ∀ t ∈ ts, p t = true → te (some t :: js.map fun j => (ρ[j]?).join) S = .ok (f t) S) :
    eComp 1 js it (dName 0) tc te finF ρ S = .ok (.lst ((ts.filter p).map f)) S := by
  unfold eComp
  rw [x_bind, hit]
  show (M.bind (noX _) finF) S = _
  rw [x_bind]
  have := comp_run (tc := tc) (te := te) (caps := js.map fun j => (ρ[j]?).join) hst ts none [] (by simpa using hl) hc he
  have e2 : noX (compT st (dName 0) tc te ts (List.replicate 1 none ++ js.map fun j => (ρ[j]?).join) []) S = .ok ((ts.filter p).map f) S := by
    unfold noX
    rw [show (List.replicate 1 (none : Option T) ++ js.map fun j => (ρ[j]?).join) = none :: js.map fun j => (ρ[j]?).join from rfl, this]
    rfl
  simp only [e2]
  rfl
theorem eComp_map {js : List Nat} {it : DI} {te : DE} {ts : List T} {st : Sto → Prop} {f : T → T} (hit : it ρ S = .ok (ts, st) S) (hst : st S) (hl : ts.length ≤ 1000)
    (he : ∀ t ∈ ts, te (some t :: js.map fun j => (ρ[j]?).join) S = .ok (f t) S) :
    eComp 1 js it (dName 0) yesD te finF ρ S = .ok (.lst (ts.map f)) S := by
  have := eComp_run (tc := yesD) (p := fun _ => true) hit hst hl (fun _ _ => rfl) (fun t h _ => he t h)
  rwa [List.filter_eq_self.mpr (fun _ _ => rfl)] at this
theorem mapO_id {g : T → Option T} : ∀ {ts : List T}, (∀ t ∈ ts, g t = some t) → mapO g ts = some ts
  | [], _ => rfl
  | t :: ts, h => by
    unfold mapO
    rw [h t (List.mem_cons_self ..), mapO_id fun u hu => h u (List.mem_cons_of_mem _ hu)]
theorem fz_hb {S : Sto} {n f : Nat} {t : T} (h : HB n t) : fz S n f t = some t := by
  cases f <;> (unfold fz; rw [if_pos h])
theorem frz_list {F : Fn} {ts us : List T} {S' : Sto} {k : Nat} (h : F ts S = .ok (.obj k) S') (hS : S'.take S.length = S) (hk : S.length ≤ k) (hc : S'[k]? = some (.lst us)) (hb : ∀ t ∈ us, HB S.length t) : frzF F ts S = .ok (.lst us) S := by
  unfold frzF
  rw [h]
  simp only [if_pos hS]
  have e : fz S' S.length 6 (.obj k) = some (.lst us) := by
    unfold fz
    rw [if_neg (by simp only [HB]; omega)]
    simp only [hc]
    rw [mapO_id fun t ht => fz_hb (hb t ht)]
    rfl
  rw [e]
theorem frz_plain {F : Fn} {ts : List T} {S' : Sto} {t : T} (h : F ts S = .ok t S') (hS : S'.take S.length = S) (hb : HB S.length t) : frzF F ts S = .ok t S := by
  unfold frzF
  rw [h]
  simp only [if_pos hS]
  rw [fz_hb hb]
@[simp] theorem x_mt (ok : Sto → T → Bool) (g : T → List T → M T) (fo : DE) (fr : DA) : eMt ok g fo fr ρ S = (fo ρ).bind (fun t => fun S => if ok S t = true then ((fr ρ).bind fun ts => g t ts) S else .bad) S := rfl
theorem x_app {k : Nat} {ts : List T} {y : T} (h : S[k]? = some (.lst ts)) (hl : ts.length < 1000) : gApp (.obj k) [y] S = .ok .non (S.set k (.lst (ts ++ [y]))) := by
  simp [gApp, cellL, h, hl]
theorem x_ext {k : Nat} {ts us : List T} {y : T} (h : S[k]? = some (.lst ts)) (hy : lstOf S y = some us) (hl : ts.length + us.length ≤ 1000) : gExt (.obj k) [y] S = .ok .non (S.set k (.lst (ts ++ us))) := by
  simp [gExt, cellL, h, hy, hl]
theorem x_okL {k : Nat} {ts : List T} (h : S[k]? = some (.lst ts)) : okL S (.obj k) = true := by simp [okL, lstOf, h]
theorem x_lstO {k : Nat} {ts : List T} (h : S[k]? = some (.lst ts)) : lstOf S (.obj k) = some ts := by simp [lstOf, h]
@[simp] theorem hb_str (n : Nat) (x : Str) : HB n (.str x) := by simp [HB]
@[simp] theorem hb_int (n : Nat) (x : Int) : HB n (.int x) := by simp [HB]
@[simp] theorem hb_bl (n : Nat) (x : Bool) : HB n (.bl x) := by simp [HB]
@[simp] theorem hb_non (n : Nat) : HB n .non := by simp [HB]
theorem hbs_all {n : Nat} : ∀ {ts : List T}, (∀ t ∈ ts, HB n t) → HBs n ts
  | [], _ => by simp only [HBs]
  | t :: ts, h => by simp only [HBs]; exact ⟨h t (List.mem_cons_self ..), hbs_all fun u hu => h u (List.mem_cons_of_mem _ hu)⟩
theorem hb_lst {n : Nat} {ts : List T} (h : ∀ t ∈ ts, HB n t) : HB n (.lst ts) := by simp only [HB]; exact hbs_all h
theorem hb_tup {n : Nat} {ts : List T} (h : ∀ t ∈ ts, HB n t) : HB n (.tup ts) := by simp only [HB]; exact hbs_all h
def strL (l : List Str) : T := .lst (l.map .str)
theorem hb_strL {n : Nat} (l : List Str) : HB n (strL l) := hb_lst fun t ht => by
  obtain ⟨x, _, rfl⟩ := List.mem_map.mp ht
  exact hb_str n x
theorem mapM_toV_strs : ∀ (l : List Str), (l.map T.str).mapM toV = some (l.map V.str)
  | [] => rfl
  | a :: r => by
    rw [List.map_cons, List.mapM_cons, mapM_toV_strs r]
    rfl
theorem flat_strsV : ∀ {l : List Str}, (l.map V.str).all flatV = true
  | [] => rfl
  | a :: r => by
    rw [List.map_cons, List.all_cons, flat_strsV]
    rfl
theorem inV_strsV {x : Str} : ∀ {l : List Str}, inV (.str x) (l.map V.str) = l.contains x
  | [] => rfl
  | a :: r => by
    rw [List.contains_cons, ← inV_strsV (l := r)]
    show ((a == x) || _) = _
    rw [BEq.comm]
    rfl
theorem inF_strs (x : Str) (l : List Str) : inF (.str x) (l.map T.str) = some (l.contains x) := by
  unfold inF
  rw [mapM_toV_strs]
  simp only [toV]
  rw [if_pos (by rw [flat_strsV]; rfl), inV_strsV]
theorem x_inL {x : Str} {y : T} {l : List Str} (h : seqOf S y = some (l.map T.str)) : gIn (.str x) y S = .ok (.bl (l.contains x)) S := by
  simp [gIn, inS, h, inF_strs]
theorem x_notInL {x : Str} {y : T} {l : List Str} (h : seqOf S y = some (l.map T.str)) : gNotIn (.str x) y S = .ok (.bl (!l.contains x)) S := by
  simp [gNotIn, inS, h, inF_strs]
@[simp] theorem x_inS (x : Str) (l : List Str) : gIn (.str x) (strL l) S = .ok (.bl (l.contains x)) S := x_inL rfl
@[simp] theorem x_notInS (x : Str) (l : List Str) : gNotIn (.str x) (strL l) S = .ok (.bl (!l.contains x)) S := x_notInL rfl
end MF
set_option Elab.async false
set_option linter.all false
set_option maxRecDepth 100000
namespace MF
open PySem L2
theorem look_mem {α : Type} : ∀ {K : List (Addr × α)} {a : Addr} {o : α}, K.lookup a = some o → (a, o) ∈ K
  | [], _, _, e => by cases e
  | (b, x) :: K, a, o, e => by
    rw [List.lookup_cons] at e
    cases h : a == b with
    | true =>
      rw [h] at e
      cases e
      rw [eq_of_beq h]
      exact List.mem_cons_self ..
    | false =>
      rw [h] at e
      exact List.mem_cons_of_mem _ (look_mem e)
def noList (K : PySem.W.Frag) : Bool := K.all fun p => !(p.2.cls == Value.type "list")
theorem noList_at {K : PySem.W.Frag} {a : Addr} {o : Obj} (h : noList K = true) (e : K.lookup a = some o) : o.cls ≠ .type "list" := fun z => by
  have hm : (a, o) ∈ K := look_mem e
  have := List.all_eq_true.mp h (a, o) hm
  rw [show (a, o).2.cls = Value.type "list" from z] at this
  simp at this
def spLaw (K : PySem.W.Frag) : Sp := fun vs H Q _ => ∃ (a : Addr) (ns : List Int), vs = [.ref a] ∧ SqL K H a (ns.map V.int) ∧ ns.length ≤ 63 ∧ ∀ H', Q (.bl true) H'
theorem dens_ints {W : Wd} : ∀ (ns : List Int), Dens W (ns.map T.int) (ns.map V.int)
  | [] => Dens.nil'
  | n :: ns => Dens.cons' (den_int.mpr rfl) (dens_ints ns)
theorem law_of {P : Program} {w : World} {K : PySem.W.Frag} {mg : Str → Option Value} {base : Heap} {k : Nat} {f : Addr} {fd : FuncData} {F : Fn} (G : FnOk P w K mg base (CXE P w) k f fd ["script"] (spM 1 F)) (nl : noList K = true)
    (h : ∀ ns : List Int, ns.length ≤ 63 → F [.lst (ns.map .int)] [] = .ok (.bl true) []) : FnOk P w K mg base CX0 k f fd ["script"] (spLaw K) := by
  refine G.calm.imp fun vs H Q E q => ?_
  obtain ⟨a, ns, rfl, sq, hl, q⟩ := q
  have rd : Rd H a (.lst (ns.map V.int)) := by
    rcases sq with rd | ⟨o, its, n, hk, hc, _⟩
    · exact rd
    · exact absurd hc (noList_at nl hk)
  refine ⟨⟨fun b => if b = a then some (.lst (ns.map V.int)) else none, fun _ => 0, 0, fun _ => none, fun _ => none⟩, [], [.lst (ns.map .int)], ⟨fun b o e => ?_, rfl, (fun k c e => by simp at e), (fun j k hj => absurd hj (Nat.not_lt_zero _)), (fun b o e => nomatch e), fun b o e => nomatch e⟩, Dens.cons' (den_lst.mpr ⟨a, _, rfl, if_pos rfl, dens_ints ns⟩) Dens.nil', rfl, ?_⟩
  · have e : (if b = a then some (HO.lst (ns.map V.int)) else none) = some o := e
    by_cases z : b = a
    · rw [if_pos z] at e
      cases e
      subst z
      refine ⟨?_, trivial⟩
      rcases rd with r | r
      · exact .inl r
      · exact .inr ⟨r, by intro xs z; cases z⟩
    · rw [if_neg z] at e; cases e
  · rw [h ns hl]
    intro W' H' _ _ v dv
    rw [den_bl.mp dv]
    exact q H'
theorem walkM {l : PySem.W.OpenLaw} {q : Program} {loose : List Str} {XP : (Str → Option Value) → Heap → Prop} {YP : World → Heap → Prop} {d : DefRec} {K : Params → PySem.W.Frag} {k : Nat} (hk : Room k PySem.callerA) (hn : l.most = some 63) (hdf : d.params.defaults = [])
    (hY : ∀ (w : World) (h : Heap), YP w h → (K w.params).In h)
    (F : ∀ (w : World) (mg : Str → Option Value) (fa : Addr) (h : Heap), (K w.params).In h → h.Ns mainGlobals mg → mg d.name = some (.ref fa) →
      ∃ fd : FuncData, (∀ (s : Shared) (u : Value), BindsTo s fd ⟨[u], []⟩ [("script", u)]) ∧ ∀ base : Heap, (K w.params).In base → base.Ns mainGlobals mg → FnOk l.prog w (K w.params) mg base CX0 k fa fd ["script"] (spLaw (K w.params))) :
    PySem.W.WalkO q loose XP YP l.row.toRowW d [] (fun f vs => PySem.call f vs) :=
  L2.walk_of (n := 63) (k := k) (x := "script") (CX := fun _ => CX0) (sp := fun w => spLaw (K w.params)) hn (by decide) hdf hk hY F (fun _ _ a ns hl _ hS => ⟨a, ns, rfl, hS, hl, fun _ => rfl⟩) fun _ _ _ _ _ z => z
end MF
set_option Elab.async false
set_option linter.all false
set_option maxRecDepth 100000
namespace DN
open PySem L2 MF
noncomputable def d_Hall_names (c : Cl) : DS := (sRet (e1 gList (e1 (gFld c.hall "pieces") (eVar 0))))
noncomputable def F_Hall_names (c : Cl) : Fn := runD 1 (d_Hall_names c)
noncomputable def d_Hall_find_piece (c : Cl) : DS := (sSeq (sIf (tst (e2 gDnotin (eVar 1) (e1 (gFld c.hall "pieces") (eVar 0)))) (sRaiseD c.noPiece (aCons (jT Str.empty [(eC (.str "no piece ")), (e1 gRepr (eVar 1)), (eC (.str " hangs"))]) aNil)) sNx) (sRet (e2 gDix (e1 (gFld c.hall "pieces") (eVar 0)) (eVar 1))))
noncomputable def F_Hall_find_piece (c : Cl) : Fn := runD 2 (d_Hall_find_piece c)
noncomputable def e_lacks_1 (c : Cl) : DE := (eA tupF (aCons (eC (.str "needs")) (aCons (eVar 1) (aCons (eVar 0) aNil))))
noncomputable def i_lacks_1 (c : Cl) : DI := (iL (e1 (gFld c.piece "needs") (eVar 4)))
noncomputable def t_lacks_1 (c : Cl) : DT := (tst (e2 gNotIn (eVar 0) (eVar 2)))
noncomputable def e_lacks_2 (c : Cl) : DE := (eA tupF (aCons (eC (.str "bars")) (aCons (eVar 1) (aCons (eVar 0) aNil))))
noncomputable def i_lacks_2 (c : Cl) : DI := (iL (e1 (gFld c.piece "bars") (eVar 4)))
noncomputable def t_lacks_2 (c : Cl) : DT := (tst (e2 gIn (eVar 0) (eVar 2)))
noncomputable def b_lacks_3 (c : Cl) : DS := (sIf (tst (e2 gIn (eVar 3) (eVar 1))) (sSeq (sSet 4 (eMeth c.hall "find_piece" (lenF 2 (F_Hall_find_piece c)) [] (eVar 0) (aCons (eVar 3) aNil))) (sSeq (sExpr (eMt okL gExt (eVar 2) (aCons (eComp 1 [3, 1] (i_lacks_1 c) (dName 0) (t_lacks_1 c) (e_lacks_1 c) finF) aNil))) (sExpr (eMt okL gExt (eVar 2) (aCons (eComp 1 [3, 1] (i_lacks_2 c) (dName 0) (t_lacks_2 c) (e_lacks_2 c) finF) aNil))))) sNx)
noncomputable def d_lacks (c : Cl) : DS := (sSeq (sSet 2 (eA lstC aNil)) (sSeq (sFor (iL (eMeth c.hall "names" (lenF 1 (F_Hall_names c)) [] (eVar 0) aNil)) (dName 3) (b_lacks_3 c)) (sRet (eVar 2))))
noncomputable def F_lacks (c : Cl) : Fn := frzF (runD 5 (d_lacks c))
noncomputable def d_fits (c : Cl) : DS := (sRet (e2 gEq (eCall (lenF 2 (F_lacks c)) [] (aCons (eVar 0) (aCons (eVar 1) aNil))) (eA lstF aNil)))
noncomputable def F_fits (c : Cl) : Fn := runD 2 (d_fits c)
noncomputable def d_Place___init__ (c : Cl) : DS := (sSeq (sFldS c.place "kind" (eVar 0) (eVar 1)) (sFldS c.place "rule" (eVar 0) (eVar 2)))
noncomputable def F_Place___init__ (c : Cl) : Fn := runD 3 (d_Place___init__ c)
noncomputable def d_Piece___init__ (c : Cl) : DS := (sSeq (sFldS c.piece "place" (eVar 0) (eVar 1)) (sSeq (sFldS c.piece "deed" (eVar 0) (eVar 2)) (sSeq (sFldS c.piece "by" (eVar 0) (eVar 3)) (sSeq (sFldS c.piece "on" (eVar 0) (eC (.bl true))) (sSeq (sFldS c.piece "ahead" (eVar 0) (eA lstC aNil)) (sSeq (sFldS c.piece "behind" (eVar 0) (eA lstC aNil)) (sSeq (sFldS c.piece "needs" (eVar 0) (eA lstC aNil)) (sFldS c.piece "bars" (eVar 0) (eA lstC aNil)))))))))
noncomputable def F_Piece___init__ (c : Cl) : Fn := runD 4 (d_Piece___init__ c)
noncomputable def d_Hall___init__ (c : Cl) : DS := (sSeq (sFldS c.hall "places" (eVar 0) eDict0) (sFldS c.hall "pieces" (eVar 0) eDict0))
noncomputable def F_Hall___init__ (c : Cl) : Fn := runD 1 (d_Hall___init__ c)
noncomputable def d_Hall_open_place (c : Cl) : DS := (sSeq (sIf (tst (e2 gDin (eVar 1) (e1 (gFld c.hall "places") (eVar 0)))) (sRaiseD c.nameThere (aCons (jT Str.empty [(eC (.str "there is a place ")), (e1 gRepr (eVar 1)), (eC (.str " already"))]) aNil)) sNx) (sSeq (sIf (tst (e2 (gI fGe) (e1 gLenD (e1 (gFld c.hall "places") (eVar 0))) (eC (.int 8)))) (sRaiseD c.tooMany (aCons (eC (.str "the hall has no room for another place")) aNil)) sNx) (sDput (e1 (gFld c.hall "places") (eVar 0)) (eVar 1) (eMake c.place (lenF 3 (F_Place___init__ c)) [] (aCons (eVar 2) (aCons (eVar 3) aNil))))))
noncomputable def F_Hall_open_place (c : Cl) : Fn := runD 4 (d_Hall_open_place c)
noncomputable def d_Hall_find_place (c : Cl) : DS := (sSeq (sIf (tst (e2 gDnotin (eVar 1) (e1 (gFld c.hall "places") (eVar 0)))) (sRaiseD c.noPlace (aCons (jT Str.empty [(eC (.str "there is no place ")), (e1 gRepr (eVar 1))]) aNil)) sNx) (sRet (e2 gDix (e1 (gFld c.hall "places") (eVar 0)) (eVar 1))))
noncomputable def F_Hall_find_place (c : Cl) : Fn := runD 2 (d_Hall_find_place c)
noncomputable def d_Hall_hang (c : Cl) : DS := (sSeq (sIf (tst (e2 gDin (eVar 1) (e1 (gFld c.hall "pieces") (eVar 0)))) (sRaiseD c.nameThere (aCons (jT Str.empty [(eC (.str "a piece ")), (e1 gRepr (eVar 1)), (eC (.str " hangs already"))]) aNil)) sNx) (sSeq (sExpr (eMeth c.hall "find_place" (lenF 2 (F_Hall_find_place c)) [] (eVar 0) (aCons (eVar 2) aNil))) (sSeq (sIf (tst (e2 gIsNot (eVar 4) (eC .non))) (sExpr (eMeth c.hall "find_piece" (lenF 2 (F_Hall_find_piece c)) [] (eVar 0) (aCons (eVar 4) aNil))) sNx) (sSeq (sIf (tst (e2 (gI fGe) (e1 gLenD (e1 (gFld c.hall "pieces") (eVar 0))) (eC (.int 24)))) (sRaiseD c.tooMany (aCons (eC (.str "the hall has no room for another piece")) aNil)) sNx) (sDput (e1 (gFld c.hall "pieces") (eVar 0)) (eVar 1) (eMake c.piece (lenF 4 (F_Piece___init__ c)) [] (aCons (eVar 2) (aCons (eVar 3) (aCons (eVar 4) aNil)))))))))
noncomputable def F_Hall_hang (c : Cl) : Fn := runD 5 (d_Hall_hang c)
noncomputable def d_wished (c : Cl) : DS := (sRet (eIf (tst (e2 gIs (eVar 0) (eC .non))) (eA lstF aNil) (e1 gList (eVar 0))))
noncomputable def F_wished (c : Cl) : Fn := runD 1 (d_wished c)
noncomputable def d_Hall_wish (c : Cl) : DS := (sSeq (sSet 6 (eMeth c.hall "find_piece" (lenF 2 (F_Hall_find_piece c)) [] (eVar 0) (aCons (eVar 1) aNil))) (sSeq (sExpr (eMt okL gExt (e1 (gFld c.piece "ahead") (eVar 6)) (aCons (eCall (lenF 1 (F_wished c)) [] (aCons (eVar 2) aNil)) aNil))) (sSeq (sExpr (eMt okL gExt (e1 (gFld c.piece "behind") (eVar 6)) (aCons (eCall (lenF 1 (F_wished c)) [] (aCons (eVar 3) aNil)) aNil))) (sSeq (sExpr (eMt okL gExt (e1 (gFld c.piece "needs") (eVar 6)) (aCons (eCall (lenF 1 (F_wished c)) [] (aCons (eVar 4) aNil)) aNil))) (sExpr (eMt okL gExt (e1 (gFld c.piece "bars") (eVar 6)) (aCons (eCall (lenF 1 (F_wished c)) [] (aCons (eVar 5) aNil)) aNil)))))))
noncomputable def F_Hall_wish (c : Cl) : Fn := runD 7 (d_Hall_wish c)
noncomputable def d_Hall_switch (c : Cl) : DS := (sSeq (sSet 3 (eMeth c.hall "find_piece" (lenF 2 (F_Hall_find_piece c)) [] (eVar 0) (aCons (eVar 1) aNil))) (sFldS c.piece "on" (eVar 3) (eVar 2)))
noncomputable def F_Hall_switch (c : Cl) : Fn := runD 4 (d_Hall_switch c)
noncomputable def d_law_cell_at (c : Cl) : DS := (sSeq (sIf (tst (e2 (gI fLt) (eVar 1) (e1 gLen (eVar 0)))) (sRet (e2 gIx (eVar 0) (eVar 1))) sNx) (sRet (eC (.int 0))))
noncomputable def F_law_cell_at (c : Cl) : Fn := runD 2 (d_law_cell_at c)
noncomputable def e_law_name_1 (c : Cl) : DE := (e2 gIx (eVar 1) (e2 (gI fMod) (e2 gAdd (eVar 2) (e2 (gI fMul) (eC (.int 5)) (eVar 0))) (eC (.int 26))))
noncomputable def i_law_name_1 (c : Cl) : DI := (iR1 (aCons (e2 gAdd (eC (.int 2)) (e2 (gI fMod) (eVar 0) (eC (.int 11)))) aNil))
noncomputable def d_law_name (c : Cl) : DS := (sSeq (sSet 1 (eC (.str "abcdefghijklmnopqrstuvwxyz"))) (sSeq (sIf (tst (e2 gEq (e2 (gI fMod) (eVar 0) (eC (.int 3))) (eC (.int 1)))) (sRet (e2 gIx (eVar 1) (e2 (gI fMod) (eVar 0) (eC (.int 26))))) sNx) (sRet (eMt okS gJoin (eC (.str "")) (aCons (eComp 1 [1, 0] (i_law_name_1 c) (dName 0) yesD (e_law_name_1 c) finF) aNil)))))
noncomputable def F_law_name (c : Cl) : Fn := runD 2 (d_law_name c)
noncomputable def d_law_deed (c : Cl) : DS := (sSeq (sSet 1 (e2 (gI fSub) (e2 (gI fMod) (e2 (gI fDiv) (eVar 0) (eC (.int 8))) (eC (.int 2001))) (eC (.int 1000)))) (sSeq (sIf (tst (e2 gEq (e2 (gI fMod) (e2 (gI fDiv) (eVar 0) (eC (.int 8))) (eC (.int 9))) (eC (.int 4)))) (sSet 1 (e2 (gI fSub) (e2 (gI fMod) (eVar 0) (e2 (gI fPow) (eC (.int 10)) (eC (.int 25)))) (e2 (gI fPow) (eC (.int 10)) (eC (.int 24))))) sNx) (sSeq (sIf (tst (e2 gEq (e2 (gI fMod) (eVar 0) (eC (.int 8))) (eC (.int 3)))) (sRet (eA tupF (aCons (eC (.str "say")) (aCons (eVar 1) aNil)))) sNx) (sSeq (sIf (tst (e2 gEq (e2 (gI fMod) (eVar 0) (eC (.int 8))) (eC (.int 4)))) (sRet (eA tupF (aCons (eC (.str "none")) aNil))) sNx) (sSeq (sIf (tst (e2 gEq (e2 (gI fMod) (eVar 0) (eC (.int 8))) (eC (.int 5)))) (sRet (eA tupF (aCons (eC (.str "fail")) (aCons (eVar 1) aNil)))) sNx) (sRet (eA tupF (aCons (eC (.str "add")) (aCons (eVar 1) aNil)))))))))
noncomputable def F_law_deed (c : Cl) : Fn := runD 2 (d_law_deed c)
noncomputable def d_law_some (c : Cl) : DS := (sSeq (sIf (tst (e2 (gI fGt) (e2 (gI fMod) (eVar 0) (eC (.int 4))) (eC (.int 1)))) (sRet (eA lstF aNil)) sNx) (sSeq (sIf (tst (e2 gEq (e2 (gI fMod) (eVar 0) (eC (.int 4))) (eC (.int 1)))) (sRet (eA lstF (aCons (eCall (lenF 1 (F_law_name c)) [] (aCons (e2 (gI fMod) (e2 (gI fDiv) (eVar 0) (eC (.int 4))) (eVar 1)) aNil)) (aCons (eCall (lenF 1 (F_law_name c)) [] (aCons (e2 (gI fMod) (e2 (gI fDiv) (eVar 0) (eC (.int 64))) (eVar 1)) aNil)) aNil)))) sNx) (sRet (eA lstF (aCons (eCall (lenF 1 (F_law_name c)) [] (aCons (e2 (gI fMod) (e2 (gI fDiv) (eVar 0) (eC (.int 4))) (eVar 1)) aNil)) aNil)))))
noncomputable def F_law_some (c : Cl) : Fn := runD 2 (d_law_some c)
noncomputable def b_law_pieces_1 (c : Cl) : DS := (sSeq (sSet 5 (eCall (lenF 2 (F_law_cell_at c)) [] (aCons (eVar 0) (aCons (e2 gAdd (eVar 1) (e2 (gI fMul) (eC (.int 3)) (eVar 4))) aNil)))) (sSeq (sSet 6 (eCall (lenF 2 (F_law_cell_at c)) [] (aCons (eVar 0) (aCons (e2 gAdd (e2 gAdd (eVar 1) (e2 (gI fMul) (eC (.int 3)) (eVar 4))) (eC (.int 1))) aNil)))) (sSeq (sSet 7 (eCall (lenF 2 (F_law_cell_at c)) [] (aCons (eVar 0) (aCons (e2 gAdd (e2 gAdd (eVar 1) (e2 (gI fMul) (eC (.int 3)) (eVar 4))) (eC (.int 2))) aNil)))) (sSeq (sSet 8 (e2 gIx (eA lstF (aCons (eC (.str "hub")) (aCons (eC (.str "hub")) (aCons (eC (.str "hub")) (aCons (eC (.str "side")) aNil))))) (e2 (gI fMod) (e2 (gI fDiv) (eVar 5) (eC (.int 4096))) (eC (.int 4))))) (sSeq (sSet 9 (eA lstF (aCons (eCall (lenF 2 (F_law_some c)) [] (aCons (eVar 6) (aCons (e2 gAdd (eVar 2) (eC (.int 1))) aNil))) (aCons (eCall (lenF 2 (F_law_some c)) [] (aCons (e2 (gI fDiv) (eVar 6) (eC (.int 7))) (aCons (e2 gAdd (eVar 2) (eC (.int 1))) aNil))) aNil)))) (sSeq (sSet 9 (e2 gAdd (eVar 9) (eA lstF (aCons (eCall (lenF 2 (F_law_some c)) [] (aCons (eVar 7) (aCons (e2 gAdd (eVar 2) (eC (.int 1))) aNil))) (aCons (eCall (lenF 2 (F_law_some c)) [] (aCons (e2 (gI fDiv) (eVar 7) (eC (.int 7))) (aCons (e2 gAdd (eVar 2) (eC (.int 1))) aNil))) aNil))))) (sExpr (eMt okL gApp (eVar 3) (aCons (eA tupF (aCons (eCall (lenF 1 (F_law_name c)) [] (aCons (eVar 4) aNil)) (aCons (eVar 8) (aCons (eCall (lenF 1 (F_law_deed c)) [] (aCons (eVar 5) aNil)) (aCons (eVar 9) (aCons (e2 gNe (e2 (gI fMod) (e2 (gI fDiv) (eVar 5) (eC (.int 64))) (eC (.int 6))) (eC (.int 1))) aNil)))))) aNil)))))))))
noncomputable def d_law_pieces (c : Cl) : DS := (sSeq (sSet 3 (eA lstC aNil)) (sSeq (sFor (iR1 (aCons (eVar 2) aNil)) (dName 4) (b_law_pieces_1 c)) (sRet (eVar 3))))
noncomputable def F_law_pieces (c : Cl) : Fn := frzF (runD 10 (d_law_pieces c))
noncomputable def b_law_hall_1 (c : Cl) : DS := (sExpr (eMeth c.hall "hang" (lenF 5 (F_Hall_hang c)) [.non] (eVar 3) (aCons (e2 gIx (eVar 4) (eC (.int 0))) (aCons (e2 gIx (eVar 4) (eC (.int 1))) (aCons (e2 gIx (eVar 4) (eC (.int 2))) aNil)))))
noncomputable def b_law_hall_2 (c : Cl) : DS := (sSeq (sExpr (eMeth c.hall "wish" (lenF 6 (F_Hall_wish c)) [] (eVar 3) (aCons (e2 gIx (eVar 4) (eC (.int 0))) (aCons (e2 gIx (e2 gIx (eVar 4) (eC (.int 3))) (eC (.int 0))) (aCons (e1 gTuple (e2 gIx (e2 gIx (eVar 4) (eC (.int 3))) (eC (.int 1)))) (aCons (e2 gIx (e2 gIx (eVar 4) (eC (.int 3))) (eC (.int 2))) (aCons (e2 gIx (e2 gIx (eVar 4) (eC (.int 3))) (eC (.int 3))) aNil))))))) (sIf (tNotD (tru (e2 gIx (eVar 4) (eC (.int 4))))) (sExpr (eMeth c.hall "switch" (lenF 3 (F_Hall_switch c)) [] (eVar 3) (aCons (e2 gIx (eVar 4) (eC (.int 0))) (aCons (eC (.bl false)) aNil)))) sNx))
noncomputable def d_law_hall (c : Cl) : DS := (sSeq (sSet 3 (eMake c.hall (lenF 1 (F_Hall___init__ c)) [] aNil)) (sSeq (sExpr (eMeth c.hall "open_place" (lenF 4 (F_Hall_open_place c)) [] (eVar 3) (aCons (eC (.str "hub")) (aCons (eVar 1) (aCons (eVar 2) aNil))))) (sSeq (sExpr (eMeth c.hall "open_place" (lenF 4 (F_Hall_open_place c)) [] (eVar 3) (aCons (eC (.str "side")) (aCons (eC (.str "all")) (aCons (eC (.str "hold")) aNil))))) (sSeq (sFor (iL (eVar 0)) (dName 4) (b_law_hall_1 c)) (sSeq (sFor (iL (eVar 0)) (dName 4) (b_law_hall_2 c)) (sRet (eVar 3)))))))
noncomputable def F_law_hall (c : Cl) : Fn := runD 5 (d_law_hall c)
noncomputable def e_law_lacks_1 (c : Cl) : DE := (eA tupF (aCons (eC (.str "needs")) (aCons (e2 gIx (eVar 1) (eC (.int 0))) (aCons (eVar 0) aNil))))
noncomputable def i_law_lacks_1 (c : Cl) : DI := (iL (e2 gIx (e2 gIx (eVar 3) (eC (.int 3))) (eC (.int 2))))
noncomputable def t_law_lacks_1 (c : Cl) : DT := (tst (e2 gNotIn (eVar 0) (eVar 2)))
noncomputable def e_law_lacks_2 (c : Cl) : DE := (eA tupF (aCons (eC (.str "bars")) (aCons (e2 gIx (eVar 1) (eC (.int 0))) (aCons (eVar 0) aNil))))
noncomputable def i_law_lacks_2 (c : Cl) : DI := (iL (e2 gIx (e2 gIx (eVar 3) (eC (.int 3))) (eC (.int 3))))
noncomputable def t_law_lacks_2 (c : Cl) : DT := (tst (e2 gIn (eVar 0) (eVar 2)))
noncomputable def b_law_lacks_3 (c : Cl) : DS := (sIf (tst (e2 gIn (e2 gIx (eVar 3) (eC (.int 0))) (eVar 1))) (sSeq (sExpr (eMt okL gExt (eVar 2) (aCons (eComp 1 [3, 1] (i_law_lacks_1 c) (dName 0) (t_law_lacks_1 c) (e_law_lacks_1 c) finF) aNil))) (sExpr (eMt okL gExt (eVar 2) (aCons (eComp 1 [3, 1] (i_law_lacks_2 c) (dName 0) (t_law_lacks_2 c) (e_law_lacks_2 c) finF) aNil)))) sNx)
noncomputable def d_law_lacks (c : Cl) : DS := (sSeq (sSet 2 (eA lstC aNil)) (sSeq (sFor (iL (eVar 0)) (dName 3) (b_law_lacks_3 c)) (sRet (eVar 2))))
noncomputable def F_law_lacks (c : Cl) : Fn := frzF (runD 4 (d_law_lacks c))
noncomputable def b_law_right_1 (c : Cl) : DS := (sIf (tOrD (tNotD (tru (e1 (gIsa .tuple) (e2 gIx (eVar 0) (eVar 2))))) (tst (e2 gNe (e2 gIx (eVar 0) (eVar 2)) (e2 gIx (eVar 1) (eVar 2))))) (sRet (eC (.bl false))) sNx)
noncomputable def d_law_right (c : Cl) : DS := (sSeq (sIf (tOrD (tNotD (tru (e1 (gIsa .list) (eVar 0)))) (tst (e2 gNe (e1 gLen (eVar 0)) (e1 gLen (eVar 1))))) (sRet (eC (.bl false))) sNx) (sSeq (sFor (iR1 (aCons (e1 gLen (eVar 1)) aNil)) (dName 2) (b_law_right_1 c)) (sRet (eC (.bl true)))))
noncomputable def F_law_right (c : Cl) : Fn := runD 3 (d_law_right c)
noncomputable def b_law_1 (c : Cl) : DS := (sSeq (sIf (tst (e2 (gI fGt) (e2 (gI fMod) (eVar 3) (eC (.int 3))) (eC (.int 0)))) (sExpr (eMt okL gApp (eVar 4) (aCons (e2 gIx (eVar 5) (eC (.int 0))) aNil))) sNx) (sSet 3 (e2 (gI fDiv) (eVar 3) (eC (.int 3)))))
noncomputable def e_law_2 (c : Cl) : DE := (eVar 0)
noncomputable def i_law_2 (c : Cl) : DI := (iRev (aCons (eVar 4) aNil))
noncomputable def d_law (c : Cl) : DS := (sSeq (sSet 1 (eCall (lenF 3 (F_law_pieces c)) [] (aCons (eVar 0) (aCons (eC (.int 2)) (aCons (e2 (gI fMod) (eCall (lenF 2 (F_law_cell_at c)) [] (aCons (eVar 0) (aCons (eC (.int 0)) aNil))) (eC (.int 13))) aNil))))) (sSeq (sSet 2 (eCall (lenF 3 (F_law_hall c)) [] (aCons (eVar 1) (aCons (eC (.str "all")) (aCons (eC (.str "hold")) aNil))))) (sSeq (sSet 3 (eCall (lenF 2 (F_law_cell_at c)) [] (aCons (eVar 0) (aCons (eC (.int 1)) aNil)))) (sSeq (sSet 4 (eA lstC aNil)) (sSeq (sFor (iL (eVar 1)) (dName 5) (b_law_1 c)) (sSeq (sIf (tst (e2 gEq (e2 (gI fMod) (eCall (lenF 2 (F_law_cell_at c)) [] (aCons (eVar 0) (aCons (eC (.int 1)) aNil))) (eC (.int 2))) (eC (.int 1)))) (sSet 4 (eComp 1 [] (i_law_2 c) (dName 0) yesD (e_law_2 c) finC)) sNx) (sSeq (sSet 6 (e1 gList (eVar 4))) (sSeq (sSet 7 (eCall (lenF 2 (F_law_lacks c)) [] (aCons (eVar 1) (aCons (eVar 4) aNil)))) (sSeq (sIf (tOrD (tNotD (tru (eCall (lenF 2 (F_law_right c)) [] (aCons (eCall (lenF 2 (F_lacks c)) [] (aCons (eVar 2) (aCons (eVar 6) aNil))) (aCons (eVar 7) aNil))))) (tst (e2 gNe (eVar 6) (eVar 4)))) (sRet (eC (.bl false))) sNx) (sSeq (sSet 8 (eCall (lenF 2 (F_fits c)) [] (aCons (eVar 2) (aCons (eVar 6) aNil)))) (sRet (eAnd (e1 (gIsa .bool) (eVar 8)) (e2 gEq (eVar 8) (e2 gEq (eVar 7) (eA lstF aNil)))))))))))))))
noncomputable def F_law (c : Cl) : Fn := frzF (runD 9 (d_law c))
end DN
set_option Elab.async false
set_option linter.all false
set_option maxRecDepth 100000
namespace DN
open PySem L2 MF
variable {c : Cl} {S : Sto}
def cellAt (ns : List Int) (k : Int) : Int := if k < ns.length then ns.getD k.toNat 0 else 0
theorem f_cell (ns : List Int) (k : Int) (hk : 0 ≤ k) : F_law_cell_at c [.lst (ns.map .int), .int k] S = .ok (.int (cellAt ns k)) S := by
  unfold cellAt
  by_cases h : k < ns.length
  · have hh : k.toNat < ns.length := by omega
    simp [F_law_cell_at, d_law_cell_at, h, atI_ge hk, hh]
  · simp [F_law_cell_at, d_law_cell_at, h]
def letters : Str := "abcdefghijklmnopqrstuvwxyz"
def letter (i : Int) : Str := ⟨#[letters.cps[i.toNat]?.getD 0]⟩
theorem lettersLen : letters.cps.toList.length = 26 := by decide +kernel
theorem lettersLine : letters.length ≤ 1000 := by decide +kernel
theorem at_letter {i : Int} (h0 : 0 ≤ i) (h1 : i < 26) : atI letters.cps.toList i = some (letters.cps[i.toNat]?.getD 0) := by
  have hl := lettersLen
  rw [atI_ge h0 (by omega), Array.getElem?_toList]
  have : i.toNat < letters.cps.size := by rw [← Array.length_toList]; omega
  rw [Array.getElem?_eq_getElem this]
  rfl
def lawName (k : Int) : Str := if k % 3 = 1 then letter (k % 26) else Txt.join Str.empty ((List.range (2 + k % 11).toNat).map fun (j : Nat) => letter ((k + 5 * (j : Int)) % 26))
theorem strsOf_map : ∀ (l : List Str), strsOf (l.map T.str) = some l
  | [] => rfl
  | a :: r => by
    rw [List.map_cons]
    unfold strsOf
    rw [strsOf_map r]
    rfl
theorem letter_len (i : Int) : (letter i).length = 1 := rfl
theorem sum_letters (k : Int) : ∀ l : List Nat, ((l.map fun (j : Nat) => letter ((k + 5 * (j : Int)) % 26)).map (·.length)).sum = l.length
  | [] => rfl
  | a :: r => by
    have := sum_letters k r
    simp only [List.map_cons, List.sum_cons, List.length_cons, letter_len] at this ⊢
    omega
theorem f_name (k : Int) : F_law_name c [.int k] S = .ok (.str (lawName k)) S := by
  have h26 := Int.emod_nonneg k (show (26 : Int) ≠ 0 by decide)
  have h26' := Int.emod_lt_of_pos k (show (0 : Int) < 26 by decide)
  have hL : (Str.ofString "abcdefghijklmnopqrstuvwxyz") = letters := rfl
  unfold lawName
  by_cases h : k % 3 = 1
  · have ha := at_letter h26 h26'
    simp [F_law_name, d_law_name, h, hL, lettersLine, ha, letter]
  · have h11 := Int.emod_nonneg k (show (11 : Int) ≠ 0 by decide)
    have h11' := Int.emod_lt_of_pos k (show (0 : Int) < 11 by decide)
    have hb : -1000000 ≤ 2 + k % 11 ∧ 2 + k % 11 ≤ 1000000 := by omega
    have hm : ∀ t ∈ intsT 0 (2 + k % 11).toNat, e_law_name_1 c [some t, some (.str letters), some (.int k)] S = .ok ((fun t => match t with | .int j => T.str (letter ((k + 5 * j) % 26)) | _ => .non) t) S := by
      intro t ht
      obtain ⟨j, hj, rfl⟩ := List.mem_map.mp ht
      have m1 := Int.emod_nonneg (k + 5 * (0 + (j : Int))) (show (26 : Int) ≠ 0 by decide)
      have m2 := Int.emod_lt_of_pos (k + 5 * (0 + (j : Int))) (show (0 : Int) < 26 by decide)
      have ha := at_letter m1 m2
      rw [Int.zero_add] at ha
      simp [e_law_name_1, lettersLine, ha, letter]
    have hc := eComp_map (ρ := [some (.int k), some (.str letters)]) (S := S) (js := [1, 0]) (it := i_law_name_1 c) (ts := intsT 0 (2 + k % 11).toNat) (st := fun _ => True) (by simp [i_law_name_1, hb]) trivial (by rw [intsT_len]; omega) hm
    have hsum := sum_letters k (List.range (2 + k % 11).toNat)
    rw [List.length_range] at hsum
    have e3 : (intsT 0 (2 + k % 11).toNat).map (fun t => match t with | .int j => T.str (letter ((k + 5 * j) % 26)) | _ => .non) = ((List.range (2 + k % 11).toNat).map fun (j : Nat) => letter ((k + 5 * (j : Int)) % 26)).map T.str := by
      unfold intsT
      rw [List.map_map, List.map_map]
      refine List.map_congr_left fun j _ => ?_
      show T.str (letter ((k + 5 * (0 + (j : Int))) % 26)) = T.str (letter ((k + 5 * (j : Int)) % 26))
      rw [Int.zero_add]
    rw [e3] at hc
    have hlen : ((List.range (2 + k % 11).toNat).map fun (j : Nat) => letter ((k + 5 * (j : Int)) % 26)).length ≤ 13 := by simp; omega
    generalize ((List.range (2 + k % 11).toNat).map fun (j : Nat) => letter ((k + 5 * (j : Int)) % 26)) = l at hc hsum hlen ⊢
    have hbig : (l.map (·.length)).sum + l.length * Str.empty.length ≤ 100000 := by
      rw [hsum, show Str.empty.length = 0 from rfl]
      omega
    have hj : gJoin (.str Str.empty) [.lst (l.map T.str)] S = .ok (.str (Txt.join Str.empty l)) S := by
      unfold gJoin
      simp only [x_lstL, Option.bind_some, strsOf_map, if_pos hbig]
    have he : Str.ofString "" = Str.empty := rfl
    simp [F_law_name, d_law_name, h, hL, hc, he, okS, hj]
def numT (x : Int) : Int := if x / 8 % 9 = 4 then x % 10 ^ 25 - 10 ^ 24 else x / 8 % 2001 - 1000
def deedT (x : Int) : T := if x % 8 = 3 then .tup [.str "say", .int (numT x)] else if x % 8 = 4 then .tup [.str "none"] else if x % 8 = 5 then .tup [.str "fail", .int (numT x)] else .tup [.str "add", .int (numT x)]
theorem f_deed (x : Int) : F_law_deed c [.int x] S = .ok (deedT x) S := by
  unfold deedT numT
  by_cases h1 : x / 8 % 9 = 4 <;> by_cases h2 : x % 8 = 3 <;> by_cases h3 : x % 8 = 4 <;> by_cases h4 : x % 8 = 5 <;> first
    | omega
    | simp [F_law_deed, d_law_deed, h1, h2, h3, h4]
def someL (x many : Int) : List Str := if x % 4 > 1 then [] else if x % 4 = 1 then [lawName (x / 4 % many), lawName (x / 64 % many)] else [lawName (x / 4 % many)]
theorem f_some (x many : Int) (hm : 0 < many) : F_law_some c [.int x, .int many] S = .ok (strL (someL x many)) S := by
  unfold someL strL
  by_cases h1 : 1 < x % 4
  · simp [F_law_some, d_law_some, h1]
  · by_cases h2 : x % 4 = 1
    · simp [F_law_some, d_law_some, h1, h2, hm, f_name]
    · simp [F_law_some, d_law_some, h1, h2, hm, f_name]
structure Pc where
  nm : Str
  pl : Str
  dd : T
  w0 : List Str
  w1 : List Str
  w2 : List Str
  w3 : List Str
  on : Bool
def Pc.t (p : Pc) : T := .tup [.str p.nm, .str p.pl, p.dd, .lst [strL p.w0, strL p.w1, strL p.w2, strL p.w3], .bl p.on]
def placeOf (x : Int) : Str := if x / 4096 % 4 = 3 then "side" else "hub"
def pcAt (ns : List Int) (start many : Int) (k : Nat) : Pc :=
  { nm := lawName k, pl := placeOf (cellAt ns (start + 3 * k)), dd := deedT (cellAt ns (start + 3 * k)),
    w0 := someL (cellAt ns (start + 3 * k + 1)) (many + 1), w1 := someL (cellAt ns (start + 3 * k + 1) / 7) (many + 1),
    w2 := someL (cellAt ns (start + 3 * k + 2)) (many + 1), w3 := someL (cellAt ns (start + 3 * k + 2) / 7) (many + 1), on := !decide (cellAt ns (start + 3 * k) / 64 % 6 = 1) }
def pcs (ns : List Int) (start many : Int) : List Pc := (List.range many.toNat).map (pcAt ns start many)
theorem placeOf_ok (x : Int) : atI [T.str "hub", T.str "hub", T.str "hub", T.str "side"] (x / 4096 % 4) = some (.str (placeOf x)) := by
  have h1 := Int.emod_nonneg (x / 4096) (show (4 : Int) ≠ 0 by decide)
  have h2 := Int.emod_lt_of_pos (x / 4096) (show (0 : Int) < 4 by decide)
  unfold placeOf
  have : x / 4096 % 4 = 0 ∨ x / 4096 % 4 = 1 ∨ x / 4096 % 4 = 2 ∨ x / 4096 % 4 = 3 := by omega
  rcases this with h | h | h | h <;> rw [h] <;> rfl
theorem deed_hb (n : Nat) (x : Int) : HB n (deedT x) := by
  unfold deedT
  split
  · exact hb_tup (by simp)
  · split
    · exact hb_tup (by simp)
    · split
      · exact hb_tup (by simp)
      · exact hb_tup (by simp)
theorem pc_hb (n : Nat) (p : Pc) (h : HB n p.dd) : HB n p.t := hb_tup (by
  intro t ht
  simp only [List.mem_cons, List.not_mem_nil, or_false] at ht
  rcases ht with rfl | rfl | rfl | rfl | rfl
  · simp
  · simp
  · exact h
  · exact hb_lst (by
      intro t ht
      simp only [List.mem_cons, List.not_mem_nil, or_false] at ht
      rcases ht with rfl | rfl | rfl | rfl <;> exact hb_strL _)
  · simp)
theorem range_split {n : Nat} {pre : List T} {t : T} {post : List T} (h : intsT 0 n = pre ++ t :: post) : pre.length < n ∧ t = .int pre.length := by
  have hl : pre.length < (intsT 0 n).length := by rw [h]; simp
  rw [intsT_len] at hl
  have e := intsT_at (lo := 0) hl
  rw [h, List.getElem?_append_right (Nat.le_refl _), Nat.sub_self] at e
  simp at e
  exact ⟨hl, e⟩
theorem set_last {S : Sto} {x y : Cell} : (S ++ [x]).set S.length y = S ++ [y] := by
  rw [List.set_append_right _ _ (Nat.le_refl _), Nat.sub_self]
  rfl
theorem get_last {S : Sto} {x : Cell} : (S ++ [x])[S.length]? = some x := by simp
theorem f_pieces (ns : List Int) (start many : Int) (hs : 0 ≤ start) (hm0 : 0 ≤ many) (hm : many ≤ 100) :
    F_law_pieces c [.lst (ns.map .int), .int start, .int many] S = .ok (.lst ((pcs ns start many).map Pc.t)) S := by
  have run : runD 10 (d_law_pieces c) [.lst (ns.map .int), .int start, .int many] S = .ok (.obj S.length) (S ++ [.lst ((pcs ns start many).map Pc.t)]) := by
    have hb : -1000000 ≤ many ∧ many ≤ 1000000 := by omega
    obtain ⟨ρ', S', e, q⟩ := for_inv (ρ := [some (.lst (ns.map .int)), some (.int start), some (.int many), some (.obj S.length), none, none, none, none, none, none]) (S := S ++ [.lst []])
      (it := iR1 (aCons (eVar 2) aNil)) (g := dName 4) (ts := intsT 0 many.toNat) (st := fun _ => True) (S1 := S ++ [.lst []]) (body := b_law_pieces_1 c)
      (fun pre ρ S1 => (∃ a1 a2 a3 a4 a5 a6, ρ = [some (.lst (ns.map .int)), some (.int start), some (.int many), some (.obj S.length), a1, a2, a3, a4, a5, a6]) ∧ S1 = S ++ [.lst (((List.range pre.length).map (pcAt ns start many)).map Pc.t)])
      (by simp [hb]) ⟨⟨_, _, _, _, _, _, rfl⟩, rfl⟩ (fun pre t post ρ S1 hsplit ⟨⟨a1, a2, a3, a4, a5, a6, hρ⟩, hS⟩ => by
        obtain ⟨hlt, rfl⟩ := range_split hsplit
        subst hρ hS
        refine ⟨trivial, _, rfl, ?_⟩
        have c1 : 0 ≤ start + 3 * (pre.length : Int) := by omega
        have c2 : 0 ≤ start + 3 * (pre.length : Int) + 1 := by omega
        have c3 : 0 ≤ start + 3 * (pre.length : Int) + 2 := by omega
        have hmm : 0 < many + 1 := by omega
        have hlen : (((List.range pre.length).map (pcAt ns start many)).map Pc.t).length < 1000 := by simp; omega
        have hmap : (((List.range (pre ++ [T.int pre.length]).length).map (pcAt ns start many)).map Pc.t) = (((List.range pre.length).map (pcAt ns start many)).map Pc.t) ++ [(pcAt ns start many pre.length).t] := by
          rw [List.length_append, List.length_singleton, List.range_succ, List.map_append, List.map_append]
          rfl
        rw [hmap]
        generalize (((List.range pre.length).map (pcAt ns start many)).map Pc.t) = acc at hlen ⊢
        have happ := x_app (S := S ++ [.lst acc]) (k := S.length) (y := (pcAt ns start many pre.length).t) get_last hlen
        rw [set_last] at happ
        have hok := x_okL (S := S ++ [.lst acc]) (k := S.length) get_last
        refine ⟨[some (.lst (ns.map .int)), some (.int start), some (.int many), some (.obj S.length), some (.int pre.length), some (.int (cellAt ns (start + 3 * pre.length))), some (.int (cellAt ns (start + 3 * pre.length + 1))), some (.int (cellAt ns (start + 3 * pre.length + 2))), some (.str (placeOf (cellAt ns (start + 3 * pre.length)))),
          some (.lst [strL (pcAt ns start many pre.length).w0, strL (pcAt ns start many pre.length).w1, strL (pcAt ns start many pre.length).w2, strL (pcAt ns start many pre.length).w3])], S ++ [.lst (acc ++ [(pcAt ns start many pre.length).t])], ?_, ⟨_, _, _, _, _, _, rfl⟩, rfl⟩
        have hT : (pcAt ns start many pre.length).t = T.tup [T.str (lawName pre.length), T.str (placeOf (cellAt ns (start + 3 * pre.length))), deedT (cellAt ns (start + 3 * pre.length)), T.lst [strL (someL (cellAt ns (start + 3 * pre.length + 1)) (many + 1)), strL (someL (cellAt ns (start + 3 * pre.length + 1) / 7) (many + 1)), strL (someL (cellAt ns (start + 3 * pre.length + 2)) (many + 1)), strL (someL (cellAt ns (start + 3 * pre.length + 2) / 7) (many + 1))], T.bl (!decide (cellAt ns (start + 3 * pre.length) / 64 % 6 = 1))] := rfl
        rw [hT] at happ ⊢
        simp [b_law_pieces_1, f_cell, f_name, f_deed, f_some, c1, c2, c3, hmm, placeOf_ok, hok, happ, pcAt]) (fun _ _ _ => trivial)
    obtain ⟨⟨a1, a2, a3, a4, a5, a6, rfl⟩, rfl⟩ := q
    rw [intsT_len] at e
    simp [d_law_pieces, e, pcs]
  refine frz_list run (by simp) (Nat.le_refl _) get_last fun t ht => ?_
  obtain ⟨p, hp, rfl⟩ := List.mem_map.mp ht
  obtain ⟨k, _, rfl⟩ := List.mem_map.mp hp
  exact pc_hb _ _ (deed_hb _ _)
end DN
set_option Elab.async false
set_option linter.all false
set_option maxRecDepth 100000
namespace DN
open PySem L2 MF
variable {c : Cl} {S : Sto}
structure PlM where
  nm : Str
  kind : Str
  rule : Str
  i : Nat
structure HP where
  nm : Str
  pl : Str
  dd : T
  br : Option Str
  on : Bool
  w0 : List Str
  w1 : List Str
  w2 : List Str
  w3 : List Str
  i : Nat
def byT : Option Str → T
  | none => .non
  | some x => .str x
def HP.fs (p : HP) : List (Str × T) := [("place", .str p.pl), ("deed", p.dd), ("by", byT p.br), ("on", .bl p.on), ("ahead", .obj (p.i + 1)), ("behind", .obj (p.i + 2)), ("needs", .obj (p.i + 3)), ("bars", .obj (p.i + 4))]
def HP.block (c : Cl) (p : HP) : List Cell := [.ins c.piece p.fs, .lst (p.w0.map .str), .lst (p.w1.map .str), .lst (p.w2.map .str), .lst (p.w3.map .str)]
structure PieceAt (c : Cl) (S : Sto) (p : HP) : Prop where
  o : S[p.i]? = some (.ins c.piece p.fs)
  a0 : S[p.i + 1]? = some (.lst (p.w0.map .str))
  a1 : S[p.i + 2]? = some (.lst (p.w1.map .str))
  a2 : S[p.i + 3]? = some (.lst (p.w2.map .str))
  a3 : S[p.i + 4]? = some (.lst (p.w3.map .str))
def plD (pl : List PlM) : List (Key × T) := pl.map fun q => (.inr q.nm, .obj q.i)
def psD (ps : List HP) : List (Key × T) := ps.map fun p => (.inr p.nm, .obj p.i)
def hallFs (h : Nat) : List (Str × T) := [("places", .obj (h + 1)), ("pieces", .obj (h + 2))]
structure HallAt (c : Cl) (S : Sto) (h : Nat) (pl : List PlM) (ps : List HP) : Prop where
  hall : S[h]? = some (.ins c.hall (hallFs h))
  places : S[h + 1]? = some (.dic (plD pl))
  pieces : S[h + 2]? = some (.dic (psD ps))
  place : ∀ q ∈ pl, S[q.i]? = some (.ins c.place [("kind", .str q.kind), ("rule", .str q.rule)])
  piece : ∀ p ∈ ps, PieceAt c S p
  far : ∀ p ∈ ps, h + 3 ≤ p.i
  pw : ps.Pairwise fun p q => p.i + 5 ≤ q.i
  nd : (ps.map (·.nm)).Nodup
theorem valT_ps (x : Str) : ∀ (ps : List HP), valT (psD ps) (.inr x) = (ps.find? fun p => decide (p.nm = x)).map fun p => T.obj p.i
  | [] => rfl
  | p :: ps => by
    have ih := valT_ps x ps
    by_cases h : p.nm = x
    · have : valT (psD (p :: ps)) (.inr x) = some (.obj p.i) := by simp [valT, psD, h]
      rw [this]
      simp [h]
    · have e : valT (psD (p :: ps)) (.inr x) = valT (psD ps) (.inr x) := by
        simp [valT, psD, List.find?_cons, h]
      rw [e, ih]
      simp [h]
theorem valT_pl (x : Str) : ∀ (pl : List PlM), valT (plD pl) (.inr x) = (pl.find? fun p => decide (p.nm = x)).map fun p => T.obj p.i
  | [] => rfl
  | p :: ps => by
    have ih := valT_pl x ps
    by_cases h : p.nm = x
    · have : valT (plD (p :: ps)) (.inr x) = some (.obj p.i) := by simp [valT, plD, h]
      rw [this]
      simp [h]
    · have e : valT (plD (p :: ps)) (.inr x) = valT (plD ps) (.inr x) := by
        simp [valT, plD, List.find?_cons, h]
      rw [e, ih]
      simp [h]
@[simp] theorem x_fld (C : Addr) (f : Str) (k : Nat) : gFld C f (.obj k) S = (match insOf S C (.obj k) with | some (_, fs) => (match fs.lookup f with | some u => .ok u S | none => .bad) | none => .bad) := rfl
theorem ins_at {C : Addr} {k : Nat} {fs : List (Str × T)} (h : S[k]? = some (.ins C fs)) : insOf S C (.obj k) = some (k, fs) := by simp [insOf, h]
@[simp] theorem x_meth (C : Addr) (m : Str) (F : Fn) (ds : List T) (fo : DE) (fr : DA) {ρ : Ev} : eMeth C m F ds fo fr ρ S = (fo ρ).bind (fun o => fun S => match insOf S C o with
  | some (_, fs) => if (fs.lookup m).isNone = true then ((fr ρ).bind fun ts => F (o :: (ts ++ ds))) S else .bad
  | none => .bad) S := rfl
theorem dic_at {k : Nat} {kvs : List (Key × T)} (h : S[k]? = some (.dic kvs)) : dicOf S (.obj k) = some kvs := by simp [dicOf, h]
theorem HallAt.ins {h : Nat} {pl : List PlM} {ps : List HP} (A : HallAt c S h pl ps) : insOf S c.hall (.obj h) = some (h, hallFs h) := ins_at A.hall
theorem HallAt.dPieces {h : Nat} {pl : List PlM} {ps : List HP} (A : HallAt c S h pl ps) : dicOf S (.obj (h + 2)) = some (psD ps) := dic_at A.pieces
theorem HallAt.dPlaces {h : Nat} {pl : List PlM} {ps : List HP} (A : HallAt c S h pl ps) : dicOf S (.obj (h + 1)) = some (plD pl) := dic_at A.places
theorem look_places (h : Nat) : List.lookup (Str.ofString "places") (hallFs h) = some (.obj (h + 1)) := by
  unfold hallFs; rw [List.lookup_cons]; rw [show (Str.ofString "places" == Str.ofString "places") = true by decide +kernel]
theorem look_pieces (h : Nat) : List.lookup (Str.ofString "pieces") (hallFs h) = some (.obj (h + 2)) := by
  unfold hallFs
  rw [List.lookup_cons, show (Str.ofString "pieces" == Str.ofString "places") = false by decide +kernel]
  simp only
  rw [List.lookup_cons, show (Str.ofString "pieces" == Str.ofString "pieces") = true by decide +kernel]
theorem noMeth {m : Str} (h : Nat) (h1 : (m == Str.ofString "places") = false) (h2 : (m == Str.ofString "pieces") = false) : List.lookup m (hallFs h) = none := by
  unfold hallFs
  rw [List.lookup_cons, h1]
  simp only
  rw [List.lookup_cons, h2]
  rfl
theorem f_names {h : Nat} {pl : List PlM} {ps : List HP} (A : HallAt c S h pl ps) : F_Hall_names c [.obj h] S = .ok (strL (ps.map (·.nm))) S := by
  have e : itemsOf S (.obj (h + 2)) = some ((ps.map (·.nm)).map T.str) := by
    unfold itemsOf
    have : seqOf S (.obj (h + 2)) = none := by simp [seqOf, lstOf, A.pieces]
    rw [this, A.dPieces]
    simp [psD, kT]
  simp [F_Hall_names, d_Hall_names, A.ins, look_pieces, gList, e, strL]
theorem f_find_piece {h : Nat} {pl : List PlM} {ps : List HP} (A : HallAt c S h pl ps) {x : Str} {p : HP} (hp : ps.find? (fun p => decide (p.nm = x)) = some p) : F_Hall_find_piece c [.obj h, .str x] S = .ok (.obj p.i) S := by
  have e := valT_ps x ps
  rw [hp] at e
  simp [F_Hall_find_piece, d_Hall_find_piece, A.ins, look_pieces, gDnotin, gDix, A.dPieces, keyT, e]
theorem f_find_place {h : Nat} {pl : List PlM} {ps : List HP} (A : HallAt c S h pl ps) {x : Str} {p : PlM} (hp : pl.find? (fun p => decide (p.nm = x)) = some p) : F_Hall_find_place c [.obj h, .str x] S = .ok (.obj p.i) S := by
  have e := valT_pl x pl
  rw [hp] at e
  simp [F_Hall_find_place, d_Hall_find_place, A.ins, look_places, gDnotin, gDix, A.dPlaces, keyT, e]
theorem find_mem {ps : List HP} (nd : (ps.map (·.nm)).Nodup) {p : HP} (hp : p ∈ ps) : ps.find? (fun q => decide (q.nm = p.nm)) = some p := by
  induction ps with
  | nil => cases hp
  | cons q ps ih =>
    rw [List.map_cons, List.nodup_cons] at nd
    rcases List.mem_cons.mp hp with rfl | hp
    · simp
    · have : q.nm ≠ p.nm := fun e => nd.1 (List.mem_map.mpr ⟨p, hp, e.symm⟩)
      rw [List.find?_cons]
      simp [this, ih nd.2 hp]
end DN
set_option Elab.async false
set_option linter.all false
set_option maxRecDepth 100000
namespace DN
open PySem L2 MF
variable {c : Cl} {S : Sto} {ρ : Ev}
@[simp] theorem ofString_inj (a b : String) : (Str.ofString a = Str.ofString b) = (a = b) := by
  apply propext
  constructor
  · intro h
    rw [Str.ofString_eq_toList, Str.ofString_eq_toList] at h
    have h1 : a.toList.map Char.toNat = b.toList.map Char.toNat := by simpa using h
    have inj : ∀ (x y : List Char), x.map Char.toNat = y.map Char.toNat → x = y := by
      intro x
      induction x with
      | nil => intro y h; cases y with | nil => rfl | cons _ _ => simp at h
      | cons p x ih =>
        intro y h
        cases y with
        | nil => simp at h
        | cons q y =>
          simp only [List.map_cons, List.cons.injEq] at h
          rw [ih y h.2]
          have : p = q := by
            have := h.1
            apply Char.ext
            exact UInt32.toNat_inj.mp this
          rw [this]
    exact String.toList_inj.mp (inj _ _ h1)
  · rintro rfl; rfl
@[simp] theorem ofString_beq (a b : String) : (Str.ofString a == Str.ofString b) = (a == b) := by
  rw [Bool.eq_iff_iff, beq_iff_eq, beq_iff_eq, ofString_inj]
@[simp] theorem x_make (C : Addr) (F : Fn) (ds : List T) (fr : DA) : eMake C F ds fr ρ S = (fr ρ).bind (fun ts => fun S => M.bind (F (.obj S.length :: (ts ++ ds))) (fun t => match t with
  | .non => M.pure (.obj S.length)
  | _ => M.bad) (S ++ [.ins C []])) S := rfl
@[simp] theorem x_fldS (C : Addr) (f : Str) (fo fv : DE) : sFldS C f fo fv ρ S = (fv ρ).bind (fun t => (fo ρ).bind fun o => fun S => match insOf S C o with
  | some (k, fs) => if fs.length < 900 then .ok (.nx ρ) (S.set k (.ins C (putFT f t fs))) else .bad
  | none => .bad) S := rfl
@[simp] theorem x_dput (fd fk fv : DE) : sDput fd fk fv ρ S = (fv ρ).bind (fun t => (fd ρ).bind fun d => (fk ρ).bind fun k => fun S => match d, keyT k with
  | .obj j, some key => (match S[j]? with
    | some (.dic kvs) => if kvs.length ≤ 900 then .ok (.nx ρ) (S.set j (.dic (putT kvs key t))) else .bad
    | _ => .bad)
  | _, _ => .bad) S := rfl
@[simp] theorem x_putNil (f : Str) (v : T) : putFT f v [] = [(f, v)] := rfl
@[simp] theorem x_putCons (f g : Str) (v x : T) (r : List (Str × T)) : putFT f v ((g, x) :: r) = if g = f then (g, v) :: r else (g, x) :: putFT f v r := rfl
theorem getR (L : List Cell) (j : Nat) : (S ++ L)[S.length + j]? = L[j]? := by rw [List.getElem?_append_right (by omega)]; congr 1; omega
theorem setR (L : List Cell) (j : Nat) (v : Cell) : (S ++ L).set (S.length + j) v = S ++ L.set j v := by rw [List.set_append_right _ _ (by omega)]; congr 2; omega
theorem getR0 (L : List Cell) : (S ++ L)[S.length]? = L[0]? := getR L 0
theorem setR0 (L : List Cell) (v : Cell) : (S ++ L).set S.length v = S ++ L.set 0 v := setR L 0 v
@[simp] theorem x_insR (C : Addr) (fs : List (Str × T)) (L : List Cell) : insOf (S ++ Cell.ins C fs :: L) C (.obj S.length) = some (S.length, fs) := by
  exact ins_at (by rw [getR0]; rfl)
theorem f_Hall_init : F_Hall___init__ c [.obj S.length] (S ++ [.ins c.hall []]) = .ok .non (S ++ [.ins c.hall (hallFs S.length), .dic [], .dic []]) := by
  simp [F_Hall___init__, d_Hall___init__, setR0, hallFs]
theorem f_Place_init (k r : Str) : F_Place___init__ c [.obj S.length, .str k, .str r] (S ++ [.ins c.place []]) = .ok .non (S ++ [.ins c.place [("kind", .str k), ("rule", .str r)]]) := by
  simp [F_Place___init__, d_Place___init__, setR0]
def newP (nm pl : Str) (dd : T) (br : Option Str) (i : Nat) : HP := { nm := nm, pl := pl, dd := dd, br := br, on := true, w0 := [], w1 := [], w2 := [], w3 := [], i := i }
theorem f_Piece_init (nm pl : Str) (dd : T) (br : Option Str) : F_Piece___init__ c [.obj S.length, .str pl, dd, byT br] (S ++ [.ins c.piece []]) = .ok .non (S ++ (newP nm pl dd br S.length).block c) := by
  simp [F_Piece___init__, d_Piece___init__, setR0, HP.block, newP, HP.fs]
theorem set_get_ne {k j : Nat} {v : Cell} (h : k ≠ j) : (S.set k v)[j]? = S[j]? := List.getElem?_set_ne h
theorem set_get {k : Nat} {v : Cell} {u : Cell} (h : S[k]? = some u) : (S.set k v)[k]? = some v := by
  have := (List.getElem?_eq_some_iff.mp h).1
  simp [List.getElem?_set, this]
theorem app_get {L : Sto} {k : Nat} {u : Cell} (h : S[k]? = some u) : (S ++ L)[k]? = some u := by
  rw [List.getElem?_append_left (List.getElem?_eq_some_iff.mp h).1]; exact h
theorem PieceAt.app {L : Sto} {p : HP} (A : PieceAt c S p) : PieceAt c (S ++ L) p := ⟨app_get A.o, app_get A.a0, app_get A.a1, app_get A.a2, app_get A.a3⟩
theorem HallAt.app {L : Sto} {h : Nat} {pl : List PlM} {ps : List HP} (A : HallAt c S h pl ps) : HallAt c (S ++ L) h pl ps :=
  ⟨app_get A.hall, app_get A.places, app_get A.pieces, fun q hq => app_get (A.place q hq), fun p hp => (A.piece p hp).app, A.far, A.pw, A.nd⟩
theorem ne_cell {k j : Nat} {u v : Cell} (h : S[k]? = some u) (g : S[j]? = some v) (d : u ≠ v) : k ≠ j := fun e => by subst e; rw [h] at g; exact d (Option.some.inj g)
theorem PieceAt.set {k : Nat} {v : Cell} {p : HP} (A : PieceAt c S p) (h : ∀ j, j < 5 → k ≠ p.i + j) : PieceAt c (S.set k v) p :=
  ⟨by rw [set_get_ne (show k ≠ p.i from h 0 (by decide))]; exact A.o, by rw [set_get_ne (h 1 (by decide))]; exact A.a0, by rw [set_get_ne (h 2 (by decide))]; exact A.a1, by rw [set_get_ne (h 3 (by decide))]; exact A.a2, by rw [set_get_ne (h 4 (by decide))]; exact A.a3⟩
theorem HallAt.lt {h : Nat} {pl : List PlM} {ps : List HP} (A : HallAt c S h pl ps) : h + 2 < S.length := (List.getElem?_eq_some_iff.mp A.pieces).1
theorem PieceAt.lt {p : HP} (A : PieceAt c S p) : p.i + 4 < S.length := (List.getElem?_eq_some_iff.mp A.a3).1
theorem HallAt.hang {h : Nat} {pl : List PlM} {ps : List HP} (A : HallAt c S h pl ps) {nm q : Str} {dd : T} {br : Option Str} (hn : nm ∉ ps.map (·.nm)) :
    HallAt c (S.set (h + 2) (.dic (psD (ps ++ [newP nm q dd br S.length]))) ++ (newP nm q dd br S.length).block c) h pl (ps ++ [newP nm q dd br S.length]) := by
  have hl := A.lt
  have len : (S.set (h + 2) (.dic (psD (ps ++ [newP nm q dd br S.length])))).length = S.length := by simp
  have nb : ∀ j, (S.set (h + 2) (.dic (psD (ps ++ [newP nm q dd br S.length]))) ++ (newP nm q dd br S.length).block c)[S.length + j]? = ((newP nm q dd br S.length).block c)[j]? := fun j => by
    have := getR (S := S.set (h + 2) (.dic (psD (ps ++ [newP nm q dd br S.length])))) ((newP nm q dd br S.length).block c) j
    rw [len] at this
    exact this
  have hpc : ∀ p ∈ ps, PieceAt c (S.set (h + 2) (.dic (psD (ps ++ [newP nm q dd br S.length]))) ++ (newP nm q dd br S.length).block c) p := fun p hp => ((A.piece p hp).set (fun j hj => by have := A.far p hp; omega)).app
  refine ⟨app_get (by rw [set_get_ne (by omega)]; exact A.hall), app_get (by rw [set_get_ne (by omega)]; exact A.places), app_get (set_get A.pieces), fun p hp => app_get ?_, fun p hp => ?_, fun p hp => ?_, ?_, ?_⟩
  · rw [set_get_ne (ne_cell A.pieces (A.place p hp) (by intro z; cases z))]; exact A.place p hp
  · rcases List.mem_append.mp hp with hp | hp
    · exact hpc p hp
    · rw [List.mem_singleton.mp hp]
      exact ⟨nb 0, nb 1, nb 2, nb 3, nb 4⟩
  · rcases List.mem_append.mp hp with hp | hp
    · exact A.far p hp
    · rw [List.mem_singleton.mp hp]; show h + 3 ≤ S.length; omega
  · rw [List.pairwise_append]
    refine ⟨A.pw, by simp, fun p hp r hr => ?_⟩
    rw [List.mem_singleton.mp hr]
    show p.i + 5 ≤ S.length
    have := (A.piece p hp).lt
    omega
  · rw [List.map_append]
    refine List.nodup_append.mpr ⟨A.nd, by simp, fun x hx y hy e => ?_⟩
    simp only [List.map_cons, List.map_nil, List.mem_singleton] at hy
    subst e
    rw [hy] at hx
    exact hn hx
theorem HallAt.block {S' : Sto} {h : Nat} {pl : List PlM} {ps : List HP} (A : HallAt c S h pl ps) {p p' : HP} (hp : p ∈ ps) (hnm : p'.nm = p.nm) (hi : p'.i = p.i) (hout : ∀ k, (k < p.i ∨ p.i + 5 ≤ k) → S'[k]? = S[k]?)
    (hA : PieceAt c S' p') : HallAt c S' h pl (ps.map fun q => if q.nm = p.nm then p' else q) := by
  have hf := A.far p hp
  have P := A.piece p hp
  have eqp : ∀ q ∈ ps, q.nm = p.nm → q = p := fun q hq e => by
    have h1 := find_mem A.nd hq
    have h2 := find_mem A.nd hp
    rw [e, h2] at h1
    exact (Option.some.inj h1).symm
  have far : ∀ q ∈ ps, q.nm ≠ p.nm → p.i + 5 ≤ q.i ∨ q.i + 5 ≤ p.i := fun q hq ne => by
    have hne : q ≠ p := fun e => ne (by rw [e])
    have pw := A.pw
    have : ∀ l : List HP, l.Pairwise (fun p q => p.i + 5 ≤ q.i) → p ∈ l → q ∈ l → p.i + 5 ≤ q.i ∨ q.i + 5 ≤ p.i := by
      intro l
      induction l with
      | nil => intro _ h; cases h
      | cons a l ih =>
        intro pw h1 h2
        rw [List.pairwise_cons] at pw
        rcases List.mem_cons.mp h1 with e1 | g1
        · rcases List.mem_cons.mp h2 with e2 | g2
          · exact absurd (e2.trans e1.symm) hne
          · rw [e1]; exact .inl (pw.1 q g2)
        · rcases List.mem_cons.mp h2 with e2 | g2
          · rw [e2]; exact .inr (pw.1 p g1)
          · exact ih pw.2 g1 g2
    exact this ps pw hp hq
  have mapI : ∀ q : HP, (if q.nm = p.nm then p' else q).nm = q.nm := fun q => by split <;> simp_all
  have mapD : psD (ps.map fun q => if q.nm = p.nm then p' else q) = psD ps := by
    unfold psD
    rw [List.map_map]
    refine List.map_congr_left fun q hq => ?_
    show (Sum.inr (if q.nm = p.nm then p' else q).nm, T.obj (if q.nm = p.nm then p' else q).i) = _
    rw [mapI]
    by_cases e : q.nm = p.nm
    · rw [if_pos e, hi, eqp q hq e]
    · rw [if_neg e]
  refine ⟨by rw [hout _ (by omega)]; exact A.hall, by rw [hout _ (by omega)]; exact A.places, by rw [hout _ (by omega), mapD]; exact A.pieces, fun q hq => ?_, fun q hq => ?_, fun q hq => ?_, ?_, ?_⟩
  · have Q := A.place q hq
    have n0 := ne_cell P.o Q (by intro z; injection z with _ z2; simp [HP.fs] at z2)
    have n1 := ne_cell P.a0 Q (by intro z; cases z)
    have n2 := ne_cell P.a1 Q (by intro z; cases z)
    have n3 := ne_cell P.a2 Q (by intro z; cases z)
    have n4 := ne_cell P.a3 Q (by intro z; cases z)
    rw [hout _ (by omega)]
    exact Q
  · obtain ⟨r, hr, rfl⟩ := List.mem_map.mp hq
    by_cases e : r.nm = p.nm
    · rw [if_pos e]; exact hA
    · rw [if_neg e]
      have R := A.piece r hr
      have fr := far r hr e
      exact ⟨by rw [hout _ (by omega)]; exact R.o, by rw [hout _ (by omega)]; exact R.a0, by rw [hout _ (by omega)]; exact R.a1, by rw [hout _ (by omega)]; exact R.a2, by rw [hout _ (by omega)]; exact R.a3⟩
  · obtain ⟨r, hr, rfl⟩ := List.mem_map.mp hq
    by_cases e : r.nm = p.nm
    · rw [if_pos e, hi]; exact hf
    · rw [if_neg e]; exact A.far r hr
  · rw [List.pairwise_map]
    refine A.pw.imp_of_mem fun {a b} ha hb hab => ?_
    have ia : (if a.nm = p.nm then p' else a).i = a.i := by
      by_cases e : a.nm = p.nm
      · rw [if_pos e, hi, eqp a ha e]
      · rw [if_neg e]
    have ib : (if b.nm = p.nm then p' else b).i = b.i := by
      by_cases e : b.nm = p.nm
      · rw [if_pos e, hi, eqp b hb e]
      · rw [if_neg e]
    rw [ia, ib]; exact hab
  · rw [List.map_map]
    rw [show ((fun x : HP => x.nm) ∘ fun q => if q.nm = p.nm then p' else q) = fun q : HP => q.nm from funext fun q => mapI q]
    exact A.nd
theorem PieceAt.w0 {p : HP} (A : PieceAt c S p) (l : List Str) : PieceAt c (S.set (p.i + 1) (.lst (l.map .str))) { p with w0 := l } :=
  ⟨by rw [set_get_ne (show p.i + 1 ≠ p.i by omega)]; exact A.o, set_get A.a0, by rw [set_get_ne (show p.i + 1 ≠ p.i + 2 by omega)]; exact A.a1, by rw [set_get_ne (show p.i + 1 ≠ p.i + 3 by omega)]; exact A.a2, by rw [set_get_ne (show p.i + 1 ≠ p.i + 4 by omega)]; exact A.a3⟩
theorem PieceAt.w1 {p : HP} (A : PieceAt c S p) (l : List Str) : PieceAt c (S.set (p.i + 2) (.lst (l.map .str))) { p with w1 := l } :=
  ⟨by rw [set_get_ne (show p.i + 2 ≠ p.i by omega)]; exact A.o, by rw [set_get_ne (show p.i + 2 ≠ p.i + 1 by omega)]; exact A.a0, set_get A.a1, by rw [set_get_ne (show p.i + 2 ≠ p.i + 3 by omega)]; exact A.a2, by rw [set_get_ne (show p.i + 2 ≠ p.i + 4 by omega)]; exact A.a3⟩
theorem PieceAt.w2 {p : HP} (A : PieceAt c S p) (l : List Str) : PieceAt c (S.set (p.i + 3) (.lst (l.map .str))) { p with w2 := l } :=
  ⟨by rw [set_get_ne (show p.i + 3 ≠ p.i by omega)]; exact A.o, by rw [set_get_ne (show p.i + 3 ≠ p.i + 1 by omega)]; exact A.a0, by rw [set_get_ne (show p.i + 3 ≠ p.i + 2 by omega)]; exact A.a1, set_get A.a2, by rw [set_get_ne (show p.i + 3 ≠ p.i + 4 by omega)]; exact A.a3⟩
theorem PieceAt.w3 {p : HP} (A : PieceAt c S p) (l : List Str) : PieceAt c (S.set (p.i + 4) (.lst (l.map .str))) { p with w3 := l } :=
  ⟨by rw [set_get_ne (show p.i + 4 ≠ p.i by omega)]; exact A.o, by rw [set_get_ne (show p.i + 4 ≠ p.i + 1 by omega)]; exact A.a0, by rw [set_get_ne (show p.i + 4 ≠ p.i + 2 by omega)]; exact A.a1, by rw [set_get_ne (show p.i + 4 ≠ p.i + 3 by omega)]; exact A.a2, set_get A.a3⟩
theorem PieceAt.turn {p : HP} (A : PieceAt c S p) (b : Bool) : PieceAt c (S.set p.i (.ins c.piece { p with on := b }.fs)) { p with on := b } :=
  ⟨set_get A.o, by rw [set_get_ne (show p.i ≠ p.i + 1 by omega)]; exact A.a0, by rw [set_get_ne (show p.i ≠ p.i + 2 by omega)]; exact A.a1, by rw [set_get_ne (show p.i ≠ p.i + 3 by omega)]; exact A.a2, by rw [set_get_ne (show p.i ≠ p.i + 4 by omega)]; exact A.a3⟩
end DN
set_option Elab.async false
set_option linter.all false
set_option maxRecDepth 100000
namespace DN
open PySem L2 MF
variable {c : Cl} {S : Sto} {ρ : Ev}
theorem f_wished_lst (l : List Str) : F_wished c [strL l] S = .ok (strL l) S := by simp [F_wished, d_wished, gIs, isNon, strL, gList, itemsOf]
theorem f_wished_tup (l : List Str) : F_wished c [.tup (l.map T.str)] S = .ok (strL l) S := by simp [F_wished, d_wished, gIs, isNon, strL, gList, itemsOf]
theorem putT_new {kvs : List (Key × T)} {k : Key} {v : T} (h : valT kvs k = none) : putT kvs k v = kvs ++ [(k, v)] := by
  unfold putT
  rw [if_neg]
  intro z
  obtain ⟨p, hp, e⟩ := List.any_eq_true.mp z
  unfold valT at h
  rw [Option.map_eq_none_iff, List.find?_eq_none] at h
  exact h p hp e
theorem find_none {ps : List HP} {x : Str} (h : x ∉ ps.map (·.nm)) : ps.find? (fun p => decide (p.nm = x)) = none := by
  rw [List.find?_eq_none]
  intro p hp e
  exact h (List.mem_map.mpr ⟨p, hp, by simpa using e⟩)
theorem f_hang {h : Nat} {pl : List PlM} {ps : List HP} (A : HallAt c S h pl ps) {nm q : Str} {dd : T} {pm : PlM} (hn : nm ∉ ps.map (·.nm)) (hq : pl.find? (fun p => decide (p.nm = q)) = some pm) (hl : ps.length < 24) :
    F_Hall_hang c [.obj h, .str nm, .str q, dd, .non] S = .ok .non (S.set (h + 2) (.dic (psD (ps ++ [newP nm q dd none S.length]))) ++ (newP nm q dd none S.length).block c) := by
  have e1 : valT (psD ps) (.inr nm) = none := by rw [valT_ps, find_none hn]; rfl
  have hm := noMeth (m := Str.ofString "find_place") h (by simp) (by simp)
  have e2 := f_find_place A hq
  have hlen : ¬ (24 : Int) ≤ (psD ps).length := by simp [psD]; omega
  have e3 := f_Piece_init (c := c) (S := S) nm q dd none
  have len := A.lt
  have e4 : (S ++ (newP nm q dd none S.length).block c)[h + 2]? = some (.dic (psD ps)) := app_get A.pieces
  have e5 : (S ++ (newP nm q dd none S.length).block c).set (h + 2) (.dic (putT (psD ps) (.inr nm) (.obj S.length))) = S.set (h + 2) (.dic (psD (ps ++ [newP nm q dd none S.length]))) ++ (newP nm q dd none S.length).block c := by
    rw [List.set_append_left _ _ (by omega), putT_new e1]
    simp [psD, newP]
  have e6 : (psD ps).length ≤ 900 := by simp [psD]; omega
  have A2 : insOf (S ++ (newP nm q dd none S.length).block c) c.hall (.obj h) = some (h, hallFs h) := ins_at (app_get A.hall)
  have e7 : gLenD (.obj (h + 2)) S = .ok (.int (psD ps).length) S := by simp [gLenD, A.pieces]
  have e3' : F_Piece___init__ c [.obj S.length, .str q, dd, .non] (S ++ [.ins c.piece []]) = .ok .non (S ++ (newP nm q dd none S.length).block c) := e3
  simp [F_Hall_hang, d_Hall_hang, A.ins, look_pieces, gDin, A.dPieces, keyT, e1, hm, e2, gIsNot, isNon, e7, hlen, e3', A2, e4, e6, e5]
theorem f_open {h : Nat} {pl : List PlM} {ps : List HP} (A : HallAt c S h pl ps) {nm k r : Str} (hn : pl.find? (fun p => decide (p.nm = nm)) = none) (hl : pl.length < 8) :
    F_Hall_open_place c [.obj h, .str nm, .str k, .str r] S = .ok .non (S.set (h + 1) (.dic (plD (pl ++ [⟨nm, k, r, S.length⟩]))) ++ [.ins c.place [("kind", .str k), ("rule", .str r)]]) := by
  have e1 : valT (plD pl) (.inr nm) = none := by rw [valT_pl, hn]; rfl
  have hlen : ¬ (8 : Int) ≤ (plD pl).length := by simp [plD]; omega
  have e3 := f_Place_init (c := c) (S := S) k r
  have len := A.lt
  have e4 : (S ++ [Cell.ins c.place [("kind", .str k), ("rule", .str r)]])[h + 1]? = some (.dic (plD pl)) := app_get A.places
  have e5 : (S ++ [Cell.ins c.place [("kind", .str k), ("rule", .str r)]]).set (h + 1) (.dic (putT (plD pl) (.inr nm) (.obj S.length))) = S.set (h + 1) (.dic (plD (pl ++ [⟨nm, k, r, S.length⟩]))) ++ [.ins c.place [("kind", .str k), ("rule", .str r)]] := by
    rw [List.set_append_left _ _ (by omega), putT_new e1]
    simp [plD]
  have e6 : (plD pl).length ≤ 900 := by simp [plD]; omega
  have A2 : insOf (S ++ [Cell.ins c.place [("kind", .str k), ("rule", .str r)]]) c.hall (.obj h) = some (h, hallFs h) := ins_at (app_get A.hall)
  have e7 : gLenD (.obj (h + 1)) S = .ok (.int (plD pl).length) S := by simp [gLenD, A.places]
  generalize hN : (S ++ [Cell.ins c.place [("kind", .str k), ("rule", .str r)]]) = N at e3 e4 e5 A2
  simp [F_Hall_open_place, d_Hall_open_place, A.ins, look_places, gDin, A.dPlaces, keyT, e1, e7, hlen, e3, A2, e4, e6, e5]
theorem HallAt.open_ {h : Nat} {pl : List PlM} {ps : List HP} (A : HallAt c S h pl ps) {nm k r : Str} :
    HallAt c (S.set (h + 1) (.dic (plD (pl ++ [⟨nm, k, r, S.length⟩]))) ++ [.ins c.place [("kind", .str k), ("rule", .str r)]]) h (pl ++ [⟨nm, k, r, S.length⟩]) ps := by
  have len := A.lt
  refine ⟨app_get (by rw [set_get_ne (by omega)]; exact A.hall), app_get (set_get A.places), app_get (by rw [set_get_ne (by omega)]; exact A.pieces), fun q hq => ?_, fun p hp => ((A.piece p hp).set (fun j hj => by have := A.far p hp; omega)).app, A.far, A.pw, A.nd⟩
  rcases List.mem_append.mp hq with hq | hq
  · exact app_get (by rw [set_get_ne (ne_cell A.places (A.place q hq) (by intro z; cases z))]; exact A.place q hq)
  · rw [List.mem_singleton.mp hq]
    have := getR0 (S := S.set (h + 1) (.dic (plD (pl ++ [⟨nm, k, r, S.length⟩])))) [Cell.ins c.place [("kind", .str k), ("rule", .str r)]]
    rw [List.length_set] at this
    exact this
theorem lk_ahead (p : HP) : List.lookup (Str.ofString "ahead") p.fs = some (.obj (p.i + 1)) := by simp [HP.fs, List.lookup_cons]
theorem lk_behind (p : HP) : List.lookup (Str.ofString "behind") p.fs = some (.obj (p.i + 2)) := by simp [HP.fs, List.lookup_cons]
theorem lk_needs (p : HP) : List.lookup (Str.ofString "needs") p.fs = some (.obj (p.i + 3)) := by simp [HP.fs, List.lookup_cons]
theorem lk_bars (p : HP) : List.lookup (Str.ofString "bars") p.fs = some (.obj (p.i + 4)) := by simp [HP.fs, List.lookup_cons]
def wished4 (p : HP) (l0 l1 l2 l3 : List Str) : HP := { p with w0 := p.w0 ++ l0, w1 := p.w1 ++ l1, w2 := p.w2 ++ l2, w3 := p.w3 ++ l3 }
theorem ext_at {k : Nat} {w l : List Str} (h : S[k]? = some (.lst (w.map .str))) (hl : w.length + l.length ≤ 1000) : gExt (.obj k) [strL l] S = .ok .non (S.set k (.lst ((w ++ l).map .str))) := by
  have := x_ext (y := strL l) h rfl (by simpa using hl)
  rw [this, List.map_append]
theorem f_wish {h : Nat} {pl : List PlM} {ps : List HP} (A : HallAt c S h pl ps) {p : HP} (hp : p ∈ ps) {t0 t1 t2 t3 : T} {l0 l1 l2 l3 : List Str}
    (e0 : ∀ S, F_wished c [t0] S = .ok (strL l0) S) (e1 : ∀ S, F_wished c [t1] S = .ok (strL l1) S) (e2 : ∀ S, F_wished c [t2] S = .ok (strL l2) S) (e3 : ∀ S, F_wished c [t3] S = .ok (strL l3) S)
    (b0 : p.w0.length + l0.length ≤ 1000) (b1 : p.w1.length + l1.length ≤ 1000) (b2 : p.w2.length + l2.length ≤ 1000) (b3 : p.w3.length + l3.length ≤ 1000) :
    ∃ S', F_Hall_wish c [.obj h, .str p.nm, t0, t1, t2, t3] S = .ok .non S' ∧ HallAt c S' h pl (ps.map fun q => if q.nm = p.nm then wished4 p l0 l1 l2 l3 else q) ∧ S'.length = S.length ∧ ∀ k, (k < p.i ∨ p.i + 5 ≤ k) → S'[k]? = S[k]? := by
  have P0 := A.piece p hp
  have P1 := P0.w0 (p.w0 ++ l0)
  have P2 := P1.w1 (p.w1 ++ l1)
  have P3 := P2.w2 (p.w2 ++ l2)
  have P4 := P3.w3 (p.w3 ++ l3)
  have hm := noMeth (m := Str.ofString "find_piece") h (by simp) (by simp)
  have ef := f_find_piece A (find_mem A.nd hp)
  have x0 := ext_at P0.a0 b0
  have x1 := ext_at P1.a1 b1
  have x2 := ext_at P2.a2 b2
  have x3 := ext_at P3.a3 b3
  have i0 := ins_at P0.o
  have i1 := ins_at P1.o
  have i2 := ins_at P2.o
  have i3 := ins_at P3.o
  have k0 := x_okL P0.a0
  have k1 := x_okL P1.a1
  have k2 := x_okL P2.a2
  have k3 := x_okL P3.a3
  have q1 : ({ p with w0 := p.w0 ++ l0 } : HP).fs = p.fs := rfl
  have q2 : ({ p with w0 := p.w0 ++ l0, w1 := p.w1 ++ l1 } : HP).fs = p.fs := rfl
  have q3 : ({ p with w0 := p.w0 ++ l0, w1 := p.w1 ++ l1, w2 := p.w2 ++ l2 } : HP).fs = p.fs := rfl
  simp only at x0 x1 x2 x3 i0 i1 i2 i3 k0 k1 k2 k3
  rw [q1] at i1
  rw [q2] at i2
  rw [q3] at i3
  have out : ∀ k, (k < p.i ∨ p.i + 5 ≤ k) → ((((S.set (p.i + 1) (.lst ((p.w0 ++ l0).map .str))).set (p.i + 2) (.lst ((p.w1 ++ l1).map .str))).set (p.i + 3) (.lst ((p.w2 ++ l2).map .str))).set (p.i + 4) (.lst ((p.w3 ++ l3).map .str)))[k]? = S[k]? := fun k hk => by
    rw [set_get_ne (by omega), set_get_ne (by omega), set_get_ne (by omega), set_get_ne (by omega)]
  refine ⟨_, ?_, A.block hp (p' := wished4 p l0 l1 l2 l3) rfl rfl out P4, by simp, out⟩
  generalize hS1 : S.set (p.i + 1) (.lst ((p.w0 ++ l0).map .str)) = S1 at *
  generalize hS2 : S1.set (p.i + 2) (.lst ((p.w1 ++ l1).map .str)) = S2 at *
  generalize hS3 : S2.set (p.i + 3) (.lst ((p.w2 ++ l2).map .str)) = S3 at *
  generalize hS4 : S3.set (p.i + 4) (.lst ((p.w3 ++ l3).map .str)) = S4 at *
  simp [F_Hall_wish, d_Hall_wish, A.ins, hm, ef, i0, i1, i2, i3, lk_ahead, lk_behind, lk_needs, lk_bars, k0, k1, k2, k3, e0, e1, e2, e3, x0, x1, x2, x3]
theorem f_switch {h : Nat} {pl : List PlM} {ps : List HP} (A : HallAt c S h pl ps) {p : HP} (hp : p ∈ ps) (b : Bool) :
    ∃ S', F_Hall_switch c [.obj h, .str p.nm, .bl b] S = .ok .non S' ∧ HallAt c S' h pl (ps.map fun q => if q.nm = p.nm then { p with on := b } else q) ∧ S'.length = S.length ∧ ∀ k, (k < p.i ∨ p.i + 5 ≤ k) → S'[k]? = S[k]? := by
  have P0 := A.piece p hp
  have hm := noMeth (m := Str.ofString "find_piece") h (by simp) (by simp)
  have ef := f_find_piece A (find_mem A.nd hp)
  have out : ∀ k, (k < p.i ∨ p.i + 5 ≤ k) → (S.set p.i (.ins c.piece ({ p with on := b } : HP).fs))[k]? = S[k]? := fun k hk => by rw [set_get_ne (by omega)]
  have i0 := ins_at P0.o
  have hfs : putFT (Str.ofString "on") (.bl b) p.fs = ({ p with on := b } : HP).fs := by simp [HP.fs]
  have hlen : p.fs.length < 900 := by simp [HP.fs]
  refine ⟨_, ?_, A.block hp (p' := { p with on := b }) rfl rfl out (P0.turn b), by simp, out⟩
  simp [F_Hall_switch, d_Hall_switch, A.ins, hm, ef, i0, hfs, hlen]
end DN
set_option Elab.async false
set_option linter.all false
set_option maxRecDepth 100000
namespace DN
open PySem L2 MF
variable {c : Cl} {S : Sto} {ρ : Ev}
theorem take_mid {α : Type} (A B : List α) (p : α) : (A ++ p :: B).take (A.length + 1) = A ++ [p] := by
  rw [show A ++ p :: B = (A ++ [p]) ++ B by simp]
  exact List.take_left' (by simp)
theorem drop_mid {α : Type} (A B : List α) (p : α) : (A ++ p :: B).drop (A.length + 1) = B := by
  rw [show A ++ p :: B = (A ++ [p]) ++ B by simp]
  exact List.drop_left' (by simp)
abbrev Core := Str × Str × T × Option Str × Bool × List Str × List Str × List Str × List Str
def HP.core (p : HP) : Core := (p.nm, p.pl, p.dd, p.br, p.on, p.w0, p.w1, p.w2, p.w3)
def Pc.fresh (p : Pc) : Core := (p.nm, p.pl, p.dd, none, true, [], [], [], [])
def Pc.full (p : Pc) : Core := (p.nm, p.pl, p.dd, none, p.on, p.w0, p.w1, p.w2, p.w3)
theorem names_core {l : List HP} {m : List Core} (h : l.map HP.core = m) : l.map (·.nm) = m.map (·.1) := by
  rw [← h, List.map_map]
  rfl
theorem map_upd {h1 h2 : List HP} {p x : HP} (nd : ((h1 ++ p :: h2).map (·.nm)).Nodup) : (h1 ++ p :: h2).map (fun q => if q.nm = p.nm then x else q) = h1 ++ x :: h2 := by
  rw [List.map_append, List.map_cons, if_pos rfl]
  rw [List.map_append, List.map_cons, List.nodup_append] at nd
  obtain ⟨_, n2, n3⟩ := nd
  rw [List.nodup_cons] at n2
  congr 1
  · refine (List.map_congr_left fun q hq => ?_).trans (List.map_id _)
    rw [if_neg fun e => n3 q.nm (List.mem_map.mpr ⟨q, hq, rfl⟩) p.nm (List.mem_cons_self ..) e]
    rfl
  · congr 1
    refine (List.map_congr_left fun q hq => ?_).trans (List.map_id _)
    rw [if_neg fun e => n2.1 (List.mem_map.mpr ⟨q, hq, e⟩)]
    rfl
theorem core_split {l : List HP} {A B : List Core} {x : Core} (h : l.map HP.core = A ++ x :: B) : ∃ h1 p h2, l = h1 ++ p :: h2 ∧ h1.map HP.core = A ∧ p.core = x ∧ h2.map HP.core = B := by
  obtain ⟨h1, r, rfl, e1, e2⟩ := List.map_eq_append_iff.mp h
  obtain ⟨p, h2, rfl, e3, e4⟩ := List.map_eq_cons_iff.mp e2
  exact ⟨h1, p, h2, rfl, e1, e3, e4⟩
def places2 (kind rule : Str) (n : Nat) : List PlM := [⟨"hub", kind, rule, n + 3⟩, ⟨"side", "all", "hold", n + 4⟩]
theorem f_tuple (l : List Str) : gTuple (strL l) S = .ok (.tup (l.map T.str)) S := rfl
theorem hall0 : HallAt c (S ++ [.ins c.hall (hallFs S.length), .dic [], .dic []]) S.length [] [] :=
  ⟨by rw [getR0]; rfl, by rw [getR]; rfl, by rw [getR]; rfl, (by intro q hq; cases hq), (by intro q hq; cases hq), (by intro q hq; cases hq), .nil, .nil⟩
theorem f_law_hall {ps : List Pc} {kind rule : Str} (nd : (ps.map (·.nm)).Nodup) (hl : ps.length ≤ 24) (hpl : ∀ p ∈ ps, p.pl = "hub" ∨ p.pl = "side") (hw : ∀ p ∈ ps, p.w0.length ≤ 900 ∧ p.w1.length ≤ 900 ∧ p.w2.length ≤ 900 ∧ p.w3.length ≤ 900) :
    ∃ S' hps, F_law_hall c [.lst (ps.map Pc.t), .str kind, .str rule] S = .ok (.obj S.length) S' ∧ HallAt c S' S.length (places2 kind rule S.length) hps ∧ hps.map HP.core = ps.map Pc.full ∧ ∀ k, k < S.length → S'[k]? = S[k]? := by
  have H0 := hall0 (c := c) (S := S)
  have o1 := f_open H0 (nm := "hub") (k := kind) (r := rule) rfl (by decide)
  have H1 := H0.open_ (nm := "hub") (k := kind) (r := rule)
  have o2 := f_open H1 (nm := "side") (k := "all") (r := "hold") (by simp) (by simp)
  have H2 := H1.open_ (nm := "side") (k := "all") (r := "hold")
  generalize eS1 : ((S ++ [Cell.ins c.hall (hallFs S.length), .dic [], .dic []]).set (S.length + 1) (.dic (plD ([] ++ [⟨"hub", kind, rule, (S ++ [Cell.ins c.hall (hallFs S.length), .dic [], .dic []]).length⟩]))) ++ [.ins c.place [("kind", .str kind), ("rule", .str rule)]]) = S1 at o1 H1 o2 H2
  have len1 : S1.length = S.length + 4 := by rw [← eS1]; simp
  generalize eS2 : (S1.set (S.length + 1) (.dic (plD ([] ++ [⟨"hub", kind, rule, (S ++ [Cell.ins c.hall (hallFs S.length), .dic [], .dic []]).length⟩] ++ [⟨"side", "all", "hold", S1.length⟩]))) ++ [.ins c.place [("kind", .str "all"), ("rule", .str "hold")]]) = S2 at o2 H2
  have ep : ([] ++ [⟨"hub", kind, rule, (S ++ [Cell.ins c.hall (hallFs S.length), .dic [], .dic []]).length⟩] ++ [⟨"side", "all", "hold", S1.length⟩] : List PlM) = places2 kind rule S.length := by
    rw [len1]; simp [places2]
  rw [ep] at H2
  have len2 : S2.length = S.length + 5 := by rw [← eS2]; simp [len1]
  have keep2 : ∀ k, k < S.length → S2[k]? = S[k]? := fun k hk => by
    have a1 : S1[k]? = S[k]? := by
      rw [← eS1, List.getElem?_append_left (by simp; omega), set_get_ne (by omega), List.getElem?_append_left hk]
    rw [← eS2, List.getElem?_append_left (by simp; omega), set_get_ne (by omega), a1]
  have hm1 := noMeth (m := Str.ofString "open_place") S.length (by simp) (by simp)
  have hm2 := noMeth (m := Str.ofString "hang") S.length (by simp) (by simp)
  have hm3 := noMeth (m := Str.ofString "wish") S.length (by simp) (by simp)
  have hm4 := noMeth (m := Str.ofString "switch") S.length (by simp) (by simp)
  obtain ⟨ρ3, S3, f3, ⟨x3, rfl⟩, hps3, H3, c3, k3⟩ := for_inv (ρ := [some (.lst (ps.map Pc.t)), some (.str kind), some (.str rule), some (.obj S.length), none]) (S := S2) (it := iL (eVar 0)) (g := dName 4) (body := b_law_hall_1 c) (ts := ps.map Pc.t) (st := fun S' => lstOf S' (.lst (ps.map Pc.t)) = some (ps.map Pc.t)) (S1 := S2)
    (fun pre ρ S' => (∃ x, ρ = [some (.lst (ps.map Pc.t)), some (.str kind), some (.str rule), some (.obj S.length), x]) ∧ ∃ hps, HallAt c S' S.length (places2 kind rule S.length) hps ∧ hps.map HP.core = (ps.take pre.length).map Pc.fresh ∧ ∀ k, k < S.length → S'[k]? = S[k]?)
    (by simp) ⟨⟨_, rfl⟩, [], H2, rfl, keep2⟩ (fun pre t post ρ S' hsp ⟨⟨x, hρ⟩, hps, H, hc, hk⟩ => by
      subst hρ
      obtain ⟨A, B, rfl, hA, hB⟩ := List.map_eq_append_iff.mp hsp
      obtain ⟨p, B, rfl, rfl, hB⟩ := List.map_eq_cons_iff.mp hB
      have hlen : pre.length = A.length := by rw [← hA]; simp
      have e1 : (A ++ p :: B).take pre.length = A := by rw [hlen]; simp
      have e2 : (A ++ p :: B).take (pre ++ [p.t]).length = A ++ [p] := by
        rw [List.length_append, List.length_singleton, hlen]
        exact take_mid ..
      rw [e1] at hc
      have hn : p.nm ∉ hps.map (·.nm) := by
        rw [names_core hc, List.map_map]
        rw [List.map_append, List.map_cons, List.nodup_append] at nd
        intro hm
        obtain ⟨q, hq, e⟩ := List.mem_map.mp hm
        exact nd.2.2 q.nm (List.mem_map.mpr ⟨q, hq, rfl⟩) p.nm (List.mem_cons_self ..) e
      have hL : hps.length < 24 := by
        have : hps.length = A.length := by have := congrArg List.length hc; simpa using this
        rw [List.length_append, List.length_cons] at hl
        omega
      obtain ⟨pm, hpm⟩ : ∃ pm, (places2 kind rule S.length).find? (fun q => decide (q.nm = p.pl)) = some pm := by
        rcases hpl p (by simp) with e | e
        · exact ⟨⟨"hub", kind, rule, S.length + 3⟩, by rw [e]; simp [places2]⟩
        · exact ⟨⟨"side", "all", "hold", S.length + 4⟩, by rw [e]; simp [places2]⟩
      have hh := f_hang H (dd := p.dd) hn hpm hL
      refine ⟨rfl, _, rfl, [some (.lst ((A ++ p :: B).map Pc.t)), some (.str kind), some (.str rule), some (.obj S.length), some p.t], _, ?_, ⟨_, rfl⟩, _, H.hang (dd := p.dd) (br := none) (q := p.pl) hn, ?_, fun k hk2 => ?_⟩
      · simp [b_law_hall_1, Pc.t, H.ins, hm2, hh]
      · rw [e2, List.map_append, List.map_append, hc]
        rfl
      · have := H.lt
        rw [List.getElem?_append_left (by simp; omega), set_get_ne (by omega)]
        exact hk k hk2) (fun _ _ _ => rfl)
  rw [List.length_map, List.take_length] at c3
  obtain ⟨ρ4, S4, f4, ⟨x4, rfl⟩, hps4, H4, c4, k4⟩ := for_inv (ρ := [some (.lst (ps.map Pc.t)), some (.str kind), some (.str rule), some (.obj S.length), x3]) (S := S3) (it := iL (eVar 0)) (g := dName 4) (body := b_law_hall_2 c) (ts := ps.map Pc.t) (st := fun S' => lstOf S' (.lst (ps.map Pc.t)) = some (ps.map Pc.t)) (S1 := S3)
    (fun pre ρ S' => (∃ x, ρ = [some (.lst (ps.map Pc.t)), some (.str kind), some (.str rule), some (.obj S.length), x]) ∧ ∃ hps, HallAt c S' S.length (places2 kind rule S.length) hps ∧ hps.map HP.core = (ps.take pre.length).map Pc.full ++ (ps.drop pre.length).map Pc.fresh ∧ ∀ k, k < S.length → S'[k]? = S[k]?)
    (by simp) ⟨⟨_, rfl⟩, hps3, H3, by simpa using c3, k3⟩ (fun pre t post ρ S' hsp ⟨⟨x, hρ⟩, hps, H, hc, hk⟩ => by
      subst hρ
      obtain ⟨A, B, rfl, hA, hB⟩ := List.map_eq_append_iff.mp hsp
      obtain ⟨p, B, rfl, rfl, hB⟩ := List.map_eq_cons_iff.mp hB
      have hlen : pre.length = A.length := by rw [← hA]; simp
      have e1 : (A ++ p :: B).take pre.length = A := by rw [hlen]; simp
      have e1' : (A ++ p :: B).drop pre.length = p :: B := by rw [hlen]; simp
      have e2 : (A ++ p :: B).take (pre ++ [p.t]).length = A ++ [p] := by
        rw [List.length_append, List.length_singleton, hlen]
        exact take_mid ..
      have e2' : (A ++ p :: B).drop (pre ++ [p.t]).length = B := by
        rw [List.length_append, List.length_singleton, hlen]
        exact drop_mid ..
      rw [e1, e1', List.map_cons] at hc
      rw [e2, e2']
      obtain ⟨h1, hp, h2, rfl, g1, g2, g3⟩ := core_split hc
      have hmem : hp ∈ h1 ++ hp :: h2 := by simp
      have w := hw p (by simp)
      obtain ⟨b1, b2, b3, b4, b5, b6, b7, b8, b9⟩ : hp.nm = p.nm ∧ hp.pl = p.pl ∧ hp.dd = p.dd ∧ hp.br = none ∧ hp.on = true ∧ hp.w0 = [] ∧ hp.w1 = [] ∧ hp.w2 = [] ∧ hp.w3 = [] := by
        have := g2
        simp only [HP.core, Pc.fresh, Prod.mk.injEq] at this
        exact this
      obtain ⟨S5, w1, w2, w3, w4⟩ := f_wish H hmem (t0 := strL p.w0) (t1 := .tup (p.w1.map T.str)) (t2 := strL p.w2) (t3 := strL p.w3) (fun S => f_wished_lst _) (fun S => f_wished_tup _) (fun S => f_wished_lst _) (fun S => f_wished_lst _)
        (by rw [b6]; simp; omega) (by rw [b7]; simp; omega) (by rw [b8]; simp; omega) (by rw [b9]; simp; omega)
      rw [map_upd H.nd] at w2
      rw [b1] at w1
      have far := H.far hp hmem
      have k5 : ∀ k, k < S.length → S5[k]? = S[k]? := fun k hk2 => by rw [w4 k (by omega)]; exact hk k hk2
      have c5 : (wished4 hp p.w0 p.w1 p.w2 p.w3).core = (p.nm, p.pl, p.dd, none, true, p.w0, p.w1, p.w2, p.w3) := by
        simp [wished4, HP.core, b1, b2, b3, b4, b5, b6, b7, b8, b9]
      refine ⟨rfl, _, rfl, [some (.lst ((A ++ p :: B).map Pc.t)), some (.str kind), some (.str rule), some (.obj S.length), some p.t], ?_⟩
      by_cases hon : p.on = true
      · refine ⟨S5, ?_, ⟨_, rfl⟩, _, w2, ?_, k5⟩
        · simp [b_law_hall_2, Pc.t, H.ins, w2.ins, hm3, f_tuple, w1, hon]
        · rw [List.map_append, List.map_cons, g1, g3, c5, List.map_append]
          simp [Pc.full, hon]
      · have hon : p.on = false := by simpa using hon
        have hmem2 : wished4 hp p.w0 p.w1 p.w2 p.w3 ∈ h1 ++ wished4 hp p.w0 p.w1 p.w2 p.w3 :: h2 := by simp
        obtain ⟨S6, s1, s2, s3, s4⟩ := f_switch w2 hmem2 false
        rw [map_upd w2.nd] at s2
        have n6 : (wished4 hp p.w0 p.w1 p.w2 p.w3).nm = p.nm := b1
        have i6 : (wished4 hp p.w0 p.w1 p.w2 p.w3).i = hp.i := rfl
        rw [n6] at s1
        refine ⟨S6, ?_, ⟨_, rfl⟩, _, s2, ?_, fun k hk2 => ?_⟩
        · simp [b_law_hall_2, Pc.t, H.ins, w2.ins, hm3, hm4, f_tuple, w1, hon, s1]
        · rw [List.map_append, List.map_cons, g1, g3, List.map_append]
          simp [Pc.full, hon, HP.core, wished4, b1, b2, b3, b4, b5, b6, b7, b8, b9]
        · rw [s4 k (by rw [i6]; omega)]; exact k5 k hk2) (fun _ _ _ => rfl)
  rw [List.length_map, List.take_length, List.drop_length, List.map_nil, List.append_nil] at c4
  refine ⟨S4, hps4, ?_, H4, c4, k4⟩
  have i0 := H0.ins
  have i1 := H1.ins
  simp [F_law_hall, d_law_hall, f_Hall_init, i0, i1, hm1, o1, o2, f3, f4]
end DN
set_option Elab.async false
set_option linter.all false
set_option maxRecDepth 100000
namespace DN
open PySem L2 MF
variable {c : Cl} {S : Sto} {ρ : Ev}
def okN (x : Str) : Prop := PyData.strOk x = true
theorem pds_strs : ∀ (l : List Str), pds (l.map T.str) = some (l.map PyData.str)
  | [] => by simp [pds]
  | a :: r => by simp [pds, pd, pds_strs r]
theorem canLay_strs : ∀ {l : List Str}, (∀ x ∈ l, okN x) → PyData.canLayAll0 (l.map PyData.str) = true
  | [], _ => by simp [PyData.canLayAll0]
  | a :: r, h => by
    simp only [List.map_cons, PyData.canLayAll0, PyData.canLay0, Bool.and_eq_true]
    exact ⟨h a (List.mem_cons_self ..), canLay_strs fun x hx => h x (List.mem_cons_of_mem _ hx)⟩
theorem depth_strs : ∀ (l : List Str), PyData.depthAll (l.map PyData.str) = 0
  | [] => by simp [PyData.depthAll]
  | a :: r => by simp [PyData.depthAll, PyData.depth, depth_strs r]
theorem eqv_strs : ∀ (l m : List Str), PyData.eqvAll (l.map PyData.str) (m.map PyData.str) = decide (l = m)
  | [], [] => by simp [PyData.eqvAll]
  | [], _ :: _ => by simp [PyData.eqvAll]
  | _ :: _, [] => by simp [PyData.eqvAll]
  | a :: r, b :: s => by
    simp only [List.map_cons, PyData.eqvAll, PyData.eqv, eqv_strs r s]
    rw [Bool.eq_iff_iff]
    simp
theorem eqS_data {x y : T} {a b : PyData} (hx : toV x = none ∨ toV y = none) (ha : pdS S x = some a) (hb : pdS S y = some b) (ca : a.canLay0 = true) (cb : b.canLay0 = true) (da : a.depth ≤ 50) : eqS S x y = some (PyData.eqv a b) := by
  unfold eqS
  rcases hx with h | h
  · rw [h]; simp [ha, hb, ca, cb, da]
  · rw [h]
    cases toV x <;> simp [ha, hb, ca, cb, da]
theorem pdS_lst {t : T} {l : List Str} (h : lstOf S t = some (l.map T.str)) : pdS S t = some (.list (l.map PyData.str)) := by
  cases t with
  | lst ts => simp [lstOf] at h; subst h; simp [pdS, pd, pds_strs]
  | obj k => have := lstOf_obj h; simp [pdS, this, pds_strs]
  | _ => simp [lstOf] at h
theorem toV_lst {t : T} {ts : List T} (h : lstOf S t = some ts) : toV t = none := by
  cases t <;> first | rfl | simp [lstOf] at h
theorem x_neL {x y : T} {l m : List Str} (hx : lstOf S x = some (l.map T.str)) (hy : lstOf S y = some (m.map T.str)) (ol : ∀ z ∈ l, okN z) (om : ∀ z ∈ m, okN z) : gNe x y S = .ok (.bl (!decide (l = m))) S := by
  have := eqS_data (.inl (toV_lst hx)) (pdS_lst hx) (pdS_lst hy) (by simp only [PyData.canLay0]; exact canLay_strs ol) (by simp only [PyData.canLay0]; exact canLay_strs om) (by simp [PyData.depth, depth_strs])
  simp [gNe, this, PyData.eqv, eqv_strs]
structure Lk where
  w : Str
  a : Str
  b : Str
def Lk.t (k : Lk) : T := .tup [.str k.w, .str k.a, .str k.b]
def Lk.d (k : Lk) : PyData := .tuple [.str k.w, .str k.a, .str k.b]
def Lk.ok (k : Lk) : Prop := okN k.w ∧ okN k.a ∧ okN k.b
theorem pd_lk (k : Lk) : pd k.t = some k.d := by simp [Lk.t, Lk.d, pd, pds]
theorem lay_lk {k : Lk} (h : k.ok) : k.d.canLay0 = true := by
  obtain ⟨h1, h2, h3⟩ := h
  unfold okN at h1 h2 h3
  simp [Lk.d, PyData.canLay0, PyData.canLayAll0, h1, h2, h3]
theorem x_neLk {k : Lk} (h : k.ok) : gNe k.t k.t S = .ok (.bl false) S := by
  have := eqS_data (S := S) (x := k.t) (y := k.t) (.inl rfl) (pd_lk k) (pd_lk k) (lay_lk h) (lay_lk h) (by simp [Lk.d, PyData.depth, PyData.depthAll])
  have e : PyData.eqv k.d k.d = true := by simp [Lk.d, PyData.eqv, PyData.eqvAll]
  simp [gNe, this, e]
theorem pds_lk : ∀ (l : List Lk), pds (l.map Lk.t) = some (l.map Lk.d)
  | [] => by simp [pds]
  | a :: r => by simp [pds, pd_lk, pds_lk r]
theorem lays_lk : ∀ {l : List Lk}, (∀ x ∈ l, x.ok) → PyData.canLayAll0 (l.map Lk.d) = true
  | [], _ => by simp [PyData.canLayAll0]
  | a :: r, h => by
    simp only [List.map_cons, PyData.canLayAll0, Bool.and_eq_true]
    exact ⟨lay_lk (h a (List.mem_cons_self ..)), lays_lk fun x hx => h x (List.mem_cons_of_mem _ hx)⟩
theorem depth_lk : ∀ (l : List Lk), PyData.depthAll (l.map Lk.d) ≤ 1
  | [] => by simp [PyData.depthAll]
  | a :: r => by
    have := depth_lk r
    simp [PyData.depthAll, PyData.depth, Lk.d] at this ⊢
    omega
theorem x_eqNil {l : List Lk} (h : ∀ x ∈ l, x.ok) : gEq (.lst (l.map Lk.t)) (.lst []) S = .ok (.bl l.isEmpty) S := by
  have := eqS_data (S := S) (x := .lst (l.map Lk.t)) (y := .lst []) (a := .list (l.map Lk.d)) (b := .list []) (.inl rfl) (by simp [pdS, pd, pds_lk]) (by simp [pdS, pd, pds]) (by simp only [PyData.canLay0]; exact lays_lk h) (by simp [PyData.canLay0, PyData.canLayAll0]) (by have := depth_lk l; simp [PyData.depth]; omega)
  have e : PyData.eqv (.list (l.map Lk.d)) (.list []) = l.isEmpty := by
    cases l <;> simp [PyData.eqv, PyData.eqvAll]
  simp [gEq, this, e]
def lackOf (names : List Str) (nm : Str) (needs bars : List Str) : List Lk :=
  ((needs.filter fun o => !names.contains o).map fun o => ⟨"needs", nm, o⟩) ++ ((bars.filter fun o => names.contains o).map fun o => ⟨"bars", nm, o⟩)
abbrev W3 := Str × List Str × List Str
def lacksL (names : List Str) (l : List W3) : List Lk := l.flatMap fun p => if names.contains p.1 then lackOf names p.1 p.2.1 p.2.2 else []
def Pc.w (p : Pc) : W3 := (p.nm, p.w2, p.w3)
def HP.w (p : HP) : W3 := (p.nm, p.w2, p.w3)
theorem lstOf_app {t : T} {ts : List T} {L : Sto} (h : lstOf S t = some ts) : lstOf (S ++ L) t = some ts := by
  cases t with
  | lst us => exact h
  | obj k => exact x_lstO (app_get (lstOf_obj h))
  | _ => simp [lstOf] at h
theorem seqOf_lst {t : T} {ts : List T} (h : lstOf S t = some ts) : seqOf S t = some ts := by
  cases t <;> first | exact h | simp [lstOf] at h
theorem lack_len (names : List Str) (nm : Str) (n b : List Str) : (lackOf names nm n b).length ≤ n.length + b.length := by
  unfold lackOf
  rw [List.length_append, List.length_map, List.length_map]
  have h1 := List.length_filter_le (fun o => !names.contains o) n
  have h2 := List.length_filter_le (fun o => names.contains o) b
  omega
theorem filter_map_str (p : Str → Bool) : ∀ (l : List Str), ((l.map T.str).filter fun t => match t with | .str x => p x | _ => false) = (l.filter p).map T.str
  | [] => rfl
  | a :: r => by
    rw [List.map_cons, List.filter_cons, List.filter_cons, filter_map_str p r]
    cases h : p a <;> simp [h]
theorem lacks_comp {nm : Str} {l : List Str} {S : Sto} (wd : Str) (q : Str → Bool) (hl : l.length ≤ 1000) {it : DI} {st : Sto → Prop} {tc : DT} {te : DE} {js : List Nat} {ρ : Ev} (hit : it ρ S = .ok (l.map T.str, st) S) (hst : st S)
    (htc : ∀ o : Str, tc (some (.str o) :: js.map fun j => (ρ[j]?).join) S = .ok (q o) S) (hte : ∀ o : Str, te (some (.str o) :: js.map fun j => (ρ[j]?).join) S = .ok (Lk.t ⟨wd, nm, o⟩) S) :
    eComp 1 js it (dName 0) tc te finF ρ S = .ok (.lst (((l.filter q).map fun o => Lk.mk wd nm o).map Lk.t)) S := by
  have := eComp_run (S := S) (ρ := ρ) (js := js) (it := it) (tc := tc) (te := te) (ts := l.map T.str) (st := st) (p := fun t => match t with | .str x => q x | _ => false) (f := fun t => match t with | .str x => Lk.t ⟨wd, nm, x⟩ | _ => .non) hit hst (by simpa using hl)
    (fun t ht => by obtain ⟨o, _, rfl⟩ := List.mem_map.mp ht; exact htc o) (fun t ht _ => by obtain ⟨o, _, rfl⟩ := List.mem_map.mp ht; exact hte o)
  rw [this, filter_map_str, List.map_map, List.map_map]
  rfl
theorem f_law_lacks {ps : List Pc} {names : List Str} {tn : T} (hn : lstOf S tn = some (names.map T.str)) (hw : ∀ p ∈ ps, p.w2.length ≤ 10 ∧ p.w3.length ≤ 10) (hl : ps.length ≤ 24) :
    F_law_lacks c [.lst (ps.map Pc.t), tn] S = .ok (.lst ((lacksL names (ps.map Pc.w)).map Lk.t)) S := by
  have run : runD 4 (d_law_lacks c) [.lst (ps.map Pc.t), tn] S = .ok (.obj S.length) (S ++ [.lst ((lacksL names (ps.map Pc.w)).map Lk.t)]) := by
    obtain ⟨ρ', S', e, ⟨x, rfl⟩, hS, _⟩ := for_inv (ρ := [some (.lst (ps.map Pc.t)), some tn, some (.obj S.length), none]) (S := S ++ [.lst []]) (it := iL (eVar 0)) (g := dName 3) (body := b_law_lacks_3 c) (ts := ps.map Pc.t) (st := fun S' => lstOf S' (.lst (ps.map Pc.t)) = some (ps.map Pc.t)) (S1 := S ++ [.lst []])
      (fun pre ρ S' => (∃ x, ρ = [some (.lst (ps.map Pc.t)), some tn, some (.obj S.length), x]) ∧ S' = S ++ [.lst ((lacksL names ((ps.take pre.length).map Pc.w)).map Lk.t)] ∧ (lacksL names ((ps.take pre.length).map Pc.w)).length ≤ 20 * pre.length)
      (by simp) ⟨⟨_, rfl⟩, rfl, by simp [lacksL]⟩ (fun pre t post ρ S' hsp ⟨⟨x, hρ⟩, hS, hb⟩ => by
        subst hρ
        obtain ⟨A, B, rfl, hA, hB⟩ := List.map_eq_append_iff.mp hsp
        obtain ⟨p, B, rfl, rfl, hB⟩ := List.map_eq_cons_iff.mp hB
        have hlen : pre.length = A.length := by rw [← hA]; simp
        have e1 : (A ++ p :: B).take pre.length = A := by rw [hlen]; simp
        have e2 : (A ++ p :: B).take (pre ++ [p.t]).length = A ++ [p] := by
          rw [List.length_append, List.length_singleton, hlen]
          exact take_mid ..
        rw [e1] at hS hb
        rw [e2]
        have hl' : A.length < 24 := by rw [List.length_append, List.length_cons] at hl; omega
        have w := hw p (by simp)
        have el : lacksL names ((A ++ [p]).map Pc.w) = lacksL names (A.map Pc.w) ++ (if names.contains p.nm then lackOf names p.nm p.w2 p.w3 else []) := by
          unfold lacksL
          rw [List.map_append, List.flatMap_append]
          simp [Pc.w]
        rw [el]
        generalize lacksL names (A.map Pc.w) = acc at hS hb ⊢
        subst hS
        have hb2 : acc.length ≤ 480 := by omega
        refine ⟨rfl, _, rfl, [some (.lst ((A ++ p :: B).map Pc.t)), some tn, some (.obj S.length), some p.t], ?_⟩
        have hin : ∀ (L : Sto), gIn (.str p.nm) tn (S ++ L) = .ok (.bl (names.contains p.nm)) (S ++ L) := fun L => x_inL (seqOf_lst (lstOf_app hn))
        by_cases hc : names.contains p.nm = true
        · have c1 := lacks_comp (S := S ++ [.lst (acc.map Lk.t)]) (ρ := [some (.lst ((A ++ p :: B).map Pc.t)), some tn, some (.obj S.length), some p.t]) (js := [3, 1]) (nm := p.nm) "needs" (fun o => !names.contains o) (l := p.w2) (by omega) (it := i_law_lacks_1 c) (st := fun S' => lstOf S' (strL p.w2) = some (p.w2.map T.str)) (tc := t_law_lacks_1 c) (te := e_law_lacks_1 c)
            (by simp [i_law_lacks_1, Pc.t, strL]) rfl (fun o => by simp [t_law_lacks_1, x_notInL (seqOf_lst (lstOf_app hn))]) (fun o => by simp [e_law_lacks_1, Pc.t, Lk.t])
          have c2 := fun acc2 : List Lk => lacks_comp (S := S ++ [.lst (acc2.map Lk.t)]) (ρ := [some (.lst ((A ++ p :: B).map Pc.t)), some tn, some (.obj S.length), some p.t]) (js := [3, 1]) (nm := p.nm) "bars" (fun o => names.contains o) (l := p.w3) (by omega) (it := i_law_lacks_2 c) (st := fun S' => lstOf S' (strL p.w3) = some (p.w3.map T.str)) (tc := t_law_lacks_2 c) (te := e_law_lacks_2 c)
            (by simp [i_law_lacks_2, Pc.t, strL]) rfl (fun o => by simp [t_law_lacks_2, x_inL (seqOf_lst (lstOf_app hn))]) (fun o => by simp [e_law_lacks_2, Pc.t, Lk.t])
          have ll := lack_len names p.nm p.w2 p.w3
          rw [if_pos hc]
          unfold lackOf at ll ⊢
          rw [List.length_append] at ll
          generalize ((p.w2.filter fun o => !names.contains o).map fun o => Lk.mk "needs" p.nm o) = n1 at c1 ll ⊢
          generalize ((p.w3.filter fun o => names.contains o).map fun o => Lk.mk "bars" p.nm o) = n2 at c2 ll ⊢
          have x1 := x_ext (S := S ++ [.lst (acc.map Lk.t)]) (k := S.length) (y := .lst (n1.map Lk.t)) get_last rfl (by simp only [List.length_map]; omega)
          rw [set_last, ← List.map_append] at x1
          have x2 := x_ext (S := S ++ [.lst ((acc ++ n1).map Lk.t)]) (k := S.length) (y := .lst (n2.map Lk.t)) get_last rfl (by simp only [List.length_map, List.length_append]; omega)
          rw [set_last, ← List.map_append] at x2
          have k1 := x_okL (S := S ++ [.lst (acc.map Lk.t)]) (k := S.length) get_last
          have k2 := x_okL (S := S ++ [.lst ((acc ++ n1).map Lk.t)]) (k := S.length) get_last
          have c2 := c2 (acc ++ n1)
          have hin' := hin [.lst (acc.map Lk.t)]
          rw [hc] at hin'
          refine ⟨S ++ [.lst ((acc ++ n1 ++ n2).map Lk.t)], ?_, ⟨_, rfl⟩, by rw [List.append_assoc], ?_⟩
          · have i0 : gIx p.t (.int 0) (S ++ [Cell.lst (acc.map Lk.t)]) = .ok (.str p.nm) (S ++ [Cell.lst (acc.map Lk.t)]) := by simp [Pc.t]
            generalize S ++ [Cell.lst ((acc ++ n1 ++ n2).map Lk.t)] = Z2 at x2 ⊢
            generalize S ++ [Cell.lst ((acc ++ n1).map Lk.t)] = Z1 at x1 x2 k2 c2
            generalize S ++ [Cell.lst (acc.map Lk.t)] = Z0 at c1 x1 k1 hin' i0 ⊢
            generalize (A ++ p :: B).map Pc.t = PL at c1 c2 ⊢
            simp [b_law_lacks_3, i0, hin', k1, c1, x1, k2, c2, x2]
          · simp only [List.length_append, List.length_singleton]
            omega
        · have hc : names.contains p.nm = false := by simpa using hc
          refine ⟨S ++ [.lst (acc.map Lk.t)], ?_, ⟨_, rfl⟩, by rw [if_neg (by rw [hc]; decide), List.append_nil], ?_⟩
          · have hin' := hin [.lst (acc.map Lk.t)]
            rw [hc] at hin'
            have i0 : gIx p.t (.int 0) (S ++ [Cell.lst (acc.map Lk.t)]) = .ok (.str p.nm) (S ++ [Cell.lst (acc.map Lk.t)]) := by simp [Pc.t]
            simp [b_law_lacks_3, i0, hin']
          · rw [if_neg (by rw [hc]; decide), List.append_nil, List.length_append, List.length_singleton]; omega) (fun _ _ _ => rfl)
    rw [List.length_map, List.take_length] at hS
    subst hS
    simp [d_law_lacks, e]
  refine frz_list run (by simp) (Nat.le_refl _) get_last fun t ht => ?_
  obtain ⟨k, _, rfl⟩ := List.mem_map.mp ht
  exact hb_tup (by simp)
end DN
set_option Elab.async false
set_option linter.all false
set_option maxRecDepth 100000
namespace DN
open PySem L2 MF
variable {c : Cl} {S : Sto} {ρ : Ev}
theorem find_app {A B : List HP} {p : HP} (nd : ((A ++ p :: B).map (·.nm)).Nodup) : (A ++ p :: B).find? (fun q => decide (q.nm = p.nm)) = some p := find_mem nd (by simp)
theorem f_lacks {h : Nat} {pl : List PlM} {ps : List HP} {names : List Str} {tn : T} (H : HallAt c S h pl ps) (hn : lstOf S tn = some (names.map T.str)) (hw : ∀ p ∈ ps, p.w2.length ≤ 10 ∧ p.w3.length ≤ 10) (hl : ps.length ≤ 24) :
    F_lacks c [.obj h, tn] S = .ok (.lst ((lacksL names (ps.map HP.w)).map Lk.t)) S := by
  have hm1 := noMeth (m := Str.ofString "names") h (by simp) (by simp)
  have hm2 := noMeth (m := Str.ofString "find_piece") h (by simp) (by simp)
  have run : runD 5 (d_lacks c) [.obj h, tn] S = .ok (.obj S.length) (S ++ [.lst ((lacksL names (ps.map HP.w)).map Lk.t)]) := by
    have hnm := f_names (H.app (L := [.lst []]))
    have i0 := (H.app (L := [.lst []])).ins
    have hit : iL (eMeth c.hall "names" (lenF 1 (F_Hall_names c)) [] (eVar 0) aNil) [some (.obj h), some tn, some (.obj S.length), none, none] (S ++ [.lst []]) = .ok ((ps.map (·.nm)).map T.str, fun S' => lstOf S' (strL (ps.map (·.nm))) = some ((ps.map (·.nm)).map T.str)) (S ++ [.lst []]) := by
      generalize S ++ [Cell.lst []] = Z at hnm i0 ⊢
      generalize hN : ps.map (·.nm) = N at hnm ⊢
      simp [i0, hm1, hnm, strL]
    obtain ⟨ρ', S', e, ⟨x, y, rfl⟩, hS, _⟩ := for_inv (ρ := [some (.obj h), some tn, some (.obj S.length), none, none]) (S := S ++ [.lst []]) (g := dName 3) (body := b_lacks_3 c) (S1 := S ++ [.lst []])
      (fun pre ρ S' => (∃ x y, ρ = [some (.obj h), some tn, some (.obj S.length), x, y]) ∧ S' = S ++ [.lst ((lacksL names ((ps.take pre.length).map HP.w)).map Lk.t)] ∧ (lacksL names ((ps.take pre.length).map HP.w)).length ≤ 20 * pre.length)
      hit ⟨⟨_, _, rfl⟩, rfl, by simp [lacksL]⟩ (fun pre t post ρ S' hsp ⟨⟨x, y, hρ⟩, hS, hb⟩ => by
        subst hρ
        rw [List.map_map] at hsp
        obtain ⟨A, B, rfl, hA, hB⟩ := List.map_eq_append_iff.mp hsp
        obtain ⟨p, B, rfl, rfl, hB⟩ := List.map_eq_cons_iff.mp hB
        have hlen : pre.length = A.length := by rw [← hA]; simp
        have e1 : (A ++ p :: B).take pre.length = A := by rw [hlen]; simp
        have e2 : ∀ t : T, (A ++ p :: B).take (pre ++ [t]).length = A ++ [p] := fun t => by
          rw [List.length_append, List.length_singleton, hlen]
          exact take_mid ..
        rw [e1] at hS hb
        rw [e2]
        have hl' : A.length < 24 := by rw [List.length_append, List.length_cons] at hl; omega
        have w := hw p (by simp)
        have el : lacksL names ((A ++ [p]).map HP.w) = lacksL names (A.map HP.w) ++ (if names.contains p.nm then lackOf names p.nm p.w2 p.w3 else []) := by
          unfold lacksL
          rw [List.map_append, List.flatMap_append]
          simp [HP.w]
        rw [el]
        generalize lacksL names (A.map HP.w) = acc at hS hb ⊢
        subst hS
        have hb2 : acc.length ≤ 480 := by omega
        refine ⟨rfl, _, rfl, ?_⟩
        have hin : ∀ (L : Sto), gIn (.str p.nm) tn (S ++ L) = .ok (.bl (names.contains p.nm)) (S ++ L) := fun L => x_inL (seqOf_lst (lstOf_app hn))
        have P := H.piece p (by simp)
        by_cases hc : names.contains p.nm = true
        · have HA := fun L : Sto => H.app (L := L)
          have g1 := fun L : Sto => ins_at (P.app (L := L)).o
          have g2 := fun L : Sto => x_lstO (P.app (L := L)).a2
          have g3 := fun L : Sto => x_lstO (P.app (L := L)).a3
          have c1 := lacks_comp (S := S ++ [.lst (acc.map Lk.t)]) (ρ := [some (.obj h), some tn, some (.obj S.length), some (.str p.nm), some (.obj p.i)]) (js := [3, 1]) (nm := p.nm) "needs" (fun o => !names.contains o) (l := p.w2) (by omega) (it := i_lacks_1 c) (st := fun S' => lstOf S' (.obj (p.i + 3)) = some (p.w2.map T.str)) (tc := t_lacks_1 c) (te := e_lacks_1 c)
            (by simp [i_lacks_1, g1, lk_needs, g2]) (g2 _) (fun o => by simp [t_lacks_1, x_notInL (seqOf_lst (lstOf_app hn))]) (fun o => by simp [e_lacks_1, Lk.t])
          have c2 := fun acc2 : List Lk => lacks_comp (S := S ++ [.lst (acc2.map Lk.t)]) (ρ := [some (.obj h), some tn, some (.obj S.length), some (.str p.nm), some (.obj p.i)]) (js := [3, 1]) (nm := p.nm) "bars" (fun o => names.contains o) (l := p.w3) (by omega) (it := i_lacks_2 c) (st := fun S' => lstOf S' (.obj (p.i + 4)) = some (p.w3.map T.str)) (tc := t_lacks_2 c) (te := e_lacks_2 c)
            (by simp [i_lacks_2, g1, lk_bars, g3]) (g3 _) (fun o => by simp [t_lacks_2, x_inL (seqOf_lst (lstOf_app hn))]) (fun o => by simp [e_lacks_2, Lk.t])
          have ll := lack_len names p.nm p.w2 p.w3
          rw [if_pos hc]
          unfold lackOf at ll ⊢
          rw [List.length_append] at ll
          generalize ((p.w2.filter fun o => !names.contains o).map fun o => Lk.mk "needs" p.nm o) = n1 at c1 ll ⊢
          generalize ((p.w3.filter fun o => names.contains o).map fun o => Lk.mk "bars" p.nm o) = n2 at c2 ll ⊢
          have x1 := x_ext (S := S ++ [.lst (acc.map Lk.t)]) (k := S.length) (y := .lst (n1.map Lk.t)) get_last rfl (by simp only [List.length_map]; omega)
          rw [set_last, ← List.map_append] at x1
          have x2 := x_ext (S := S ++ [.lst ((acc ++ n1).map Lk.t)]) (k := S.length) (y := .lst (n2.map Lk.t)) get_last rfl (by simp only [List.length_map, List.length_append]; omega)
          rw [set_last, ← List.map_append] at x2
          have k1 := x_okL (S := S ++ [.lst (acc.map Lk.t)]) (k := S.length) get_last
          have k2 := x_okL (S := S ++ [.lst ((acc ++ n1).map Lk.t)]) (k := S.length) get_last
          have c2 := c2 (acc ++ n1)
          have hin' := hin [.lst (acc.map Lk.t)]
          rw [hc] at hin'
          have hf := f_find_piece (HA [.lst (acc.map Lk.t)]) (find_app H.nd)
          have hi := (HA [.lst (acc.map Lk.t)]).ins
          refine ⟨[some (.obj h), some tn, some (.obj S.length), some (.str p.nm), some (.obj p.i)], S ++ [.lst ((acc ++ n1 ++ n2).map Lk.t)], ?_, ⟨_, _, rfl⟩, by rw [List.append_assoc], ?_⟩
          · generalize S ++ [Cell.lst ((acc ++ n1 ++ n2).map Lk.t)] = Z2 at x2 ⊢
            generalize S ++ [Cell.lst ((acc ++ n1).map Lk.t)] = Z1 at x1 x2 k2 c2
            generalize S ++ [Cell.lst (acc.map Lk.t)] = Z0 at c1 x1 k1 hin' hf hi ⊢
            simp [b_lacks_3, hin', hi, hm2, hf, k1, c1, x1, k2, c2, x2]
          · simp only [List.length_append, List.length_singleton]
            omega
        · have hc : names.contains p.nm = false := by simpa using hc
          refine ⟨[some (.obj h), some tn, some (.obj S.length), some (.str p.nm), y], S ++ [.lst (acc.map Lk.t)], ?_, ⟨_, _, rfl⟩, by rw [if_neg (by rw [hc]; decide), List.append_nil], ?_⟩
          · have hin' := hin [.lst (acc.map Lk.t)]
            rw [hc] at hin'
            simp [b_lacks_3, hin']
          · rw [if_neg (by rw [hc]; decide), List.append_nil, List.length_append, List.length_singleton]; omega) (fun _ _ _ => rfl)
    rw [List.length_map, List.length_map, List.take_length] at hS
    subst hS
    simp [d_lacks, e]
  refine frz_list run (by simp) (Nat.le_refl _) get_last fun t ht => ?_
  obtain ⟨k, _, rfl⟩ := List.mem_map.mp ht
  exact hb_tup (by simp)
theorem f_fits {h : Nat} {pl : List PlM} {ps : List HP} {names : List Str} {tn : T} (H : HallAt c S h pl ps) (hn : lstOf S tn = some (names.map T.str)) (hw : ∀ p ∈ ps, p.w2.length ≤ 10 ∧ p.w3.length ≤ 10) (hl : ps.length ≤ 24) (ok : ∀ k ∈ lacksL names (ps.map HP.w), k.ok) :
    F_fits c [.obj h, tn] S = .ok (.bl (lacksL names (ps.map HP.w)).isEmpty) S := by
  have e := f_lacks H hn hw hl
  have q := x_eqNil (S := S) ok
  generalize lacksL names (ps.map HP.w) = L at e q ⊢
  simp [F_fits, d_fits, e, q]
theorem f_law_right {l : List Lk} (ok : ∀ k ∈ l, k.ok) (hl : l.length ≤ 900) : F_law_right c [.lst (l.map Lk.t), .lst (l.map Lk.t)] S = .ok (.bl true) S := by
  have hb : -1000000 ≤ ((l.map Lk.t).length : Int) ∧ ((l.map Lk.t).length : Int) ≤ 1000000 := by simp only [List.length_map]; omega
  obtain ⟨ρ', S', e, ⟨x, rfl⟩, hS⟩ := for_inv (ρ := [some (.lst (l.map Lk.t)), some (.lst (l.map Lk.t)), none]) (S := S) (it := iR1 (aCons (e1 gLen (eVar 1)) aNil)) (g := dName 2) (body := b_law_right_1 c) (ts := intsT 0 l.length) (st := fun _ => True) (S1 := S)
    (fun pre ρ S' => (∃ x, ρ = [some (.lst (l.map Lk.t)), some (.lst (l.map Lk.t)), x]) ∧ S' = S)
    (by simp at hb; simp [hb]) ⟨⟨_, rfl⟩, rfl⟩ (fun pre t post ρ S' hsp ⟨⟨x, hρ⟩, hS⟩ => by
      subst hρ hS
      obtain ⟨hlt, rfl⟩ := range_split hsp
      have ea : atI (l.map Lk.t) (pre.length : Int) = some (l[pre.length]).t := atI_nat (by rw [List.getElem?_map, List.getElem?_eq_getElem hlt]; rfl)
      have ne := x_neLk (S := S') (ok _ (List.getElem_mem hlt))
      have ia : gIsa .tuple (l[pre.length]).t S' = .ok (.bl true) S' := rfl
      refine ⟨trivial, _, rfl, [some (.lst (l.map Lk.t)), some (.lst (l.map Lk.t)), some (.int pre.length)], S', ?_, ⟨_, rfl⟩, rfl⟩
      generalize (l[pre.length]).t = z at ea ne ia
      generalize l.map Lk.t = L at ea ⊢
      simp [b_law_right_1, ea, ia, ne]) (fun _ _ _ => trivial)
  subst hS
  generalize hL : l.map Lk.t = L at e ⊢
  have ii : gIsa .list (.lst L) S' = .ok (.bl true) S' := rfl
  simp [F_law_right, d_law_right, ii, e]
end DN
set_option Elab.async false
set_option linter.all false
set_option maxRecDepth 100000
namespace DN
open PySem L2 MF
variable {c : Cl} {S : Sto} {ρ : Ev}
theorem names_nd : ((List.range 26).map fun (k : Nat) => lawName k).Nodup := by decide +kernel
theorem name_ok : ∀ k : Nat, k < 26 → okN (lawName k) := by unfold okN; decide +kernel
theorem name_okI {k m : Int} (h0 : 0 < m) (h1 : m ≤ 26) : okN (lawName (k % m)) := by
  have a := Int.emod_nonneg k (show m ≠ 0 by omega)
  have b := Int.emod_lt_of_pos k h0
  have := name_ok (k % m).toNat (by omega)
  rwa [Int.toNat_of_nonneg a] at this
theorem some_ok {x many : Int} (h0 : 0 < many) (h1 : many ≤ 26) : ∀ z ∈ someL x many, okN z := by
  intro z hz
  unfold someL at hz
  split at hz
  · cases hz
  · split at hz
    · simp only [List.mem_cons, List.not_mem_nil, or_false] at hz
      rcases hz with rfl | rfl <;> exact name_okI h0 h1
    · simp only [List.mem_singleton] at hz
      subst hz
      exact name_okI h0 h1
theorem some_len (x many : Int) : (someL x many).length ≤ 2 := by
  unfold someL
  split
  · simp
  · split <;> simp
structure Drawn (ps : List Pc) : Prop where
  nd : (ps.map (·.nm)).Nodup
  len : ps.length ≤ 13
  pl : ∀ p ∈ ps, p.pl = "hub" ∨ p.pl = "side"
  w : ∀ p ∈ ps, p.w0.length ≤ 2 ∧ p.w1.length ≤ 2 ∧ p.w2.length ≤ 2 ∧ p.w3.length ≤ 2
  okn : ∀ p ∈ ps, okN p.nm
  okw : ∀ p ∈ ps, ∀ x, x ∈ p.w0 ∨ x ∈ p.w1 ∨ x ∈ p.w2 ∨ x ∈ p.w3 → okN x
theorem drawn (ns : List Int) (start many : Int) (h0 : 0 ≤ many) (h1 : many ≤ 13) : Drawn (pcs ns start many) := by
  have mem : ∀ p ∈ pcs ns start many, ∃ k : Nat, k < many.toNat ∧ p = pcAt ns start many k := fun p hp => by
    obtain ⟨k, hk, rfl⟩ := List.mem_map.mp hp
    exact ⟨k, List.mem_range.mp hk, rfl⟩
  refine ⟨?_, by simp [pcs]; omega, fun p hp => ?_, fun p hp => ?_, fun p hp => ?_, fun p hp x hx => ?_⟩
  · have e : (pcs ns start many).map (·.nm) = (List.range many.toNat).map fun (k : Nat) => lawName k := by
      unfold pcs
      rw [List.map_map]
      rfl
    rw [e]
    have hs : ((List.range many.toNat).map fun (k : Nat) => lawName k).Sublist ((List.range 26).map fun (k : Nat) => lawName k) := by
      refine List.Sublist.map _ ?_
      rw [show (26 : Nat) = many.toNat + (26 - many.toNat) by omega, List.range_add]
      exact List.sublist_append_left ..
    exact names_nd.sublist hs
  · obtain ⟨k, _, rfl⟩ := mem p hp
    show placeOf _ = _ ∨ placeOf _ = _
    unfold placeOf
    split
    · exact .inr rfl
    · exact .inl rfl
  · obtain ⟨k, _, rfl⟩ := mem p hp
    exact ⟨some_len _ _, some_len _ _, some_len _ _, some_len _ _⟩
  · obtain ⟨k, hk, rfl⟩ := mem p hp
    exact name_ok k (by omega)
  · obtain ⟨k, _, rfl⟩ := mem p hp
    have q : (0 : Int) < many + 1 := by omega
    have q' : many + 1 ≤ 26 := by omega
    rcases hx with h | h | h | h <;> exact some_ok q q' x h
theorem core_w {hps : List HP} {ps : List Pc} (h : hps.map HP.core = ps.map Pc.full) : hps.map HP.w = ps.map Pc.w := by
  have := congrArg (List.map fun q : Core => ((q.1, q.2.2.2.2.2.2.2.1, q.2.2.2.2.2.2.2.2) : W3)) h
  rw [List.map_map, List.map_map] at this
  exact this
theorem core_len {hps : List HP} {ps : List Pc} (h : hps.map HP.core = ps.map Pc.full) : hps.length = ps.length := by
  have := congrArg List.length h
  simpa using this
theorem core_mem {hps : List HP} {ps : List Pc} (h : hps.map HP.core = ps.map Pc.full) {p : HP} (hp : p ∈ hps) : ∃ q ∈ ps, p.core = q.full := by
  have : p.core ∈ hps.map HP.core := List.mem_map.mpr ⟨p, hp, rfl⟩
  rw [h] at this
  obtain ⟨q, hq, e⟩ := List.mem_map.mp this
  exact ⟨q, hq, e.symm⟩
theorem ok_needs : okN "needs" := by unfold okN; decide +kernel
theorem ok_bars : okN "bars" := by unfold okN; decide +kernel
theorem lacks_ok {ps : List Pc} (D : Drawn ps) (names : List Str) : ∀ k ∈ lacksL names (ps.map Pc.w), k.ok := by
  intro k hk
  unfold lacksL at hk
  obtain ⟨q, hq, hk⟩ := List.mem_flatMap.mp hk
  obtain ⟨p, hp, rfl⟩ := List.mem_map.mp hq
  split at hk
  · rcases List.mem_append.mp hk with hk | hk
    · obtain ⟨o, ho, rfl⟩ := List.mem_map.mp hk
      exact ⟨ok_needs, D.okn p hp, D.okw p hp o (.inr (.inr (.inl (List.mem_filter.mp ho).1)))⟩
    · obtain ⟨o, ho, rfl⟩ := List.mem_map.mp hk
      exact ⟨ok_bars, D.okn p hp, D.okw p hp o (.inr (.inr (.inr (List.mem_filter.mp ho).1)))⟩
  · cases hk
theorem lacks_len {ps : List Pc} (D : Drawn ps) (names : List Str) : (lacksL names (ps.map Pc.w)).length ≤ 100 := by
  have : ∀ l : List Pc, (∀ p ∈ l, p.w2.length ≤ 2 ∧ p.w3.length ≤ 2) → (lacksL names (l.map Pc.w)).length ≤ 4 * l.length := by
    intro l
    induction l with
    | nil => intro _; simp [lacksL]
    | cons p l ih =>
      intro h
      have i := ih fun q hq => h q (List.mem_cons_of_mem _ hq)
      have w := h p (List.mem_cons_self ..)
      have ll := lack_len names p.nm p.w2 p.w3
      unfold lacksL at i ⊢
      rw [List.map_cons, List.flatMap_cons, List.length_append, List.length_cons]
      by_cases hc : names.contains p.w.1 = true
      · rw [if_pos hc]
        have : (lackOf names p.w.1 p.w.2.1 p.w.2.2).length ≤ p.w2.length + p.w3.length := ll
        omega
      · rw [if_neg hc]
        simp only [List.length_nil]
        omega
  have := this ps fun p hp => ⟨(D.w p hp).2.2.1, (D.w p hp).2.2.2⟩
  have := D.len
  omega
theorem eComp_runC {js : List Nat} {it : DI} {te : DE} {ts : List T} {st : Sto → Prop} {f : T → T} (hit : it ρ S = .ok (ts, st) S) (hst : st S) (hl : ts.length ≤ 1000)
    (he : ∀ t ∈ ts, te (some t :: js.map fun j => (ρ[j]?).join) S = .ok (f t) S) :
    eComp 1 js it (dName 0) yesD te finC ρ S = .ok (.obj S.length) (S ++ [.lst (ts.map f)]) := by
  unfold eComp
  rw [x_bind, hit]
  show (M.bind (noX _) finC) S = _
  rw [x_bind]
  have := comp_run (tc := yesD) (te := te) (caps := js.map fun j => (ρ[j]?).join) (p := fun _ => true) (f := f) hst ts none [] (by simpa using hl) (fun _ _ => rfl) (fun t h _ => he t h)
  rw [List.filter_eq_self.mpr (fun _ _ => rfl)] at this
  have e2 : noX (compT st (dName 0) yesD te ts (List.replicate 1 none ++ js.map fun j => (ρ[j]?).join) []) S = .ok (ts.map f) S := by
    unfold noX
    rw [show (List.replicate 1 (none : Option T) ++ js.map fun j => (ρ[j]?).join) = none :: js.map fun j => (ρ[j]?).join from rfl, this]
    rfl
  simp only [e2]
  rfl
noncomputable def tail9 (c : Cl) : DS := (sSeq (sSet 6 (e1 gList (eVar 4))) (sSeq (sSet 7 (eCall (lenF 2 (F_law_lacks c)) [] (aCons (eVar 1) (aCons (eVar 4) aNil)))) (sSeq (sIf (tOrD (tNotD (tru (eCall (lenF 2 (F_law_right c)) [] (aCons (eCall (lenF 2 (F_lacks c)) [] (aCons (eVar 2) (aCons (eVar 6) aNil))) (aCons (eVar 7) aNil))))) (tst (e2 gNe (eVar 6) (eVar 4)))) (sRet (eC (.bl false))) sNx) (sSeq (sSet 8 (eCall (lenF 2 (F_fits c)) [] (aCons (eVar 2) (aCons (eVar 6) aNil)))) (sRet (eAnd (e1 (gIsa .bool) (eVar 8)) (e2 gEq (eVar 8) (e2 gEq (eVar 7) (eA lstF aNil)))))))))
theorem d_law_eq : d_law c = (sSeq (sSet 1 (eCall (lenF 3 (F_law_pieces c)) [] (aCons (eVar 0) (aCons (eC (.int 2)) (aCons (e2 (gI fMod) (eCall (lenF 2 (F_law_cell_at c)) [] (aCons (eVar 0) (aCons (eC (.int 0)) aNil))) (eC (.int 13))) aNil))))) (sSeq (sSet 2 (eCall (lenF 3 (F_law_hall c)) [] (aCons (eVar 1) (aCons (eC (.str "all")) (aCons (eC (.str "hold")) aNil))))) (sSeq (sSet 3 (eCall (lenF 2 (F_law_cell_at c)) [] (aCons (eVar 0) (aCons (eC (.int 1)) aNil)))) (sSeq (sSet 4 (eA lstC aNil)) (sSeq (sFor (iL (eVar 1)) (dName 5) (b_law_1 c)) (sSeq (sIf (tst (e2 gEq (e2 (gI fMod) (eCall (lenF 2 (F_law_cell_at c)) [] (aCons (eVar 0) (aCons (eC (.int 1)) aNil))) (eC (.int 2))) (eC (.int 1)))) (sSet 4 (eComp 1 [] (i_law_2 c) (dName 0) yesD (e_law_2 c) finC)) sNx) (tail9 c))))))) := rfl
theorem law9 (ns : List Int) : F_law c [.lst (ns.map .int)] [] = .ok (.bl true) [] := by
  have h0 := Int.emod_nonneg (cellAt ns 0) (show (13 : Int) ≠ 0 by decide)
  have h1 := Int.emod_lt_of_pos (cellAt ns 0) (show (0 : Int) < 13 by decide)
  have D := drawn ns 2 (cellAt ns 0 % 13) h0 (by omega)
  have eP := f_pieces (c := c) (S := []) ns 2 (cellAt ns 0 % 13) (by decide) h0 (by omega)
  generalize pcs ns 2 (cellAt ns 0 % 13) = ps at D eP
  obtain ⟨S1, hps, eH, H, hcore, -⟩ := f_law_hall (c := c) (S := []) (kind := "all") (rule := "hold") D.nd (by have := D.len; omega) D.pl (fun p hp => by have := D.w p hp; omega)
  have hw : hps.map HP.w = ps.map Pc.w := core_w hcore
  have hlen := core_len hcore
  have hwl : ∀ p ∈ hps, p.w2.length ≤ 10 ∧ p.w3.length ≤ 10 := fun p hp => by
    obtain ⟨q, hq, e⟩ := core_mem hcore hp
    have w := D.w q hq
    simp only [HP.core, Pc.full, Prod.mk.injEq] at e
    obtain ⟨_, _, _, _, _, _, _, e2, e3⟩ := e
    rw [e2, e3]
    omega
  obtain ⟨ρ2, S2, eL, ⟨b, x, rfl⟩, nl, hS2, hok, hll⟩ := for_inv (ρ := [some (.lst (ns.map .int)), some (.lst (ps.map Pc.t)), some (.obj 0), some (.int (cellAt ns 1)), some (.obj S1.length), none, none, none, none]) (S := S1 ++ [.lst []]) (it := iL (eVar 1)) (g := dName 5) (body := b_law_1 c) (ts := ps.map Pc.t) (st := fun S' => lstOf S' (.lst (ps.map Pc.t)) = some (ps.map Pc.t)) (S1 := S1 ++ [.lst []])
    (fun pre ρ S' => (∃ b x, ρ = [some (.lst (ns.map .int)), some (.lst (ps.map Pc.t)), some (.obj 0), some (.int b), some (.obj S1.length), x, none, none, none]) ∧ ∃ nl : List Str, S' = S1 ++ [.lst (nl.map .str)] ∧ (∀ z ∈ nl, okN z) ∧ nl.length ≤ pre.length)
    (by simp) ⟨⟨_, _, rfl⟩, [], rfl, (by intro z hz; cases hz), Nat.le_refl _⟩ (fun pre t post ρ S' hsp ⟨⟨b, x, hρ⟩, nl, hS, hok, hll⟩ => by
      subst hρ hS
      obtain ⟨A, B, rfl, hA, hB⟩ := List.map_eq_append_iff.mp hsp
      obtain ⟨p, B, rfl, rfl, hB⟩ := List.map_eq_cons_iff.mp hB
      have hpre : pre.length = A.length := by rw [← hA]; simp
      have hDl := D.len
      rw [List.length_append, List.length_cons] at hDl
      refine ⟨rfl, _, rfl, ?_⟩
      have i0 : ∀ S, gIx p.t (.int 0) S = .ok (.str p.nm) S := fun S => by simp [Pc.t]
      have hokp := D.okn p (by simp)
      generalize (A ++ p :: B).map Pc.t = PL
      by_cases hb : 0 < b % 3
      · have happ := x_app (S := S1 ++ [.lst (nl.map .str)]) (k := S1.length) (y := .str p.nm) get_last (by simp only [List.length_map]; omega)
        rw [set_last] at happ
        have k1 := x_okL (S := S1 ++ [.lst (nl.map .str)]) (k := S1.length) get_last
        have e3 : nl.map T.str ++ [.str p.nm] = (nl ++ [p.nm]).map T.str := by simp
        rw [e3] at happ
        refine ⟨[some (.lst (ns.map .int)), some (.lst PL), some (.obj 0), some (.int (b / 3)), some (.obj S1.length), some p.t, none, none, none], S1 ++ [.lst ((nl ++ [p.nm]).map .str)], ?_, ⟨_, _, rfl⟩, nl ++ [p.nm], rfl, ?_, by simp; omega⟩
        · generalize S1 ++ [Cell.lst ((nl ++ [p.nm]).map .str)] = Z1 at happ ⊢
          generalize S1 ++ [Cell.lst (nl.map .str)] = Z0 at happ k1 ⊢
          simp [b_law_1, hb, i0, k1, happ]
        · intro z hz
          rcases List.mem_append.mp hz with hz | hz
          · exact hok z hz
          · rw [List.mem_singleton.mp hz]; exact hokp
      · refine ⟨[some (.lst (ns.map .int)), some (.lst PL), some (.obj 0), some (.int (b / 3)), some (.obj S1.length), some p.t, none, none, none], S1 ++ [.lst (nl.map .str)], ?_, ⟨_, _, rfl⟩, nl, rfl, hok, by simp; omega⟩
        simp [b_law_1, hb]) (fun _ _ _ => rfl)
  rw [List.length_map] at hll
  have hDl := D.len
  have fin : ∀ (Z : Sto) (k : Nat) (l : List Str) (x : Option T), HallAt c Z 0 (places2 "all" "hold" 0) hps → Z[k]? = some (.lst (l.map .str)) → (∀ z ∈ l, okN z) → l.length ≤ 1000 →
      tail9 c [some (.lst (ns.map .int)), some (.lst (ps.map Pc.t)), some (.obj 0), some (.int b), some (.obj k), x, none, none, none] Z = .ok (.rt (.bl true)) Z := by
    intro Z k l x HZ hk hokl hl
    have hn : lstOf Z (.obj k) = some (l.map T.str) := x_lstO hk
    have hn2 : lstOf Z (.lst (l.map T.str)) = some (l.map T.str) := rfl
    have a1 := f_law_lacks (c := c) (ps := ps) hn (fun p hp => by have := D.w p hp; omega) (by omega)
    have a2 := f_lacks HZ hn2 hwl (by omega)
    have okk := lacks_ok D l
    have a3 := f_fits HZ hn2 hwl (by omega) (by rw [hw]; exact okk)
    rw [hw] at a2 a3
    have a4 := f_law_right (c := c) (S := Z) okk (by have := lacks_len D l; omega)
    have a5 := x_neL hn2 hn hokl hokl
    have a6 := x_eqNil (S := Z) okk
    have a7 : gList (.obj k) Z = .ok (.lst (l.map T.str)) Z := by simp [gList, itemsOf, seqOf_lst hn]
    have a8 : ∀ q : Bool, gIsa .bool (.bl q) Z = .ok (.bl true) Z := fun q => rfl
    simp only [decide_true, Bool.not_true] at a5
    generalize lacksL l (ps.map Pc.w) = L at a1 a2 a3 a4 a6
    generalize L.map Lk.t = LT at a1 a2 a4 a6
    generalize l.map T.str = lT at a2 a3 a5 a7
    generalize ps.map Pc.t = PL at a1 ⊢
    simp [tail9, a1, a2, a3, a4, a5, a6, a7, a8, eAnd]
  have H2 : HallAt c S2 0 (places2 "all" "hold" 0) hps := by rw [hS2]; exact H.app
  have run : ∃ S', runD 9 (d_law c) [.lst (ns.map .int)] [] = .ok (.bl true) S' := by
    have c0 := f_cell (c := c) (S := []) ns 0 (by decide)
    have c1 : ∀ S, F_law_cell_at c [.lst (ns.map .int), .int 1] S = .ok (.int (cellAt ns 1)) S := fun S => f_cell ns 1 (by decide)
    by_cases hr : cellAt ns 1 % 2 = 1
    · have hk2 : S2[S1.length]? = some (.lst (nl.map .str)) := by rw [hS2]; exact get_last
      have hit : i_law_2 c [some (.lst (ns.map .int)), some (.lst (ps.map Pc.t)), some (.obj 0), some (.int b), some (.obj S1.length), x, none, none, none] S2 = .ok ((nl.map T.str).reverse, fun S' => lstOf S' (.obj S1.length) = some (nl.map T.str)) S2 := by
        simp [i_law_2, x_lstO hk2]
      have cc := eComp_runC (S := S2) (js := []) (te := e_law_2 c) (f := fun t => t) hit (x_lstO hk2) (by simp; omega) (fun t _ => by simp [e_law_2])
      rw [List.map_id', ← List.map_reverse] at cc
      have f := fin (S2 ++ [.lst (nl.reverse.map .str)]) S2.length nl.reverse x H2.app get_last (fun z hz => hok z (List.mem_reverse.mp hz)) (by rw [List.length_reverse]; omega)
      refine ⟨S2 ++ [.lst (nl.reverse.map .str)], ?_⟩
      generalize S2 ++ [Cell.lst (nl.reverse.map .str)] = Z at cc f ⊢
      generalize ps.map Pc.t = PL at eP eH eL cc f
      generalize ns.map T.int = NS at c0 c1 eP eL cc f ⊢
      simp [d_law_eq, c0, c1, eP, eH, eL, hr, cc, f]
    · have f := fin S2 S1.length nl x H2 (by rw [hS2]; exact get_last) hok (by omega)
      refine ⟨S2, ?_⟩
      generalize ps.map Pc.t = PL at eP eH eL f
      generalize ns.map T.int = NS at c0 c1 eP eL f ⊢
      simp [d_law_eq, c0, c1, eP, eH, eL, hr, f]
  obtain ⟨S', e⟩ := run
  exact frz_plain e rfl (hb_bl _ _)
end DN
set_option Elab.async false
set_option linter.all false
set_option maxRecDepth 100000
namespace K09
open PySem L2 MF DN
def top (i : Nat) : Stmt := PySem.Challenge.pw_hookhall_k09_standing_together.main.body.getD i (.Pass ⟨0, 0, 0, 0⟩)
structure Tx (K : PySem.W.Frag) (mg : Str → Option Value) (c : Cl) : Prop where
  n_bool : mg "bool" = none
  c_MOST_PIECES : ∃ t, mg "MOST_PIECES" = some (.int 24 t)
  c_MOST_PLACES : ∃ t, mg "MOST_PLACES" = some (.int 8 t)
  cl_hall : Cls K c.hall
  a_hall_pieces : NoAttr K c.hall "pieces"
  a_hall_places : NoAttr K c.hall "places"
  cl_piece : Cls K c.piece
  a_piece_ahead : NoAttr K c.piece "ahead"
  a_piece_bars : NoAttr K c.piece "bars"
  a_piece_behind : NoAttr K c.piece "behind"
  a_piece_by : NoAttr K c.piece "by"
  a_piece_deed : NoAttr K c.piece "deed"
  a_piece_needs : NoAttr K c.piece "needs"
  a_piece_on : NoAttr K c.piece "on"
  a_piece_place : NoAttr K c.piece "place"
  cl_place : Cls K c.place
  a_place_kind : NoAttr K c.place "kind"
  a_place_rule : NoAttr K c.place "rule"
  n_isinstance : mg "isinstance" = none
  n_len : mg "len" = none
  n_list : mg "list" = none
  n_range : mg "range" = none
  n_reversed : mg "reversed" = none
  n_tuple : mg "tuple" = none
  x_nameThere : PySem.W.excIn K c.nameThere bmVE "ValueError.__new__" = true
  m_nameThere : mg "NameThere" = some (.ref c.nameThere)
  x_noPiece : PySem.W.excIn K c.noPiece bmVE "ValueError.__new__" = true
  m_noPiece : mg "NoPiece" = some (.ref c.noPiece)
  x_noPlace : PySem.W.excIn K c.noPlace bmVE "ValueError.__new__" = true
  m_noPlace : mg "NoPlace" = some (.ref c.noPlace)
  x_tooMany : PySem.W.excIn K c.tooMany bmVE "ValueError.__new__" = true
  m_tooMany : mg "TooMany" = some (.ref c.tooMany)
abbrev s_law_cell_at : Stmt := top 18
theorem sc_law_cell_at : FnScope ["script", "k"] ["script", "k"] (defScope s_law_cell_at) := ⟨rfl, rfl, rfl, by decide +kernel, rfl, by decide +kernel, by decide +kernel⟩
set_option maxHeartbeats 4000000 in
theorem ok_law_cell_at {P : Program} {w : World} {K : PySem.W.Frag} {mg : Str → Option Value} {base : Heap} {c : Cl} (T : Tx K mg c) {f : Addr} {fd : FuncData} {dV : Value} (F : FunV K "_law_cell_at" "_law_cell_at" s_law_cell_at dV f fd)  : FnOk P w K mg base (CXE P w) 1 f fd ["script", "k"] (spM 2 (F_law_cell_at c)) :=
  fn_mf F sc_law_cell_at fun cdv A outer s H E hr => by
    have hu1 := hu_of hr
    have hu6 := hr.units
    have sc := sc_law_cell_at
    exact (ss_cons (s_if (t_lt (ev 1) (e_len (by rfl) T.n_len (ev 0))) (ss_one (s_ret (e_ix (ev 0) (ev 1)))) ss_nil) (ss_one (s_ret ec_int)))
abbrev s_law_name : Stmt := top 19
theorem sc_law_name : FnScope ["k", "letters"] ["k"] (defScope s_law_name) := ⟨rfl, rfl, rfl, by decide +kernel, rfl, by decide +kernel, by decide +kernel⟩
set_option maxHeartbeats 4000000 in
theorem ok_law_name {P : Program} {w : World} {K : PySem.W.Frag} {mg : Str → Option Value} {base : Heap} {c : Cl} (T : Tx K mg c) {f : Addr} {fd : FuncData} {dV : Value} (F : FunV K "_law_name" "_law_name" s_law_name dV f fd)  : FnOk P w K mg base (CXE P w) 1 f fd ["k"] (spM 1 (F_law_name c)) :=
  fn_mf F sc_law_name fun cdv A outer s H E hr => by
    have hu1 := hu_of hr
    have hu6 := hr.units
    have sc := sc_law_name
    exact (ss_cons (s_set (i := 1) sc.nd (by rfl) (by first | exact Or.inl rfl | exact Or.inr rfl) ec_str) (ss_cons (s_if (t_eq hu6 (e_mod (ev 0) ec_int) ec_int) (ss_one (s_ret (e_ix (ev 1) (e_mod (ev 0) ec_int)))) ss_nil) (ss_one (s_ret (m_join ec_str (ra_cons (e_comp (xs := ["letters", "k"]) (js := [1, 0]) (nts := ["j"]) (by rfl) ⟨rfl, by decide +kernel, rfl, by decide +kernel, (fun p hp => by rcases List.mem_cons.mp hp with rfl | hp; (· rfl); rcases List.mem_singleton.mp hp with rfl; rfl), rfl, ⟨⟨rfl, (by first | exact Or.inr (Or.inl rfl) | exact Or.inr (Or.inr rfl)), (by first | exact Or.inl rfl | exact Or.inr rfl), (by first | exact Or.inl rfl | exact Or.inr rfl), rfl⟩, ⟨⟨rfl, (by first | exact Or.inr (Or.inl rfl) | exact Or.inr (Or.inr rfl)), (by first | exact Or.inl rfl | exact Or.inr rfl), (by first | exact Or.inl rfl | exact Or.inr rfl), rfl⟩, trivial⟩⟩⟩ (pi_range1 (by rfl) T.n_range (ra_cons (e_add ec_int (e_mod (ev 0) ec_int)) ra_nil)) ri_range1 (fun _ _ _ => (pg_name (i := 0) (show (["j", "letters", "k"] : List Str).Nodup by decide +kernel) (by rfl) (by first | exact Or.inl rfl | exact Or.inr rfl))) (gt_name _) (fun _ _ _ => (e_ix (ev 1) (e_mod (e_add (ev 2) (e_mul ec_int (ev 0))) ec_int))) fin_F) ra_nil))))))
abbrev s_law_some : Stmt := top 21
theorem sc_law_some : FnScope ["cell", "many"] ["cell", "many"] (defScope s_law_some) := ⟨rfl, rfl, rfl, by decide +kernel, rfl, by decide +kernel, by decide +kernel⟩
set_option maxHeartbeats 4000000 in
theorem ok_law_some {P : Program} {w : World} {K : PySem.W.Frag} {mg : Str → Option Value} {base : Heap} {c : Cl} (T : Tx K mg c) {f : Addr} {fd : FuncData} {dV : Value} (F : FunV K "_law_some" "_law_some" s_law_some dV f fd) {f_law_name : Addr} {fd_law_name : FuncData} (G_law_name : FnAt P w K mg base 1 "_law_name" ["k"] (F_law_name c) f_law_name fd_law_name) : FnOk P w K mg base (CXE P w) 2 f fd ["cell", "many"] (spM 2 (F_law_some c)) :=
  fn_mf F sc_law_some fun cdv A outer s H E hr => by
    have hu1 := hu_of hr
    have hu6 := hr.units
    have sc := sc_law_some
    exact (ss_cons (s_if (t_gt (e_mod (ev 0) ec_int) ec_int) (ss_one (s_ret (e_lst ra_nil))) ss_nil) (ss_cons (s_if (t_eq hu6 (e_mod (ev 0) ec_int) ec_int) (ss_one (s_ret (e_lst (ra_cons (e_call G_law_name hr (by rfl) (pass_fn) (ra_cons (e_mod (e_div (ev 0) ec_int) (ev 1)) ra_nil)) (ra_cons (e_call G_law_name hr (by rfl) (pass_fn) (ra_cons (e_mod (e_div (ev 0) ec_int) (ev 1)) ra_nil)) ra_nil))))) ss_nil) (ss_one (s_ret (e_lst (ra_cons (e_call G_law_name hr (by rfl) (pass_fn) (ra_cons (e_mod (e_div (ev 0) ec_int) (ev 1)) ra_nil)) ra_nil))))))
abbrev s_law_deed : Stmt := top 20
theorem sc_law_deed : FnScope ["cell", "number"] ["cell"] (defScope s_law_deed) := ⟨rfl, rfl, rfl, by decide +kernel, rfl, by decide +kernel, by decide +kernel⟩
set_option maxHeartbeats 4000000 in
theorem ok_law_deed {P : Program} {w : World} {K : PySem.W.Frag} {mg : Str → Option Value} {base : Heap} {c : Cl} (T : Tx K mg c) {f : Addr} {fd : FuncData} {dV : Value} (F : FunV K "_law_deed" "_law_deed" s_law_deed dV f fd)  : FnOk P w K mg base (CXE P w) 1 f fd ["cell"] (spM 1 (F_law_deed c)) :=
  fn_mf F sc_law_deed fun cdv A outer s H E hr => by
    have hu1 := hu_of hr
    have hu6 := hr.units
    have sc := sc_law_deed
    exact (ss_cons (s_set (i := 1) sc.nd (by rfl) (by first | exact Or.inl rfl | exact Or.inr rfl) (e_sub (e_mod (e_div (ev 0) ec_int) ec_int) ec_int)) (ss_cons (s_if (t_eq hu6 (e_mod (e_div (ev 0) ec_int) ec_int) ec_int) (ss_one (s_set (i := 1) sc.nd (by rfl) (by first | exact Or.inl rfl | exact Or.inr rfl) (e_sub (e_mod (ev 0) (e_pow ec_int ec_int)) (e_pow ec_int ec_int)))) ss_nil) (ss_cons (s_if (t_eq hu6 (e_mod (ev 0) ec_int) ec_int) (ss_one (s_ret (e_tup (ra_cons ec_str (ra_cons (ev 1) ra_nil))))) ss_nil) (ss_cons (s_if (t_eq hu6 (e_mod (ev 0) ec_int) ec_int) (ss_one (s_ret (e_tup (ra_cons ec_str ra_nil)))) ss_nil) (ss_cons (s_if (t_eq hu6 (e_mod (ev 0) ec_int) ec_int) (ss_one (s_ret (e_tup (ra_cons ec_str (ra_cons (ev 1) ra_nil))))) ss_nil) (ss_one (s_ret (e_tup (ra_cons ec_str (ra_cons (ev 1) ra_nil))))))))))
abbrev s_law_pieces : Stmt := top 22
theorem sc_law_pieces : FnScope ["script", "start", "many", "pieces", "k", "one", "two", "three", "place", "wishes"] ["script", "start", "many"] (defScope s_law_pieces) := ⟨rfl, rfl, rfl, by decide +kernel, rfl, by decide +kernel, by decide +kernel⟩
set_option maxHeartbeats 4000000 in
theorem ok_law_pieces {P : Program} {w : World} {K : PySem.W.Frag} {mg : Str → Option Value} {base : Heap} {c : Cl} (T : Tx K mg c) {f : Addr} {fd : FuncData} {dV : Value} (F : FunV K "_law_pieces" "_law_pieces" s_law_pieces dV f fd) {f_law_cell_at : Addr} {fd_law_cell_at : FuncData} (G_law_cell_at : FnAt P w K mg base 2 "_law_cell_at" ["script", "k"] (F_law_cell_at c) f_law_cell_at fd_law_cell_at) {f_law_some : Addr} {fd_law_some : FuncData} (G_law_some : FnAt P w K mg base 2 "_law_some" ["cell", "many"] (F_law_some c) f_law_some fd_law_some) {f_law_deed : Addr} {fd_law_deed : FuncData} (G_law_deed : FnAt P w K mg base 2 "_law_deed" ["cell"] (F_law_deed c) f_law_deed fd_law_deed) {f_law_name : Addr} {fd_law_name : FuncData} (G_law_name : FnAt P w K mg base 2 "_law_name" ["k"] (F_law_name c) f_law_name fd_law_name) : FnOk P w K mg base (CXE P w) 3 f fd ["script", "start", "many"] (spM 3 (F_law_pieces c)) :=
  FnOk.frz (fn_mf F sc_law_pieces fun cdv A outer s H E hr => by
    have hu1 := hu_of hr
    have hu6 := hr.units
    have sc := sc_law_pieces
    exact (ss_cons (s_set (i := 3) sc.nd (by rfl) (by first | exact Or.inl rfl | exact Or.inr rfl) (e_lstC ra_nil)) (ss_cons (s_for PassesOwn.leaving (by rfl) (pi_range1 (by rfl) T.n_range (ra_cons (ev 2) ra_nil)) ri_range1 (pg_name (i := 4) sc.nd (by rfl) (by first | exact Or.inl rfl | exact Or.inr rfl)) (gt_name _) (ss_cons (s_set (i := 5) sc.nd (by rfl) (by first | exact Or.inl rfl | exact Or.inr rfl) (e_call G_law_cell_at hr (by rfl) (pass_fn) (ra_cons (ev 0) (ra_cons (e_add (ev 1) (e_mul ec_int (ev 4))) ra_nil)))) (ss_cons (s_set (i := 6) sc.nd (by rfl) (by first | exact Or.inl rfl | exact Or.inr rfl) (e_call G_law_cell_at hr (by rfl) (pass_fn) (ra_cons (ev 0) (ra_cons (e_add (e_add (ev 1) (e_mul ec_int (ev 4))) ec_int) ra_nil)))) (ss_cons (s_set (i := 7) sc.nd (by rfl) (by first | exact Or.inl rfl | exact Or.inr rfl) (e_call G_law_cell_at hr (by rfl) (pass_fn) (ra_cons (ev 0) (ra_cons (e_add (e_add (ev 1) (e_mul ec_int (ev 4))) ec_int) ra_nil)))) (ss_cons (s_set (i := 8) sc.nd (by rfl) (by first | exact Or.inl rfl | exact Or.inr rfl) (e_ix (e_lst (ra_cons ec_str (ra_cons ec_str (ra_cons ec_str (ra_cons ec_str ra_nil))))) (e_mod (e_div (ev 5) ec_int) ec_int))) (ss_cons (s_set (i := 9) sc.nd (by rfl) (by first | exact Or.inl rfl | exact Or.inr rfl) (e_lst (ra_cons (e_call G_law_some hr (by rfl) (pass_fn) (ra_cons (ev 6) (ra_cons (e_add (ev 2) ec_int) ra_nil))) (ra_cons (e_call G_law_some hr (by rfl) (pass_fn) (ra_cons (e_div (ev 6) ec_int) (ra_cons (e_add (ev 2) ec_int) ra_nil))) ra_nil)))) (ss_cons (s_set (i := 9) sc.nd (by rfl) (by first | exact Or.inl rfl | exact Or.inr rfl) (e_add (ev 9) (e_lst (ra_cons (e_call G_law_some hr (by rfl) (pass_fn) (ra_cons (ev 7) (ra_cons (e_add (ev 2) ec_int) ra_nil))) (ra_cons (e_call G_law_some hr (by rfl) (pass_fn) (ra_cons (e_div (ev 7) ec_int) (ra_cons (e_add (ev 2) ec_int) ra_nil))) ra_nil))))) (ss_one (s_expr (m_app (ev 3) (ra_cons (e_tup (ra_cons (e_call G_law_name hr (by rfl) (pass_fn) (ra_cons (ev 4) ra_nil)) (ra_cons (ev 8) (ra_cons (e_call G_law_deed hr (by rfl) (pass_fn) (ra_cons (ev 5) ra_nil)) (ra_cons (ev 9) (ra_cons (e_ne hu6 (e_mod (e_div (ev 5) ec_int) ec_int) ec_int) ra_nil)))))) ra_nil))))))))))) (ss_one (s_ret (ev 3))))))
abbrev s_Hall___init__ : Stmt := inClass (top 15) 0
theorem sc_Hall___init__ : FnScope ["self"] ["self"] (defScope s_Hall___init__) := ⟨rfl, rfl, rfl, by decide +kernel, rfl, by decide +kernel, by decide +kernel⟩
set_option maxHeartbeats 4000000 in
theorem ok_Hall___init__ {P : Program} {w : World} {K : PySem.W.Frag} {mg : Str → Option Value} {base : Heap} {c : Cl} (T : Tx K mg c) {f : Addr} {fd : FuncData} {dV : Value} (F : FunV K "__init__" "Hall.__init__" s_Hall___init__ dV f fd)  : FnOk P w K mg base (CXE P w) 1 f fd ["self"] (spM 1 (F_Hall___init__ c)) :=
  fn_mf F sc_Hall___init__ fun cdv A outer s H E hr => by
    have hu1 := hu_of hr
    have hu6 := hr.units
    have sc := sc_Hall___init__
    exact (ss_cons (s_fld T.cl_hall T.a_hall_places (ev 0) e_dict0) (ss_one (s_fld T.cl_hall T.a_hall_pieces (ev 0) e_dict0)))
abbrev s_Place___init__ : Stmt := inClass (top 13) 0
theorem sc_Place___init__ : FnScope ["self", "kind", "rule"] ["self", "kind", "rule"] (defScope s_Place___init__) := ⟨rfl, rfl, rfl, by decide +kernel, rfl, by decide +kernel, by decide +kernel⟩
set_option maxHeartbeats 4000000 in
theorem ok_Place___init__ {P : Program} {w : World} {K : PySem.W.Frag} {mg : Str → Option Value} {base : Heap} {c : Cl} (T : Tx K mg c) {f : Addr} {fd : FuncData} {dV : Value} (F : FunV K "__init__" "Place.__init__" s_Place___init__ dV f fd)  : FnOk P w K mg base (CXE P w) 1 f fd ["self", "kind", "rule"] (spM 3 (F_Place___init__ c)) :=
  fn_mf F sc_Place___init__ fun cdv A outer s H E hr => by
    have hu1 := hu_of hr
    have hu6 := hr.units
    have sc := sc_Place___init__
    exact (ss_cons (s_fld T.cl_place T.a_place_kind (ev 0) (ev 1)) (ss_one (s_fld T.cl_place T.a_place_rule (ev 0) (ev 2))))
abbrev s_Hall_open_place : Stmt := inClass (top 15) 1
theorem sc_Hall_open_place : FnScope ["self", "name", "kind", "rule"] ["self", "name", "kind", "rule"] (defScope s_Hall_open_place) := ⟨rfl, rfl, rfl, by decide +kernel, rfl, by decide +kernel, by decide +kernel⟩
set_option maxHeartbeats 4000000 in
theorem ok_Hall_open_place {P : Program} {w : World} {K : PySem.W.Frag} {mg : Str → Option Value} {base : Heap} {c : Cl} (T : Tx K mg c) {f : Addr} {fd : FuncData} {dV : Value} (F : FunV K "open_place" "Hall.open_place" s_Hall_open_place dV f fd) {f_Place___init__ : Addr} {fd_Place___init__ : FuncData} (G_Place___init__ : MkAt P w K mg base 1 "Place" c.place ["self", "kind", "rule"] (F_Place___init__ c) f_Place___init__ fd_Place___init__) : FnOk P w K mg base (CXE P w) 3 f fd ["self", "name", "kind", "rule"] (spM 4 (F_Hall_open_place c)) :=
  fn_mf F sc_Hall_open_place fun cdv A outer s H E hr => by
    have hu1 := hu_of hr
    have hu6 := hr.units
    have sc := sc_Hall_open_place
    exact (ss_cons (s_if (t_din hu1 (ev 1) (e_fld T.cl_hall T.a_hall_places (ev 0))) (ss_one (s_raise raises_fn (by rfl) T.x_nameThere (by rfl) T.m_nameThere (ra_cons (e_joined (.cons ec_str (.cons (e_repr (ev 1)) (.cons ec_str .nil)))) ra_nil))) ss_nil) (ss_cons (s_if (t_ge (e_lenD (by rfl) T.n_len (e_fld T.cl_hall T.a_hall_places (ev 0))) (e_gcon (by rfl) T.c_MOST_PLACES)) (ss_one (s_raise raises_fn (by rfl) T.x_tooMany (by rfl) T.m_tooMany (ra_cons ec_str ra_nil))) ss_nil) (ss_one (s_dput hu1 (e_fld T.cl_hall T.a_hall_places (ev 0)) (ev 1) (e_make G_Place___init__ hr (by rfl) (pass_fn) (ra_cons (ev 2) (ra_cons (ev 3) ra_nil)))))))
abbrev s_Hall_find_place : Stmt := inClass (top 15) 9
theorem sc_Hall_find_place : FnScope ["self", "name"] ["self", "name"] (defScope s_Hall_find_place) := ⟨rfl, rfl, rfl, by decide +kernel, rfl, by decide +kernel, by decide +kernel⟩
set_option maxHeartbeats 4000000 in
theorem ok_Hall_find_place {P : Program} {w : World} {K : PySem.W.Frag} {mg : Str → Option Value} {base : Heap} {c : Cl} (T : Tx K mg c) {f : Addr} {fd : FuncData} {dV : Value} (F : FunV K "find_place" "Hall.find_place" s_Hall_find_place dV f fd)  : FnOk P w K mg base (CXE P w) 1 f fd ["self", "name"] (spM 2 (F_Hall_find_place c)) :=
  fn_mf F sc_Hall_find_place fun cdv A outer s H E hr => by
    have hu1 := hu_of hr
    have hu6 := hr.units
    have sc := sc_Hall_find_place
    exact (ss_cons (s_if (t_dnotin hu1 (ev 1) (e_fld T.cl_hall T.a_hall_places (ev 0))) (ss_one (s_raise raises_fn (by rfl) T.x_noPlace (by rfl) T.m_noPlace (ra_cons (e_joined (.cons ec_str (.cons (e_repr (ev 1)) .nil))) ra_nil))) ss_nil) (ss_one (s_ret (e_dix hu1 (e_fld T.cl_hall T.a_hall_places (ev 0)) (ev 1)))))
abbrev s_Hall_find_piece : Stmt := inClass (top 15) 10
theorem sc_Hall_find_piece : FnScope ["self", "name"] ["self", "name"] (defScope s_Hall_find_piece) := ⟨rfl, rfl, rfl, by decide +kernel, rfl, by decide +kernel, by decide +kernel⟩
set_option maxHeartbeats 4000000 in
theorem ok_Hall_find_piece {P : Program} {w : World} {K : PySem.W.Frag} {mg : Str → Option Value} {base : Heap} {c : Cl} (T : Tx K mg c) {f : Addr} {fd : FuncData} {dV : Value} (F : FunV K "find_piece" "Hall.find_piece" s_Hall_find_piece dV f fd)  : FnOk P w K mg base (CXE P w) 1 f fd ["self", "name"] (spM 2 (F_Hall_find_piece c)) :=
  fn_mf F sc_Hall_find_piece fun cdv A outer s H E hr => by
    have hu1 := hu_of hr
    have hu6 := hr.units
    have sc := sc_Hall_find_piece
    exact (ss_cons (s_if (t_dnotin hu1 (ev 1) (e_fld T.cl_hall T.a_hall_pieces (ev 0))) (ss_one (s_raise raises_fn (by rfl) T.x_noPiece (by rfl) T.m_noPiece (ra_cons (e_joined (.cons ec_str (.cons (e_repr (ev 1)) (.cons ec_str .nil)))) ra_nil))) ss_nil) (ss_one (s_ret (e_dix hu1 (e_fld T.cl_hall T.a_hall_pieces (ev 0)) (ev 1)))))
abbrev s_Piece___init__ : Stmt := inClass (top 14) 0
theorem sc_Piece___init__ : FnScope ["self", "place", "deed", "by"] ["self", "place", "deed", "by"] (defScope s_Piece___init__) := ⟨rfl, rfl, rfl, by decide +kernel, rfl, by decide +kernel, by decide +kernel⟩
set_option maxHeartbeats 4000000 in
theorem ok_Piece___init__ {P : Program} {w : World} {K : PySem.W.Frag} {mg : Str → Option Value} {base : Heap} {c : Cl} (T : Tx K mg c) {f : Addr} {fd : FuncData} {dV : Value} (F : FunV K "__init__" "Piece.__init__" s_Piece___init__ dV f fd)  : FnOk P w K mg base (CXE P w) 1 f fd ["self", "place", "deed", "by"] (spM 4 (F_Piece___init__ c)) :=
  fn_mf F sc_Piece___init__ fun cdv A outer s H E hr => by
    have hu1 := hu_of hr
    have hu6 := hr.units
    have sc := sc_Piece___init__
    exact (ss_cons (s_fld T.cl_piece T.a_piece_place (ev 0) (ev 1)) (ss_cons (s_fld T.cl_piece T.a_piece_deed (ev 0) (ev 2)) (ss_cons (s_fld T.cl_piece T.a_piece_by (ev 0) (ev 3)) (ss_cons (s_fld T.cl_piece T.a_piece_on (ev 0) ec_bl) (ss_cons (s_fld T.cl_piece T.a_piece_ahead (ev 0) (e_lstC ra_nil)) (ss_cons (s_fld T.cl_piece T.a_piece_behind (ev 0) (e_lstC ra_nil)) (ss_cons (s_fld T.cl_piece T.a_piece_needs (ev 0) (e_lstC ra_nil)) (ss_one (s_fld T.cl_piece T.a_piece_bars (ev 0) (e_lstC ra_nil))))))))))
abbrev s_Hall_hang : Stmt := inClass (top 15) 2
theorem sc_Hall_hang : FnScope ["self", "name", "place", "deed", "by"] ["self", "name", "place", "deed", "by"] (defScope s_Hall_hang) := ⟨rfl, rfl, rfl, by decide +kernel, rfl, by decide +kernel, by decide +kernel⟩
set_option maxHeartbeats 4000000 in
theorem ok_Hall_hang {P : Program} {w : World} {K : PySem.W.Frag} {mg : Str → Option Value} {base : Heap} {c : Cl} (T : Tx K mg c) {f : Addr} {fd : FuncData} {dV : Value} (F : FunV K "hang" "Hall.hang" s_Hall_hang dV f fd) {f_Hall_find_place : Addr} {fd_Hall_find_place : FuncData} (G_Hall_find_place : MeAt P w K mg base 2 c.hall "find_place" ["self", "name"] (F_Hall_find_place c) f_Hall_find_place fd_Hall_find_place) {f_Hall_find_piece : Addr} {fd_Hall_find_piece : FuncData} (G_Hall_find_piece : MeAt P w K mg base 2 c.hall "find_piece" ["self", "name"] (F_Hall_find_piece c) f_Hall_find_piece fd_Hall_find_piece) {f_Piece___init__ : Addr} {fd_Piece___init__ : FuncData} (G_Piece___init__ : MkAt P w K mg base 1 "Piece" c.piece ["self", "place", "deed", "by"] (F_Piece___init__ c) f_Piece___init__ fd_Piece___init__) : FnOk P w K mg base (CXE P w) 3 f fd ["self", "name", "place", "deed", "by"] (spM 5 (F_Hall_hang c)) :=
  fn_mf F sc_Hall_hang fun cdv A outer s H E hr => by
    have hu1 := hu_of hr
    have hu6 := hr.units
    have sc := sc_Hall_hang
    exact (ss_cons (s_if (t_din hu1 (ev 1) (e_fld T.cl_hall T.a_hall_pieces (ev 0))) (ss_one (s_raise raises_fn (by rfl) T.x_nameThere (by rfl) T.m_nameThere (ra_cons (e_joined (.cons ec_str (.cons (e_repr (ev 1)) (.cons ec_str .nil)))) ra_nil))) ss_nil) (ss_cons (s_expr (e_meth G_Hall_find_place hr (pass_fn) (ev 0) (ra_cons (ev 2) ra_nil))) (ss_cons (s_if (t_isnot (ev 4) ec_non) (ss_one (s_expr (e_meth G_Hall_find_piece hr (pass_fn) (ev 0) (ra_cons (ev 4) ra_nil)))) ss_nil) (ss_cons (s_if (t_ge (e_lenD (by rfl) T.n_len (e_fld T.cl_hall T.a_hall_pieces (ev 0))) (e_gcon (by rfl) T.c_MOST_PIECES)) (ss_one (s_raise raises_fn (by rfl) T.x_tooMany (by rfl) T.m_tooMany (ra_cons ec_str ra_nil))) ss_nil) (ss_one (s_dput hu1 (e_fld T.cl_hall T.a_hall_pieces (ev 0)) (ev 1) (e_make G_Piece___init__ hr (by rfl) (pass_fn) (ra_cons (ev 2) (ra_cons (ev 3) (ra_cons (ev 4) ra_nil))))))))))
abbrev s_wished : Stmt := top 16
theorem sc_wished : FnScope ["names"] ["names"] (defScope s_wished) := ⟨rfl, rfl, rfl, by decide +kernel, rfl, by decide +kernel, by decide +kernel⟩
set_option maxHeartbeats 4000000 in
theorem ok_wished {P : Program} {w : World} {K : PySem.W.Frag} {mg : Str → Option Value} {base : Heap} {c : Cl} (T : Tx K mg c) {f : Addr} {fd : FuncData} {dV : Value} (F : FunV K "wished" "wished" s_wished dV f fd)  : FnOk P w K mg base (CXE P w) 1 f fd ["names"] (spM 1 (F_wished c)) :=
  fn_mf F sc_wished fun cdv A outer s H E hr => by
    have hu1 := hu_of hr
    have hu6 := hr.units
    have sc := sc_wished
    exact (ss_one (s_ret (e_ifExp (t_is (ev 0) ec_non) (e_lst ra_nil) (e_list (by rfl) (by rfl) T.n_list (ev 0)))))
abbrev s_Hall_wish : Stmt := inClass (top 15) 3
theorem sc_Hall_wish : FnScope ["self", "name", "ahead", "behind", "needs", "bars", "piece"] ["self", "name", "ahead", "behind", "needs", "bars"] (defScope s_Hall_wish) := ⟨rfl, rfl, rfl, by decide +kernel, rfl, by decide +kernel, by decide +kernel⟩
set_option maxHeartbeats 4000000 in
theorem ok_Hall_wish {P : Program} {w : World} {K : PySem.W.Frag} {mg : Str → Option Value} {base : Heap} {c : Cl} (T : Tx K mg c) {f : Addr} {fd : FuncData} {dV : Value} (F : FunV K "wish" "Hall.wish" s_Hall_wish dV f fd) {f_Hall_find_piece : Addr} {fd_Hall_find_piece : FuncData} (G_Hall_find_piece : MeAt P w K mg base 1 c.hall "find_piece" ["self", "name"] (F_Hall_find_piece c) f_Hall_find_piece fd_Hall_find_piece) {f_wished : Addr} {fd_wished : FuncData} (G_wished : FnAt P w K mg base 1 "wished" ["names"] (F_wished c) f_wished fd_wished) : FnOk P w K mg base (CXE P w) 2 f fd ["self", "name", "ahead", "behind", "needs", "bars"] (spM 6 (F_Hall_wish c)) :=
  fn_mf F sc_Hall_wish fun cdv A outer s H E hr => by
    have hu1 := hu_of hr
    have hu6 := hr.units
    have sc := sc_Hall_wish
    exact (ss_cons (s_set (i := 6) sc.nd (by rfl) (by first | exact Or.inl rfl | exact Or.inr rfl) (e_meth G_Hall_find_piece hr (pass_fn) (ev 0) (ra_cons (ev 1) ra_nil))) (ss_cons (s_expr (m_ext (e_fld T.cl_piece T.a_piece_ahead (ev 6)) (ra_cons (e_call G_wished hr (by rfl) (pass_fn) (ra_cons (ev 2) ra_nil)) ra_nil))) (ss_cons (s_expr (m_ext (e_fld T.cl_piece T.a_piece_behind (ev 6)) (ra_cons (e_call G_wished hr (by rfl) (pass_fn) (ra_cons (ev 3) ra_nil)) ra_nil))) (ss_cons (s_expr (m_ext (e_fld T.cl_piece T.a_piece_needs (ev 6)) (ra_cons (e_call G_wished hr (by rfl) (pass_fn) (ra_cons (ev 4) ra_nil)) ra_nil))) (ss_one (s_expr (m_ext (e_fld T.cl_piece T.a_piece_bars (ev 6)) (ra_cons (e_call G_wished hr (by rfl) (pass_fn) (ra_cons (ev 5) ra_nil)) ra_nil))))))))
abbrev s_Hall_switch : Stmt := inClass (top 15) 7
theorem sc_Hall_switch : FnScope ["self", "name", "on", "piece"] ["self", "name", "on"] (defScope s_Hall_switch) := ⟨rfl, rfl, rfl, by decide +kernel, rfl, by decide +kernel, by decide +kernel⟩
set_option maxHeartbeats 4000000 in
theorem ok_Hall_switch {P : Program} {w : World} {K : PySem.W.Frag} {mg : Str → Option Value} {base : Heap} {c : Cl} (T : Tx K mg c) {f : Addr} {fd : FuncData} {dV : Value} (F : FunV K "switch" "Hall.switch" s_Hall_switch dV f fd) {f_Hall_find_piece : Addr} {fd_Hall_find_piece : FuncData} (G_Hall_find_piece : MeAt P w K mg base 1 c.hall "find_piece" ["self", "name"] (F_Hall_find_piece c) f_Hall_find_piece fd_Hall_find_piece) : FnOk P w K mg base (CXE P w) 2 f fd ["self", "name", "on"] (spM 3 (F_Hall_switch c)) :=
  fn_mf F sc_Hall_switch fun cdv A outer s H E hr => by
    have hu1 := hu_of hr
    have hu6 := hr.units
    have sc := sc_Hall_switch
    exact (ss_cons (s_set (i := 3) sc.nd (by rfl) (by first | exact Or.inl rfl | exact Or.inr rfl) (e_meth G_Hall_find_piece hr (pass_fn) (ev 0) (ra_cons (ev 1) ra_nil))) (ss_one (s_fld T.cl_piece T.a_piece_on (ev 3) (ev 2))))
abbrev s_law_hall : Stmt := top 23
theorem sc_law_hall : FnScope ["pieces", "kind", "rule", "hall", "piece"] ["pieces", "kind", "rule"] (defScope s_law_hall) := ⟨rfl, rfl, rfl, by decide +kernel, rfl, by decide +kernel, by decide +kernel⟩
set_option maxHeartbeats 4000000 in
theorem ok_law_hall {P : Program} {w : World} {K : PySem.W.Frag} {mg : Str → Option Value} {base : Heap} {c : Cl} (T : Tx K mg c) {f : Addr} {fd : FuncData} {dV : Value} (F : FunV K "_law_hall" "_law_hall" s_law_hall dV f fd) {f_Hall___init__ : Addr} {fd_Hall___init__ : FuncData} (G_Hall___init__ : MkAt P w K mg base 2 "Hall" c.hall ["self"] (F_Hall___init__ c) f_Hall___init__ fd_Hall___init__) {f_Hall_open_place : Addr} {fd_Hall_open_place : FuncData} (G_Hall_open_place : MeAt P w K mg base 3 c.hall "open_place" ["self", "name", "kind", "rule"] (F_Hall_open_place c) f_Hall_open_place fd_Hall_open_place) {f_Hall_hang : Addr} {fd_Hall_hang : FuncData} (G_Hall_hang : MeAt P w K mg base 3 c.hall "hang" ["self", "name", "place", "deed", "by"] (F_Hall_hang c) f_Hall_hang fd_Hall_hang) (B_Hall_hang_1 : Binds K fd_Hall_hang ["self", "name", "place", "deed", "by"] [.none]) {f_Hall_wish : Addr} {fd_Hall_wish : FuncData} (G_Hall_wish : MeAt P w K mg base 3 c.hall "wish" ["self", "name", "ahead", "behind", "needs", "bars"] (F_Hall_wish c) f_Hall_wish fd_Hall_wish) {f_Hall_switch : Addr} {fd_Hall_switch : FuncData} (G_Hall_switch : MeAt P w K mg base 3 c.hall "switch" ["self", "name", "on"] (F_Hall_switch c) f_Hall_switch fd_Hall_switch) : FnOk P w K mg base (CXE P w) 4 f fd ["pieces", "kind", "rule"] (spM 3 (F_law_hall c)) :=
  fn_mf F sc_law_hall fun cdv A outer s H E hr => by
    have hu1 := hu_of hr
    have hu6 := hr.units
    have sc := sc_law_hall
    exact (ss_cons (s_set (i := 3) sc.nd (by rfl) (by first | exact Or.inl rfl | exact Or.inr rfl) (e_make0 G_Hall___init__ hr (by rfl) (pass_fn))) (ss_cons (s_expr (e_meth G_Hall_open_place hr (pass_fn) (ev 3) (ra_cons ec_str (ra_cons (ev 1) (ra_cons (ev 2) ra_nil))))) (ss_cons (s_expr (e_meth G_Hall_open_place hr (pass_fn) (ev 3) (ra_cons ec_str (ra_cons ec_str (ra_cons ec_str ra_nil))))) (ss_cons (s_for PassesOwn.leaving (by rfl) (pi_list (ev 0)) (ri_list _) (pg_name (i := 4) sc.nd (by rfl) (by first | exact Or.inl rfl | exact Or.inr rfl)) (gt_name _) (ss_one (s_expr (e_methD G_Hall_hang hr (pass_fn) B_Hall_hang_1 vals_non1 dens_non1 (ev 3) (ra_cons (e_ix (ev 4) ec_int) (ra_cons (e_ix (ev 4) ec_int) (ra_cons (e_ix (ev 4) ec_int) ra_nil))))))) (ss_cons (s_for PassesOwn.leaving (by rfl) (pi_list (ev 0)) (ri_list _) (pg_name (i := 4) sc.nd (by rfl) (by first | exact Or.inl rfl | exact Or.inr rfl)) (gt_name _) (ss_cons (s_expr (e_meth G_Hall_wish hr (pass_fn) (ev 3) (ra_cons (e_ix (ev 4) ec_int) (ra_cons (e_ix (e_ix (ev 4) ec_int) ec_int) (ra_cons (e_tuple (by rfl) T.n_tuple (e_ix (e_ix (ev 4) ec_int) ec_int)) (ra_cons (e_ix (e_ix (ev 4) ec_int) ec_int) (ra_cons (e_ix (e_ix (ev 4) ec_int) ec_int) ra_nil))))))) (ss_one (s_if (t_not (t_val (e_ix (ev 4) ec_int))) (ss_one (s_expr (e_meth G_Hall_switch hr (pass_fn) (ev 3) (ra_cons (e_ix (ev 4) ec_int) (ra_cons ec_bl ra_nil))))) ss_nil)))) (ss_one (s_ret (ev 3))))))))
abbrev s_law_lacks : Stmt := top 24
theorem sc_law_lacks : FnScope ["pieces", "names", "due", "piece"] ["pieces", "names"] (defScope s_law_lacks) := ⟨rfl, rfl, rfl, by decide +kernel, rfl, by decide +kernel, by decide +kernel⟩
set_option maxHeartbeats 4000000 in
theorem ok_law_lacks {P : Program} {w : World} {K : PySem.W.Frag} {mg : Str → Option Value} {base : Heap} {c : Cl} (T : Tx K mg c) {f : Addr} {fd : FuncData} {dV : Value} (F : FunV K "_law_lacks" "_law_lacks" s_law_lacks dV f fd)  : FnOk P w K mg base (CXE P w) 1 f fd ["pieces", "names"] (spM 2 (F_law_lacks c)) :=
  FnOk.frz (fn_mf F sc_law_lacks fun cdv A outer s H E hr => by
    have hu1 := hu_of hr
    have hu6 := hr.units
    have sc := sc_law_lacks
    exact (ss_cons (s_set (i := 2) sc.nd (by rfl) (by first | exact Or.inl rfl | exact Or.inr rfl) (e_lstC ra_nil)) (ss_cons (s_for PassesOwn.leaving (by rfl) (pi_list (ev 0)) (ri_list _) (pg_name (i := 3) sc.nd (by rfl) (by first | exact Or.inl rfl | exact Or.inr rfl)) (gt_name _) (ss_one (s_if (t_in hu6 (e_ix (ev 3) ec_int) (ev 1)) (ss_cons (s_expr (m_ext (ev 2) (ra_cons (e_compT (xs := ["piece", "names"]) (js := [3, 1]) (nts := ["other"]) (by rfl) ⟨rfl, by decide +kernel, rfl, by decide +kernel, (fun p hp => by rcases List.mem_cons.mp hp with rfl | hp; (· rfl); rcases List.mem_singleton.mp hp with rfl; rfl), rfl, ⟨⟨rfl, (by first | exact Or.inr (Or.inl rfl) | exact Or.inr (Or.inr rfl)), (by first | exact Or.inl rfl | exact Or.inr rfl), (by first | exact Or.inl rfl | exact Or.inr rfl), rfl⟩, ⟨⟨rfl, (by first | exact Or.inr (Or.inl rfl) | exact Or.inr (Or.inr rfl)), (by first | exact Or.inl rfl | exact Or.inr rfl), (by first | exact Or.inl rfl | exact Or.inr rfl), rfl⟩, trivial⟩⟩⟩ (pi_list (e_ix (e_ix (ev 3) ec_int) ec_int)) (ri_list _) (fun _ _ _ => (pg_name (i := 0) (show (["other", "piece", "names"] : List Str).Nodup by decide +kernel) (by rfl) (by first | exact Or.inl rfl | exact Or.inr rfl))) (gt_name _) (fun _ _ _ => (t_notIn hu6 (ev 0) (ev 2))) (fun _ _ _ => (e_tup (ra_cons ec_str (ra_cons (e_ix (ev 1) ec_int) (ra_cons (ev 0) ra_nil))))) fin_F) ra_nil))) (ss_one (s_expr (m_ext (ev 2) (ra_cons (e_compT (xs := ["piece", "names"]) (js := [3, 1]) (nts := ["other"]) (by rfl) ⟨rfl, by decide +kernel, rfl, by decide +kernel, (fun p hp => by rcases List.mem_cons.mp hp with rfl | hp; (· rfl); rcases List.mem_singleton.mp hp with rfl; rfl), rfl, ⟨⟨rfl, (by first | exact Or.inr (Or.inl rfl) | exact Or.inr (Or.inr rfl)), (by first | exact Or.inl rfl | exact Or.inr rfl), (by first | exact Or.inl rfl | exact Or.inr rfl), rfl⟩, ⟨⟨rfl, (by first | exact Or.inr (Or.inl rfl) | exact Or.inr (Or.inr rfl)), (by first | exact Or.inl rfl | exact Or.inr rfl), (by first | exact Or.inl rfl | exact Or.inr rfl), rfl⟩, trivial⟩⟩⟩ (pi_list (e_ix (e_ix (ev 3) ec_int) ec_int)) (ri_list _) (fun _ _ _ => (pg_name (i := 0) (show (["other", "piece", "names"] : List Str).Nodup by decide +kernel) (by rfl) (by first | exact Or.inl rfl | exact Or.inr rfl))) (gt_name _) (fun _ _ _ => (t_in hu6 (ev 0) (ev 2))) (fun _ _ _ => (e_tup (ra_cons ec_str (ra_cons (e_ix (ev 1) ec_int) (ra_cons (ev 0) ra_nil))))) fin_F) ra_nil))))) ss_nil))) (ss_one (s_ret (ev 2))))))
abbrev s_law_right : Stmt := top 25
theorem sc_law_right : FnScope ["found", "due", "k"] ["found", "due"] (defScope s_law_right) := ⟨rfl, rfl, rfl, by decide +kernel, rfl, by decide +kernel, by decide +kernel⟩
set_option maxHeartbeats 4000000 in
theorem ok_law_right {P : Program} {w : World} {K : PySem.W.Frag} {mg : Str → Option Value} {base : Heap} {c : Cl} (T : Tx K mg c) {f : Addr} {fd : FuncData} {dV : Value} (F : FunV K "_law_right" "_law_right" s_law_right dV f fd)  : FnOk P w K mg base (CXE P w) 1 f fd ["found", "due"] (spM 2 (F_law_right c)) :=
  fn_mf F sc_law_right fun cdv A outer s H E hr => by
    have hu1 := hu_of hr
    have hu6 := hr.units
    have sc := sc_law_right
    exact (ss_cons (s_if ((t_or (t_not (t_val (e_isa .list (by rfl) T.n_isinstance (ev 0) (by rfl) T.n_list (by decide +kernel)))) (t_or1 (t_ne hu6 (e_len (by rfl) T.n_len (ev 0)) (e_len (by rfl) T.n_len (ev 1)))))).pt (ss_one (s_ret ec_bl)) ss_nil) (ss_cons (s_for PassesOwn.leaving (by rfl) (pi_range1 (by rfl) T.n_range (ra_cons (e_len (by rfl) T.n_len (ev 1)) ra_nil)) ri_range1 (pg_name (i := 2) sc.nd (by rfl) (by first | exact Or.inl rfl | exact Or.inr rfl)) (gt_name _) (ss_one (s_if ((t_or (t_not (t_val (e_isa .tuple (by rfl) T.n_isinstance (e_ix (ev 0) (ev 2)) (by rfl) T.n_tuple (by decide +kernel)))) (t_or1 (t_ne hu6 (e_ix (ev 0) (ev 2)) (e_ix (ev 1) (ev 2)))))).pt (ss_one (s_ret ec_bl)) ss_nil))) (ss_one (s_ret ec_bl))))
abbrev s_Hall_names : Stmt := inClass (top 15) 5
theorem sc_Hall_names : FnScope ["self"] ["self"] (defScope s_Hall_names) := ⟨rfl, rfl, rfl, by decide +kernel, rfl, by decide +kernel, by decide +kernel⟩
set_option maxHeartbeats 4000000 in
theorem ok_Hall_names {P : Program} {w : World} {K : PySem.W.Frag} {mg : Str → Option Value} {base : Heap} {c : Cl} (T : Tx K mg c) {f : Addr} {fd : FuncData} {dV : Value} (F : FunV K "names" "Hall.names" s_Hall_names dV f fd)  : FnOk P w K mg base (CXE P w) 1 f fd ["self"] (spM 1 (F_Hall_names c)) :=
  fn_mf F sc_Hall_names fun cdv A outer s H E hr => by
    have hu1 := hu_of hr
    have hu6 := hr.units
    have sc := sc_Hall_names
    exact (ss_one (s_ret (e_list (by rfl) (by rfl) T.n_list (e_fld T.cl_hall T.a_hall_pieces (ev 0)))))
abbrev s_lacks : Stmt := top 8
theorem sc_lacks : FnScope ["hall", "names", "told", "one", "piece"] ["hall", "names"] (defScope s_lacks) := ⟨rfl, rfl, rfl, by decide +kernel, rfl, by decide +kernel, by decide +kernel⟩
set_option maxHeartbeats 4000000 in
theorem ok_lacks {P : Program} {w : World} {K : PySem.W.Frag} {mg : Str → Option Value} {base : Heap} {c : Cl} (T : Tx K mg c) {f : Addr} {fd : FuncData} {dV : Value} (F : FunV K "lacks" "lacks" s_lacks dV f fd) {f_Hall_names : Addr} {fd_Hall_names : FuncData} (G_Hall_names : MeAt P w K mg base 1 c.hall "names" ["self"] (F_Hall_names c) f_Hall_names fd_Hall_names) {f_Hall_find_piece : Addr} {fd_Hall_find_piece : FuncData} (G_Hall_find_piece : MeAt P w K mg base 1 c.hall "find_piece" ["self", "name"] (F_Hall_find_piece c) f_Hall_find_piece fd_Hall_find_piece) : FnOk P w K mg base (CXE P w) 2 f fd ["hall", "names"] (spM 2 (F_lacks c)) :=
  FnOk.frz (fn_mf F sc_lacks fun cdv A outer s H E hr => by
    have hu1 := hu_of hr
    have hu6 := hr.units
    have sc := sc_lacks
    exact (ss_cons (s_set (i := 2) sc.nd (by rfl) (by first | exact Or.inl rfl | exact Or.inr rfl) (e_lstC ra_nil)) (ss_cons (s_for PassesOwn.leaving (by rfl) (pi_list (e_meth0 G_Hall_names hr (pass_fn) (ev 0))) (ri_list _) (pg_name (i := 3) sc.nd (by rfl) (by first | exact Or.inl rfl | exact Or.inr rfl)) (gt_name _) (ss_one (s_if (t_in hu6 (ev 3) (ev 1)) (ss_cons (s_set (i := 4) sc.nd (by rfl) (by first | exact Or.inl rfl | exact Or.inr rfl) (e_meth G_Hall_find_piece hr (pass_fn) (ev 0) (ra_cons (ev 3) ra_nil))) (ss_cons (s_expr (m_ext (ev 2) (ra_cons (e_compT (xs := ["one", "names"]) (js := [3, 1]) (nts := ["other"]) (by rfl) ⟨rfl, by decide +kernel, rfl, by decide +kernel, (fun p hp => by rcases List.mem_cons.mp hp with rfl | hp; (· rfl); rcases List.mem_singleton.mp hp with rfl; rfl), rfl, ⟨⟨rfl, (by first | exact Or.inr (Or.inl rfl) | exact Or.inr (Or.inr rfl)), (by first | exact Or.inl rfl | exact Or.inr rfl), (by first | exact Or.inl rfl | exact Or.inr rfl), rfl⟩, ⟨⟨rfl, (by first | exact Or.inr (Or.inl rfl) | exact Or.inr (Or.inr rfl)), (by first | exact Or.inl rfl | exact Or.inr rfl), (by first | exact Or.inl rfl | exact Or.inr rfl), rfl⟩, trivial⟩⟩⟩ (pi_list (e_fld T.cl_piece T.a_piece_needs (ev 4))) (ri_list _) (fun _ _ _ => (pg_name (i := 0) (show (["other", "one", "names"] : List Str).Nodup by decide +kernel) (by rfl) (by first | exact Or.inl rfl | exact Or.inr rfl))) (gt_name _) (fun _ _ _ => (t_notIn hu6 (ev 0) (ev 2))) (fun _ _ _ => (e_tup (ra_cons ec_str (ra_cons (ev 1) (ra_cons (ev 0) ra_nil))))) fin_F) ra_nil))) (ss_one (s_expr (m_ext (ev 2) (ra_cons (e_compT (xs := ["one", "names"]) (js := [3, 1]) (nts := ["other"]) (by rfl) ⟨rfl, by decide +kernel, rfl, by decide +kernel, (fun p hp => by rcases List.mem_cons.mp hp with rfl | hp; (· rfl); rcases List.mem_singleton.mp hp with rfl; rfl), rfl, ⟨⟨rfl, (by first | exact Or.inr (Or.inl rfl) | exact Or.inr (Or.inr rfl)), (by first | exact Or.inl rfl | exact Or.inr rfl), (by first | exact Or.inl rfl | exact Or.inr rfl), rfl⟩, ⟨⟨rfl, (by first | exact Or.inr (Or.inl rfl) | exact Or.inr (Or.inr rfl)), (by first | exact Or.inl rfl | exact Or.inr rfl), (by first | exact Or.inl rfl | exact Or.inr rfl), rfl⟩, trivial⟩⟩⟩ (pi_list (e_fld T.cl_piece T.a_piece_bars (ev 4))) (ri_list _) (fun _ _ _ => (pg_name (i := 0) (show (["other", "one", "names"] : List Str).Nodup by decide +kernel) (by rfl) (by first | exact Or.inl rfl | exact Or.inr rfl))) (gt_name _) (fun _ _ _ => (t_in hu6 (ev 0) (ev 2))) (fun _ _ _ => (e_tup (ra_cons ec_str (ra_cons (ev 1) (ra_cons (ev 0) ra_nil))))) fin_F) ra_nil)))))) ss_nil))) (ss_one (s_ret (ev 2))))))
abbrev s_fits : Stmt := top 9
theorem sc_fits : FnScope ["hall", "names"] ["hall", "names"] (defScope s_fits) := ⟨rfl, rfl, rfl, by decide +kernel, rfl, by decide +kernel, by decide +kernel⟩
set_option maxHeartbeats 4000000 in
theorem ok_fits {P : Program} {w : World} {K : PySem.W.Frag} {mg : Str → Option Value} {base : Heap} {c : Cl} (T : Tx K mg c) {f : Addr} {fd : FuncData} {dV : Value} (F : FunV K "fits" "fits" s_fits dV f fd) {f_lacks : Addr} {fd_lacks : FuncData} (G_lacks : FnAt P w K mg base 2 "lacks" ["hall", "names"] (F_lacks c) f_lacks fd_lacks) : FnOk P w K mg base (CXE P w) 3 f fd ["hall", "names"] (spM 2 (F_fits c)) :=
  fn_mf F sc_fits fun cdv A outer s H E hr => by
    have hu1 := hu_of hr
    have hu6 := hr.units
    have sc := sc_fits
    exact (ss_one (s_ret (e_eq hu6 (e_call G_lacks hr (by rfl) (pass_fn) (ra_cons (ev 0) (ra_cons (ev 1) ra_nil))) (e_lst ra_nil))))
abbrev s_law : Stmt := top 26
theorem sc_law : FnScope ["script", "pieces", "hall", "bits", "names", "piece", "handed", "due", "found"] ["script"] (defScope s_law) := ⟨rfl, rfl, rfl, by decide +kernel, rfl, by decide +kernel, by decide +kernel⟩
set_option maxHeartbeats 4000000 in
theorem ok_law {P : Program} {w : World} {K : PySem.W.Frag} {mg : Str → Option Value} {base : Heap} {c : Cl} (T : Tx K mg c) {f : Addr} {fd : FuncData} {dV : Value} (F : FunV K "law" "law" s_law dV f fd) {f_law_pieces : Addr} {fd_law_pieces : FuncData} (G_law_pieces : FnAt P w K mg base 4 "_law_pieces" ["script", "start", "many"] (F_law_pieces c) f_law_pieces fd_law_pieces) {f_law_cell_at : Addr} {fd_law_cell_at : FuncData} (G_law_cell_at : FnAt P w K mg base 4 "_law_cell_at" ["script", "k"] (F_law_cell_at c) f_law_cell_at fd_law_cell_at) {f_law_hall : Addr} {fd_law_hall : FuncData} (G_law_hall : FnAt P w K mg base 4 "_law_hall" ["pieces", "kind", "rule"] (F_law_hall c) f_law_hall fd_law_hall) {f_law_lacks : Addr} {fd_law_lacks : FuncData} (G_law_lacks : FnAt P w K mg base 4 "_law_lacks" ["pieces", "names"] (F_law_lacks c) f_law_lacks fd_law_lacks) {f_law_right : Addr} {fd_law_right : FuncData} (G_law_right : FnAt P w K mg base 4 "_law_right" ["found", "due"] (F_law_right c) f_law_right fd_law_right) {f_lacks : Addr} {fd_lacks : FuncData} (G_lacks : FnAt P w K mg base 4 "lacks" ["hall", "names"] (F_lacks c) f_lacks fd_lacks) {f_fits : Addr} {fd_fits : FuncData} (G_fits : FnAt P w K mg base 4 "fits" ["hall", "names"] (F_fits c) f_fits fd_fits) : FnOk P w K mg base (CXE P w) 5 f fd ["script"] (spM 1 (F_law c)) :=
  FnOk.frz (fn_mf F sc_law fun cdv A outer s H E hr => by
    have hu1 := hu_of hr
    have hu6 := hr.units
    have sc := sc_law
    exact (ss_cons (s_set (i := 1) sc.nd (by rfl) (by first | exact Or.inl rfl | exact Or.inr rfl) (e_call G_law_pieces hr (by rfl) (pass_fn) (ra_cons (ev 0) (ra_cons ec_int (ra_cons (e_mod (e_call G_law_cell_at hr (by rfl) (pass_fn) (ra_cons (ev 0) (ra_cons ec_int ra_nil))) ec_int) ra_nil))))) (ss_cons (s_set (i := 2) sc.nd (by rfl) (by first | exact Or.inl rfl | exact Or.inr rfl) (e_call G_law_hall hr (by rfl) (pass_fn) (ra_cons (ev 1) (ra_cons ec_str (ra_cons ec_str ra_nil))))) (ss_cons (s_set (i := 3) sc.nd (by rfl) (by first | exact Or.inl rfl | exact Or.inr rfl) (e_call G_law_cell_at hr (by rfl) (pass_fn) (ra_cons (ev 0) (ra_cons ec_int ra_nil)))) (ss_cons (s_set (i := 4) sc.nd (by rfl) (by first | exact Or.inl rfl | exact Or.inr rfl) (e_lstC ra_nil)) (ss_cons (s_for PassesOwn.leaving (by rfl) (pi_list (ev 1)) (ri_list _) (pg_name (i := 5) sc.nd (by rfl) (by first | exact Or.inl rfl | exact Or.inr rfl)) (gt_name _) (ss_cons (s_if (t_gt (e_mod (ev 3) ec_int) ec_int) (ss_one (s_expr (m_app (ev 4) (ra_cons (e_ix (ev 5) ec_int) ra_nil)))) ss_nil) (ss_one (s_set (i := 3) sc.nd (by rfl) (by first | exact Or.inl rfl | exact Or.inr rfl) (e_div (ev 3) ec_int))))) (ss_cons (s_if (t_eq hu6 (e_mod (e_call G_law_cell_at hr (by rfl) (pass_fn) (ra_cons (ev 0) (ra_cons ec_int ra_nil))) ec_int) ec_int) (ss_one (s_comp (i := 4) (xs := []) (js := []) (nts := ["name"]) (by rfl) ⟨rfl, by decide +kernel, rfl, by decide +kernel, (fun p hp => absurd hp List.not_mem_nil), rfl, trivial⟩ (pi_rev (by rfl) T.n_reversed (ra_cons (ev 4) ra_nil)) (ri_rev _) (fun _ _ _ => (pg_name (i := 0) (show (["name"] : List Str).Nodup by decide +kernel) (by rfl) (by first | exact Or.inl rfl | exact Or.inr rfl))) (gt_name _) (fun _ _ _ => (ev 0)) fin_C sc.nd (by rfl) (by first | exact Or.inl rfl | exact Or.inr rfl) hknNil)) ss_nil) (ss_cons (s_set (i := 6) sc.nd (by rfl) (by first | exact Or.inl rfl | exact Or.inr rfl) (e_list (by rfl) (by rfl) T.n_list (ev 4))) (ss_cons (s_set (i := 7) sc.nd (by rfl) (by first | exact Or.inl rfl | exact Or.inr rfl) (e_call G_law_lacks hr (by rfl) (pass_fn) (ra_cons (ev 1) (ra_cons (ev 4) ra_nil)))) (ss_cons (s_if ((t_or (t_not (t_val (e_call G_law_right hr (by rfl) (pass_fn) (ra_cons (e_call G_lacks hr (by rfl) (pass_fn) (ra_cons (ev 2) (ra_cons (ev 6) ra_nil))) (ra_cons (ev 7) ra_nil))))) (t_or1 (t_ne hu6 (ev 6) (ev 4))))).pt (ss_one (s_ret ec_bl)) ss_nil) (ss_cons (s_set (i := 8) sc.nd (by rfl) (by first | exact Or.inl rfl | exact Or.inr rfl) (e_call G_fits hr (by rfl) (pass_fn) (ra_cons (ev 2) (ra_cons (ev 6) ra_nil)))) (ss_one (s_ret (e_and (e_isa .bool (by rfl) T.n_isinstance (ev 8) (by rfl) T.n_bool (by decide +kernel)) (e_one (e_eq hu6 (ev 8) (e_eq hu6 (ev 7) (e_lst ra_nil))))))))))))))))))
end K09
set_option Elab.async false
set_option linter.all false
set_option maxRecDepth 100000
namespace K09
open PySem L2 MF DN
theorem bd_Hall_hang_0 {K : PySem.W.Frag} {T : Addr} {oc : Value} {od an : Option Addr} {sl : Array (Option Value)} {n : Nat} {kV dc pm cd ct : Value} (l : K.lookup T = some ⟨oc, od, .seq #[.none] n, sl⟩) : Binds K (PySem.W.fnOf "hang" "Hall.hang" (defArgs s_Hall_hang) (defBody s_Hall_hang) (defScope s_Hall_hang) (.ref T) kV dc pm an cd ct) ["self", "name", "place", "deed", "by"] [] := fun s us X hl => match us, (show us.length = 5 by simpa using hl) with
  | [_, _, _, _, _], _ => PySem.W.binds_K X rfl l rfl rfl rfl
theorem bd_Hall_hang_1 {K : PySem.W.Frag} {T : Addr} {oc : Value} {od an : Option Addr} {sl : Array (Option Value)} {n : Nat} {kV dc pm cd ct : Value} (l : K.lookup T = some ⟨oc, od, .seq #[.none] n, sl⟩) : Binds K (PySem.W.fnOf "hang" "Hall.hang" (defArgs s_Hall_hang) (defBody s_Hall_hang) (defScope s_Hall_hang) (.ref T) kV dc pm an cd ct) ["self", "name", "place", "deed", "by"] [.none] := fun s us X hl => match us, (show us.length = 4 by simpa using hl) with
  | [_, _, _, _], _ => PySem.W.binds_K X rfl l rfl rfl rfl
theorem bd_Hall_wish_0 {K : PySem.W.Frag} {T : Addr} {oc : Value} {od an : Option Addr} {sl : Array (Option Value)} {n : Nat} {kV dc pm cd ct : Value} (l : K.lookup T = some ⟨oc, od, .seq #[.none, .none, .none, .none] n, sl⟩) : Binds K (PySem.W.fnOf "wish" "Hall.wish" (defArgs s_Hall_wish) (defBody s_Hall_wish) (defScope s_Hall_wish) (.ref T) kV dc pm an cd ct) ["self", "name", "ahead", "behind", "needs", "bars"] [] := fun s us X hl => match us, (show us.length = 6 by simpa using hl) with
  | [_, _, _, _, _, _], _ => PySem.W.binds_K X rfl l rfl rfl rfl
set_option maxHeartbeats 8000000 in
theorem all_mk {l : PySem.W.OpenLaw} {w : World} {K : PySem.W.Frag} {h : Heap} {mg : Str → Option Value} {fa : Addr} {CHall CPiece CPlace ENameThere ENoPiece ENoPlace ETooMany flaw_cell_at flaw_name flaw_some flaw_deed flaw_pieces fHall___init__ fPlace___init__ fHall_open_place fHall_find_place fHall_find_piece fPiece___init__ fHall_hang THall_hang fwished fHall_wish THall_wish fHall_switch flaw_hall flaw_lacks flaw_right fHall_names flacks ffits flaw : Addr} {odlaw_cell_at anlaw_cell_at odlaw_name anlaw_name odlaw_some anlaw_some odlaw_deed anlaw_deed odlaw_pieces anlaw_pieces odHall___init__ anHall___init__ odPlace___init__ anPlace___init__ odHall_open_place anHall_open_place odHall_find_place anHall_find_place odHall_find_piece anHall_find_piece odPiece___init__ anPiece___init__ odHall_hang anHall_hang odXHall_hang odwished anwished odHall_wish anHall_wish odXHall_wish odHall_switch anHall_switch odlaw_hall anlaw_hall odlaw_lacks anlaw_lacks odlaw_right anlaw_right odHall_names anHall_names odlacks anlacks odfits anfits odlaw anlaw : Option Addr} {sllaw_cell_at sllaw_name sllaw_some sllaw_deed sllaw_pieces slHall___init__ slPlace___init__ slHall_open_place slHall_find_place slHall_find_piece slPiece___init__ slHall_hang slXHall_hang slwished slHall_wish slXHall_wish slHall_switch sllaw_hall sllaw_lacks sllaw_right slHall_names sllacks slfits sllaw : Array (Option Value)} {oclaw_cell_at kVlaw_cell_at dclaw_cell_at pmlaw_cell_at cdlaw_cell_at ctlaw_cell_at oclaw_name kVlaw_name dclaw_name pmlaw_name cdlaw_name ctlaw_name oclaw_some kVlaw_some dclaw_some pmlaw_some cdlaw_some ctlaw_some oclaw_deed kVlaw_deed dclaw_deed pmlaw_deed cdlaw_deed ctlaw_deed oclaw_pieces kVlaw_pieces dclaw_pieces pmlaw_pieces cdlaw_pieces ctlaw_pieces ocHall___init__ kVHall___init__ dcHall___init__ pmHall___init__ cdHall___init__ ctHall___init__ ocPlace___init__ kVPlace___init__ dcPlace___init__ pmPlace___init__ cdPlace___init__ ctPlace___init__ ocHall_open_place kVHall_open_place dcHall_open_place pmHall_open_place cdHall_open_place ctHall_open_place ocHall_find_place kVHall_find_place dcHall_find_place pmHall_find_place cdHall_find_place ctHall_find_place ocHall_find_piece kVHall_find_piece dcHall_find_piece pmHall_find_piece cdHall_find_piece ctHall_find_piece ocPiece___init__ kVPiece___init__ dcPiece___init__ pmPiece___init__ cdPiece___init__ ctPiece___init__ ocHall_hang kVHall_hang dcHall_hang pmHall_hang cdHall_hang ctHall_hang ocXHall_hang ocwished kVwished dcwished pmwished cdwished ctwished ocHall_wish kVHall_wish dcHall_wish pmHall_wish cdHall_wish ctHall_wish ocXHall_wish ocHall_switch kVHall_switch dcHall_switch pmHall_switch cdHall_switch ctHall_switch oclaw_hall kVlaw_hall dclaw_hall pmlaw_hall cdlaw_hall ctlaw_hall oclaw_lacks kVlaw_lacks dclaw_lacks pmlaw_lacks cdlaw_lacks ctlaw_lacks oclaw_right kVlaw_right dclaw_right pmlaw_right cdlaw_right ctlaw_right ocHall_names kVHall_names dcHall_names pmHall_names cdHall_names ctHall_names oclacks kVlacks dclacks pmlacks cdlacks ctlacks ocfits kVfits dcfits pmfits cdfits ctfits oclaw kVlaw dclaw pmlaw cdlaw ctlaw : Value} {tc_MOST_PIECES tc_MOST_PLACES : Tok} {nXHall_hang nXHall_wish : Nat}
    (X : K.In h) (G : h.Ns mainGlobals mg) (hfa : mg "law" = some (.ref fa))
    (aCHall : PySem.W.nsIn K mainGlobals "Hall" = some (some (.ref CHall)))
    (aCPiece : PySem.W.nsIn K mainGlobals "Piece" = some (some (.ref CPiece)))
    (aCPlace : PySem.W.nsIn K mainGlobals "Place" = some (some (.ref CPlace)))
    (aENameThere : PySem.W.nsIn K mainGlobals "NameThere" = some (some (.ref ENameThere)))
    (aENoPiece : PySem.W.nsIn K mainGlobals "NoPiece" = some (some (.ref ENoPiece)))
    (aENoPlace : PySem.W.nsIn K mainGlobals "NoPlace" = some (some (.ref ENoPlace)))
    (aETooMany : PySem.W.nsIn K mainGlobals "TooMany" = some (some (.ref ETooMany)))
    (alaw_cell_at : PySem.W.nsIn K mainGlobals "_law_cell_at" = some (some (.ref flaw_cell_at)))
    (llaw_cell_at : K.lookup flaw_cell_at = some ⟨oclaw_cell_at, odlaw_cell_at, .func (PySem.W.fnOf "_law_cell_at" "_law_cell_at" (defArgs s_law_cell_at) (defBody s_law_cell_at) (defScope s_law_cell_at) .none kVlaw_cell_at dclaw_cell_at pmlaw_cell_at anlaw_cell_at cdlaw_cell_at ctlaw_cell_at), sllaw_cell_at⟩)
    (claw_cell_at : PySem.W.codeIn K cdlaw_cell_at "_law_cell_at" = true)
    (klaw_cell_at : PySem.W.keepIn K (.ref flaw_cell_at) = true)
    (alaw_name : PySem.W.nsIn K mainGlobals "_law_name" = some (some (.ref flaw_name)))
    (llaw_name : K.lookup flaw_name = some ⟨oclaw_name, odlaw_name, .func (PySem.W.fnOf "_law_name" "_law_name" (defArgs s_law_name) (defBody s_law_name) (defScope s_law_name) .none kVlaw_name dclaw_name pmlaw_name anlaw_name cdlaw_name ctlaw_name), sllaw_name⟩)
    (claw_name : PySem.W.codeIn K cdlaw_name "_law_name" = true)
    (klaw_name : PySem.W.keepIn K (.ref flaw_name) = true)
    (alaw_some : PySem.W.nsIn K mainGlobals "_law_some" = some (some (.ref flaw_some)))
    (llaw_some : K.lookup flaw_some = some ⟨oclaw_some, odlaw_some, .func (PySem.W.fnOf "_law_some" "_law_some" (defArgs s_law_some) (defBody s_law_some) (defScope s_law_some) .none kVlaw_some dclaw_some pmlaw_some anlaw_some cdlaw_some ctlaw_some), sllaw_some⟩)
    (claw_some : PySem.W.codeIn K cdlaw_some "_law_some" = true)
    (klaw_some : PySem.W.keepIn K (.ref flaw_some) = true)
    (alaw_deed : PySem.W.nsIn K mainGlobals "_law_deed" = some (some (.ref flaw_deed)))
    (llaw_deed : K.lookup flaw_deed = some ⟨oclaw_deed, odlaw_deed, .func (PySem.W.fnOf "_law_deed" "_law_deed" (defArgs s_law_deed) (defBody s_law_deed) (defScope s_law_deed) .none kVlaw_deed dclaw_deed pmlaw_deed anlaw_deed cdlaw_deed ctlaw_deed), sllaw_deed⟩)
    (claw_deed : PySem.W.codeIn K cdlaw_deed "_law_deed" = true)
    (klaw_deed : PySem.W.keepIn K (.ref flaw_deed) = true)
    (alaw_pieces : PySem.W.nsIn K mainGlobals "_law_pieces" = some (some (.ref flaw_pieces)))
    (llaw_pieces : K.lookup flaw_pieces = some ⟨oclaw_pieces, odlaw_pieces, .func (PySem.W.fnOf "_law_pieces" "_law_pieces" (defArgs s_law_pieces) (defBody s_law_pieces) (defScope s_law_pieces) .none kVlaw_pieces dclaw_pieces pmlaw_pieces anlaw_pieces cdlaw_pieces ctlaw_pieces), sllaw_pieces⟩)
    (claw_pieces : PySem.W.codeIn K cdlaw_pieces "_law_pieces" = true)
    (klaw_pieces : PySem.W.keepIn K (.ref flaw_pieces) = true)
    (aHall___init__ : PySem.W.findIn K (.ref CHall) "__init__" = some (some (.ref fHall___init__)))
    (iHall___init__ : PySem.W.isFn K (.ref fHall___init__) = true)
    (lHall___init__ : K.lookup fHall___init__ = some ⟨ocHall___init__, odHall___init__, .func (PySem.W.fnOf "__init__" "Hall.__init__" (defArgs s_Hall___init__) (defBody s_Hall___init__) (defScope s_Hall___init__) .none kVHall___init__ dcHall___init__ pmHall___init__ anHall___init__ cdHall___init__ ctHall___init__), slHall___init__⟩)
    (cHall___init__ : PySem.W.codeIn K cdHall___init__ "Hall.__init__" = true)
    (kHall___init__ : PySem.W.keepIn K (.ref fHall___init__) = true)
    (aPlace___init__ : PySem.W.findIn K (.ref CPlace) "__init__" = some (some (.ref fPlace___init__)))
    (iPlace___init__ : PySem.W.isFn K (.ref fPlace___init__) = true)
    (lPlace___init__ : K.lookup fPlace___init__ = some ⟨ocPlace___init__, odPlace___init__, .func (PySem.W.fnOf "__init__" "Place.__init__" (defArgs s_Place___init__) (defBody s_Place___init__) (defScope s_Place___init__) .none kVPlace___init__ dcPlace___init__ pmPlace___init__ anPlace___init__ cdPlace___init__ ctPlace___init__), slPlace___init__⟩)
    (cPlace___init__ : PySem.W.codeIn K cdPlace___init__ "Place.__init__" = true)
    (kPlace___init__ : PySem.W.keepIn K (.ref fPlace___init__) = true)
    (aHall_open_place : PySem.W.findIn K (.ref CHall) "open_place" = some (some (.ref fHall_open_place)))
    (iHall_open_place : PySem.W.isFn K (.ref fHall_open_place) = true)
    (lHall_open_place : K.lookup fHall_open_place = some ⟨ocHall_open_place, odHall_open_place, .func (PySem.W.fnOf "open_place" "Hall.open_place" (defArgs s_Hall_open_place) (defBody s_Hall_open_place) (defScope s_Hall_open_place) .none kVHall_open_place dcHall_open_place pmHall_open_place anHall_open_place cdHall_open_place ctHall_open_place), slHall_open_place⟩)
    (cHall_open_place : PySem.W.codeIn K cdHall_open_place "Hall.open_place" = true)
    (kHall_open_place : PySem.W.keepIn K (.ref fHall_open_place) = true)
    (aHall_find_place : PySem.W.findIn K (.ref CHall) "find_place" = some (some (.ref fHall_find_place)))
    (iHall_find_place : PySem.W.isFn K (.ref fHall_find_place) = true)
    (lHall_find_place : K.lookup fHall_find_place = some ⟨ocHall_find_place, odHall_find_place, .func (PySem.W.fnOf "find_place" "Hall.find_place" (defArgs s_Hall_find_place) (defBody s_Hall_find_place) (defScope s_Hall_find_place) .none kVHall_find_place dcHall_find_place pmHall_find_place anHall_find_place cdHall_find_place ctHall_find_place), slHall_find_place⟩)
    (cHall_find_place : PySem.W.codeIn K cdHall_find_place "Hall.find_place" = true)
    (kHall_find_place : PySem.W.keepIn K (.ref fHall_find_place) = true)
    (aHall_find_piece : PySem.W.findIn K (.ref CHall) "find_piece" = some (some (.ref fHall_find_piece)))
    (iHall_find_piece : PySem.W.isFn K (.ref fHall_find_piece) = true)
    (lHall_find_piece : K.lookup fHall_find_piece = some ⟨ocHall_find_piece, odHall_find_piece, .func (PySem.W.fnOf "find_piece" "Hall.find_piece" (defArgs s_Hall_find_piece) (defBody s_Hall_find_piece) (defScope s_Hall_find_piece) .none kVHall_find_piece dcHall_find_piece pmHall_find_piece anHall_find_piece cdHall_find_piece ctHall_find_piece), slHall_find_piece⟩)
    (cHall_find_piece : PySem.W.codeIn K cdHall_find_piece "Hall.find_piece" = true)
    (kHall_find_piece : PySem.W.keepIn K (.ref fHall_find_piece) = true)
    (aPiece___init__ : PySem.W.findIn K (.ref CPiece) "__init__" = some (some (.ref fPiece___init__)))
    (iPiece___init__ : PySem.W.isFn K (.ref fPiece___init__) = true)
    (lPiece___init__ : K.lookup fPiece___init__ = some ⟨ocPiece___init__, odPiece___init__, .func (PySem.W.fnOf "__init__" "Piece.__init__" (defArgs s_Piece___init__) (defBody s_Piece___init__) (defScope s_Piece___init__) .none kVPiece___init__ dcPiece___init__ pmPiece___init__ anPiece___init__ cdPiece___init__ ctPiece___init__), slPiece___init__⟩)
    (cPiece___init__ : PySem.W.codeIn K cdPiece___init__ "Piece.__init__" = true)
    (kPiece___init__ : PySem.W.keepIn K (.ref fPiece___init__) = true)
    (aHall_hang : PySem.W.findIn K (.ref CHall) "hang" = some (some (.ref fHall_hang)))
    (iHall_hang : PySem.W.isFn K (.ref fHall_hang) = true)
    (lHall_hang : K.lookup fHall_hang = some ⟨ocHall_hang, odHall_hang, .func (PySem.W.fnOf "hang" "Hall.hang" (defArgs s_Hall_hang) (defBody s_Hall_hang) (defScope s_Hall_hang) (.ref THall_hang) kVHall_hang dcHall_hang pmHall_hang anHall_hang cdHall_hang ctHall_hang), slHall_hang⟩)
    (cHall_hang : PySem.W.codeIn K cdHall_hang "Hall.hang" = true)
    (kHall_hang : PySem.W.keepIn K (.ref fHall_hang) = true)
    (dHall_hang : K.lookup THall_hang = some ⟨ocXHall_hang, odXHall_hang, .seq #[.none] nXHall_hang, slXHall_hang⟩)
    (awished : PySem.W.nsIn K mainGlobals "wished" = some (some (.ref fwished)))
    (lwished : K.lookup fwished = some ⟨ocwished, odwished, .func (PySem.W.fnOf "wished" "wished" (defArgs s_wished) (defBody s_wished) (defScope s_wished) .none kVwished dcwished pmwished anwished cdwished ctwished), slwished⟩)
    (cwished : PySem.W.codeIn K cdwished "wished" = true)
    (kwished : PySem.W.keepIn K (.ref fwished) = true)
    (aHall_wish : PySem.W.findIn K (.ref CHall) "wish" = some (some (.ref fHall_wish)))
    (iHall_wish : PySem.W.isFn K (.ref fHall_wish) = true)
    (lHall_wish : K.lookup fHall_wish = some ⟨ocHall_wish, odHall_wish, .func (PySem.W.fnOf "wish" "Hall.wish" (defArgs s_Hall_wish) (defBody s_Hall_wish) (defScope s_Hall_wish) (.ref THall_wish) kVHall_wish dcHall_wish pmHall_wish anHall_wish cdHall_wish ctHall_wish), slHall_wish⟩)
    (cHall_wish : PySem.W.codeIn K cdHall_wish "Hall.wish" = true)
    (kHall_wish : PySem.W.keepIn K (.ref fHall_wish) = true)
    (dHall_wish : K.lookup THall_wish = some ⟨ocXHall_wish, odXHall_wish, .seq #[.none, .none, .none, .none] nXHall_wish, slXHall_wish⟩)
    (aHall_switch : PySem.W.findIn K (.ref CHall) "switch" = some (some (.ref fHall_switch)))
    (iHall_switch : PySem.W.isFn K (.ref fHall_switch) = true)
    (lHall_switch : K.lookup fHall_switch = some ⟨ocHall_switch, odHall_switch, .func (PySem.W.fnOf "switch" "Hall.switch" (defArgs s_Hall_switch) (defBody s_Hall_switch) (defScope s_Hall_switch) .none kVHall_switch dcHall_switch pmHall_switch anHall_switch cdHall_switch ctHall_switch), slHall_switch⟩)
    (cHall_switch : PySem.W.codeIn K cdHall_switch "Hall.switch" = true)
    (kHall_switch : PySem.W.keepIn K (.ref fHall_switch) = true)
    (alaw_hall : PySem.W.nsIn K mainGlobals "_law_hall" = some (some (.ref flaw_hall)))
    (llaw_hall : K.lookup flaw_hall = some ⟨oclaw_hall, odlaw_hall, .func (PySem.W.fnOf "_law_hall" "_law_hall" (defArgs s_law_hall) (defBody s_law_hall) (defScope s_law_hall) .none kVlaw_hall dclaw_hall pmlaw_hall anlaw_hall cdlaw_hall ctlaw_hall), sllaw_hall⟩)
    (claw_hall : PySem.W.codeIn K cdlaw_hall "_law_hall" = true)
    (klaw_hall : PySem.W.keepIn K (.ref flaw_hall) = true)
    (alaw_lacks : PySem.W.nsIn K mainGlobals "_law_lacks" = some (some (.ref flaw_lacks)))
    (llaw_lacks : K.lookup flaw_lacks = some ⟨oclaw_lacks, odlaw_lacks, .func (PySem.W.fnOf "_law_lacks" "_law_lacks" (defArgs s_law_lacks) (defBody s_law_lacks) (defScope s_law_lacks) .none kVlaw_lacks dclaw_lacks pmlaw_lacks anlaw_lacks cdlaw_lacks ctlaw_lacks), sllaw_lacks⟩)
    (claw_lacks : PySem.W.codeIn K cdlaw_lacks "_law_lacks" = true)
    (klaw_lacks : PySem.W.keepIn K (.ref flaw_lacks) = true)
    (alaw_right : PySem.W.nsIn K mainGlobals "_law_right" = some (some (.ref flaw_right)))
    (llaw_right : K.lookup flaw_right = some ⟨oclaw_right, odlaw_right, .func (PySem.W.fnOf "_law_right" "_law_right" (defArgs s_law_right) (defBody s_law_right) (defScope s_law_right) .none kVlaw_right dclaw_right pmlaw_right anlaw_right cdlaw_right ctlaw_right), sllaw_right⟩)
    (claw_right : PySem.W.codeIn K cdlaw_right "_law_right" = true)
    (klaw_right : PySem.W.keepIn K (.ref flaw_right) = true)
    (aHall_names : PySem.W.findIn K (.ref CHall) "names" = some (some (.ref fHall_names)))
    (iHall_names : PySem.W.isFn K (.ref fHall_names) = true)
    (lHall_names : K.lookup fHall_names = some ⟨ocHall_names, odHall_names, .func (PySem.W.fnOf "names" "Hall.names" (defArgs s_Hall_names) (defBody s_Hall_names) (defScope s_Hall_names) .none kVHall_names dcHall_names pmHall_names anHall_names cdHall_names ctHall_names), slHall_names⟩)
    (cHall_names : PySem.W.codeIn K cdHall_names "Hall.names" = true)
    (kHall_names : PySem.W.keepIn K (.ref fHall_names) = true)
    (alacks : PySem.W.nsIn K mainGlobals "lacks" = some (some (.ref flacks)))
    (llacks : K.lookup flacks = some ⟨oclacks, odlacks, .func (PySem.W.fnOf "lacks" "lacks" (defArgs s_lacks) (defBody s_lacks) (defScope s_lacks) .none kVlacks dclacks pmlacks anlacks cdlacks ctlacks), sllacks⟩)
    (clacks : PySem.W.codeIn K cdlacks "lacks" = true)
    (klacks : PySem.W.keepIn K (.ref flacks) = true)
    (afits : PySem.W.nsIn K mainGlobals "fits" = some (some (.ref ffits)))
    (lfits : K.lookup ffits = some ⟨ocfits, odfits, .func (PySem.W.fnOf "fits" "fits" (defArgs s_fits) (defBody s_fits) (defScope s_fits) .none kVfits dcfits pmfits anfits cdfits ctfits), slfits⟩)
    (cfits : PySem.W.codeIn K cdfits "fits" = true)
    (kfits : PySem.W.keepIn K (.ref ffits) = true)
    (alaw : PySem.W.nsIn K mainGlobals "law" = some (some (.ref flaw)))
    (llaw : K.lookup flaw = some ⟨oclaw, odlaw, .func (PySem.W.fnOf "law" "law" (defArgs s_law) (defBody s_law) (defScope s_law) .none kVlaw dclaw pmlaw anlaw cdlaw ctlaw), sllaw⟩)
    (claw : PySem.W.codeIn K cdlaw "law" = true)
    (klaw : PySem.W.keepIn K (.ref flaw) = true)
    (pgHall : PySem.W.plainGet K CHall Str.empty = true)
    (hdHall : PySem.W.hasDictIn K CHall = true)
    (poHall : PySem.W.plainOver K CHall = true)
    (saHall : PySem.W.findIn K (.ref CHall) "__setattr__" = some (some (.builtin "object.__setattr__")))
    (mkHall : PySem.W.makesIn K CHall = true)
    (kcHall : PySem.W.keepIn K (.ref CHall) = true)
    (pgPiece : PySem.W.plainGet K CPiece Str.empty = true)
    (hdPiece : PySem.W.hasDictIn K CPiece = true)
    (poPiece : PySem.W.plainOver K CPiece = true)
    (saPiece : PySem.W.findIn K (.ref CPiece) "__setattr__" = some (some (.builtin "object.__setattr__")))
    (mkPiece : PySem.W.makesIn K CPiece = true)
    (kcPiece : PySem.W.keepIn K (.ref CPiece) = true)
    (pgPlace : PySem.W.plainGet K CPlace Str.empty = true)
    (hdPlace : PySem.W.hasDictIn K CPlace = true)
    (poPlace : PySem.W.plainOver K CPlace = true)
    (saPlace : PySem.W.findIn K (.ref CPlace) "__setattr__" = some (some (.builtin "object.__setattr__")))
    (mkPlace : PySem.W.makesIn K CPlace = true)
    (kcPlace : PySem.W.keepIn K (.ref CPlace) = true)
    (zbool : PySem.W.nsIn K mainGlobals "bool" = some none)
    (nc_MOST_PIECES : PySem.W.nsIn K mainGlobals "MOST_PIECES" = some (some (.int 24 tc_MOST_PIECES)))
    (nc_MOST_PLACES : PySem.W.nsIn K mainGlobals "MOST_PLACES" = some (some (.int 8 tc_MOST_PLACES)))
    (na_hall_pieces : PySem.W.findIn K (.ref CHall) "pieces" = some none)
    (na_hall_places : PySem.W.findIn K (.ref CHall) "places" = some none)
    (na_piece_ahead : PySem.W.findIn K (.ref CPiece) "ahead" = some none)
    (na_piece_bars : PySem.W.findIn K (.ref CPiece) "bars" = some none)
    (na_piece_behind : PySem.W.findIn K (.ref CPiece) "behind" = some none)
    (na_piece_by : PySem.W.findIn K (.ref CPiece) "by" = some none)
    (na_piece_deed : PySem.W.findIn K (.ref CPiece) "deed" = some none)
    (na_piece_needs : PySem.W.findIn K (.ref CPiece) "needs" = some none)
    (na_piece_on : PySem.W.findIn K (.ref CPiece) "on" = some none)
    (na_piece_place : PySem.W.findIn K (.ref CPiece) "place" = some none)
    (na_place_kind : PySem.W.findIn K (.ref CPlace) "kind" = some none)
    (na_place_rule : PySem.W.findIn K (.ref CPlace) "rule" = some none)
    (zisinstance : PySem.W.nsIn K mainGlobals "isinstance" = some none)
    (zlen : PySem.W.nsIn K mainGlobals "len" = some none)
    (zlist : PySem.W.nsIn K mainGlobals "list" = some none)
    (zrange : PySem.W.nsIn K mainGlobals "range" = some none)
    (zreversed : PySem.W.nsIn K mainGlobals "reversed" = some none)
    (ztuple : PySem.W.nsIn K mainGlobals "tuple" = some none)
    (xNameThere : PySem.W.excIn K ENameThere bmVE "ValueError.__new__" = true)
    (xNoPiece : PySem.W.excIn K ENoPiece bmVE "ValueError.__new__" = true)
    (xNoPlace : PySem.W.excIn K ENoPlace bmVE "ValueError.__new__" = true)
    (xTooMany : PySem.W.excIn K ETooMany bmVE "ValueError.__new__" = true)
    (nl : noList K = true)
    : ∃ fd : FuncData, (∀ (s : Shared) (v : Value), BindsTo s fd ⟨[v], []⟩ [("script", v)]) ∧ ∀ base : Heap, K.In base → base.Ns mainGlobals mg → FnOk l.prog w K mg base CX0 5 fa fd ["script"] (spLaw K) := by
  let c : Cl := { hall := CHall, place := CPlace, piece := CPiece, run := 0, hallError := 0, nameThere := ENameThere, noPlace := ENoPlace, noPiece := ENoPiece, tooMany := ETooMany, noAnswer := 0, ring := 0, barred := 0, deedFault := 0 }
  have e0 := hfa.symm.trans (PySem.W.mg_of X G alaw)
  cases e0
  have T0 : Tx K mg c := ⟨PySem.W.mg_none_of X G zbool, ⟨_, PySem.W.mg_of X G nc_MOST_PIECES⟩, ⟨_, PySem.W.mg_of X G nc_MOST_PLACES⟩, ⟨pgHall, hdHall, poHall, saHall⟩, na_hall_pieces, na_hall_places, ⟨pgPiece, hdPiece, poPiece, saPiece⟩, na_piece_ahead, na_piece_bars, na_piece_behind, na_piece_by, na_piece_deed, na_piece_needs, na_piece_on, na_piece_place, ⟨pgPlace, hdPlace, poPlace, saPlace⟩, na_place_kind, na_place_rule, PySem.W.mg_none_of X G zisinstance, PySem.W.mg_none_of X G zlen, PySem.W.mg_none_of X G zlist, PySem.W.mg_none_of X G zrange, PySem.W.mg_none_of X G zreversed, PySem.W.mg_none_of X G ztuple, xNameThere, PySem.W.mg_of X G aENameThere, xNoPiece, PySem.W.mg_of X G aENoPiece, xNoPlace, PySem.W.mg_of X G aENoPlace, xTooMany, PySem.W.mg_of X G aETooMany⟩
  have Flaw_cell_at := fun_mk (st := s_law_cell_at) llaw_cell_at claw_cell_at klaw_cell_at
  have blaw_cell_at := Flaw_cell_at.binds (ps := ["script", "k"]) fun _ _ _ _ _ _ us hl => match us, hl with | [_, _], _ => rfl
  have Flaw_name := fun_mk (st := s_law_name) llaw_name claw_name klaw_name
  have blaw_name := Flaw_name.binds (ps := ["k"]) fun _ _ _ _ _ _ us hl => match us, hl with | [_], _ => rfl
  have Flaw_some := fun_mk (st := s_law_some) llaw_some claw_some klaw_some
  have blaw_some := Flaw_some.binds (ps := ["cell", "many"]) fun _ _ _ _ _ _ us hl => match us, hl with | [_, _], _ => rfl
  have Flaw_deed := fun_mk (st := s_law_deed) llaw_deed claw_deed klaw_deed
  have blaw_deed := Flaw_deed.binds (ps := ["cell"]) fun _ _ _ _ _ _ us hl => match us, hl with | [_], _ => rfl
  have Flaw_pieces := fun_mk (st := s_law_pieces) llaw_pieces claw_pieces klaw_pieces
  have blaw_pieces := Flaw_pieces.binds (ps := ["script", "start", "many"]) fun _ _ _ _ _ _ us hl => match us, hl with | [_, _, _], _ => rfl
  have FHall___init__ := fun_mk (st := s_Hall___init__) lHall___init__ cHall___init__ kHall___init__
  have bHall___init__ := FHall___init__.binds (ps := ["self"]) fun _ _ _ _ _ _ us hl => match us, hl with | [_], _ => rfl
  have FPlace___init__ := fun_mk (st := s_Place___init__) lPlace___init__ cPlace___init__ kPlace___init__
  have bPlace___init__ := FPlace___init__.binds (ps := ["self", "kind", "rule"]) fun _ _ _ _ _ _ us hl => match us, hl with | [_, _, _], _ => rfl
  have FHall_open_place := fun_mk (st := s_Hall_open_place) lHall_open_place cHall_open_place kHall_open_place
  have bHall_open_place := FHall_open_place.binds (ps := ["self", "name", "kind", "rule"]) fun _ _ _ _ _ _ us hl => match us, hl with | [_, _, _, _], _ => rfl
  have FHall_find_place := fun_mk (st := s_Hall_find_place) lHall_find_place cHall_find_place kHall_find_place
  have bHall_find_place := FHall_find_place.binds (ps := ["self", "name"]) fun _ _ _ _ _ _ us hl => match us, hl with | [_, _], _ => rfl
  have FHall_find_piece := fun_mk (st := s_Hall_find_piece) lHall_find_piece cHall_find_piece kHall_find_piece
  have bHall_find_piece := FHall_find_piece.binds (ps := ["self", "name"]) fun _ _ _ _ _ _ us hl => match us, hl with | [_, _], _ => rfl
  have FPiece___init__ := fun_mk (st := s_Piece___init__) lPiece___init__ cPiece___init__ kPiece___init__
  have bPiece___init__ := FPiece___init__.binds (ps := ["self", "place", "deed", "by"]) fun _ _ _ _ _ _ us hl => match us, hl with | [_, _, _, _], _ => rfl
  have FHall_hang : FunV K "hang" "Hall.hang" s_Hall_hang (.ref THall_hang) fHall_hang _ := ⟨⟨_, _, _, _, _, _, _, _, _, rfl, lHall_hang, cHall_hang⟩, kHall_hang⟩
  have bHall_hang := bd_Hall_hang_0 (kV := kVHall_hang) (dc := dcHall_hang) (pm := pmHall_hang) (an := anHall_hang) (cd := cdHall_hang) (ct := ctHall_hang) dHall_hang
  have Fwished := fun_mk (st := s_wished) lwished cwished kwished
  have bwished := Fwished.binds (ps := ["names"]) fun _ _ _ _ _ _ us hl => match us, hl with | [_], _ => rfl
  have FHall_wish : FunV K "wish" "Hall.wish" s_Hall_wish (.ref THall_wish) fHall_wish _ := ⟨⟨_, _, _, _, _, _, _, _, _, rfl, lHall_wish, cHall_wish⟩, kHall_wish⟩
  have bHall_wish := bd_Hall_wish_0 (kV := kVHall_wish) (dc := dcHall_wish) (pm := pmHall_wish) (an := anHall_wish) (cd := cdHall_wish) (ct := ctHall_wish) dHall_wish
  have FHall_switch := fun_mk (st := s_Hall_switch) lHall_switch cHall_switch kHall_switch
  have bHall_switch := FHall_switch.binds (ps := ["self", "name", "on"]) fun _ _ _ _ _ _ us hl => match us, hl with | [_, _, _], _ => rfl
  have Flaw_hall := fun_mk (st := s_law_hall) llaw_hall claw_hall klaw_hall
  have blaw_hall := Flaw_hall.binds (ps := ["pieces", "kind", "rule"]) fun _ _ _ _ _ _ us hl => match us, hl with | [_, _, _], _ => rfl
  have Flaw_lacks := fun_mk (st := s_law_lacks) llaw_lacks claw_lacks klaw_lacks
  have blaw_lacks := Flaw_lacks.binds (ps := ["pieces", "names"]) fun _ _ _ _ _ _ us hl => match us, hl with | [_, _], _ => rfl
  have Flaw_right := fun_mk (st := s_law_right) llaw_right claw_right klaw_right
  have blaw_right := Flaw_right.binds (ps := ["found", "due"]) fun _ _ _ _ _ _ us hl => match us, hl with | [_, _], _ => rfl
  have FHall_names := fun_mk (st := s_Hall_names) lHall_names cHall_names kHall_names
  have bHall_names := FHall_names.binds (ps := ["self"]) fun _ _ _ _ _ _ us hl => match us, hl with | [_], _ => rfl
  have Flacks := fun_mk (st := s_lacks) llacks clacks klacks
  have blacks := Flacks.binds (ps := ["hall", "names"]) fun _ _ _ _ _ _ us hl => match us, hl with | [_, _], _ => rfl
  have Ffits := fun_mk (st := s_fits) lfits cfits kfits
  have bfits := Ffits.binds (ps := ["hall", "names"]) fun _ _ _ _ _ _ us hl => match us, hl with | [_, _], _ => rfl
  have Flaw := fun_mk (st := s_law) llaw claw klaw
  have blaw := Flaw.binds (ps := ["script"]) fun _ _ _ _ _ _ us hl => match us, hl with | [_], _ => rfl
  refine ⟨PySem.W.fnOf "law" "law" (defArgs s_law) (defBody s_law) (defScope s_law) .none kVlaw dclaw pmlaw anlaw cdlaw ctlaw, fun s v => .of_eq rfl, fun base _ _ => ?_⟩
  have oklaw_cell_at := ok_law_cell_at (P := l.prog) (w := w) (base := base) T0 Flaw_cell_at.toV
  have oklaw_name := ok_law_name (P := l.prog) (w := w) (base := base) T0 Flaw_name.toV
  have oklaw_some := ok_law_some (P := l.prog) (w := w) (base := base) T0 Flaw_some.toV ⟨(oklaw_name.mono (by decide : 1 ≤ 1)), PySem.W.mg_of X G alaw_name, klaw_name, blaw_name⟩
  have oklaw_deed := ok_law_deed (P := l.prog) (w := w) (base := base) T0 Flaw_deed.toV
  have oklaw_pieces := ok_law_pieces (P := l.prog) (w := w) (base := base) T0 Flaw_pieces.toV ⟨(oklaw_cell_at.mono (by decide : 1 ≤ 2)), PySem.W.mg_of X G alaw_cell_at, klaw_cell_at, blaw_cell_at⟩ ⟨(oklaw_some.mono (by decide : 2 ≤ 2)), PySem.W.mg_of X G alaw_some, klaw_some, blaw_some⟩ ⟨(oklaw_deed.mono (by decide : 1 ≤ 2)), PySem.W.mg_of X G alaw_deed, klaw_deed, blaw_deed⟩ ⟨(oklaw_name.mono (by decide : 1 ≤ 2)), PySem.W.mg_of X G alaw_name, klaw_name, blaw_name⟩
  have okHall___init__ := ok_Hall___init__ (P := l.prog) (w := w) (base := base) T0 FHall___init__.toV
  have okPlace___init__ := ok_Place___init__ (P := l.prog) (w := w) (base := base) T0 FPlace___init__.toV
  have okHall_open_place := ok_Hall_open_place (P := l.prog) (w := w) (base := base) T0 FHall_open_place.toV ⟨(okPlace___init__.mono (by decide : 1 ≤ 1)), PySem.W.mg_of X G aCPlace, ⟨mkPlace, aPlace___init__, iPlace___init__, kcPlace⟩, bPlace___init__⟩
  have okHall_find_place := ok_Hall_find_place (P := l.prog) (w := w) (base := base) T0 FHall_find_place.toV
  have okHall_find_piece := ok_Hall_find_piece (P := l.prog) (w := w) (base := base) T0 FHall_find_piece.toV
  have okPiece___init__ := ok_Piece___init__ (P := l.prog) (w := w) (base := base) T0 FPiece___init__.toV
  have okHall_hang := ok_Hall_hang (P := l.prog) (w := w) (base := base) T0 FHall_hang ⟨(okHall_find_place.mono (by decide : 1 ≤ 2)), ⟨pgHall, hdHall, poHall, saHall⟩, ⟨aHall_find_place, iHall_find_place, kHall_find_place⟩, bHall_find_place⟩ ⟨(okHall_find_piece.mono (by decide : 1 ≤ 2)), ⟨pgHall, hdHall, poHall, saHall⟩, ⟨aHall_find_piece, iHall_find_piece, kHall_find_piece⟩, bHall_find_piece⟩ ⟨(okPiece___init__.mono (by decide : 1 ≤ 1)), PySem.W.mg_of X G aCPiece, ⟨mkPiece, aPiece___init__, iPiece___init__, kcPiece⟩, bPiece___init__⟩
  have okwished := ok_wished (P := l.prog) (w := w) (base := base) T0 Fwished.toV
  have okHall_wish := ok_Hall_wish (P := l.prog) (w := w) (base := base) T0 FHall_wish ⟨(okHall_find_piece.mono (by decide : 1 ≤ 1)), ⟨pgHall, hdHall, poHall, saHall⟩, ⟨aHall_find_piece, iHall_find_piece, kHall_find_piece⟩, bHall_find_piece⟩ ⟨(okwished.mono (by decide : 1 ≤ 1)), PySem.W.mg_of X G awished, kwished, bwished⟩
  have okHall_switch := ok_Hall_switch (P := l.prog) (w := w) (base := base) T0 FHall_switch.toV ⟨(okHall_find_piece.mono (by decide : 1 ≤ 1)), ⟨pgHall, hdHall, poHall, saHall⟩, ⟨aHall_find_piece, iHall_find_piece, kHall_find_piece⟩, bHall_find_piece⟩
  have oklaw_hall := ok_law_hall (P := l.prog) (w := w) (base := base) T0 Flaw_hall.toV ⟨(okHall___init__.mono (by decide : 1 ≤ 2)), PySem.W.mg_of X G aCHall, ⟨mkHall, aHall___init__, iHall___init__, kcHall⟩, bHall___init__⟩ ⟨(okHall_open_place.mono (by decide : 3 ≤ 3)), ⟨pgHall, hdHall, poHall, saHall⟩, ⟨aHall_open_place, iHall_open_place, kHall_open_place⟩, bHall_open_place⟩ ⟨(okHall_hang.mono (by decide : 3 ≤ 3)), ⟨pgHall, hdHall, poHall, saHall⟩, ⟨aHall_hang, iHall_hang, kHall_hang⟩, bHall_hang⟩ (bd_Hall_hang_1 dHall_hang) ⟨(okHall_wish.mono (by decide : 2 ≤ 3)), ⟨pgHall, hdHall, poHall, saHall⟩, ⟨aHall_wish, iHall_wish, kHall_wish⟩, bHall_wish⟩ ⟨(okHall_switch.mono (by decide : 2 ≤ 3)), ⟨pgHall, hdHall, poHall, saHall⟩, ⟨aHall_switch, iHall_switch, kHall_switch⟩, bHall_switch⟩
  have oklaw_lacks := ok_law_lacks (P := l.prog) (w := w) (base := base) T0 Flaw_lacks.toV
  have oklaw_right := ok_law_right (P := l.prog) (w := w) (base := base) T0 Flaw_right.toV
  have okHall_names := ok_Hall_names (P := l.prog) (w := w) (base := base) T0 FHall_names.toV
  have oklacks := ok_lacks (P := l.prog) (w := w) (base := base) T0 Flacks.toV ⟨(okHall_names.mono (by decide : 1 ≤ 1)), ⟨pgHall, hdHall, poHall, saHall⟩, ⟨aHall_names, iHall_names, kHall_names⟩, bHall_names⟩ ⟨(okHall_find_piece.mono (by decide : 1 ≤ 1)), ⟨pgHall, hdHall, poHall, saHall⟩, ⟨aHall_find_piece, iHall_find_piece, kHall_find_piece⟩, bHall_find_piece⟩
  have okfits := ok_fits (P := l.prog) (w := w) (base := base) T0 Ffits.toV ⟨(oklacks.mono (by decide : 2 ≤ 2)), PySem.W.mg_of X G alacks, klacks, blacks⟩
  have oklaw := ok_law (P := l.prog) (w := w) (base := base) T0 Flaw.toV ⟨(oklaw_pieces.mono (by decide : 3 ≤ 4)), PySem.W.mg_of X G alaw_pieces, klaw_pieces, blaw_pieces⟩ ⟨(oklaw_cell_at.mono (by decide : 1 ≤ 4)), PySem.W.mg_of X G alaw_cell_at, klaw_cell_at, blaw_cell_at⟩ ⟨(oklaw_hall.mono (by decide : 4 ≤ 4)), PySem.W.mg_of X G alaw_hall, klaw_hall, blaw_hall⟩ ⟨(oklaw_lacks.mono (by decide : 1 ≤ 4)), PySem.W.mg_of X G alaw_lacks, klaw_lacks, blaw_lacks⟩ ⟨(oklaw_right.mono (by decide : 1 ≤ 4)), PySem.W.mg_of X G alaw_right, klaw_right, blaw_right⟩ ⟨(oklacks.mono (by decide : 2 ≤ 4)), PySem.W.mg_of X G alacks, klacks, blacks⟩ ⟨(okfits.mono (by decide : 3 ≤ 4)), PySem.W.mg_of X G afits, kfits, bfits⟩
  exact law_of oklaw nl fun ns hl => law9 ns
end K09
open PySem PySem.W PyProof.Rows
set_option maxRecDepth 100000 in
set_option maxHeartbeats 0 in
theorem PySem.Challenge.cw_hookhall_k09_standing_together_holds : PySem.Challenge.rw_hookhall_k09_standing_together.Holds := by
  w_on; o_law; k_head; (case hw => w_witness2)
  k_fill
  refine MF.walkM (l := PySem.Challenge.rw_hookhall_k09_standing_together) (k := 5) ⟨rfl, by decide, by decide⟩ rfl rfl (fun w h Y => PySem.W.kIn_of Y) ?F
  case F =>
    intro w mg fa h KX G hmg
    refine' K09.all_mk KX G hmg ?aCHall ?aCPiece ?aCPlace ?aENameThere ?aENoPiece ?aENoPlace ?aETooMany ?alaw_cell_at ?llaw_cell_at ?claw_cell_at ?klaw_cell_at ?alaw_name ?llaw_name ?claw_name ?klaw_name ?alaw_some ?llaw_some ?claw_some ?klaw_some ?alaw_deed ?llaw_deed ?claw_deed ?klaw_deed ?alaw_pieces ?llaw_pieces ?claw_pieces ?klaw_pieces ?aHall___init__ ?iHall___init__ ?lHall___init__ ?cHall___init__ ?kHall___init__ ?aPlace___init__ ?iPlace___init__ ?lPlace___init__ ?cPlace___init__ ?kPlace___init__ ?aHall_open_place ?iHall_open_place ?lHall_open_place ?cHall_open_place ?kHall_open_place ?aHall_find_place ?iHall_find_place ?lHall_find_place ?cHall_find_place ?kHall_find_place ?aHall_find_piece ?iHall_find_piece ?lHall_find_piece ?cHall_find_piece ?kHall_find_piece ?aPiece___init__ ?iPiece___init__ ?lPiece___init__ ?cPiece___init__ ?kPiece___init__ ?aHall_hang ?iHall_hang ?lHall_hang ?cHall_hang ?kHall_hang ?dHall_hang ?awished ?lwished ?cwished ?kwished ?aHall_wish ?iHall_wish ?lHall_wish ?cHall_wish ?kHall_wish ?dHall_wish ?aHall_switch ?iHall_switch ?lHall_switch ?cHall_switch ?kHall_switch ?alaw_hall ?llaw_hall ?claw_hall ?klaw_hall ?alaw_lacks ?llaw_lacks ?claw_lacks ?klaw_lacks ?alaw_right ?llaw_right ?claw_right ?klaw_right ?aHall_names ?iHall_names ?lHall_names ?cHall_names ?kHall_names ?alacks ?llacks ?clacks ?klacks ?afits ?lfits ?cfits ?kfits ?alaw ?llaw ?claw ?klaw ?pgHall ?hdHall ?poHall ?saHall ?mkHall ?kcHall ?pgPiece ?hdPiece ?poPiece ?saPiece ?mkPiece ?kcPiece ?pgPlace ?hdPlace ?poPlace ?saPlace ?mkPlace ?kcPlace ?zbool ?nc_MOST_PIECES ?nc_MOST_PLACES ?na_hall_pieces ?na_hall_places ?na_piece_ahead ?na_piece_bars ?na_piece_behind ?na_piece_by ?na_piece_deed ?na_piece_needs ?na_piece_on ?na_piece_place ?na_place_kind ?na_place_rule ?zisinstance ?zlen ?zlist ?zrange ?zreversed ?ztuple ?xNameThere ?xNoPiece ?xNoPlace ?xTooMany ?nl
    (case aCHall => k_is)
    (case aCPiece => k_is)
    (case aCPlace => k_is)
    (case aENameThere => k_is)
    (case aENoPiece => k_is)
    (case aENoPlace => k_is)
    (case aETooMany => k_is)
    (case alaw_cell_at => k_is)
    (case llaw_cell_at => k_is)
    (case claw_cell_at => k_is)
    (case klaw_cell_at => k_is)
    (case alaw_name => k_is)
    (case llaw_name => k_is)
    (case claw_name => k_is)
    (case klaw_name => k_is)
    (case alaw_some => k_is)
    (case llaw_some => k_is)
    (case claw_some => k_is)
    (case klaw_some => k_is)
    (case alaw_deed => k_is)
    (case llaw_deed => k_is)
    (case claw_deed => k_is)
    (case klaw_deed => k_is)
    (case alaw_pieces => k_is)
    (case llaw_pieces => k_is)
    (case claw_pieces => k_is)
    (case klaw_pieces => k_is)
    (case aHall___init__ => k_is)
    (case iHall___init__ => k_is)
    (case lHall___init__ => k_is)
    (case cHall___init__ => k_is)
    (case kHall___init__ => k_is)
    (case aPlace___init__ => k_is)
    (case iPlace___init__ => k_is)
    (case lPlace___init__ => k_is)
    (case cPlace___init__ => k_is)
    (case kPlace___init__ => k_is)
    (case aHall_open_place => k_is)
    (case iHall_open_place => k_is)
    (case lHall_open_place => k_is)
    (case cHall_open_place => k_is)
    (case kHall_open_place => k_is)
    (case aHall_find_place => k_is)
    (case iHall_find_place => k_is)
    (case lHall_find_place => k_is)
    (case cHall_find_place => k_is)
    (case kHall_find_place => k_is)
    (case aHall_find_piece => k_is)
    (case iHall_find_piece => k_is)
    (case lHall_find_piece => k_is)
    (case cHall_find_piece => k_is)
    (case kHall_find_piece => k_is)
    (case aPiece___init__ => k_is)
    (case iPiece___init__ => k_is)
    (case lPiece___init__ => k_is)
    (case cPiece___init__ => k_is)
    (case kPiece___init__ => k_is)
    (case aHall_hang => k_is)
    (case iHall_hang => k_is)
    (case lHall_hang => k_is)
    (case cHall_hang => k_is)
    (case kHall_hang => k_is)
    (case dHall_hang => k_is)
    (case awished => k_is)
    (case lwished => k_is)
    (case cwished => k_is)
    (case kwished => k_is)
    (case aHall_wish => k_is)
    (case iHall_wish => k_is)
    (case lHall_wish => k_is)
    (case cHall_wish => k_is)
    (case kHall_wish => k_is)
    (case dHall_wish => k_is)
    (case aHall_switch => k_is)
    (case iHall_switch => k_is)
    (case lHall_switch => k_is)
    (case cHall_switch => k_is)
    (case kHall_switch => k_is)
    (case alaw_hall => k_is)
    (case llaw_hall => k_is)
    (case claw_hall => k_is)
    (case klaw_hall => k_is)
    (case alaw_lacks => k_is)
    (case llaw_lacks => k_is)
    (case claw_lacks => k_is)
    (case klaw_lacks => k_is)
    (case alaw_right => k_is)
    (case llaw_right => k_is)
    (case claw_right => k_is)
    (case klaw_right => k_is)
    (case aHall_names => k_is)
    (case iHall_names => k_is)
    (case lHall_names => k_is)
    (case cHall_names => k_is)
    (case kHall_names => k_is)
    (case alacks => k_is)
    (case llacks => k_is)
    (case clacks => k_is)
    (case klacks => k_is)
    (case afits => k_is)
    (case lfits => k_is)
    (case cfits => k_is)
    (case kfits => k_is)
    (case alaw => k_is)
    (case llaw => k_is)
    (case claw => k_is)
    (case klaw => k_is)
    (case pgHall => k_is)
    (case hdHall => k_is)
    (case poHall => k_is)
    (case saHall => k_is)
    (case mkHall => k_is)
    (case kcHall => k_is)
    (case pgPiece => k_is)
    (case hdPiece => k_is)
    (case poPiece => k_is)
    (case saPiece => k_is)
    (case mkPiece => k_is)
    (case kcPiece => k_is)
    (case pgPlace => k_is)
    (case hdPlace => k_is)
    (case poPlace => k_is)
    (case saPlace => k_is)
    (case mkPlace => k_is)
    (case kcPlace => k_is)
    (case zbool => k_is)
    (case nc_MOST_PIECES => k_is)
    (case nc_MOST_PLACES => k_is)
    (case na_hall_pieces => k_is)
    (case na_hall_places => k_is)
    (case na_piece_ahead => k_is)
    (case na_piece_bars => k_is)
    (case na_piece_behind => k_is)
    (case na_piece_by => k_is)
    (case na_piece_deed => k_is)
    (case na_piece_needs => k_is)
    (case na_piece_on => k_is)
    (case na_piece_place => k_is)
    (case na_place_kind => k_is)
    (case na_place_rule => k_is)
    (case zisinstance => k_is)
    (case zlen => k_is)
    (case zlist => k_is)
    (case zrange => k_is)
    (case zreversed => k_is)
    (case ztuple => k_is)
    (case xNameThere => first | kernel_rfl! | k_is | rfl | decide)
    (case xNoPiece => first | kernel_rfl! | k_is | rfl | decide)
    (case xNoPlace => first | kernel_rfl! | k_is | rfl | decide)
    (case xTooMany => first | kernel_rfl! | k_is | rfl | decide)
    (case nl => first | kernel_rfl! | k_is | rfl | decide)
