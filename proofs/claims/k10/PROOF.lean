import PyProof.Rows.All
import Wide.All
import OpenK.AllK
import Wide.FinOn
import PyProof.EqAt
import PyProof.EqKinds
import PyProof.TupleCall
import PyProof.StrLawsRepr
import Lean
import PyProof.P3Eq
import PyProof.P3In
import PyProof.NeData
import KE.KRevIter
import PyProof.StrWalks
import PyProof.StrBlockH
import PyProof.Conv_int_bool
import PyProof.SetKind
import PyProof.Rows.SetFrom
import PyProof.Rows.SortStr
import PyProof.WalksS
import PyProof.Seq
import PyProof.Walks
import PyProof.FactsAll.set
import PyProof.ForAny
import PyProof.FactsSeq
import PyProof.CollectWalk
import PyProof.SetRoads
import PySem.Challenge.RW_hookhall_k10_a_piece_with_its_needs
theorem PySem.W.Fast.tw11686483526192704639 : True := trivial
theorem PySem.W.Fast.tw17142343802570141475 : True := trivial
theorem PySem.W.Fast.tw11917055620323667453 : True := trivial
theorem PySem.W.Fast.tw5310649250597091396 : True := trivial
theorem PySem.W.Fast.tw2651587791261452585 : True := trivial
theorem PySem.W.Fast.tw12473243623846603454 : True := trivial
theorem PySem.W.Fast.tw12371757341952764269 : True := trivial
theorem PySem.W.Fast.tw5856102441266664747 : True := trivial
theorem PySem.W.Fast.tw5307049098415732477 : True := trivial
theorem PySem.W.Fast.tw16149413131065584167 : True := trivial
theorem PySem.W.Fast.tw14215392895699063607 : True := trivial
theorem PySem.W.Fast.tw2060279672640109042 : True := trivial
theorem PySem.W.Fast.tw1283766931704525878 : True := trivial
theorem PySem.W.Fast.tw10124969483316505968 : True := trivial
theorem PySem.W.Fast.tw11232735950834028249 : True := trivial
noncomputable section
set_option maxHeartbeats 0
set_option Elab.async false
set_option linter.all false
set_option maxRecDepth 100000
namespace L2
open PySem PySem.Spec PyProof.Rows
abbrev Key := Sum Int Str
def zlc : Key -> Value -> Bool
 | .inl k, v => Value.isInt k v
 | .inr x, v => Value.isStrOf x v
def keyH (w : World) : Key -> Int
 | .inl k => hashInt k
 | .inr x => hashStr w x
theorem za0 : ∀ {k : Key} {v : Value}, zlc k v = true -> (∃ i t, k = Sum.inl i /\ v = Value.int i t) \/ (∃ x t, k = Sum.inr x /\ v = Value.str x t)
 | .inl i, v, h => by
   obtain ⟨t, e⟩ := Value.isInt_shape (k := i) (v := v) h;exact .inl ⟨i, t, rfl, e⟩
 | .inr x, v, h => by
   obtain ⟨t, e⟩ := Value.isStrOf_shape (x := x) (v := v) h;exact .inr ⟨x, t, rfl, e⟩
theorem zqf (i : Int) (t : Tok) : zlc (.inl i) (.int i t) = true := by simp [zlc, Value.isInt]
theorem zqg (x : Str) (t : Tok) : zlc (.inr x) (.str x t) = true := by simp [zlc, Value.isStrOf]
theorem zyn (a b : Int) : decide ((Sum.inl a : Key) = Sum.inl b) = (a == b) := by
 by_cases e : a = b
 ·subst e; simp
 ·have h : ¬ (Sum.inl a : Key) = Sum.inl b := fun q => e (Sum.inl.inj q)
  rw [decide_eq_false h];exact (beq_eq_false_iff_ne.mpr e).symm
theorem zyo (a b : Str) : decide ((Sum.inr a : Key) = Sum.inr b) = decide (a = b) := by
 by_cases e : a = b
 ·subst e; simp
 ·have h : ¬ (Sum.inr a : Key) = Sum.inr b := fun q => e (Sum.inr.inj q)
  rw [decide_eq_false h, decide_eq_false e]
theorem zyp (a : Int) (b : Str) : decide ((Sum.inl a : Key) = Sum.inr b) = false := decide_eq_false (fun q => nomatch q)
theorem zyq (a : Str) (b : Int) : decide ((Sum.inr a : Key) = Sum.inl b) = false := decide_eq_false (fun q => nomatch q)
def zbk (prog : Program) (w : World) : PySem.KeyKind prog w Key where
 is := zlc
 hash := keyH w
 inj := fun v a b ha hb => by
  rcases za0 ha with ⟨i, t, rfl, rfl⟩ | ⟨x, t, rfl, rfl⟩
  ·rcases za0 hb with ⟨j, u, rfl, e⟩ | ⟨y, u, rfl, e⟩
   ·injection e with e1 _; rw [e1]
   ·exact nomatch e
  ·rcases za0 hb with ⟨j, u, rfl, e⟩ | ⟨y, u, rfl, e⟩
   ·exact nomatch e
   ·injection e with e1 _; rw [e1]
 byValue := fun k v h => by
  rcases za0 h with ⟨i, t, rfl, rfl⟩ | ⟨x, t, rfl, rfl⟩ <;> rfl
 pyHash := fun hv h => by
  rcases za0 hv with ⟨i, t, rfl, rfl⟩ | ⟨x, t, rfl, rfl⟩
  ·exact wpAny_pyHash_int h
  ·exact wpAny_pyHash_str h
 eqBool := fun hu hv h => by
  rcases za0 hu with ⟨i, t, rfl, rfl⟩ | ⟨x, t, rfl, rfl⟩
  ·rcases za0 hv with ⟨j, u, rfl, rfl⟩ | ⟨y, u, rfl, rfl⟩
   ·rw [zyn] at h; exact wpAny_eqBool_int h
   ·rw [zyp] at h; exact SeqAt.EqAt.int_str i t y u _ _ _ _ h
  ·rcases za0 hv with ⟨j, u, rfl, rfl⟩ | ⟨y, u, rfl, rfl⟩
   ·rw [zyq] at h; exact SeqAt.EqAt.str_int x t j u _ _ _ _ h
   ·rw [zyo] at h; exact wpAny_eqBool_str h
 «strs» := fun k x t v h => by
  rcases za0 h with ⟨i, u, rfl, e⟩ | ⟨y, u, rfl, e⟩
  ·exact nomatch e
  ·injection e with e1 _
   subst e1;cases v <;> rfl
theorem zmy (prog : Program) (w : World) (i : Int) (t : Tok) : (zbk prog w).is (.inl i) (.int i t) = true := zqf i t
theorem zmz (prog : Program) (w : World) (x : Str) (t : Tok) : (zbk prog w).is (.inr x) (.str x t) = true := zqg x t
end L2
namespace L2
open PySem PySem.Spec PyProof.Rows
inductive V where
 | non | bl (b : Bool) | int (i : Int) | str (x : Str) | byt (b : Array UInt8) | flt (b : UInt64) | ref (a : Addr) | ty (n : String)
 deriving DecidableEq
def RelV : V -> Value -> Prop
 | .non, u => u = Value.none
 | .bl b, u => u = Value.bool b
 | .int i, u => ∃ t, u = Value.int i t
 | .str x, u => ∃ t, u = Value.str x t
 | .byt b, u => ∃ t, u = Value.bytes b t
 | .flt b, u => ∃ t, u = Value.float b t
 | .ref a, u => u = Value.ref a
 | .ty n, u => u = Value.type n
abbrev Vals : List V -> List Value -> Prop := Paired RelV
theorem Vals.length {xs : List V} {us : List Value} (r : Vals xs us) : xs.length = us.length := Paired.length r
theorem Vals.get : ∀ {xs : List V} {us : List Value} {i : Nat} {x : V}, Vals xs us -> xs[i]? = some x -> ∃ u, us[i]? = some u /\ RelV x u
 | _, _, _, _, .nil, e => by simp at e
 | _, _, 0, _, .cons r _, e => by simp at e; subst e; exact ⟨_, rfl, r⟩
 | _, _, i + 1, x, .cons _ t, e => by
   obtain ⟨u, h1, h2⟩ := Vals.get (i := i) (x := x) t (by simpa using e);exact ⟨u, by simpa using h1, h2⟩
theorem Vals.append : ∀ {xs ys : List V} {us ws : List Value}, Vals xs us -> Vals ys ws -> Vals (xs ++ ys) (us ++ ws)
 | _, _, _, _, .nil, s => s
 | _, _, _, _, .cons r t, s => .cons r (Vals.append t s)
theorem Vals.take : ∀ {xs : List V} {us : List Value} (n : Nat), Vals xs us -> Vals (xs.take n) (us.take n)
 | _, _, 0, _ => .nil
 | _, _, _ + 1, .nil => .nil
 | _, _, n + 1, .cons r t => .cons r (Vals.take n t)
theorem Vals.drop : ∀ {xs : List V} {us : List Value} (n : Nat), Vals xs us -> Vals (xs.drop n) (us.drop n)
 | _, _, 0, r => r
 | _, _, _ + 1, .nil => .nil
 | _, _, n + 1, .cons _ t => Vals.drop n t
def RelO : Option V -> Option Value -> Prop
 | some v, some u => RelV v u
 | none, none => True
 | _, _ => False
def KV {κ : Type} : List (κ × V) -> List (κ × Value) -> Prop := Paired fun (p : κ × V) (q : κ × Value) => p.1 = q.1 /\ RelV p.2 q.2
def kV : Key -> V
 | .inl i => .int i
 | .inr x => .str x
inductive HO where
 | lst (xs : List V)
 | tup (xs : List V)
 | dK (kvs : List (Key × V)) | dT (kvs : List (List Key × V))
 | set (S : Int -> Bool) (n : Nat)
 | ins (C dx : Addr) (fs : List (Str × V))
 | own (x : Addr)
 | xd (fs : List (Str × V))
 | met (f x : Addr)
 | rng (lo hi : Int)
 | frz (o : Obj) (u : HO)
 | tbl (ps : Array Value)
 | ext (φ : Heap -> Prop)
abbrev Hp := Addr -> Option HO
def upd (H : Hp) (a : Addr) (o : HO) : Hp := fun b => if b = a then some o else H b
theorem zaj {H : Hp} {a : Addr} {o : HO} : upd H a o a = some o := by unfold upd; rw [if_pos rfl]
theorem zah {H : Hp} {a b : Addr} {o : HO} (h : b ≠ a) : upd H a o b = H b := by unfold upd; rw [if_neg h]
theorem zwh {H : Hp} {a : Addr} {o u : HO} : upd (upd H a o) a u = upd H a u := by
 funext b; unfold upd; split <;> rfl
theorem z1x {H : Hp} {a b : Addr} {o u : HO} (h : H a = some o) (h' : H b = some u) (d : o ≠ u) : a ≠ b := by
 intro e; subst e; rw [h] at h'; exact d (Option.some.inj h')
theorem za5 {H : Hp} {a b : Addr} {o : HO} (h : H a = some o) (h' : H b = none) : a ≠ b := by
 intro e; subst e; rw [h] at h'; cases h'
section
variable (P : Program) (w : World)
def zcb (H : Hp) (h : Heap) (a : Addr) : HO -> Prop
 | .lst xs => xs.length <= sizeLine /\ ∃ (its : List Value) (n : Nat), Vals xs its /\ h.get? a = some { cls := .type "list", data := .seq its.toArray n }
 | .tup xs => xs.length <= sizeLine /\ ∃ its : List Value, Vals xs its /\ IsTup h a its.toArray
 | .dK kvs => kvs.length <= sizeLine /\ (a == sysModules) = false /\ ∃ vs, KV kvs vs /\ h.DictOf (zbk P w) a vs
 | .dT kvs => kvs.length <= sizeLine /\ (a == sysModules) = false /\ ∃ xs : List (List Key × Addr × Value),
  Paired (fun (p : List Key × V) (q : List Key × Addr × Value) => p.1 = q.1 /\ H q.2.1 = some (.tup (p.1.map kV)) /\ RelV p.2 q.2.2) kvs xs /\
  ∃ o es ep, h.get? a = some o /\ o.ExactDict /\ o.data = .dict es ep /\ es.toList = xs.map (entryOfKey (tupleKind (zbk P w))) /\ (xs.map (·.1)).Nodup
 | .set S n => h.SetOf (intKind P w) a S n
 | .ins C dx fs => H dx = some (.own a) /\ fs.length <= 1000 /\ dx ≠ a /\ h.get? a = some (PySem.W.instObj C dx) /\
  ∃ mA, h.Ns1 dx mA /\ (∀ f, RelO (fs.lookup f) (mA f)) /\ PySem.Within mA (fs.map (·.1))
 | .own _ => ∃ o, h.get? a = some o
 | .xd fs => ∃ mA, h.Ns1 a mA /\ ∀ f, RelO (fs.lookup f) (mA f)
 | .rng lo hi => ∃ t u v, h.get? a = some { cls := .type "range", data := .fields #[.int lo t, .int hi u, .int 1 v] }
 | .frz o u => h.get? a = some o /\ zcb H h a u
 | .tbl ps => h.get? a = some { cls := .none, data := .fields ps }
 | .met f x => h.get? a = some (PySem.W.methodObj (.ref f) (.ref x))
 | .ext φ => φ h /\ (∃ o, h.get? a = some o) /\ ∀ h1 h2 : Heap, φ h1 -> (∀ o, h1.get? a = some o -> h2.get? a = some o) -> φ h2
def HOk (H : Hp) (h : Heap) : Prop := ∀ a o, H a = some o -> zcb P w H h a o
end
section
variable {P : Program} {w : World} {H H' : Hp} {h h' : Heap} {a : Addr} {o : HO}
theorem zcb.lt (x : zcb P w H h a o) : a < h.objs.size := by
 cases o with
 | lst xs => obtain ⟨_, _, _, _, e⟩ := x; exact Heap.lt_size e
 | tup xs => obtain ⟨_, _, _, p⟩ := x; exact p.lt
 | dK kvs => obtain ⟨_, _, _, _, o, _, _, e, _⟩ := x; exact Heap.lt_size e
 | dT kvs => obtain ⟨_, _, _, _, o, _, _, e, _⟩ := x; exact Heap.lt_size e
 | set S n => obtain ⟨o, _, _, _, e, _⟩ := x; exact Heap.lt_size e
 | ins C dx fs => obtain ⟨_, _, _, e, _⟩ := x; exact Heap.lt_size e
 | own y => obtain ⟨_, e⟩ := x; exact Heap.lt_size e
 | xd fs => obtain ⟨_, ⟨_, _, _, e, _⟩, _⟩ := x; exact Heap.lt_size e
 | rng lo hi => obtain ⟨_, _, _, e⟩ := x; exact Heap.lt_size e
 | frz ob u => obtain ⟨e, _⟩ := x; exact Heap.lt_size e
 | tbl ps => exact Heap.lt_size (show h.get? a = some _ from x)
 | met f y => exact Heap.lt_size (show h.get? a = some _ from x)
 | ext φ => obtain ⟨_, ⟨_, e⟩, _⟩ := x; exact Heap.lt_size e
theorem Paired.mapP {α β : Type} {F G : α -> β -> Prop} : ∀ {l₁ : List α} {l₂ : List β}, Paired F l₁ l₂ -> (∀ a b, F a b -> G a b) -> Paired G l₁ l₂
 | _, _, .nil, _ => .nil
 | _, _, .cons r t, f => .cons (f _ _ r) (Paired.mapP t f)
theorem zcb.stay (x : zcb P w H h a o) (k : ∀ b u, (b = a \/ H b = some (.own a)) -> h.get? b = some u -> h'.get? b = some u)
  (ho : ∀ b, H b = some (.own a) -> H' b = some (.own a)) (ht : ∀ b xs, H b = some (.tup xs) -> H' b = some (.tup xs)) : zcb P w H' h' a o := by
 induction o with
 | lst xs => obtain ⟨z, its, n, r, e⟩ := x; exact ⟨z, its, n, r, k _ _ (.inl rfl) e⟩
 | tup xs => obtain ⟨z, its, r, ob, e, c⟩ := x; exact ⟨z, its, r, ob, k _ _ (.inl rfl) e, c⟩
 | dK kvs => obtain ⟨z, y, vs, r, ob, es, ep, e, c⟩ := x; exact ⟨z, y, vs, r, ob, es, ep, k _ _ (.inl rfl) e, c⟩
 | dT kvs =>
   obtain ⟨z, y, xs, r, ob, es, ep, e, c⟩ := x;exact ⟨z, y, xs, Paired.mapP r fun p q z => ⟨z.1, ht _ _ z.2.1, z.2.2⟩, ob, es, ep, k _ _ (.inl rfl) e, c⟩
 | set S n => obtain ⟨ob, es, ep, t, e, c⟩ := x; exact ⟨ob, es, ep, t, k _ _ (.inl rfl) e, c⟩
 | ins C dx fs =>
   obtain ⟨d, z, ne, e, mA, ⟨od, es, ep, e2, c⟩, r⟩ := x;exact ⟨ho _ d, z, ne, k _ _ (.inl rfl) e, mA, ⟨od, es, ep, k _ _ (.inr d) e2, c⟩, r⟩
 | own y => obtain ⟨ob, e⟩ := x; exact ⟨ob, k _ _ (.inl rfl) e⟩
 | xd fs => obtain ⟨mA, ⟨od, es, ep, e, c⟩, r⟩ := x; exact ⟨mA, ⟨od, es, ep, k _ _ (.inl rfl) e, c⟩, r⟩
 | rng lo hi => obtain ⟨t, u, v, e⟩ := x; exact ⟨t, u, v, k _ _ (.inl rfl) e⟩
 | frz ob u ih => obtain ⟨e, q⟩ := x; exact ⟨k _ _ (.inl rfl) e, ih q⟩
 | tbl ps =>
   have e : h.get? a = some { cls := .none, data := .fields ps } := x;show h'.get? a = some { cls := .none, data := .fields ps };exact k a _ (.inl rfl) e
 | met f y =>
   have e : h.get? a = some (PySem.W.methodObj (.ref f) (.ref y)) := x;show h'.get? a = some (PySem.W.methodObj (.ref f) (.ref y));exact k a _ (.inl rfl) e
 | ext φ => obtain ⟨p, ⟨o, e⟩, st⟩ := x; exact ⟨st _ _ p fun o q => k _ _ (.inl rfl) q, ⟨o, k _ _ (.inl rfl) e⟩, st⟩
theorem HOk.lt (x : HOk P w H h) (e : H a = some o) : a < h.objs.size := (x a o e).lt
theorem HOk.fresh (x : HOk P w H h) (e : h.objs.size <= a) : H a = none := by
 cases q : H a with
 | none => rfl
 | some u => exact absurd (Nat.lt_of_lt_of_le (x.lt q) e) (Nat.lt_irrefl _)
theorem HOk.kept (x : HOk P w H h) (k : ∀ b u, h.get? b = some u -> h'.get? b = some u) : HOk P w H h' := fun a o e =>
 (x a o e).stay (fun b u _ q => k b u q) (fun _ q => q) fun _ _ q => q
theorem HOk.laid (x : HOk P w H h) (k : ∀ b u, h.get? b = some u -> h'.get? b = some u) (hp : h.objs.size <= a) (new : zcb P w (upd H a o) h' a o) : HOk P w (upd H a o) h' := fun b u e => by
 have hn := x.fresh hp;by_cases hb : b = a
 ·subst hb; rw [zaj] at e; cases e; exact new
 ·rw [zah hb] at e
  exact (x b u e).stay (fun c v _ q => k c v q) (fun c q => by rw [zah (za5 q hn)]; exact q) fun c xs q => by rw [zah (za5 q hn)]; exact q
end
def Rd (H : Hp) (a : Addr) (u : HO) : Prop := H a = some u \/ ∃ o, H a = some (.frz o u)
theorem Rd.of {H : Hp} {a : Addr} {u : HO} (h : H a = some u) : Rd H a u := .inl h
theorem Rd.ok {P : Program} {w : World} {H : Hp} {h : Heap} {a : Addr} {u : HO} (r : Rd H a u) (x : HOk P w H h) : zcb P w H h a u := by
 rcases r with r | ⟨o, r⟩
 ·exact x a u r
 ·obtain ⟨_, q⟩ := x a _ r
  exact q
def Mut : Option HO -> Prop
 | some (.lst _) => True
 | some (.dK _) => True
 | some (.dT _) => True
 | some (.set _ _) => True
 | some (.ins _ _ _) => True
 | some (.ext _) => True
 | _ => False
section
variable {P : Program} {w : World} {H : Hp} {h h' : Heap} {x e : Addr} {o' : HO}
theorem HOk.write (ok : HOk P w H h) (mu : Mut (H x)) (he : e = x \/ H e = some (.own x)) (k : ∀ b u, b ≠ e -> h.get? b = some u -> h'.get? b = some u) (heo : ∃ u, h'.get? e = some u)
  (new : zcb P w (upd H x o') h' x o') : HOk P w (upd H x o') h' := fun b u q => by
 have nown : ∀ c y, H c = some (.own y) -> c ≠ x := fun c y r z => by subst z; rw [r] at mu; exact mu
 have ntup : ∀ c xs, H c = some (.tup xs) -> c ≠ x := fun c xs r z => by subst z; rw [r] at mu; exact mu
 by_cases hb : b = x
 ·subst hb; rw [zaj] at q; cases q; exact new
 ·rw [zah hb] at q
  by_cases hbe : b = e
  ·have q' : H b = some (.own x) := by
    rcases he with z | z
    ·exact absurd (hbe.trans z) hb
    ·rw [hbe]; exact z
   rw [q] at q'; cases q';obtain ⟨v, hv⟩ := heo;exact ⟨v, by rw [hbe]; exact hv⟩
  ·refine (ok b u q).stay (fun c v hc r => k c v ?_ r) (fun c r => by rw [zah (nown c b r)]; exact r) fun c xs r => by rw [zah (ntup c xs r)]; exact r
   rcases hc with rfl | hc
   ·exact hbe
   ·rintro rfl
    rcases he with z | z
    ·exact nown c b hc z
    ·rw [hc] at z; cases z; exact hb rfl
end
structure Un (fs ex : List Addr) (H H' : Hp) (h h' : Heap) : Prop where
 keep : ∀ b o, h.get? b = some o -> H b = none -> b ∉ fs -> b ∉ ex -> h'.get? b = some o
 slot : ∀ b o, h.get? b = some o -> H b = none -> b ∈ fs -> b ∉ ex -> ∃ sl, h'.get? b = some { o with slots := sl }
 free : ∀ b o, h.get? b = some o -> H b = none -> b ∉ ex -> H' b = none
 there : ∀ b o, h.get? b = some o -> b ∉ ex -> ∃ o', h'.get? b = some o'
 tups : ∀ b xs, H b = some (.tup xs) -> H' b = some (.tup xs)
 frzs : ∀ b o u, H b = some (.frz o u) -> H' b = some (.frz o u)
 tbls : ∀ b ps, H b = some (.tbl ps) -> ∃ more, H' b = some (.tbl (ps ++ more))
section
variable {fs fs' ex ex' : List Addr} {H H1 H2 : Hp} {h h1 h2 h' : Heap} {a x e : Addr} {o : HO}
theorem Un.any (u : Un fs ex H H1 h h1) {b : Addr} {ob : Obj} (q : h.get? b = some ob) (n : H b = none) (hx : b ∉ ex) : ∃ sl, h1.get? b = some { ob with slots := sl } := by
 by_cases hb : b ∈ fs
 ·exact u.slot b ob q n hb hx
 ·exact ⟨ob.slots, u.keep b ob q n hb hx⟩
theorem Un.kept (k : ∀ b u, h.get? b = some u -> h'.get? b = some u) : Un fs ex H H h h' :=
 ⟨fun b ob q _ _ _ => k b ob q, fun b ob q _ _ _ => ⟨ob.slots, k b ob q⟩, fun _ _ _ n _ => n, fun b ob q _ => ⟨ob, k b ob q⟩, fun _ _ q => q, fun _ _ _ q => q, fun _ ps q => ⟨#[], by rw [q]; simp⟩⟩
theorem Un.refl : Un fs ex H H h h := Un.kept fun _ _ q => q
theorem Un.laid (k : ∀ b u, h.get? b = some u -> h'.get? b = some u) (hp : h.objs.size <= a) (hn : H a = none) : Un fs ex H (upd H a o) h h' where
 keep := fun b u q _ _ _ => k b u q
 slot := fun b u q _ _ _ => ⟨u.slots, k b u q⟩
 free := fun b u q n _ => by rw [zah (Nat.ne_of_lt (Nat.lt_of_lt_of_le (Heap.lt_size q) hp))]; exact n
 there := fun b u q _ => ⟨u, k b u q⟩
 tups := fun b xs q => by rw [zah (za5 q hn)]; exact q
 frzs := fun b u xs q => by rw [zah (za5 q hn)]; exact q
 tbls := fun b ps q => ⟨#[], by rw [zah (za5 q hn), q]; simp⟩
theorem Un.write (mu : Mut (H x)) (he : e = x \/ H e = some (.own x)) (k : ∀ b u, b ≠ e -> h.get? b = some u -> h'.get? b = some u) (heo : ∃ u, h'.get? e = some u) : Un fs ex H (upd H x o) h h' := by
 have hx : ∀ b, H b = none -> b ≠ x := fun b n z => by subst z; rw [n] at mu; exact mu
 have hb : ∀ b, H b = none -> b ≠ e := fun b n z => by
  subst z;rcases he with r | r
  ·exact hx b n r
  ·rw [n] at r; cases r
 have hm : ∀ b u, H b = some u -> ¬ Mut (some u) -> b ≠ x := fun b u q nm z => by subst z; rw [q] at mu; exact nm mu
 refine ⟨fun b u q n _ _ => k b u (hb b n) q, fun b u q n _ _ => ⟨u.slots, k b u (hb b n) q⟩, fun b u q n _ => by rw [zah (hx b n)]; exact n, fun b u q _ => ?_,
  fun b xs q => by rw [zah (hm b _ q fun z => z)]; exact q, fun b u xs q => by rw [zah (hm b _ q fun z => z)]; exact q, fun b ps q => ⟨#[], by rw [zah (hm b _ q fun z => z), q]; simp⟩⟩
 by_cases hbe : b = e
 ·subst hbe; exact heo
 ·exact ⟨u, k b u hbe q⟩
end
def trk (h : Heap) (H : Hp) : List Addr := (List.range h.objs.size).filter fun a => (H a).isSome
def hidT (h : Heap) (H : Hp) : Heap := PySem.W.hideAll h (trk h H)
theorem zqh (h : Heap) (H : Hp) : (hidT h H).objs.size = h.objs.size := PySem.W.hideAll_size _ _
theorem zti {h : Heap} {H : Hp} {b : Addr} {o : Obj} (e : h.get? b = some o) (n : H b = none) : (hidT h H).get? b = some o :=
 PySem.W.hideAll_get _ e fun hm => by
  have q : (H b).isSome = true := (List.mem_filter.mp hm).2;rw [n] at q; simp at q
theorem zwi {h : Heap} {H : Hp} {b : Addr} {o : Obj} (e : (hidT h H).get? b = some o) : h.get? b = some o /\ H b = none := by
 have e' : h.get? b = some o := PySem.W.of_hideAll (trk h H) e;refine ⟨e', ?_⟩;cases q : H b with
 | none => rfl
 | some x =>
   have hm : b ∈ trk h H := List.mem_filter.mpr ⟨List.mem_range.mpr (Heap.lt_size e'), by simp [q]⟩;have z : (hidT h H).get? b = none := PySem.W.hideAll_none (trk h H) hm;rw [z] at e; cases e
def zwj (g h : Heap) (L : Addr) : List (Addr × Obj) := (List.range h.objs.size).filterMap fun a => if a = L \/ (g.get? a).isSome = true then none else (h.get? a).map fun o => (a, o)
def rest (g h : Heap) (L d : Addr) : List (Addr × Obj) := (zwj g h L).filter fun p => decide (p.1 ≠ d)
end L2
namespace L2
open PySem PySem.Spec PyProof.Rows
structure Mod (K : PySem.W.Frag) (mg : Str -> Option Value) (base : Heap) : Prop where
 kin : K.In base
 glob : base.Ns mainGlobals mg
 blt : ∃ mb, base.Ns builtinsNs mb /\ ∀ x : Str, x ≠ "__name__" -> mb x = bootBuiltins x
 nolimit : base.NoLimit
structure Cx where
 prog : Program
 w : World
 K : PySem.W.Frag
 mg : Str -> Option Value
 base : Heap
 A : Around
 N : List Str
 s₀ : Shared
 H₀ : Hp
 env : Env
 outer : List Env
 stack : List Env
 ex : List Addr
 fn : Str -> Bool
 calm : Bool
 pn : List (Addr × Obj)
 xe : Value -> Shared -> Prop
 kn : List (Option V) := []
def frs (l : List Env) : List Addr := l.filterMap (·.frame)
abbrev Cx.fs (X : Cx) : List Addr := frs X.outer
def Vis (sc : Scope) (x : Str) : Prop := sc.names.lookup x = some .local \/ sc.names.lookup x = some .cell \/ sc.names.lookup x = some .free
def Loc (sc : Scope) (x : Str) : Prop := sc.names.lookup x = some .local \/ sc.names.lookup x = some .cell
def Look (env : Env) (h : Heap) (m : Str -> Option Value) (x : Str) (u : Value) : Prop :=
 (env.kindOf x = some .local /\ m x = some u) \/ ((env.kindOf x = some .cell \/ env.kindOf x = some .free) /\ ∃ c, env.cells.lookup x = some c /\ h.IsCell c (some u))
structure Cx.Ok (X : Cx) : Prop where
 mod : Mod X.K X.mg X.base
 kind : X.env.scope.kind = .function
 glob : X.env.globals = mainGlobals
 blt : X.env.builtins = builtinsNs
 above : X.s₀.heap.objs.size <= X.env.locals
 inj : ∀ x y c, X.env.cells.lookup x = some c -> X.env.cells.lookup y = some c -> x = y
 has : ∀ x, (X.env.kindOf x = some .cell \/ X.env.kindOf x = some .free) -> ∃ c, X.env.cells.lookup x = some c
 cab : ∀ x c, X.fn x = true -> X.env.cells.lookup x = some c -> X.s₀.heap.objs.size <= c
 hd : X.calm = true -> X.A.handled = none
 frames : X.A.frames = some X.stack
 stk : X.stack = X.outer \/ (X.stack = X.env :: X.outer /\ X.env.frame = some X.env.locals)
 exf : ∀ b ∈ X.ex, b ≠ X.env.locals /\ ∀ x c, X.env.cells.lookup x = some c -> c ≠ b
 bs : ∀ b o, X.base.get? b = some o -> X.s₀.heap.get? b = some o /\ X.H₀ b = none
 bsz : X.base.objs.size <= X.s₀.heap.objs.size
 noex : ∀ b o, X.base.get? b = some o -> b ∉ X.ex
 exfs : ∀ b ∈ X.ex, b ∉ X.fs
 funs : X.s₀.heap.FunFrames X.base X.outer
 frf : ∀ b ∈ X.fs, X.H₀ b = none
structure Inv (X : Cx) (pins : List (Addr × Obj)) (σ : List (Option V)) (H : Hp) (s : Shared) : Prop where
 ok : X.Ok
 os : s.os = X.s₀.os
 bare : AllBare s.gens
 base : Un X.fs X.ex X.H₀ H X.s₀.heap s.heap
 loc : ∃ m, s.heap.Ns X.env.locals m /\ ∀ (i : Nat) (x : Str) (v : V), X.N[i]? = some x -> σ[i]? = some (some v) -> Vis X.env.scope x -> ∃ u, RelV v u /\ Look X.env s.heap m x u
 cell : ∀ x c, X.env.cells.lookup x = some c -> ∃ v, s.heap.IsCell c v
 free : H X.env.locals = none
 freeC : ∀ x c, X.env.cells.lookup x = some c -> H c = none
 pin : ∀ p ∈ X.pn ++ pins, s.heap.get? p.1 = some p.2 /\ H p.1 = none /\ p.1 ≠ X.env.locals /\ p.1 ∉ X.fs /\ ∀ v, p.2.data ≠ .cell v
 hok : HOk X.prog X.w H s.heap
 len : σ.length = X.N.length
 kn : ∀ (i : Nat) (v : V), X.kn[i]? = some (some v) -> σ[i]? = some (some v)
section
variable {X : Cx} {pins : List (Addr × Obj)} {σ : List (Option V)} {H H' : Hp} {s : Shared} {h' : Heap}
theorem Cx.Ok.nofr (ok : X.Ok) {b : Addr} {o : Obj} (e : X.base.get? b = some o) : b ∉ X.fs := fun hb => by
 have := (ok.funs.mem hb).1;rw [e] at this; cases this
theorem Inv.bs (I : Inv X pins σ H s) : ∀ b o, X.base.get? b = some o -> s.heap.get? b = some o /\ H b = none := fun b o e =>
 ⟨I.base.keep b o (I.ok.bs b o e).1 (I.ok.bs b o e).2 (I.ok.nofr e) (I.ok.noex b o e), I.base.free b o (I.ok.bs b o e).1 (I.ok.bs b o e).2 (I.ok.noex b o e)⟩
theorem Inv.bk (I : Inv X pins σ H s) : ∀ b o, X.base.get? b = some o -> s.heap.get? b = some o := fun b o e => (I.bs b o e).1
theorem Inv.mod (I : Inv X pins σ H s) : Mod X.K X.mg X.base := I.ok.mod
theorem Inv.kIn (I : Inv X pins σ H s) : X.K.In s.heap := I.ok.mod.kin.keeps I.bk
theorem Inv.nolimit (I : Inv X pins σ H s) : s.heap.NoLimit := I.ok.mod.nolimit.keeps I.bk
theorem Inv.fr (I : Inv X pins σ H s) : ∃ m, Fr X.base X.env.locals s.heap m :=
 let ⟨m, hn, _⟩ := I.loc
 ⟨m, hn, I.bk, Nat.le_trans I.ok.bsz I.ok.above⟩
theorem Inv.lt (I : Inv X pins σ H s) : X.env.locals < s.heap.objs.size := let ⟨_, hn, _⟩ := I.loc; hn.lt
theorem Inv.sz (I : Inv X pins σ H s) : X.s₀.heap.objs.size <= s.heap.objs.size := Nat.le_trans I.ok.above (Nat.le_of_lt I.lt)
theorem Inv.nofs (I : Inv X pins σ H s) {a : Addr} (h : s.heap.objs.size <= a) : a ∉ X.fs := fun hb => by
 obtain ⟨_, o, ho, _⟩ := I.ok.funs.mem hb;exact absurd (Nat.lt_of_lt_of_le (Heap.lt_size ho) (Nat.le_trans I.sz h)) (Nat.lt_irrefl _)
theorem Inv.cne (I : Inv X pins σ H s) : ∀ x c, X.env.cells.lookup x = some c -> c ≠ X.env.locals := fun x c e z => by
 obtain ⟨v, o, ho, hd⟩ := I.cell x c e;obtain ⟨m, ⟨o', es, ep, ho', hd', _⟩, _⟩ := I.loc;rw [z, ho'] at ho; cases ho; rw [hd'] at hd; cases hd
theorem Inv.funs (I : Inv X pins σ H s) : s.heap.FunFrames X.base X.outer := by
 have all : ∀ (l : List Env), (∀ b ∈ frs l, b ∈ X.fs) -> X.s₀.heap.FunFrames X.base l -> s.heap.FunFrames X.base l := by
  intro l
  induction l with
  | nil => intro _ _; trivial
  | cons env r ih =>
    intro hs hl;obtain ⟨hk, ⟨L, o, hf, hn, ho, hd⟩, hr⟩ := hl;have hL : L ∈ X.fs := hs L (by unfold frs; rw [List.filterMap_cons, hf]; exact List.mem_cons_self);obtain ⟨sl, e⟩ := I.base.slot L o ho (I.ok.frf L hL) hL fun z => I.ok.exfs L z hL;exact ⟨hk, ⟨L, _, hf, hn, e, hd⟩, ih (fun b hb => hs b (by unfold frs; rw [List.filterMap_cons, hf]; exact List.mem_cons_of_mem _ hb)) hr⟩
 exact all X.outer (fun _ hb => hb) I.ok.funs
theorem Inv.stack (I : Inv X pins σ H s) : s.heap.FunFrames X.base X.stack := by
 rcases I.ok.stk with e | ⟨e, hf⟩
 ·rw [e]; exact I.funs
 ·rw [e]
  obtain ⟨m, hn, _⟩ := I.loc;refine .cons (by rw [I.ok.kind]; decide) hf hn ?_ I.funs;exact Heap.get?_none_of_le (Nat.le_trans I.ok.bsz I.ok.above)
theorem Inv.stkSub (I : Inv X pins σ H s) : ∀ b ∈ frs X.stack, b ∈ X.env.locals :: X.fs := fun b hb => by
 rcases I.ok.stk with e | ⟨e, hf⟩
 ·rw [e] at hb; exact List.mem_cons_of_mem _ hb
 ·rw [e] at hb
  unfold frs at hb;rw [List.filterMap_cons, hf] at hb;exact hb
theorem Inv.stkFree (I : Inv X pins σ H s) : ∀ b ∈ frs X.stack, H b = none := fun b hb => by
 rcases List.mem_cons.mp (I.stkSub b hb) with e | hb
 ·rw [e]; exact I.free
 ·obtain ⟨_, o, ho, _⟩ := I.ok.funs.mem hb
  exact I.base.free b o ho (I.ok.frf b hb) fun z => I.ok.exfs b z hb
theorem Inv.step {g' : Array GenState} {t' : Nat} {d' : Drawn} {ch : List Addr} (I : Inv X pins σ H s)
  (hch : ∀ b ∈ ch, (b ∈ X.ex \/ X.s₀.heap.objs.size <= b) /\ b ≠ X.env.locals /\ (∀ x c, X.env.cells.lookup x = some c -> c ≠ b) /\ ∀ p ∈ X.pn ++ pins, p.1 ≠ b)
  (keep : ∀ b o, b ≠ X.env.locals -> b ∉ X.fs -> b ∉ ch -> s.heap.get? b = some o -> H b = none -> h'.get? b = some o)
  (slot : ∀ b o, b ≠ X.env.locals -> b ∈ X.fs -> b ∉ ch -> s.heap.get? b = some o -> H b = none -> ∃ sl, h'.get? b = some { o with slots := sl }) (free : ∀ b o, b ∉ ch -> s.heap.get? b = some o -> H b = none -> H' b = none)
  (there : ∀ b o, b ∉ ch -> s.heap.get? b = some o -> ∃ o', h'.get? b = some o')
  (tups : ∀ b xs, H b = some (.tup xs) -> H' b = some (.tup xs)) (frzs : ∀ b o u, H b = some (.frz o u) -> H' b = some (.frz o u)) (tbls : ∀ b ps, H b = some (.tbl ps) -> ∃ more, H' b = some (.tbl (ps ++ more)))
  (ns : ∀ m, s.heap.Ns X.env.locals m -> h'.Ns X.env.locals m) (hok : HOk X.prog X.w H' h') (hg : AllBare g') :
  Inv X pins σ H' { s with heap := h', gens := g', drawn := d', toks := t' } := by
 have neL : ∀ b o, X.s₀.heap.get? b = some o -> b ≠ X.env.locals := fun b o e => Nat.ne_of_lt (Nat.lt_of_lt_of_le (Heap.lt_size e) I.ok.above);have neC : ∀ b o, X.s₀.heap.get? b = some o -> b ∉ X.ex -> b ∉ ch := fun b o e hx hb => by
  rcases (hch b hb).1 with z | z
  ·exact hx z
  ·exact absurd (Nat.lt_of_lt_of_le (Heap.lt_size e) z) (Nat.lt_irrefl _)
 have cellK : ∀ x c, X.env.cells.lookup x = some c -> ∀ v, s.heap.IsCell c v -> h'.IsCell c v := fun x c e v ⟨o, ho, hd⟩ => by
  have nch : c ∉ ch := fun z => (hch c z).2.2.1 x c e rfl;by_cases hc : c ∈ X.fs
  ·obtain ⟨sl, q⟩ := slot c o (I.cne x c e) hc nch ho (I.freeC x c e)
   exact ⟨_, q, hd⟩
  ·exact ⟨o, keep c o (I.cne x c e) hc nch ho (I.freeC x c e), hd⟩
 refine ⟨I.ok, I.os, hg, ⟨fun b o e n hb hx => ?_, fun b o e n hb hx => ?_, fun b o e n hx => ?_, fun b o e hx => ?_, fun b xs e => tups b xs (I.base.tups b xs e), fun b o xs e => frzs b o xs (I.base.frzs b o xs e), fun b ps e => ?_⟩, ?_, fun x c e => ?_, ?_, fun x c e => ?_, fun p hp => ?_, hok, I.len, I.kn⟩
 ·exact keep b o (neL b o e) hb (neC b o e hx) (I.base.keep b o e n hb hx) (I.base.free b o e n hx)
 ·obtain ⟨sl, e1⟩ := I.base.slot b o e n hb hx
  obtain ⟨sl', e2⟩ := slot b _ (neL b o e) hb (neC b o e hx) e1 (I.base.free b o e n hx);exact ⟨sl', e2⟩
 ·obtain ⟨o', e1⟩ := I.base.there b o e hx
  exact free b o' (neC b o e hx) e1 (I.base.free b o e n hx)
 ·obtain ⟨o', e1⟩ := I.base.there b o e hx
  exact there b o' (neC b o e hx) e1
 ·obtain ⟨m1, e1⟩ := I.base.tbls b ps e
  obtain ⟨m2, e2⟩ := tbls b _ e1;exact ⟨m1 ++ m2, by rw [e2, Array.append_assoc]⟩
 ·obtain ⟨m, hn, hl⟩ := I.loc
  refine ⟨m, ns m hn, fun i x v e1 e2 e3 => ?_⟩;obtain ⟨u, r, l⟩ := hl i x v e1 e2 e3;refine ⟨u, r, ?_⟩;rcases l with l | ⟨k, c, e, z⟩
  ·exact .inl l
  ·exact .inr ⟨k, c, e, cellK x c e _ z⟩
 ·obtain ⟨v, z⟩ := I.cell x c e
  exact ⟨v, cellK x c e v z⟩
 ·obtain ⟨m, ⟨o, _, _, ho, _⟩, _⟩ := I.loc
  exact free _ o (fun z => (hch _ z).2.1 rfl) ho I.free
 ·obtain ⟨v, o, ho, hd⟩ := I.cell x c e
  exact free c o (fun z => (hch c z).2.2.1 x c e rfl) ho (I.freeC x c e)
 ·obtain ⟨e, n, ne, nf, d⟩ := I.pin p hp
  have nch : p.1 ∉ ch := fun z => (hch p.1 z).2.2.2 p hp rfl;exact ⟨keep p.1 p.2 ne nf nch e n, free p.1 p.2 nch e n, ne, nf, d⟩
theorem Inv.un {t' : Nat} (I : Inv X pins σ H s) (u : Un X.fs [] H H' s.heap h') (hok : HOk X.prog X.w H' h') : Inv X pins σ H' { s with heap := h', toks := t' } := by
 obtain ⟨m, ⟨o, es, ep, ho, r⟩, _⟩ := id I.loc;obtain ⟨sl, hL⟩ := u.any ho I.free (by simp);exact I.step (g' := s.gens) (d' := s.drawn) (ch := []) (fun _ z => nomatch z) (fun b o _ hb _ e n => u.keep b o e n hb (by simp)) (fun b o _ hb _ e n => u.slot b o e n hb (by simp)) (fun b o _ e n => u.free b o e n (by simp)) (fun b o _ e => u.there b o e (by simp)) u.tups u.frzs u.tbls (fun m' hm => by
  obtain ⟨o', es', ep', ho', r'⟩ := hm;rw [ho] at ho'; cases ho';exact ⟨_, es', ep', hL, r'⟩) hok I.bare
theorem Inv.call {g' : Array GenState} {t' : Nat} {d' : Drawn} {ch : List Addr} (I : Inv X pins σ H s) (u : Un (frs X.stack) ch H H' s.heap h') (hok : HOk X.prog X.w H' h') (hg : AllBare g')
  (hch : ∀ b ∈ ch, (b ∈ X.ex \/ X.s₀.heap.objs.size <= b) /\ b ≠ X.env.locals /\ (∀ x c, X.env.cells.lookup x = some c -> c ≠ b) /\ ∀ p ∈ X.pn ++ pins, p.1 ≠ b) :
  Inv X pins σ H' { s with heap := h', gens := g', drawn := d', toks := t' } := by
 obtain ⟨m, ⟨o, es, ep, ho, r⟩, _⟩ := id I.loc;obtain ⟨sl, hL⟩ := u.any ho I.free fun z => (hch _ z).2.1 rfl;exact I.step (ch := ch) hch (fun b o hL hb hc e n => u.keep b o e n (fun z => (List.mem_cons.mp (I.stkSub b z)).elim hL hb) hc) (fun b o _ _ hc e n => u.any e n hc) (fun b o hc e n => u.free b o e n hc) (fun b o hc e => u.there b o e hc) u.tups u.frzs u.tbls (fun m' hm => by
  obtain ⟨o', es', ep', ho', r'⟩ := hm;rw [ho] at ho'; cases ho';exact ⟨_, es', ep', hL, r'⟩) hok hg
theorem Inv.turned {t' : Nat} {it : Addr} (I : Inv X pins σ H s) (k : ∀ b o, b ≠ it -> s.heap.get? b = some o -> h'.get? b = some o) (hn : H it = none) (hL : it ≠ X.env.locals)
  (h1 : it ∈ X.ex \/ X.s₀.heap.objs.size <= it) (h2 : ∀ x c, X.env.cells.lookup x = some c -> c ≠ it) (h3 : ∀ p ∈ X.pn ++ pins, p.1 ≠ it) : Inv X pins σ H { s with heap := h', toks := t' } := by
 have nit : ∀ b u, H b = some u -> b ≠ it := fun b u e z => by rw [z, hn] at e; cases e
 refine I.step (g' := s.gens) (d' := s.drawn) (ch := [it]) (fun b hb => ?_) (fun b o _ _ hc e _ => k b o (fun z => hc (by simp [z])) e) (fun b o _ _ hc e _ => ⟨o.slots, k b o (fun z => hc (by simp [z])) e⟩) (fun _ _ _ _ n => n)
  (fun b o hc e => ⟨o, k b o (fun z => hc (by simp [z])) e⟩) (fun _ _ e => e) (fun _ _ _ e => e) (fun b ps e => ⟨#[], by rw [e]; simp⟩) (fun m hm => ?_) (fun b u e => ?_) I.bare
 ·have e : b = it := by simpa using hb
  subst e;exact ⟨h1, hL, h2, h3⟩
 ·obtain ⟨o, es, ep, ho, r⟩ := hm
  exact ⟨o, es, ep, k _ o (Ne.symm hL) ho, r⟩
 ·refine (I.hok b u e).stay (fun c v hc q => k c v ?_ q) (fun _ q => q) fun _ _ q => q
  rcases hc with z | z
  ·rw [z]; exact nit b u e
  ·exact nit c _ z
theorem Inv.tok (I : Inv X pins σ H s) (t : Nat) : Inv X pins σ H { s with toks := t } := I.un (h' := s.heap) (t' := t) Un.refl I.hok
theorem Inv.kept {t' : Nat} (I : Inv X pins σ H s) (k : ∀ b u, s.heap.get? b = some u -> h'.get? b = some u) : Inv X pins σ H { s with heap := h', toks := t' } := I.un (Un.kept k) (I.hok.kept k)
theorem Inv.laid {a : Addr} {o : HO} {t' : Nat} (I : Inv X pins σ H s) (k : ∀ b u, s.heap.get? b = some u -> h'.get? b = some u) (hp : s.heap.objs.size <= a) (new : zcb X.prog X.w (upd H a o) h' a o) :
 Inv X pins σ (upd H a o) { s with heap := h', toks := t' } := I.un (Un.laid k hp (I.hok.fresh hp)) (I.hok.laid k hp new)
theorem Inv.write {x e : Addr} {o : HO} {t' : Nat} (I : Inv X pins σ H s) (mu : Mut (H x)) (he : e = x \/ H e = some (.own x)) (k : ∀ b u, b ≠ e -> s.heap.get? b = some u -> h'.get? b = some u) (heo : ∃ u, h'.get? e = some u)
 (new : zcb X.prog X.w (upd H x o) h' x o) : Inv X pins σ (upd H x o) { s with heap := h', toks := t' } := I.un (Un.write mu he k heo) (I.hok.write mu he k heo new)
theorem Inv.weak {σ' : List (Option V)} (I : Inv X pins σ H s) (hl : σ'.length = σ.length) (w : ∀ (i : Nat) v, σ'[i]? = some (some v) -> σ[i]? = some (some v)) (wk : ∀ (i : Nat) (v : V), X.kn[i]? = some (some v) -> σ'[i]? = some (some v)) : Inv X pins σ' H s :=
 ⟨I.ok, I.os, I.bare, I.base, let ⟨m, hn, hl'⟩ := I.loc; ⟨m, hn, fun i x v e1 e2 e3 => hl' i x v e1 (w i v e2) e3⟩, I.cell, I.free, I.freeC, I.pin, I.hok, hl.trans I.len, wk⟩
theorem Inv.pins_of {pins' : List (Addr × Obj)} (I : Inv X pins σ H s) (h : ∀ p ∈ pins', s.heap.get? p.1 = some p.2 /\ H p.1 = none /\ p.1 ≠ X.env.locals /\ p.1 ∉ X.fs /\ ∀ v, p.2.data ≠ .cell v) : Inv X pins' σ H s :=
 ⟨I.ok, I.os, I.bare, I.base, I.loc, I.cell, I.free, I.freeC, fun p hp => (List.mem_append.mp hp).elim (fun z => I.pin p (List.mem_append_left _ z)) (h p), I.hok, I.len, I.kn⟩
theorem zkd {N : List Str} (hN : N.Nodup) {i j : Nat} {x : Str} (a : N[i]? = some x) (b : N[j]? = some x) : i = j := by
 obtain ⟨h1, e1⟩ := List.getElem?_eq_some_iff.mp a;obtain ⟨h2, e2⟩ := List.getElem?_eq_some_iff.mp b;exact (List.getElem_inj hN).mp (e1.trans e2.symm)
theorem zh6 {M : Model} {A : Around} {E : Value -> Shared -> Prop} {i : Nat} {x : Str} {v : V} {u : Value} {Q : Unit -> Shared -> Prop} (I : Inv X pins σ H s) (hN : X.N.Nodup) (hi : X.N[i]? = some x) (hx : Loc X.env.scope x) (r : RelV v u)
  (h : ∀ s', Inv X pins (σ.set i (some v)) H s' -> (∃ a, Heap.SameBut a s.heap s'.heap /\ (a = X.env.locals \/ X.env.cells.lookup x = some a)) -> Q () s') (hf : X.fn x = true \/ X.env.scope.names.lookup x = some .local := by first | exact .inl rfl | exact .inr rfl | assumption) (hkn : ∀ u : V, X.kn[i]? ≠ some (some u) := by first | assumption | exact fun u h => nomatch (show (none : Option (Option V)) = some (some u) from h) | exact fun u h => nomatch (Option.some.inj (show some (none : Option V) = some (some u) from h))) : wpAny M A (storeName X.env x u) Q E s := by
 obtain ⟨m, hn, hl⟩ := id I.loc;have hcls : (X.env.scope.kind == .class || (X.env.scope.kind == .module && X.env.locals != X.env.globals)) = false := by rw [I.ok.kind]; rfl
 have hiσ : i < σ.length := by rw [I.len]; exact (List.getElem?_eq_some_iff.mp hi).1
 have cne := I.cne;have kn' : ∀ (j : Nat) (v' : V), X.kn[j]? = some (some v') -> (σ.set i (some v))[j]? = some (some v') := fun j v' e => by
  by_cases hj : j = i
  ·subst hj; exact absurd e (hkn v')
  ·rw [List.getElem?_set_ne (Ne.symm hj)]; exact I.kn j v' e
 have tracked : ∀ {a : Addr} {h' : Heap}, (∃ o, s.heap.get? a = some o /\ H a = none) -> Heap.SameBut a s.heap h' -> HOk X.prog X.w H h' := fun {a h'} ha hs b ob e => by
  obtain ⟨_, _, hfree⟩ := ha;refine (I.hok b ob e).stay (fun c w' hc q => (hs.2 c ?_).trans q) (fun _ q => q) fun _ _ q => q;rintro rfl;rcases hc with rfl | hc
  ·rw [hfree] at e; cases e
  ·rw [hfree] at hc; cases hc
 rcases hx with hk | hk
 ·refine wpAny_storeName_local hk hn (fun h' hn' hs => ?_) hcls
  obtain ⟨oL, _, _, hoL, _⟩ := id hn;refine h _ ⟨I.ok, I.os, I.bare, ⟨fun b o e n hb hx => ?_, fun b o e n hb hx => ?_, I.base.free, fun b o e hx => ?_, I.base.tups, I.base.frzs, I.base.tbls⟩, ⟨_, hn', fun j y v' e1 e2 e3 => ?_⟩, fun y c e => ?_, I.free, I.freeC, fun p hp => ?_, tracked ⟨oL, hoL, I.free⟩ hs, by simpa using I.len, kn'⟩ ⟨_, hs, .inl rfl⟩
  ·exact (hs.2 b (Nat.ne_of_lt (Nat.lt_of_lt_of_le (Heap.lt_size e) I.ok.above))).trans (I.base.keep b o e n hb hx)
  ·obtain ⟨sl, e1⟩ := I.base.slot b o e n hb hx
   exact ⟨sl, (hs.2 b (Nat.ne_of_lt (Nat.lt_of_lt_of_le (Heap.lt_size e) I.ok.above))).trans e1⟩
  ·obtain ⟨o', e1⟩ := I.base.there b o e hx
   exact ⟨o', (hs.2 b (Nat.ne_of_lt (Nat.lt_of_lt_of_le (Heap.lt_size e) I.ok.above))).trans e1⟩
  ·by_cases hj : j = i
   ·subst hj
    rw [hi] at e1; cases e1;rw [List.getElem?_set_self hiσ] at e2;cases e2;exact ⟨u, r, .inl ⟨hk, by simp⟩⟩
   ·rw [List.getElem?_set_ne (Ne.symm hj)] at e2
    obtain ⟨u', r', q⟩ := hl j y v' e1 e2 e3;refine ⟨u', r', ?_⟩;rcases q with ⟨k, e⟩ | ⟨k, c, e, z⟩
    ·refine .inl ⟨k, ?_⟩
     have : y ≠ x := fun e => hj (zkd hN e1 (e ▸ hi));simp [this, e]
    ·exact .inr ⟨k, c, e, z.sameBut hs (cne y c e)⟩
  ·obtain ⟨w', z⟩ := I.cell y c e
   exact ⟨w', z.sameBut hs (cne y c e)⟩
  ·obtain ⟨e, n, ne, nf, d⟩ := I.pin p hp
   exact ⟨(hs.2 p.1 ne).trans e, n, ne, nf, d⟩
 ·have hfn : X.fn x = true := by
   rcases hf with z | z
   ·exact z
   ·rw [z] at hk; cases hk
  obtain ⟨c, hc⟩ := I.ok.has x (.inl hk);obtain ⟨w', z⟩ := I.cell x c hc;refine wpAny_storeName_cell I.ok.kind hk hc z (fun h' hc' hs => ?_);obtain ⟨oc, hoc, hocd⟩ := id z;refine h { s with heap := h' } ⟨I.ok, I.os, I.bare, ⟨fun b o e n hb hx => ?_, fun b o e n hb hx => ?_, I.base.free, fun b o e hx => ?_, I.base.tups, I.base.frzs, I.base.tbls⟩, ⟨m, hn.sameBut hs (Ne.symm (cne x c hc)), fun j y v' e1 e2 e3 => ?_⟩, fun y c' e => ?_, I.free, I.freeC, fun p hp => ?_, tracked ⟨oc, hoc, I.freeC x c hc⟩ hs, by simpa using I.len, kn'⟩ ⟨c, hs, .inr hc⟩
  ·exact (hs.2 b (Nat.ne_of_lt (Nat.lt_of_lt_of_le (Heap.lt_size e) (I.ok.cab x c hfn hc)))).trans (I.base.keep b o e n hb hx)
  ·obtain ⟨sl, e1⟩ := I.base.slot b o e n hb hx
   exact ⟨sl, (hs.2 b (Nat.ne_of_lt (Nat.lt_of_lt_of_le (Heap.lt_size e) (I.ok.cab x c hfn hc)))).trans e1⟩
  ·obtain ⟨o', e1⟩ := I.base.there b o e hx
   exact ⟨o', (hs.2 b (Nat.ne_of_lt (Nat.lt_of_lt_of_le (Heap.lt_size e) (I.ok.cab x c hfn hc)))).trans e1⟩
  ·by_cases hj : j = i
   ·subst hj
    rw [hi] at e1; cases e1;rw [List.getElem?_set_self hiσ] at e2;cases e2;exact ⟨u, r, .inr ⟨.inl hk, c, hc, hc'⟩⟩
   ·rw [List.getElem?_set_ne (Ne.symm hj)] at e2
    obtain ⟨u', r', q⟩ := hl j y v' e1 e2 e3;refine ⟨u', r', ?_⟩;rcases q with q | ⟨k, c', e, z'⟩
    ·exact .inl q
    ·refine .inr ⟨k, c', e, z'.sameBut hs ?_⟩
     rintro rfl;exact hj (zkd hN e1 (I.ok.inj _ _ _ e hc ▸ hi))
  ·by_cases hcc : c' = c
   ·subst hcc; exact ⟨_, hc'⟩
   ·obtain ⟨w2, z2⟩ := I.cell y c' e
    exact ⟨w2, z2.sameBut hs hcc⟩
  ·obtain ⟨e, n, ne, nf, d⟩ := I.pin p hp
   refine ⟨(hs.2 p.1 ?_).trans e, n, ne, nf, d⟩;intro q;rw [q, hoc] at e;have q' : oc = p.2 := Option.some.inj e;exact d w' (by rw [<- q']; exact hocd)
theorem zht {M : Model} {A : Around} {E : Value -> Shared -> Prop} {i : Nat} {x : Str} {v : V} {u : Value} {Q : Unit -> Shared -> Prop} (I : Inv X pins σ H s) (hN : X.N.Nodup) (hi : X.N[i]? = some x) (hx : Loc X.env.scope x) (r : RelV v u)
  (h : ∀ s', Inv X pins (σ.set i (some v)) H s' -> Q () s') (hf : X.fn x = true \/ X.env.scope.names.lookup x = some .local := by first | exact .inl rfl | exact .inr rfl | assumption) (hkn : ∀ u : V, X.kn[i]? ≠ some (some u) := by first | assumption | exact fun u h => nomatch (show (none : Option (Option V)) = some (some u) from h) | exact fun u h => nomatch (Option.some.inj (show some (none : Option V) = some (some u) from h))) : wpAny M A (storeName X.env x u) Q E s :=
 zh6 I hN hi hx r (fun s' I' _ => h s' I') hf hkn
theorem Inv.call' {s' : Shared} {ch : List Addr} (I : Inv X pins σ H s) (ho : s'.os = s.os) (u : Un (frs X.stack) ch H H' s.heap s'.heap) (hok : HOk X.prog X.w H' s'.heap) (hg : AllBare s'.gens)
  (hch : ∀ b ∈ ch, (b ∈ X.ex \/ X.s₀.heap.objs.size <= b) /\ b ≠ X.env.locals /\ (∀ x c, X.env.cells.lookup x = some c -> c ≠ b) /\ ∀ p ∈ X.pn ++ pins, p.1 ≠ b) : Inv X pins σ H' s' := by
 obtain ⟨h', g', d', t', o'⟩ := s';have e : o' = s.os := ho;subst e;exact I.call (g' := g') (t' := t') (d' := d') u hok hg hch
end
abbrev XK := Value -> Option Addr -> Hp -> Prop
abbrev St := List (Option V)
abbrev VK := V -> Hp -> Prop
abbrev TE := St -> Hp -> VK -> Prop
abbrev TT := St -> Hp -> (Bool -> Hp -> Prop) -> Prop
abbrev TA := St -> Hp -> (List V -> Hp -> Prop) -> Prop
structure Ends where
 nx : St -> Hp -> Prop
 rt : VK
 bk : St -> Hp -> Prop := fun _ _ => False
 ct : St -> Hp -> Prop := fun _ _ => False
abbrev TS := Ends -> St -> Hp -> Prop
def EP (X : Cx) (pins : List (Addr × Obj)) (σ : St) (Q : VK) (u : Value) (s' : Shared) : Prop := ∃ v H', Inv X pins σ H' s' /\ RelV v u /\ Q v H'
def TP (X : Cx) (pins : List (Addr × Obj)) (σ : St) (Q : Bool -> Hp -> Prop) (b : Bool) (s' : Shared) : Prop := ∃ H', Inv X pins σ H' s' /\ Q b H'
def AP (X : Cx) (pins : List (Addr × Obj)) (σ : St) (Q : List V -> Hp -> Prop) (us : List Value) (s' : Shared) : Prop := ∃ vs H', Inv X pins σ H' s' /\ Vals vs us /\ Q vs H'
def SP (X : Cx) (pins : List (Addr × Obj)) (D : Ends) (f : Flow) (s' : Shared) : Prop :=
 match f with
 | .next => ∃ σ' H', Inv X pins σ' H' s' /\ D.nx σ' H'
 | .brk => ∃ σ' H', Inv X pins σ' H' s' /\ D.bk σ' H'
 | .cont => ∃ σ' H', Inv X pins σ' H' s' /\ D.ct σ' H'
 | .ret u => ∃ v σ' H', Inv X pins σ' H' s' /\ RelV v u /\ D.rt v H'
def PE (X : Cx) (e : Expr) (t : TE) : Prop :=
 ∀ (pins : List (Addr × Obj)) (s : Shared) (σ : St) (H : Hp) (Q : VK), Inv X pins σ H s -> t σ H Q -> wpAny (model X.prog X.w) X.A (eval e X.env) (EP X pins σ Q) X.xe s
def PT (X : Cx) (e : Expr) (t : TT) : Prop :=
 ∀ (pins : List (Addr × Obj)) (s : Shared) (σ : St) (H : Hp) (Q : Bool -> Hp -> Prop), Inv X pins σ H s -> t σ H Q -> wpAny (model X.prog X.w) X.A (isTrue e X.env (eval e X.env)) (TP X pins σ Q) X.xe s
def PW (X : Cx) (e : Expr) (t : TT) : Prop :=
 ∀ (whole : Sem Value) (pins : List (Addr × Obj)) (s : Shared) (σ : St) (H : Hp) (Q : Bool -> Hp -> Prop), Inv X pins σ H s -> t σ H Q -> wpAny (model X.prog X.w) X.A (isTrue e X.env whole) (TP X pins σ Q) X.xe s
theorem PW.pt {X : Cx} {e : Expr} {t : TT} (h : PW X e t) : PT X e t := h _
def PA (X : Cx) (es : List Expr) (t : TA) : Prop :=
 ∀ (pos : Pos) (pins : List (Addr × Obj)) (s : Shared) (σ : St) (H : Hp) (Q : List V -> Hp -> Prop), Inv X pins σ H s -> t σ H Q -> wpAny (model X.prog X.w) X.A (spliced (backTo pos (starEach es X.env))) (AP X pins σ Q) X.xe s
def PS (X : Cx) (st : Stmt) (t : TS) : Prop :=
 ∀ (pins : List (Addr × Obj)) (s : Shared) (σ : St) (H : Hp) (D : Ends), Inv X pins σ H s -> t D σ H -> wpAny (model X.prog X.w) X.A (exec st X.env) (SP X pins D) X.xe s
def PSs (X : Cx) (st : List Stmt) (t : TS) : Prop :=
 ∀ (pins : List (Addr × Obj)) (s : Shared) (σ : St) (H : Hp) (D : Ends), Inv X pins σ H s -> t D σ H -> wpAny (model X.prog X.w) X.A (execs st X.env) (SP X pins D) X.xe s
theorem thn {α : Type} {t : Sem α} {Q Q' : α -> Shared -> Prop} {M : Model} {A : Around} {E : Value -> Shared -> Prop} {s : Shared} (h : wpAny M A t Q E s) (hQ : ∀ a s, Q a s -> Q' a s) : wpAny M A t Q' E s := wpAny_mono h hQ fun _ _ x => x
end L2
namespace L2
open PySem PySem.Spec PyProof.Rows
section
variable {X : Cx}
theorem bin {a b : Expr} {ta tb : TE} (ha : PE X a ta) (hb : PE X b tb) {pins : List (Addr × Obj)} {s : Shared} {σ : St} {H : Hp} {R : V -> V -> Hp -> Prop} (I : Inv X pins σ H s) (h : ta σ H fun x H1 => tb σ H1 fun y H2 => R x y H2)
  {α : Type} {Q : α -> Shared -> Prop} {f : Value -> Value -> Sem α}
  (hf : ∀ v u s2 x y H2, Inv X pins σ H2 s2 -> RelV x v -> RelV y u -> R x y H2 -> wpAny (model X.prog X.w) X.A (f v u) Q X.xe s2) :
  wpAny (model X.prog X.w) X.A (eval a X.env) (fun v s₁ => wpAny (model X.prog X.w) X.A (eval b X.env) (fun u s₂ => wpAny (model X.prog X.w) X.A (f v u) Q X.xe s₂) X.xe s₁) X.xe s := by
 refine thn (ha pins s σ H _ I h) fun v s1 hq_ => ?_;obtain ⟨x, H1, I1, r1, q1⟩ := hq_;refine thn (hb pins s1 σ H1 _ I1 q1) fun u s2 hq_ => ?_;obtain ⟨y, H2, I2, r2, q2⟩ := hq_;exact hf v u s2 x y H2 I2 r1 r2 q2
def tVar (i : Nat) : TE := fun σ H Q => ∃ v, σ[i]? = some (some v) /\ Q v H
def tC (v : V) : TE := fun _ H Q => Q v H
theorem zhd {i : Nat} {x : Str} {pos : Pos} (hN : X.N[i]? = some x) (hv : Vis X.env.scope x) (hd : (x == ("__debug__" : Str)) = false := by decide) (hcd : (x == ("__classdict__" : Str)) = false := by decide) : PE X (.Name x pos) (tVar i) := by
 intro pins s σ H Q I h;obtain ⟨v, e, h⟩ := h;obtain ⟨m, hn, hl⟩ := I.loc;obtain ⟨u, r, l⟩ := hl i x v hN e hv;have fin : EP X pins σ Q u s := ⟨v, H, I, r, h⟩;rcases l with ⟨hk, hm⟩ | ⟨hk, c, hc, hcell⟩
 ·exact wpAny_Name (wpAny_loadName_local I.ok.kind hk hn hm fin) hd
 ·rcases hk with hk | hk
  ·exact wpAny_Name (wpAny_loadName_cell I.ok.kind hk hc hcell fin) hd
  ·exact wpAny_Name (wpAny_loadName_free I.ok.kind hk hc hcell fin hcd) hd
theorem zyr {i j pos} : PE X (.Constant (.int i) j pos) (tC (.int i)) := fun _ _ _ H _ I h => wpAny_Constant_int ⟨.int i, H, I.tok _, ⟨_, rfl⟩, h⟩
theorem z1y {b j pos} : PE X (.Constant (.bool b) j pos) (tC (.bl b)) := fun _ _ _ H _ I h => Constant_bool ⟨.bl b, H, I, rfl, h⟩
theorem zys {j pos} : PE X (.Constant .none j pos) (tC .non) := fun _ _ _ H _ I h => Constant_none ⟨.non, H, I, rfl, h⟩
theorem zvd {x j pos} : PE X (.Constant (.str x) j pos) (tC (.str x)) := fun _ _ _ H _ I h => Calls.Constant_str ⟨.str x, H, I.tok _, ⟨_, rfl⟩, h⟩
def Gl (X : Cx) (x : Str) : Prop := X.env.kindOf x = some .globalImplicit
theorem zfc {E : Value -> Shared -> Prop} {pins : List (Addr × Obj)} {s : Shared} {σ : St} {H : Hp} {x : Str} {u : Value} {pos : Pos} {Q : Value -> Shared -> Prop} (I : Inv X pins σ H s) (hg : Gl X x) (hm : X.mg x = some u) (h : Q u s)
  (hd : (x == ("__debug__" : Str)) = false := by decide) : wpAny (model X.prog X.w) X.A (eval (.Name x pos) X.env) Q E s :=
 Calls.Name_function_global I.ok.kind hg (Calls.loadGlobal_global (by rw [I.ok.glob]; exact I.mod.glob.keeps I.bk) hm h) hd
theorem zjs {E : Value -> Shared -> Prop} {pins : List (Addr × Obj)} {s : Shared} {σ : St} {H : Hp} {x : Str} {u : Value} {pos : Pos} {Q : Value -> Shared -> Prop} (I : Inv X pins σ H s) (hg : Gl X x) (hm : X.mg x = none) (hv : bootBuiltins x = some u) (h : Q u s)
  (hn : x ≠ "__name__" := by decide) (hd : (x == ("__debug__" : Str)) = false := by decide) : wpAny (model X.prog X.w) X.A (eval (.Name x pos) X.env) Q E s := by
 obtain ⟨mb, h1, h2⟩ := I.mod.blt;exact Calls.Name_function_global I.ok.kind hg (Calls.loadGlobal_builtin (by rw [I.ok.glob]; exact I.mod.glob.keeps I.bk) hm (by rw [I.ok.blt]; exact h1.keeps I.bk) ((h2 x hn).trans hv) h) hd
theorem zqi {x : Str} {v : V} {u : Value} {pos : Pos} (hg : Gl X x) (hm : X.mg x = some u) (r : RelV v u) (hd : (x == ("__debug__" : Str)) = false := by decide) : PE X (.Name x pos) (tC v) :=
 fun _ _ _ H _ I h => zfc I hg hm ⟨v, H, I, r, h⟩ hd
theorem zqj {x : Str} {v : V} {u : Value} {pos : Pos} (hg : Gl X x) (hm : X.mg x = none) (hv : bootBuiltins x = some u) (r : RelV v u) (hn : x ≠ "__name__" := by decide) (hd : (x == ("__debug__" : Str)) = false := by decide) : PE X (.Name x pos) (tC v) :=
 fun _ _ _ H _ I h => zjs I hg hm hv ⟨v, H, I, r, h⟩ hn hd
variable {a b : Expr} {ta tb : TE} {pos : Pos}
def PC (X : Cx) (op : CmpOp) (a b : Expr) (t : TE) : Prop :=
 ∀ (pins : List (Addr × Obj)) (s : Shared) (σ : St) (H : Hp) (Q : VK), Inv X pins σ H s -> t σ H Q ->
   wpAny (model X.prog X.w) X.A (eval a X.env) (fun v s₁ => wpAny (model X.prog X.w) X.A (eval b X.env) (fun u s₂ => wpAny (model X.prog X.w) X.A (compareOp op v u) (EP X pins σ Q) X.xe s₂) X.xe s₁) X.xe s
theorem ztj (b : Expr) {op : CmpOp} (h : op ≠ .In) (h2 : op ≠ .NotIn) : behindInMarks op b = false := by
 have e1 : (op == CmpOp.In) = false := by cases op <;> first | rfl | exact absurd rfl h
 have e2 : (op == CmpOp.NotIn) = false := by cases op <;> first | rfl | exact absurd rfl h2
 cases b <;> simp [behindInMarks, e1, e2]
def tB (t : TE) : TT := fun σ H Q => t σ H fun x H1 => ∃ c, x = .bl c /\ Q c H1
theorem zve {op : CmpOp} {t : TE} (h : PC X op a b t) (h1 : behindInMarks op b = false := by first | exact ztj _ (by decide) (by decide) | rfl) : PT X (.Compare a [op] [b] pos) (tB t) := by
 intro pins s σ H Q I hw;refine wpAny_isTrue_Compare1 (thn (h pins s σ H _ I hw) fun v s1 h1 => thn h1 fun u s2 h2 => thn h2 fun c s3 hq_ => ?_) h1;obtain ⟨x, H1, I1, r1, q1⟩ := hq_;obtain ⟨d, rfl, q⟩ := q1;cases r1;exact wpAny_truthy_bool ⟨H1, I1, q⟩
variable {tA tB' : TT} {rest : List Expr}
def tOr (t u : TT) : TT := fun σ H Q => t σ H fun c H1 => if c = true then Q true H1 else u σ H1 Q
def tNot (t : TT) : TT := fun σ H Q => t σ H fun c H1 => Q (!c) H1
theorem zyt (ha : PT X a tA) : PW X (.BoolOp .Or [a] pos) tA := by
 intro wh pins s σ H Q I h;refine isTrue_or (thn (ha pins s σ H Q I h) fun c s1 e => ?_);cases c with
 | false => exact isTrue_or_nil e
 | true => exact e
theorem z1z (ha : PT X a tA) (hb : PW X (.BoolOp .Or (b :: rest) pos) tB') : PW X (.BoolOp .Or (a :: b :: rest) pos) (tOr tA tB') := by
 intro wh pins s σ H Q I h;refine isTrue_or (thn (ha pins s σ H _ I h) fun c s1 hq_ => ?_);obtain ⟨H1, I1, q1⟩ := hq_;cases c with
 | true => exact ⟨H1, I1, q1⟩
 | false => exact hb wh pins s1 σ H1 Q I1 q1
theorem zyu (ha : PT X a tA) : PT X (.UnaryOp .Not a pos) (tNot tA) := by
 intro pins s σ H Q I h;exact isTrue_not (ha pins s σ H (fun c H1 => Q (!c) H1) I h)
def z10 (ta tb : TE) : TE := fun σ H Q => ta σ H fun x H1 => ∃ c, x = .bl c /\ if c = true then tb σ H1 Q else Q (.bl false) H1
theorem zyv {op} {t : TE} (h : PE X a t) : PE X (.BoolOp op [a] pos) t := fun pins s σ H Q I hw => BoolOp_one (h pins s σ H Q I hw)
theorem zyw (ha : PE X a ta) (hb : PE X (.BoolOp .And (b :: rest) pos) tb) : PE X (.BoolOp .And (a :: b :: rest) pos) (z10 ta tb) := by
 intro pins s σ H Q I h;refine BoolOp_and (thn (ha pins s σ H _ I h) fun v s1 hq_ => ?_);obtain ⟨x, H1, I1, r1, q1⟩ := hq_;obtain ⟨c, rfl, q1⟩ := q1;cases r1;refine wpAny_truthy_bool ?_;cases c with
 | true => exact hb pins s1 σ H1 Q I1 q1
 | false => exact ⟨.bl false, H1, I1, rfl, q1⟩
def tIf (t : TT) (ta tb : TE) : TE := fun σ H Q => t σ H fun c H1 => if c = true then ta σ H1 Q else tb σ H1 Q
theorem ztk {c : Expr} (hc : PT X c tA) (ha : PE X a ta) (hb : PE X b tb) : PE X (.IfExp c a b pos) (tIf tA ta tb) := by
 intro pins s σ H Q I h;refine wpAny_IfExp (thn (hc pins s σ H _ I h) fun d s1 hq_ => ?_);obtain ⟨H1, I1, q1⟩ := hq_;cases d with
 | true => exact ha pins s1 σ H1 Q I1 q1
 | false => exact hb pins s1 σ H1 Q I1 q1
end
end L2
namespace L2
open PySem PySem.Spec PyProof.Rows
def SqL (K : PySem.W.Frag) (H : Hp) (a : Addr) (xs : List V) : Prop :=
 Rd H a (.lst xs) \/
  ∃ (o : Obj) (its : Array Value) (n : Nat), K.lookup a = some o /\ o.cls = .type "list" /\ o.dict = none /\ o.data = .seq its n /\ its.size <= sizeLine /\ Vals xs its.toList
def SqT (K : PySem.W.Frag) (H : Hp) (a : Addr) (xs : List V) : Prop :=
 Rd H a (.tup xs) \/
  ∃ (o : Obj) (its : Array Value) (n : Nat), K.lookup a = some o /\ o.cls = .type "tuple" /\ o.data = .seq its n /\ its.size <= sizeLine /\ Vals xs its.toList
def absV : Value -> Option V
 | .none => some .non
 | .bool b => some (.bl b)
 | .int i _ => some (.int i)
 | .str x _ => some (.str x)
 | .bytes b _ => some (.byt b)
 | .float b _ => some (.flt b)
 | .ref a => some (.ref a)
 | .type n => some (.ty n)
 | _ => none
theorem RelV.abs {x : V} {u : Value} (r : RelV x u) : absV u = some x := by
 cases x with
 | non => cases r; rfl
 | bl _ => cases r; rfl
 | int _ => obtain ⟨t, rfl⟩ := r; rfl
 | str _ => obtain ⟨t, rfl⟩ := r; rfl
 | byt _ => obtain ⟨t, rfl⟩ := r; rfl
 | flt _ => obtain ⟨t, rfl⟩ := r; rfl
 | ref _ => cases r; rfl
 | ty _ => cases r; rfl
theorem RelV.inj {x y : V} {u : Value} (r : RelV x u) (q : RelV y u) : x = y := Option.some.inj (r.abs.symm.trans q.abs)
theorem Vals.inj : ∀ {xs ys : List V} {us : List Value}, Vals xs us -> Vals ys us -> xs = ys
 | _, _, _, .nil, .nil => rfl
 | _, _, _, .cons r t, .cons r' t' => by rw [r.inj r', Vals.inj t t']
section
variable {X : Cx} {pins : List (Addr × Obj)} {σ : St} {H : Hp} {s : Shared} {a : Addr} {xs ys : List V}
theorem SqL.of {K : PySem.W.Frag} (h : H a = some (.lst xs)) : SqL K H a xs := .inl (.inl h)
theorem SqT.of {K : PySem.W.Frag} (h : H a = some (.tup xs)) : SqT K H a xs := .inl (.inl h)
theorem Inv.list (I : Inv X pins σ H s) (h : SqL X.K H a xs) : ∃ its : List Value, Vals xs its /\ PlainL s.heap a its.toArray /\ xs.length <= sizeLine := by
 rcases h with h | ⟨o, its, n, hk, hc, hd, hs, hz, r⟩
 ·obtain ⟨z, its, n, r, e⟩ := h.ok I.hok
  exact ⟨its, r, ⟨_, n, e, rfl, rfl, rfl⟩, z⟩
 ·refine ⟨its.toList, r, ⟨o, n, I.kIn a o hk, hc, hd, by simpa using hs⟩, ?_⟩
  have e := r.length;simp only [Array.length_toList] at e;omega
theorem Inv.tuple (I : Inv X pins σ H s) (h : SqT X.K H a xs) : ∃ its : List Value, Vals xs its /\ IsTup s.heap a its.toArray /\ xs.length <= sizeLine := by
 rcases h with h | ⟨o, its, n, hk, hc, hs, hz, r⟩
 ·obtain ⟨z, its, r, p⟩ := h.ok I.hok
  exact ⟨its, r, p, z⟩
 ·refine ⟨its.toList, r, ⟨o, I.kIn a o hk, hc, n, by simpa using hs⟩, ?_⟩
  have e := r.length;simp only [Array.length_toList] at e;omega
theorem Inv.list_inj (I : Inv X pins σ H s) (h : SqL X.K H a xs) (h' : SqL X.K H a ys) : xs = ys := by
 obtain ⟨its, r, ⟨o, n, e, _, _, d⟩, _⟩ := I.list h;obtain ⟨its', r', ⟨o', n', e', _, _, d'⟩, _⟩ := I.list h';rw [e] at e'; cases e';rw [d] at d';injection d' with d1 _;have : its = its' := by simpa using congrArg Array.toList d1
 subst this;exact r.inj r'
end
abbrev Cx.wish (X : Cx) (E : Value -> Shared -> Prop) : Cx := { X with xe := E }
theorem Cx.Ok.wish {X : Cx} (ok : X.Ok) (E : Value -> Shared -> Prop) : (X.wish E).Ok :=
 ⟨ok.mod, ok.kind, ok.glob, ok.blt, ok.above, ok.inj, ok.has, ok.cab, ok.hd, ok.frames, ok.stk, ok.exf, ok.bs, ok.bsz, ok.noex, ok.exfs, ok.funs, ok.frf⟩
section
variable {X : Cx} {pins : List (Addr × Obj)} {σ : St} {H : Hp} {s : Shared} {E : Value -> Shared -> Prop}
theorem Inv.wish (I : Inv X pins σ H s) (E : Value -> Shared -> Prop) : Inv (X.wish E) pins σ H s := ⟨I.ok.wish E, I.os, I.bare, I.base, I.loc, I.cell, I.free, I.freeC, I.pin, I.hok, I.len, I.kn⟩
end
section
variable {X : Cx} {st : Stmt} {rest : List Stmt} {t u : TS} {e : Expr} {te : TE} {pos : Pos}
def z11 : TS := fun D σ H => D.nx σ H
def tSeq (t u : TS) : TS := fun D σ H => t { D with nx := u D } σ H
theorem zwk : PSs X [] z11 := fun _ _ σ H _ I h => wpAny_execs_nil ⟨σ, H, I, h⟩
theorem zke (h1 : PS X st t) (h2 : PSs X rest u) : PSs X (st :: rest) (tSeq t u) := by
 intro pins s σ H D I h;refine wpAny_execs_cons (thn (h1 pins s σ H { D with nx := u D } I h) fun f s1 q => ?_);cases f with
 | next =>
   obtain ⟨σ', H', I', q⟩ := q;exact h2 pins s1 σ' H' D I' q
 | ret v => exact q
 | brk => exact q
 | cont => exact q
theorem zqk (h1 : PS X st t) : PSs X [st] t := by
 intro pins s σ H D I h;refine wpAny_execs_cons (thn (h1 pins s σ H D I h) fun f s1 q => ?_);cases f with
 | next => exact wpAny_execs_nil q
 | ret v => exact q
 | brk => exact q
 | cont => exact q
theorem Inv.quiet {pins : List (Addr × Obj)} {σ : St} {H : Hp} {s : Shared} (I : Inv X pins σ H s) : interactive X.env = false := by simp [interactive, I.ok.kind]
def zyx (te : TE) : TS := fun D σ H => te σ H fun _ H1 => D.nx σ H1
theorem zql (he : PE X e te) (hs : swapsWith e none pos.line X.env = pure false := by rfl) : PS X (.Expr e pos) (zyx te) := by
 intro pins s σ H D I h;exact wpAny_Expr_any (thn (he pins s σ H _ I h) fun v s1 ⟨x, H1, I1, r1, q1⟩ => ⟨σ, H1, I1, q1⟩) I.quiet hs
def tRet (te : TE) : TS := fun D σ H => te σ H D.rt
theorem zyy (he : PE X e te) : PS X (.Return (some e) pos) (tRet te) := by
 intro pins s σ H D I h;exact wpAny_Return_some (thn (he pins s σ H _ I h) fun v s1 ⟨x, H1, I1, r1, q1⟩ => ⟨x, σ, H1, I1, r1, q1⟩)
def tIfS (c : TT) (t u : TS) : TS := fun D σ H => c σ H fun b H1 => if b = true then t D σ H1 else u D σ H1
theorem z12 {c : Expr} {a b : List Stmt} {tc : TT} (hc : PT X c tc) (ha : PSs X a t) (hb : PSs X b u) : PS X (.If c a b pos) (tIfS tc t u) := by
 intro pins s σ H D I h;refine wpAny_If (thn (hc pins s σ H _ I h) fun d s1 hq_ => ?_);obtain ⟨H1, I1, q1⟩ := hq_;cases d with
 | true => exact ha pins s1 σ H1 D I1 q1
 | false => exact hb pins s1 σ H1 D I1 q1
end
abbrev TG := V -> St -> Hp -> (St -> Hp -> Prop) -> Prop
def PG (X : Cx) (target : Expr) (t : TG) : Prop :=
 ∀ (pins : List (Addr × Obj)) (s : Shared) (σ : St) (H : Hp) (v : V) (u : Value) (Q : St -> Hp -> Prop), Inv X pins σ H s -> RelV v u -> t v σ H Q ->
   wpAny (model X.prog X.w) X.A (assign target X.env u) (fun _ s' => ∃ σ' H', Inv X pins σ' H' s' /\ Q σ' H') X.xe s
section
variable {X : Cx} {pos : Pos}
def zld (i : Nat) : TG := fun v σ H Q => Q (σ.set i (some v)) H
theorem zcn {i : Nat} {x : Str} (hN : X.N.Nodup) (hi : X.N[i]? = some x) (hx : Loc X.env.scope x) (hf : X.fn x = true \/ X.env.scope.names.lookup x = some .local := by first | exact .inl rfl | exact .inr rfl | assumption) (hkn : ∀ u : V, X.kn[i]? ≠ some (some u) := by first | assumption | exact fun u h => nomatch (show (none : Option (Option V)) = some (some u) from h) | exact fun u h => nomatch (Option.some.inj (show some (none : Option V) = some (some u) from h))) : PG X (.Name x pos) (zld i) := by
 intro pins s σ H v u Q I r h;exact wpAny_assign_Name (zht I hN hi hx r (fun s' I' => ⟨_, H, I', h⟩) hf hkn)
def tAsg (te : TE) (g : TG) : TS := fun D σ H => te σ H fun x H1 => g x σ H1 D.nx
theorem zyz {i : Nat} {x : Str} {e : Expr} {te : TE} {pos' : Pos} (hN : X.N.Nodup) (hi : X.N[i]? = some x) (hx : Loc X.env.scope x) (he : PE X e te) (hs : swapsWith e (some (.Name x pos')) pos.line X.env = pure false := by rfl) (hf : X.fn x = true \/ X.env.scope.names.lookup x = some .local := by first | exact .inl rfl | exact .inr rfl | assumption) (hkn : ∀ u : V, X.kn[i]? ≠ some (some u) := by first | assumption | exact fun u h => nomatch (show (none : Option (Option V)) = some (some u) from h) | exact fun u h => nomatch (Option.some.inj (show some (none : Option V) = some (some u) from h))) :
  PS X (.Assign [.Name x pos'] e pos) (tAsg te (zld i)) := by
 intro pins s σ H D I h;refine wpAny_Assign_Name (thn (he pins s σ H _ I h) fun v s1 hq_ => ?_) hs;obtain ⟨y, H1, I1, r1, q1⟩ := hq_;exact zht I1 hN hi hx r1 (fun s2 I2 => ⟨_, H1, I2, q1⟩) hf hkn
end
section
variable {X : Cx} {pos : Pos}
def zy0 (c : TT) (tb : TS) : TS := fun D σ H => ∃ W : Nat -> St -> Hp -> Prop, (∃ m, W m σ H) /\ ∀ m σ H, W m σ H ->
 c σ H fun b H1 => if b = true then ∃ N : St -> Hp -> Prop, (∀ σ' H', N σ' H' -> ∃ m', m' < m /\ W m' σ' H') /\ tb { D with nx := N, ct := N, bk := D.nx } σ H1 else D.nx σ H1
theorem ztl {c : Expr} {body : List Stmt} {tc : TT} {tb : TS} (hp : PassesOwn (model X.prog X.w) X.A X.env X.xe) (hc : PT X c tc) (hb : PSs X body tb) : PS X (.While c body [] pos) (zy0 tc tb) := by
 intro pins s σ H D I h;obtain ⟨W, ⟨m0, w0⟩, turn⟩ := h;refine wpAny_While (codeAny_whileLoop (fun n s' => ∃ σ' H', Inv X pins σ' H' s' /\ W n σ' H') ?_ m0 ⟨σ, H, I, w0⟩);rintro n s1 ⟨σ1, H1, I1, w1⟩;refine wpAny_passesOwn hp (thn (hc pins s1 σ1 H1 _ I1 (turn n σ1 H1 w1)) fun b s2 hq_ => ?_);obtain ⟨H2, I2, q2⟩ := hq_;cases b with
 | true =>
   obtain ⟨N, hN, q2⟩ := q2;rw [if_pos rfl];refine wpAny_passesOwn hp (thn (hb pins s2 σ1 H2 _ I2 q2) fun f s3 q3 => ?_);cases f with
   | next =>
     obtain ⟨σ3, H3, I3, n3⟩ := q3;obtain ⟨m', hm, w3⟩ := hN σ3 H3 n3;exact ⟨m', hm, σ3, H3, I3, w3⟩
   | cont =>
     obtain ⟨σ3, H3, I3, n3⟩ := q3;obtain ⟨m', hm, w3⟩ := hN σ3 H3 n3;exact ⟨m', hm, σ3, H3, I3, w3⟩
   | brk => exact q3
   | ret v => exact q3
 | false =>
   rw [if_neg Bool.false_ne_true];exact wpAny_execs_nil ⟨σ1, H2, I2, q2⟩
end
structure It where
 go : Nat -> Hp -> Prop
 yld : Nat -> Hp -> V -> Hp -> Prop
 stop : Nat -> Hp -> Prop
def FpOk (X : Cx) (pins : List (Addr × Obj)) (H : Hp) (b : Addr) : Prop :=
 H b = none /\ b ≠ X.env.locals /\ b ∉ X.fs /\ (b ∈ X.ex \/ X.s₀.heap.objs.size <= b) /\ (∀ x c, X.env.cells.lookup x = some c -> c ≠ b) /\ ∀ p ∈ X.pn ++ pins, p.1 ≠ b
theorem Inv.fpOk {X : Cx} {pins : List (Addr × Obj)} {σ : St} {H H' : Hp} {s : Shared} {b : Addr} (I : Inv X pins σ H s) (hb : s.heap.objs.size <= b) (hn : H' b = none) : FpOk X pins H' b := by
 refine ⟨hn, Nat.ne_of_gt (Nat.lt_of_lt_of_le I.lt hb), I.nofs hb, .inr (Nat.le_trans I.sz hb), fun x c e z => ?_, fun p hp z => ?_⟩
 ·obtain ⟨v, q⟩ := I.cell x c e
  exact absurd (Nat.lt_of_lt_of_le q.lt (by rw [z]; exact hb)) (Nat.lt_irrefl _)
 ·exact absurd (Nat.lt_of_lt_of_le (Heap.lt_size (I.pin p hp).1) (by rw [z]; exact hb)) (Nat.lt_irrefl _)
structure Turn (P : Program) (w : World) (K : PySem.W.Frag) (tg : Expr) (J : It) (fp : List Addr) (it : Addr) (tn : Nat -> Heap -> Prop) : Prop where
 mem : it ∈ fp
 obj : ∀ i h, tn i h -> ∀ b ∈ fp, ∃ o, h.get? b = some o /\ ∀ v, o.data ≠ .cell v
 keep : ∀ i h h', tn i h -> (∀ b ∈ fp, ∀ o, h.get? b = some o -> h'.get? b = some o) -> tn i h'
 item : ∀ (X : Cx), X.prog = P -> X.w = w -> X.K = K -> X.calm = true -> ∀ (i : Nat) (pins : List (Addr × Obj)) (s : Shared) (σ : St) (H : Hp) (E : Value -> Shared -> Prop), Inv X pins σ H s -> (∀ b ∈ fp, FpOk X pins H b) -> tn i s.heap -> J.go i H ->
  wpAny (model P w) X.A (pyNext (.ref it)) (fun r s1 => ∃ u, r = some u /\
   wpAny (model P w) X.A (letOwnedTupleGo tg (.ref it) u) (fun _ s2 => ∃ x H', Inv X pins σ H' s2 /\ RelV x u /\ J.yld i H x H' /\ tn (i + 1) s2.heap /\ ∀ b ∈ fp, H' b = none) E s1) E s
 done : ∀ (X : Cx), X.prog = P -> X.w = w -> X.K = K -> X.calm = true -> ∀ (i : Nat) (pins : List (Addr × Obj)) (s : Shared) (σ : St) (H : Hp) (E : Value -> Shared -> Prop), Inv X pins σ H s -> (∀ b ∈ fp, FpOk X pins H b) -> tn i s.heap -> J.stop i H ->
  wpAny (model P w) X.A (pyNext (.ref it)) (fun r s1 => r = none /\ Inv X pins σ H s1) E s
 self : ∀ (A : Around) (i : Nat) (s : Shared) (Q : Value -> Shared -> Prop) (E : Value -> Shared -> Prop), tn i s.heap -> Q (.ref it) s -> wpAny (model P w) A (pyIter (.ref it)) Q E s
abbrev TI := St -> Hp -> (It -> Hp -> Prop) -> Prop
def PIE (X : Cx) (pins : List (Addr × Obj)) (σ : St) (tg : Expr) (R : It -> Hp -> Prop) (itv : Value) (s2 : Shared) : Prop :=
 ∃ (it : Addr) (fp : List Addr) (tn : Nat -> Heap -> Prop) (J : It) (H' : Hp), itv = .ref it /\ Inv X pins σ H' s2 /\ Turn X.prog X.w X.K tg J fp it tn /\ tn 0 s2.heap /\ (∀ b ∈ fp, FpOk X pins H' b) /\ R J H'
def PI (X : Cx) (tg iter : Expr) (wi : TI) : Prop :=
 ∀ (pins : List (Addr × Obj)) (s : Shared) (σ : St) (H : Hp) (R : It -> Hp -> Prop), Inv X pins σ H s -> wi σ H R ->
   wpAny (model X.prog X.w) X.A (eval iter X.env) (fun v s1 => wpAny (model X.prog X.w) X.A (pyIter v) (PIE X pins σ tg R) X.xe s1) X.xe s
theorem zy1 {M : Model} {A : Around} {E : Value -> Shared -> Prop} {s : Shared} {tg : Expr} {it : Addr} {u : Value} {o : Obj} {n : String} {vs : Array Value} {Q : Unit -> Shared -> Prop} (ho : s.heap.get? it = some o) (hc : o.cls = .type n) (hd : o.data = .fields vs)
  (hn : ["enumerate", "zip", "dict_itemiterator", "dict_reverseitemiterator", "odict_iterator", "itertools.zip_longest", "itertools.pairwise"].contains n = false) (hQ : Q () s) : wpAny M A (letOwnedTupleGo tg (.ref it) u) Q E s := by
 unfold letOwnedTupleGo;cases tg <;> first
  | exact wpAny_pure hQ
  | (cases u <;> first
   | exact wpAny_pure hQ
   | (refine wpAny_bind (wpAny_load ho ?_)
      rw [hc, hd];show wpAny M A (if (["enumerate", "zip", "dict_itemiterator", "dict_reverseitemiterator", "odict_iterator", "itertools.zip_longest", "itertools.pairwise"].contains n && vs[0]? == some (rawInt _)) = true then _ else _) Q E s;rw [if_neg (by intro h; rw [hn, Bool.false_and] at h; cases h)];exact wpAny_pure hQ))
def Itl (K : PySem.W.Frag) (a : Addr) : It :=
 ⟨fun i H => ∃ xs x, SqL K H a xs /\ xs[i]? = some x, fun i H x H' => H' = H /\ ∀ xs, SqL K H a xs -> xs[i]? = some x, fun i H => ∃ xs, SqL K H a xs /\ xs.length <= i⟩
def Itr (lo : Int) (n : Nat) : It := ⟨fun i _ => i < n, fun i H x H' => H' = H /\ x = .int (lo + i), fun i _ => n <= i⟩
theorem zqm {P : Program} {w : World} {K : PySem.W.Frag} {tg : Expr} (a it : Addr) : Turn P w K tg (Itl K a) [it] it (fun i h => h.IsListIter it a i) where
 mem := by simp
 obj := fun i h st b hb => by
  have e : b = it := by simpa using hb
  subst e;obtain ⟨o, e, c, d⟩ := st;exact ⟨o, e, fun v z => by rw [d] at z; cases z⟩
 keep := fun i h h' st k => st.at fun o e => k it (by simp) o e
 item := by
  intro X hP hw hK hc i pins s σ H E I hf st hg;subst hP hw hK;obtain ⟨xs, x, hq, hx⟩ := hg;obtain ⟨its, rv, p, hz⟩ := I.list hq;obtain ⟨u, hu, ru⟩ := rv.get hx;obtain ⟨f0, f1, f2, f3, f4, f5⟩ := hf it (by simp);refine wpAny_pyNext_list_item st p.isList (x := u) (by simpa using hu) fun h' st' sb => ?_;have I1 : Inv X pins σ H { s with heap := h' } := I.turned (t' := s.toks) (fun b o hb e => (sb.2 b hb).trans e) f0 f1 f3 f4 f5;obtain ⟨o, e, c, d⟩ := id st';exact ⟨u, rfl, zy1 (s := { s with heap := h' }) e c d (by decide) ⟨x, H, I1, ru, ⟨rfl, fun ys hy => by rw [I.list_inj hy hq]; exact hx⟩, st', fun b hb => (hf b hb).1⟩⟩
 done := by
  intro X hP hw hK hc i pins s σ H E I hf st hg;subst hP hw hK;obtain ⟨xs, hq, hx⟩ := hg;obtain ⟨its, rv, p, hz⟩ := I.list hq;obtain ⟨f0, f1, f2, f3, f4, f5⟩ := hf it (by simp);have hl := rv.length;exact wpAny_pyNext_list_end (I.ok.hd hc) st p.isList (by simp; omega) fun h' eb => ⟨rfl, I.turned (t' := s.toks) (fun b o hb e => eb b o hb e) f0 f1 f3 f4 f5⟩
 self := fun _ _ _ _ _ st h => wpAny_pyIter_listiter st h
theorem zpd {P : Program} {w : World} {K : PySem.W.Frag} {tg : Expr} (it : Addr) (lo : Int) (n : Nat) : Turn P w K tg (Itr lo n) [it] it (fun i h => IsRangeIter h it (lo + (i : Nat) * 1) ((n : Int) - (i : Nat)) 1) where
 mem := by simp
 obj := fun i h st b hb => by
  have e : b = it := by simpa using hb
  subst e;exact ⟨_, st, fun v z => by
   have z' : Data.fields _ = Data.cell v := z;cases z'⟩
 keep := fun i h h' st k => k it (by simp) _ st
 item := by
  intro X hP hw hK hc i pins s σ H E I hf st hg;subst hP hw hK;obtain ⟨f0, f1, f2, f3, f4, f5⟩ := hf it (by simp);have W := Walks.range (prog := X.prog) (w := X.w) (I.ok.hd hc) it lo 1 n;refine W.item i s _ _ hg st fun v h' tk hv st' kk => ?_;obtain ⟨t, rfl⟩ := hv;have I1 : Inv X pins σ H { s with heap := h', toks := tk } := I.turned (fun b o hb e => kk b o (by simpa using hb) e) f0 f1 f3 f4 f5;refine ⟨_, rfl, zy1 (s := { s with heap := h', toks := tk }) (n := "range_iterator") st' rfl rfl (by decide) ⟨.int (lo + i), H, I1, ⟨t, ?_⟩, ⟨rfl, rfl⟩, st', fun b hb => (hf b hb).1⟩⟩;rw [Int.mul_one]
 done := by
  intro X hP hw hK hc i pins s σ H E I hf st hg;subst hP hw hK;obtain ⟨f0, f1, f2, f3, f4, f5⟩ := hf it (by simp);exact wpAny_pyNext_range_end (I.ok.hd hc) st (by have : n <= i := hg; omega) fun h' eb => ⟨rfl, I.turned (t' := s.toks) (fun b o hb e => eb b o hb e) f0 f1 f3 f4 f5⟩
 self := fun _ _ _ _ _ st h => wpAny_pyIter_rangeiter st h
end L2
namespace L2
open PySem PySem.Spec PyProof.Rows
section
variable {X : Cx} {tg : Expr}
def zy2 (K : PySem.W.Frag) (tl : TE) : TI := fun σ H R => tl σ H fun x H1 => ∃ a, x = .ref a /\ (∃ xs, SqL K H1 a xs) /\ R (Itl K a) H1
theorem zdr {l : Expr} {tl : TE} (hl : PE X l tl) : PI X tg l (zy2 X.K tl) := by
 intro pins s σ H R I h;refine thn (hl pins s σ H _ I h) fun v s1 hq_ => ?_;obtain ⟨x, H1, I1, r1, q1⟩ := hq_;obtain ⟨a, e, ⟨xs, hq⟩, q⟩ := q1;subst e;cases r1;obtain ⟨its, rv, p, hz⟩ := I1.list hq;refine wpAny_pyIter_list p.isList ?_;refine ⟨s1.heap.objs.size, [s1.heap.objs.size], _, _, H1, rfl, I1.kept (t' := s1.toks) fun b o e => Heap.get?_push_of_some _ e, zqm a _, ⟨_, Heap.get?_push_size _ rfl, rfl, rfl⟩, fun b hb => ?_, q⟩;have e : b = s1.heap.objs.size := by simpa using hb
 subst e;exact I1.fpOk (Nat.le_refl _) (I1.hok.fresh (Nat.le_refl _))
theorem ztm {pins : List (Addr × Obj)} {σ : St} {H : Hp} {s : Shared} {R : It -> Hp -> Prop} {E : Value -> Shared -> Prop} {lo hi : Int} {t u v : Tok} {tk : Nat} (I : Inv X pins σ H s) (h1 : -(2 ^ 62) <= lo) (h2 : lo < 2 ^ 62) (h3 : -(2 ^ 62) <= hi) (h4 : hi < 2 ^ 62)
  (q : R (Itr lo (hi - lo).toNat) H) : wpAny (model X.prog X.w) X.A (pyIter (.ref s.heap.objs.size)) (PIE X pins σ tg R) E { s with heap := s.heap.push { cls := .type "range", data := .fields #[.int lo t, .int hi u, .int 1 v] }, toks := tk } := by
 refine wpAny_pyIter_range (IsRange.new ..) (small_one h1 h2 h3 h4) ?_;have I1 : Inv X pins σ H { s with heap := s.heap.push { cls := .type "range", data := .fields #[.int lo t, .int hi u, .int 1 v] }, toks := tk } := I.kept fun b o e => Heap.get?_push_of_some _ e;refine ⟨(s.heap.push { cls := .type "range", data := .fields #[.int lo t, .int hi u, .int 1 v] }).objs.size, [(s.heap.push { cls := .type "range", data := .fields #[.int lo t, .int hi u, .int 1 v] }).objs.size], _, _, H, rfl,
  I1.kept (t' := tk) fun b o e => Heap.get?_push_of_some _ e, zpd _ lo (hi - lo).toNat, ?_, fun b hb => ?_, q⟩
 ·have e1 : lo + ((0 : Nat) : Int) * 1 = lo := by simp
  have e2 : (((hi - lo).toNat : Nat) : Int) - ((0 : Nat) : Int) = Builtin.Range.rangeSize lo hi 1 := by rw [rangeSize_one]; split <;> omega
  show IsRangeIter _ _ (lo + ((0 : Nat) : Int) * 1) ((((hi - lo).toNat : Nat) : Int) - ((0 : Nat) : Int)) 1;rw [e1, e2];exact Heap.get?_push_size _ rfl
 ·have e : b = (s.heap.push { cls := .type "range", data := .fields #[.int lo t, .int hi u, .int 1 v] }).objs.size := by simpa using hb
  subst e;exact I1.fpOk (Nat.le_refl _) (I1.hok.fresh (Nat.le_refl _))
def zy3 (ta : TA) : TI := fun σ H R => ta σ H fun vs H1 => ∃ j : Int, vs = [.int j] /\ -(2 ^ 62) <= j /\ j < 2 ^ 62 /\ R (Itr 0 j.toNat) H1
theorem zgg {a : Expr} {ta : TA} {p pos : Pos} (hg : Gl X "range") (hm : X.mg "range" = none) (ha : PA X [a] ta) (hs : starEach [a] X.env = [(false, eval a X.env)] := by rfl) : PI X tg (.Call (.Name "range" p) [a] [] pos) (zy3 ta) := by
 intro pins s σ H R I h;refine Call_ (zjs I hg hm boot_range (PyProof.Rows.callWith_type1 (thn (ha pos pins s σ H _ I h) fun us s1 hq_ => ?_) hs rfl));obtain ⟨vs, H1, I1, r1, q1⟩ := hq_;obtain ⟨j, e, q1, q2, q⟩ := q1;subst e;cases r1 with
 | cons r rr =>
   cases rr;obtain ⟨t, rfl⟩ := r;exact call_range_1 (ztm I1 (by omega) (by omega) q1 q2 (by simpa using q))
def tFor (wi : TI) (g : TG) (tb : TS) : TS := fun D σ H => wi σ H fun J H1 => ∃ W : Nat -> Nat -> St -> Hp -> Prop, (∃ m, W 0 m σ H1) /\ ∀ i m σ H, W i m σ H ->
 (J.stop i H /\ D.nx σ H) \/ (J.go i H /\ ∃ N : St -> Hp -> Prop, (∀ σ' H', N σ' H' -> ∃ m', m' < m /\ W (i + 1) m' σ' H') /\ ∀ x H', J.yld i H x H' -> g x σ H' fun σ2 H2 => tb { D with nx := N, ct := N, bk := D.nx } σ2 H2)
def zn6 (fp : List Addr) (h : Heap) : List (Addr × Obj) := fp.filterMap fun b => (h.get? b).map fun o => (b, o)
theorem zfy {fp : List Addr} {h : Heap} {b : Addr} {o : Obj} (hb : b ∈ fp) (e : h.get? b = some o) : (b, o) ∈ zn6 fp h := List.mem_filterMap.mpr ⟨b, hb, by rw [e]; rfl⟩
theorem zqn {fp : List Addr} {h : Heap} {p : Addr × Obj} (hp : p ∈ zn6 fp h) : p.1 ∈ fp /\ h.get? p.1 = some p.2 := by
 obtain ⟨b, hb, e⟩ := List.mem_filterMap.mp hp;cases q : h.get? b with
 | none => rw [q] at e; cases e
 | some o =>
   rw [q] at e;have e' : (b, o) = p := Option.some.inj e;subst e';exact ⟨hb, q⟩
theorem Inv.pinned {pins : List (Addr × Obj)} {σ : St} {H : Hp} {s : Shared} {fp : List Addr} (I : Inv X pins σ H s) (hf : ∀ b ∈ fp, FpOk X pins H b) (ho : ∀ b ∈ fp, ∃ o, s.heap.get? b = some o /\ ∀ v, o.data ≠ .cell v) : Inv X (pins ++ zn6 fp s.heap) σ H s :=
 I.pins_of fun p hp => (List.mem_append.mp hp).elim (fun z => I.pin p (List.mem_append_right _ z)) fun z => by
  obtain ⟨hb, e⟩ := zqn z;obtain ⟨f0, f1, f2, _⟩ := hf p.1 hb;obtain ⟨o, e', d⟩ := ho p.1 hb;rw [e] at e'; cases e';exact ⟨e, f0, f1, f2, d⟩
theorem Inv.unpinned {pins pl : List (Addr × Obj)} {σ : St} {H : Hp} {s : Shared} (I : Inv X (pins ++ pl) σ H s) : Inv X pins σ H s := I.pins_of fun p hp => I.pin p (List.mem_append_right _ (List.mem_append_left _ hp))
theorem zy4 {iter : Expr} {body : List Stmt} {wi : TI} {g : TG} {tb : TS} {pos : Pos} (hp : PassesOwn (model X.prog X.w) X.A X.env X.xe) (hc : X.calm = true) (hi : PI X tg iter wi) (hg : PG X tg g) (hb : PSs X body tb)
  (hs : ∀ x, foldedSetIterable iter X.env x = pure x := by intro _; rfl) : PS X (.For tg iter body [] pos) (tFor wi g tb) := by
 intro pins s σ H D I h;refine wpAny_For (thn (hi pins s σ H _ I h) fun v s1 h1 => thn h1 fun itv s2 h2 => ?_) hs;obtain ⟨it, fp, tn, J, H2, e, I2, T, st2, f2, W, ⟨m0, w0⟩, turn⟩ := h2;subst e;have stat : ∀ {H' : Hp}, (∀ b ∈ fp, H' b = none) -> ∀ b ∈ fp, FpOk X pins H' b := fun hn b hb => ⟨hn b hb, (f2 b hb).2⟩;refine codeAny_forLoop_any (fun n s' => ∃ i σ' H', Inv X pins σ' H' s' /\ tn i s'.heap /\ (∀ b ∈ fp, H' b = none) /\ W i n σ' H') ?_ m0 ⟨0, σ, H2, I2, st2, fun b hb => (f2 b hb).1, w0⟩;rintro n s3 ⟨i, σ3, H3, I3, st3, fr3, w3⟩;rcases turn i n σ3 H3 w3 with ⟨stop, qn⟩ | ⟨go, N, hN, step⟩
 ·refine wpAny_passesOwn hp (thn (T.done X rfl rfl rfl hc i pins s3 σ3 H3 X.xe I3 (stat fr3) st3 stop) fun r s4 hq_ => ?_)
  obtain ⟨hr, I4⟩ := hq_;subst hr;exact wpAny_execs_nil ⟨σ3, H3, I4, qn⟩
 ·refine wpAny_passesOwn hp (thn (T.item X rfl rfl rfl hc i pins s3 σ3 H3 X.xe I3 (stat fr3) st3 go) fun r s4 hq_ => ?_)
  obtain ⟨u, hr, h4⟩ := hq_;subst hr;refine wpAny_passesOwn hp (thn h4 fun _ s5 hq_ => ?_);obtain ⟨x, H5, I5, r5, y5, st5, fr5⟩ := hq_;have I5' := I5.pinned (stat fr5) (T.obj _ _ st5);refine wpAny_passesOwn hp (thn (hg _ s5 σ3 H5 x u _ I5' r5 (step x H5 y5)) fun _ s6 hq_ => ?_);obtain ⟨σ6, H6, I6, q6⟩ := hq_;refine wpAny_passesOwn hp (thn (hb _ s6 σ6 H6 _ I6 q6) fun f s7 q7 => ?_);have again : ∀ {σ7 : St} {H7 : Hp}, Inv X (pins ++ zn6 fp s5.heap) σ7 H7 s7 -> N σ7 H7 -> ∃ m, m < n /\ ∃ i σ' H', Inv X pins σ' H' s7 /\ tn i s7.heap /\ (∀ b ∈ fp, H' b = none) /\ W i m σ' H' := fun {σ7 H7} I7 n7 => by
   obtain ⟨m', hm, w7⟩ := hN σ7 H7 n7;refine ⟨m', hm, i + 1, σ7, H7, I7.unpinned, T.keep _ _ _ st5 fun b hb o e => (I7.pin (b, o) (List.mem_append_right _ (List.mem_append_right _ (zfy hb e)))).1, fun b hb => ?_, w7⟩;obtain ⟨o, e, d⟩ := T.obj _ _ st5 b hb;exact (I7.pin (b, o) (List.mem_append_right _ (List.mem_append_right _ (zfy hb e)))).2.1
  cases f with
  | next => obtain ⟨σ7, H7, I7, n7⟩ := q7; exact again I7 n7
  | cont => obtain ⟨σ7, H7, I7, n7⟩ := q7; exact again I7 n7
  | brk => obtain ⟨σ7, H7, I7, q7⟩ := q7; exact ⟨σ7, H7, I7.unpinned, q7⟩
  | ret v => obtain ⟨x7, σ7, H7, I7, r7, q7⟩ := q7; exact ⟨x7, σ7, H7, I7.unpinned, r7, q7⟩
end
end L2
namespace L2
open PySem PySem.Spec PyProof.Rows
abbrev R2 := V -> V -> Hp -> VK -> Prop
def OpR (X : Cx) (f : Value -> Value -> Sem Value) (r : R2) : Prop :=
 ∀ (pins : List (Addr × Obj)) (s : Shared) (σ : St) (H : Hp) (x y : V) (v u : Value) (Q : VK), Inv X pins σ H s -> RelV x v -> RelV y u -> r x y H Q ->
   wpAny (model X.prog X.w) X.A (f v u) (EP X pins σ Q) X.xe s
def zf8 (X : Cx) (f : Value) (r : List V -> Hp -> VK -> Prop) : Prop :=
 ∀ (pins : List (Addr × Obj)) (s : Shared) (σ : St) (H : Hp) (xs : List V) (us : List Value) (Q : VK), Inv X pins σ H s -> Vals xs us -> r xs H Q ->
   wpAny (model X.prog X.w) X.A (call f us) (EP X pins σ Q) X.xe s
def TruR (X : Cx) (r : V -> Hp -> (Bool -> Hp -> Prop) -> Prop) : Prop :=
 ∀ (pins : List (Addr × Obj)) (s : Shared) (σ : St) (H : Hp) (x : V) (v : Value) (Q : Bool -> Hp -> Prop), Inv X pins σ H s -> RelV x v -> r x H Q ->
   wpAny (model X.prog X.w) X.A (truthy v) (TP X pins σ Q) X.xe s
def tOp (r : R2) (ta tb : TE) : TE := fun σ H Q => ta σ H fun x H1 => tb σ H1 fun y H2 => r x y H2 Q
def rI (C : Int -> Int -> Prop) (g : Int -> Int -> V) : R2 := fun x y H Q => ∃ i j, x = .int i /\ y = .int j /\ C i j /\ Q (g i j) H
def rI0 (g : Int -> Int -> V) : R2 := fun x y H Q => ∃ i j, x = .int i /\ y = .int j /\ Q (g i j) H
section
variable {X : Cx} {a b c : Expr} {ta tb tc : TE} {pos : Pos}
theorem binT (ha : PE X a ta) (hb : PE X b tb) {pins : List (Addr × Obj)} {s : Shared} {σ : St} {H : Hp} {R : V -> V -> Hp -> Prop} (I : Inv X pins σ H s)
  (h : ta σ H fun x H1 => tb σ H1 fun y H2 => R x y H2) {Q : Value -> Shared -> Prop} {f : Value -> Value -> Sem Value}
  (hf : ∀ v u s2 x y H2, Inv X pins σ H2 s2 -> RelV x v -> RelV y u -> R x y H2 -> wpAny (model X.prog X.w) X.A (f v u) Q X.xe s2) :
  wpAny (model X.prog X.w) X.A (eval a X.env) (fun v s₁ => wpAny (model X.prog X.w) X.A (eval b X.env) (fun u s₂ => wpAny (model X.prog X.w) X.A (f v u) Q X.xe s₂) X.xe s₁) X.xe s := by
 refine thn (ha pins s σ H _ I h) fun v s1 hq_ => ?_;obtain ⟨x, H1, I1, r1, q1⟩ := hq_;refine thn (hb pins s1 σ H1 _ I1 q1) fun u s2 hq_ => ?_;obtain ⟨y, H2, I2, r2, q2⟩ := hq_;exact hf v u s2 x y H2 I2 r1 r2 q2
theorem zpe {op : Operator} {r : R2} (ho : OpR X (binaryOp op) r) (ha : PE X a ta) (hb : PE X b tb) : PE X (.BinOp a op b pos) (tOp r ta tb) := by
 intro pins s σ H Q I h;exact wpAny_BinOp (binT ha hb I h fun v u s2 x y H2 I2 rx ry q => ho pins s2 σ H2 x y v u Q I2 rx ry q)
theorem opI {f : Value -> Value -> Sem Value} {C : Int -> Int -> Prop} {g : Int -> Int -> Int}
  (rule : ∀ (i j : Int) (t u : Tok) (s : Shared) (Q : Value -> Shared -> Prop) (E : Value -> Shared -> Prop), C i j -> Q (.int (g i j) s.toks) { s with toks := s.toks + 1 } -> wpAny (model X.prog X.w) X.A (f (.int i t) (.int j u)) Q E s) :
  OpR X f (rI C fun i j => .int (g i j)) := by
 intro pins s σ H x y v u Q I rx ry h;obtain ⟨i, j, rfl, rfl, hc, q⟩ := h;obtain ⟨t, rfl⟩ := rx;obtain ⟨t', rfl⟩ := ry;exact rule i j t t' s _ _ hc ⟨.int (g i j), H, I.tok _, ⟨_, rfl⟩, q⟩
theorem opI0 {f : Value -> Value -> Sem Value} {g : Int -> Int -> Int}
  (rule : ∀ (i j : Int) (t u : Tok) (s : Shared) (Q : Value -> Shared -> Prop) (E : Value -> Shared -> Prop), Q (.int (g i j) s.toks) { s with toks := s.toks + 1 } -> wpAny (model X.prog X.w) X.A (f (.int i t) (.int j u)) Q E s) :
  OpR X f (rI0 fun i j => .int (g i j)) := by
 intro pins s σ H x y v u Q I rx ry h;obtain ⟨i, j, rfl, rfl, q⟩ := h;obtain ⟨t, rfl⟩ := rx;obtain ⟨t', rfl⟩ := ry;exact rule i j t t' s _ _ ⟨.int (g i j), H, I.tok _, ⟨_, rfl⟩, q⟩
theorem opB0 {f : Value -> Value -> Sem Value} {g : Int -> Int -> Bool}
  (rule : ∀ (i j : Int) (t u : Tok) (s : Shared) (Q : Value -> Shared -> Prop) (E : Value -> Shared -> Prop), Q (.bool (g i j)) s -> wpAny (model X.prog X.w) X.A (f (.int i t) (.int j u)) Q E s) :
  OpR X f (rI0 fun i j => .bl (g i j)) := by
 intro pins s σ H x y v u Q I rx ry h;obtain ⟨i, j, rfl, rfl, q⟩ := h;obtain ⟨t, rfl⟩ := rx;obtain ⟨t', rfl⟩ := ry;exact rule i j t t' s _ _ ⟨.bl (g i j), H, I, rfl, q⟩
def CDiv (i j : Int) : Prop := 0 < j /\ j < 1073741824
def CPow (i j : Int) : Prop := 0 <= j /\ j <= 1000000 /\ i.natAbs < 2 ^ 64
def CMul (i j : Int) : Prop := (-(2 ^ 64) < i /\ i < 2 ^ 64) \/ (-(2 ^ 64) < j /\ j < 2 ^ 64)
theorem CMul.ok {i j : Int} (h : CMul i j) : IntMulOk i j := by
 rcases h with ⟨h1, h2⟩ | ⟨h1, h2⟩
 ·exact .of_left (intBits_le_64 h1 h2)
 ·exact .of_right (intBits_le_64 h1 h2)
theorem zy5 : OpR X (binaryOp .Add) (rI0 fun i j => .int (i + j)) := opI0 fun _ _ _ _ _ _ _ q => add_int q
theorem zy6 : OpR X (binaryOp .Sub) (rI0 fun i j => .int (i - j)) := opI0 fun _ _ _ _ _ _ _ q => sub_int q
theorem zy7 : OpR X (binaryOp .Mult) (rI CMul fun i j => .int (i * j)) := opI fun _ _ _ _ _ _ _ hc q => mul_int q hc.ok
theorem zwl : OpR X (binaryOp .FloorDiv) (rI CDiv fun i j => .int (i / j)) := opI fun i j _ _ _ _ _ hc q => by
 have h1 : (0 : Int) < j := hc.1;have h2 : j < 1073741824 := hc.2;exact floordiv_int (by omega) (by rw [Int.fdiv_eq_ediv_of_nonneg i (by omega)]; exact q) (.inl (PyProof.noPylong_small (by omega)))
theorem zy8 : OpR X (binaryOp .Mod) (rI (fun _ j => 0 < j) fun i j => .int (i % j)) := opI fun i j _ _ _ _ _ hc q => by
 have h1 : (0 : Int) < j := hc;exact mod_int' (by omega) (by rw [Int.fmod_eq_emod_of_nonneg i (by omega)]; exact q)
theorem zy9 : OpR X (binaryOp .Pow) (rI CPow fun i j => .int (i ^ j.toNat)) := opI fun _ _ _ _ _ _ _ hc q => pow_int_small hc.1 hc.2.1 hc.2.2 q
end
def scal : V -> V -> Bool
 | .non, .non => true | .non, .int _ => true | .int _, .non => true | .non, .bl _ => true | .bl _, .non => true | .non, .str _ => true | .str _, .non => true
 | .int _, .int _ => true | .bl _, .bl _ => true | .str _, .str _ => true | .byt _, .byt _ => true
 | .int _, .str _ => true | .str _, .int _ => true | .bl _, .str _ => true | .str _, .bl _ => true
 | _, _ => false
def rEq : R2 := fun x y H Q => scal x y = true /\ Q (.bl (decide (x = y))) H
def rNe : R2 := fun x y H Q => scal x y = true /\ Q (.bl (!decide (x = y))) H
theorem zqo {i j : Int} : decide (V.int i = V.int j) = (i == j) := by
 rw [Bool.eq_iff_iff];simp
theorem zvf {i j : Bool} : decide (V.bl i = V.bl j) = (i == j) := by
 rw [Bool.eq_iff_iff];simp
theorem zqp {i j : Str} : decide (V.str i = V.str j) = (i == j) := by
 rw [Bool.eq_iff_iff];simp
theorem zqq {i j : Array UInt8} : decide (V.byt i = V.byt j) = (i.toList == j.toList) := by
 rw [Bool.eq_iff_iff];cases i;cases j;simp
section
variable {X : Cx} {a b c : Expr} {ta tb tc : TE} {pos : Pos}
theorem zbb {pins : List (Addr × Obj)} {σ : St} {H : Hp} {s : Shared} {Q : VK} {k k' : Bool} (I : Inv X pins σ H s) (q : Q (.bl k) H) (e : k = k') : EP X pins σ Q (.bool k') s := by
 subst e;exact ⟨.bl k, H, I, rfl, q⟩
theorem zza : OpR X (compareOp .Eq) rEq := by
 intro pins s σ H x y v u Q I rx ry h;obtain ⟨hs, q⟩ := h;cases x with
 | non =>
   cases rx;cases y with
   | non => cases ry; exact PySem.EqNone.eq_none_none (zbb I q (by simp))
   | bl j => cases ry; exact PySem.EqNone.eq_none_bool (zbb I q (by simp))
   | int j => obtain ⟨t', rfl⟩ := ry; exact PySem.EqNone.eq_none_int (zbb I q (by simp))
   | str j => obtain ⟨t', rfl⟩ := ry; exact PySem.EqNone.eq_none_str (zbb I q (by simp))
   | _ => exact absurd (show false = true from hs) Bool.false_ne_true
 | bl i =>
   cases rx;cases y with
   | non => cases ry; exact PySem.EqNone.eq_bool_none (zbb I q (by simp))
   | bl j => cases ry; exact eq_bool (zbb I q zvf)
   | str j => obtain ⟨t', rfl⟩ := ry; exact PySem.EqMixed.eq_bool_str (zbb I q (by simp))
   | _ => exact absurd (show false = true from hs) Bool.false_ne_true
 | int i =>
   obtain ⟨t, rfl⟩ := rx;cases y with
   | non => cases ry; exact PySem.EqNone.eq_int_none (zbb I q (by simp))
   | int j => obtain ⟨t', rfl⟩ := ry; exact eq_int (zbb I q zqo)
   | str j => obtain ⟨t', rfl⟩ := ry; exact PySem.EqMixed.eq_int_str (zbb I q (by simp))
   | _ => exact absurd (show false = true from hs) Bool.false_ne_true
 | str i =>
   obtain ⟨t, rfl⟩ := rx;cases y with
   | non => cases ry; exact PySem.EqNone.eq_str_none (zbb I q (by simp))
   | bl j => cases ry; exact PySem.EqMixed.eq_str_bool (zbb I q (by simp))
   | int j => obtain ⟨t', rfl⟩ := ry; exact PySem.EqMixed.eq_str_int (zbb I q (by simp))
   | str j => obtain ⟨t', rfl⟩ := ry; exact eq_str (zbb I q zqp)
   | _ => exact absurd (show false = true from hs) Bool.false_ne_true
 | byt i =>
   obtain ⟨t, rfl⟩ := rx;cases y with
   | byt j => obtain ⟨t', rfl⟩ := ry; exact PySem.W.eq_bytes (zbb I q zqq)
   | _ => exact absurd (show false = true from hs) Bool.false_ne_true
 | _ => cases y <;> exact absurd (show false = true from hs) Bool.false_ne_true
theorem zzb : OpR X (compareOp .NotEq) rNe := by
 intro pins s σ H x y v u Q I rx ry h;obtain ⟨hs, q⟩ := h;cases x with
 | non =>
   cases rx;cases y with
   | non => cases ry; exact PySem.EqNone.ne_none_none (zbb I q (by simp))
   | bl j => cases ry; exact PySem.EqNone.ne_none_bool (zbb I q (by simp))
   | int j => obtain ⟨t', rfl⟩ := ry; exact PySem.EqNone.ne_none_int (zbb I q (by simp))
   | str j => obtain ⟨t', rfl⟩ := ry; exact PySem.EqNone.ne_none_str (zbb I q (by simp))
   | _ => exact absurd (show false = true from hs) Bool.false_ne_true
 | bl i =>
   cases rx;cases y with
   | non => cases ry; exact PySem.EqNone.ne_bool_none (zbb I q (by simp))
   | bl j => cases ry; exact ne_bool (zbb I q (congrArg not zvf))
   | str j => obtain ⟨t', rfl⟩ := ry; exact PySem.EqMixed.ne_bool_str (zbb I q (by simp))
   | _ => exact absurd (show false = true from hs) Bool.false_ne_true
 | int i =>
   obtain ⟨t, rfl⟩ := rx;cases y with
   | non => cases ry; exact PySem.EqNone.ne_int_none (zbb I q (by simp))
   | int j => obtain ⟨t', rfl⟩ := ry; exact ne_int (zbb I q (congrArg not zqo))
   | str j => obtain ⟨t', rfl⟩ := ry; exact PySem.EqMixed.ne_int_str (zbb I q (by simp))
   | _ => exact absurd (show false = true from hs) Bool.false_ne_true
 | str i =>
   obtain ⟨t, rfl⟩ := rx;cases y with
   | non => cases ry; exact PySem.EqNone.ne_str_none (zbb I q (by simp))
   | bl j => cases ry; exact PySem.EqMixed.ne_str_bool (zbb I q (by simp))
   | int j => obtain ⟨t', rfl⟩ := ry; exact PySem.EqMixed.ne_str_int (zbb I q (by simp))
   | str j => obtain ⟨t', rfl⟩ := ry; exact ne_str (zbb I q (congrArg not zqp))
   | _ => exact absurd (show false = true from hs) Bool.false_ne_true
 | byt i =>
   obtain ⟨t, rfl⟩ := rx;cases y with
   | byt j => obtain ⟨t', rfl⟩ := ry; exact PySem.W.ne_bytes (zbb I q (congrArg not zqq))
   | _ => exact absurd (show false = true from hs) Bool.false_ne_true
 | _ => cases y <;> exact absurd (show false = true from hs) Bool.false_ne_true
theorem z13 : OpR X (compareOp .Lt) (rI0 fun i j => .bl (decide (i < j))) := opB0 fun _ _ _ _ _ _ _ q => lt_int q
theorem z14 : OpR X (compareOp .Gt) (rI0 fun i j => .bl (decide (j < i))) := opB0 fun _ _ _ _ _ _ _ q => gt_int q
theorem z15 : OpR X (compareOp .GtE) (rI0 fun i j => .bl (decide (j <= i))) := opB0 fun _ _ _ _ _ _ _ q => ge_int q
theorem zzc : OpR X (compareOp .Is) (fun x y H Q => y = .non /\ Q (.bl (decide (x = .non))) H) := by
 intro pins s σ H x y v u Q I rx ry h;obtain ⟨rfl, q⟩ := h;cases ry;refine is_none_gen (zbb I q ?_);cases x <;> first
  | (cases rx; rfl)
  | (obtain ⟨t, rfl⟩ := rx; rfl)
theorem zwm : OpR X (compareOp .IsNot) (fun x y H Q => y = .non /\ Q (.bl (!decide (x = .non))) H) := by
 intro pins s σ H x y v u Q I rx ry h;obtain ⟨rfl, q⟩ := h;cases ry;refine isnot_none_gen (zbb I q ?_);cases x <;> first
  | (cases rx; rfl)
  | (obtain ⟨t, rfl⟩ := rx; rfl)
theorem OpR.or {f : Value -> Value -> Sem Value} {r r' : R2} (h : OpR X f r) (h' : OpR X f r') : OpR X f (fun x y H Q => r x y H Q \/ r' x y H Q) := by
 intro pins s σ H x y v u Q I rx ry q;rcases q with q | q
 ·exact h pins s σ H x y v u Q I rx ry q
 ·exact h' pins s σ H x y v u Q I rx ry q
theorem zgh (b : Expr) {op : CmpOp} (h : op ≠ .In := by decide) (h2 : op ≠ .NotIn := by decide) : behindInMarks op b = false := by
 have e1 : (op == CmpOp.In) = false := by cases op <;> first | rfl | exact absurd rfl h
 have e2 : (op == CmpOp.NotIn) = false := by cases op <;> first | rfl | exact absurd rfl h2
 cases b <;> simp [behindInMarks, e1, e2]
theorem zqr {op : CmpOp} {r : R2} (ho : OpR X (compareOp op) r) (ha : PE X a ta) (hb : PE X b tb) (hm : behindInMarks op b = false) : PE X (.Compare a [op] [b] pos) (tOp r ta tb) := by
 intro pins s σ H Q I h;exact wpAny_Compare1 (binT ha hb I h fun v u s2 x y H2 I2 rx ry q => ho pins s2 σ H2 x y v u Q I2 rx ry q) hm
def z16 (t : TE) : TT := fun σ H Q => t σ H fun x H' => ∃ k, x = .bl k /\ Q k H'
theorem zwn {op : CmpOp} {r : R2} (ho : OpR X (compareOp op) r) (ha : PE X a ta) (hb : PE X b tb) (hm : behindInMarks op b = false) : PT X (.Compare a [op] [b] pos) (z16 (tOp r ta tb)) := by
 intro pins s σ H Q I h;refine wpAny_isTrue_Compare1 (thn (ha pins s σ H _ I h) fun v s1 ⟨x, H1, I1, r1, q1⟩ => thn (hb pins s1 σ H1 _ I1 q1) fun u s2 ⟨y, H2, I2, r2, q2⟩ =>
  thn (ho pins s2 σ H2 x y v u _ I2 r1 r2 q2) fun c s3 ⟨z, H3, I3, r3, k, e, q3⟩ => ?_) hm
 subst e;cases r3;exact wpAny_truthy_bool ⟨H3, I3, q3⟩
def TruV (K : PySem.W.Frag) (x : V) (H : Hp) (k : Bool) : Prop :=
 match x with
 | .non => k = false
 | .bl b => k = b
 | .int i => k = (i != 0)
 | .str y => y.length <= sizeLine /\ k = ((y.length : Int) != 0)
 | .byt y => y.size <= sizeLine /\ k = ((y.size : Int) != 0)
 | .ref p => (∃ xs, SqL K H p xs /\ k = !xs.isEmpty) \/ (∃ xs, SqT K H p xs /\ k = !xs.isEmpty) \/ ∃ kvs, H p = some (.dK kvs) /\ k = !kvs.isEmpty
 | _ => False
theorem zpf {κ : Type} {kvs : List (κ × V)} {vs : List (κ × Value)} (r : KV kvs vs) : (!vs.isEmpty) = !kvs.isEmpty := by
 cases r <;> rfl
theorem zjt {xs : List V} {its : List Value} (r : Vals xs its) : (!its.toArray.isEmpty) = !xs.isEmpty := by
 cases r <;> simp
theorem zle : (sizeLine : Nat) < 2 ^ 63 := by rw [sizeLine_eq]; decide
theorem zvg : TruR X (fun x H Q => ∃ k, TruV X.K x H k /\ Q k H) := by
 intro pins s σ H x v Q I rx h;obtain ⟨k, e, q⟩ := h;have hl := zle;have hs : sizeLine = 16777216 := sizeLine_eq;cases x with
 | non =>
   cases rx;have e' : k = false := e;subst e';exact truthy_none ⟨H, I, q⟩
 | bl b =>
   cases rx;have e' : k = b := e;subst e';exact wpAny_truthy_bool ⟨H, I, q⟩
 | int i =>
   obtain ⟨t, rfl⟩ := rx;have e' : k = (i != 0) := e;subst e';exact PySem.P.truthy_int ⟨H, I, q⟩
 | str y =>
   obtain ⟨t, rfl⟩ := rx;obtain ⟨hy, e'⟩ : y.length <= sizeLine /\ k = ((y.length : Int) != 0) := e;subst e';exact PySem.P.truthy_str (by omega) ⟨H, I.tok _, q⟩
 | byt y =>
   obtain ⟨t, rfl⟩ := rx;obtain ⟨hy, e'⟩ : y.size <= sizeLine /\ k = ((y.size : Int) != 0) := e;subst e';exact PySem.W.truthy_bytes (by omega) ⟨H, I.tok _, q⟩
 | ref p =>
   cases rx;have e' : (∃ xs, SqL X.K H p xs /\ k = !xs.isEmpty) \/ (∃ xs, SqT X.K H p xs /\ k = !xs.isEmpty) \/ ∃ kvs, H p = some (.dK kvs) /\ k = !kvs.isEmpty := e;rcases e' with ⟨xs, hx, e'⟩ | ⟨xs, hx, e'⟩ | ⟨kvs, hx, e'⟩
   ·subst e'
    obtain ⟨its, r, pl, hz⟩ := I.list hx;have hlen := r.length;exact wpAny_truthy_list pl.isList (by simp only [List.size_toArray]; omega) ⟨H, I.tok _, by rw [zjt r]; exact q⟩
   ·subst e'
    obtain ⟨its, r, pl, hz⟩ := I.tuple hx;have hlen := r.length;exact truthy_tuple pl (by simp only [List.size_toArray]; omega) ⟨H, I.tok _, by rw [zjt r]; exact q⟩
   ·subst e'
    obtain ⟨hz, hS, vs, r, m⟩ : kvs.length <= sizeLine /\ (p == sysModules) = false /\ ∃ vs, KV kvs vs /\ s.heap.DictOf (zbk X.prog X.w) p vs := I.hok p _ hx;have hlen : kvs.length = vs.length := Paired.length r;exact wpAny_truthy_dict hS m (by omega) ⟨H, I.tok _, by rw [zpf r]; exact q⟩
 | _ => exact (show False from e).elim
theorem ztn (ha : PE X a ta) (he : ∀ whole, isTrue a X.env whole = (do let v <- whole; standAt a.pos; holding [v] (truthy v))) :
  PT X a (fun σ H Q => ta σ H fun x H' => ∃ k, TruV X.K x H' k /\ Q k H') := by
 intro pins s σ H Q I h;exact isTrue_plain (thn (ha pins s σ H _ I h) fun v s1 ⟨x, H1, I1, r1, q1⟩ => zvg pins s1 σ H1 x v Q I1 r1 q1) (he _)
theorem zpg : OpR X (binaryOp .Add) (fun x y H Q => ∃ i j, x = .str i /\ y = .str j /\ i.length + j.length <= sizeLine /\ Q (.str (i ++ j)) H) := by
 intro pins s σ H x y v u Q I rx ry h;obtain ⟨i, j, rfl, rfl, hz, q⟩ := h;obtain ⟨t, rfl⟩ := rx;obtain ⟨t', rfl⟩ := ry;exact add_str (fun t' tk => ⟨.str (i ++ j), H, I.tok _, ⟨_, rfl⟩, q⟩) hz
theorem zph {x : V} {us : List Value} (r : Vals [x] us) : ∃ u, us = [u] /\ RelV x u := by
 cases r with
 | cons r1 r2 => cases r2; exact ⟨_, rfl, r1⟩
theorem zzd {x y : V} {us : List Value} (r : Vals [x, y] us) : ∃ u w', us = [u, w'] /\ RelV x u /\ RelV y w' := by
 cases r with
 | cons r1 r2 =>
   cases r2 with
   | cons r3 r4 => cases r4; exact ⟨_, _, rfl, r1, r3⟩
def LenV (K : PySem.W.Frag) (x : V) (H : Hp) (n : Nat) : Prop :=
 match x with
 | .str y => y.length <= sizeLine /\ n = y.length
 | .byt y => y.size <= sizeLine /\ n = y.size
 | .ref p => (∃ xs, SqL K H p xs /\ n = xs.length) \/ ∃ xs, SqT K H p xs /\ n = xs.length
 | _ => False
theorem zto : zf8 X (.builtin "len") (fun xs H Q => ∃ x n, xs = [x] /\ LenV X.K x H n /\ Q (.int n) H) := by
 intro pins s σ H xs us Q I r h;obtain ⟨x, n, rfl, e, q⟩ := h;obtain ⟨u, rfl, rx⟩ := zph r;have hl := zle;have hs : sizeLine = 16777216 := sizeLine_eq;cases x with
 | str y =>
   obtain ⟨t, rfl⟩ := rx;obtain ⟨hy, e'⟩ : y.length <= sizeLine /\ n = y.length := e;subst e';exact len_str (by omega) ⟨.int _, H, I.tok _, ⟨_, rfl⟩, q⟩
 | byt y =>
   obtain ⟨t, rfl⟩ := rx;obtain ⟨hy, e'⟩ : y.size <= sizeLine /\ n = y.size := e;subst e';exact PySem.W.len_bytes (by omega) ⟨.int _, H, I.tok _, ⟨_, rfl⟩, q⟩
 | ref p =>
   cases rx;have e' : (∃ xs, SqL X.K H p xs /\ n = xs.length) \/ ∃ xs, SqT X.K H p xs /\ n = xs.length := e;rcases e' with ⟨xs, hx, e'⟩ | ⟨xs, hx, e'⟩
   ·subst e'
    obtain ⟨its, r', pl, hz⟩ := I.list hx;have hlen := r'.length;exact Calls.call_len_list pl.isList (by simp only [List.size_toArray]; omega) ⟨.int xs.length, H, I.tok _, ⟨_, by simp only [List.size_toArray]; rw [hlen]⟩, q⟩
   ·subst e'
    obtain ⟨its, r', pl, hz⟩ := I.tuple hx;have hlen := r'.length;exact len_tuple pl (by simp only [List.size_toArray]; omega) ⟨.int xs.length, H, I.tok _, ⟨_, by simp only [List.size_toArray]; rw [hlen]⟩, q⟩
 | _ => exact (show False from e).elim
end
end L2
namespace L2
open PySem PySem.Spec PyProof.Rows
structure ObjM (h : Heap) (x dx C : Addr) (mA : Str -> Option Value) : Prop where
 obj : h.get? x = some (PySem.W.instObj C dx)
 ns : h.Ns1 dx mA
 ne : dx ≠ x
theorem zh7 {h : Heap} {dx : Addr} {mA : Str -> Option Value} (n : h.Ns1 dx mA) : ∃ od, h.get? dx = some od /\ ∀ name, PySem.W.lookIn name od = some (mA name) := by
 obtain ⟨o, es, ep, ho, hd, hk, _, hm⟩ := n;refine ⟨o, ho, fun name => ?_⟩;have e := hm name;unfold nsFind findBy at e;rw [<- Array.find?_toList] at e;unfold PySem.W.lookIn;rw [hd];dsimp only
 split
 ·rename_i y q
  rw [q] at e;exact congrArg some e
 ·rename_i q
  rw [q] at e;have a : es.toList.any (·.refKey) = false := by
   rw [List.any_eq_false];intro y hy;obtain ⟨z, t, hkey⟩ := hk y (Array.mem_toList_iff.mp hy);simp [DictEntry.refKey, hkey]
  have a' : ¬ es.toList.any (·.refKey) = true := by rw [a]; exact Bool.false_ne_true
  rw [if_neg a'];exact congrArg some e
theorem ObjM.look {h : Heap} {x dx C : Addr} {mA : Str -> Option Value} (I : ObjM h x dx C mA) : ∃ od, PySem.W.InstAt h x (PySem.W.instObj C dx) C (some od) /\ ∀ name, PySem.W.lookIn name od = some (mA name) :=
 let ⟨od, ho, hl⟩ := zh7 I.ns
 ⟨od, ⟨I.obj, rfl, rfl, ho⟩, hl⟩
section
variable {prog : Program} {w : World} {A : Around} {E : Value -> Shared -> Prop} {s : Shared} {K : PySem.W.Frag} {x dx C f : Addr} {mA : Str -> Option Value} {name : Str} {v : Value}
theorem zwo {expr : Bool} {Q : Value -> Shared -> Prop} (X : K.In s.heap) (I : ObjM s.heap x dx C mA) (hg : PySem.W.plainGet K C name = true) (hh : PySem.W.hasDictIn K C = true)
  (ha : PySem.W.findIn K (.ref C) name = some none) (hv : mA name = some v) (hv' : PySem.W.handedIn v = true) (h : Q v { s with toks := s.toks + 1 }) :
  wpAny (model prog w) A (getAttr (.ref x) name expr) Q E s := by
 obtain ⟨od, J, hl⟩ := I.look;exact PySem.W.get_value X J (PySem.W.plainGet_of hg).1 (PySem.W.findObj_own hh ha rfl (by rw [hl, hv])) hv' h
theorem ztp {pl : Sem Bool} {Q : Value × List Value -> Shared -> Prop} (X : K.In s.heap) (I : ObjM s.heap x dx C mA) (hg : PySem.W.plainGet K C name = true)
  (hf : PySem.W.findIn K (.ref C) name = some (some (.ref f))) (ht : PySem.W.isFn K (.ref f) = true) (hv : mA name = none) (h : Q (.ref f, [.ref x]) s) :
  wpAny (model prog w) A (getMethod (.ref x) name pl) Q E s := by
 obtain ⟨od, J, hl⟩ := I.look;exact PySem.W.method_fn X J (PySem.W.plainGet_of hg).1 (PySem.W.plainGet_of hg).2 hf (beq_iff_eq.mp ht) (by show (PySem.W.lookIn name od).map (·.isSome) = some false; rw [hl, hv]; rfl) h
theorem zwp {ns : List Str} {Q : Unit -> Shared -> Prop} (X : K.In s.heap) (I : ObjM s.heap x dx C mA)
  (hs : PySem.W.findIn K (.ref C) "__setattr__" = some (some (.builtin "object.__setattr__"))) (hp : PySem.W.plainOver K C = true) (ht : PySem.W.takerIn K C name = some none) (hh : PySem.W.hasDictIn K C = true)
  (hw : PySem.Within mA ns) (hsz : ns.length <= sizeLine)
  (h : ∀ h', ObjM h' x dx C (fun y => if y = name then some v else mA y) -> Heap.SameBut dx s.heap h' -> Q () { s with heap := h', toks := s.toks + 2 }) :
  wpAny (model prog w) A (setAttr (.ref x) name v) Q E s := by
 obtain ⟨od, J, hl⟩ := I.look;refine PySem.W.set_plain X J hs (PySem.W.osa_open (s := { s with toks := s.toks + 1 }) (r := none) X J hp ht fun b => ?_);obtain ⟨cd, hc, hd'⟩ := PySem.W.any_some hh;have hx : s.heap.get? x = some ⟨.ref C, some dx, .plain, #[]⟩ := I.obj;refine wpAny_bind (wpAny_pure (wpAny_bind (wpAny_bind (wpAny_loadPart hx (wpAny_bind (PySem.W.Looks.here (s := { s with toks := s.toks + 1 }) (PySem.W.looks_clsIn X hc) ?_))))));rw [hd'];refine wpAny_pure (a := some dx) (wpAny_bind (wpAny_pure (wpAny_bind ?_)));refine wpAny_nsSet1 (s := { s with toks := s.toks + 1 }) I.ns fun h' hn2 hs2 => ?_;obtain ⟨oD, esD, epD, hoD, hdD, hcD⟩ := hn2.count (PySem.Within.cons name v hw);refine wpAny_bind (wpAny_lookBehind hoD (by rw [hdD]; exact pastItsLine_dict (Nat.le_trans hcD (by rw [List.length_cons]; omega))) ?_);exact wpAny_pure (h _ ⟨(hs2.2 _ (Ne.symm I.ne)).trans I.obj, hn2, I.ne⟩ hs2)
theorem ztq {R : Result -> Shared -> Prop} {vs : List Value} {kw : List (Str × Value)} (X : K.In s.heap) (hm : PySem.W.makesIn K C = true)
  (hi : PySem.W.findIn K (.ref C) "__init__" = some (some (.ref f))) (hf : PySem.W.typeIn K (.ref f) = some (.type "function"))
  (h : codeAny (model prog w) (A.under (.builtin "type.__call__" ⟨.ref C :: vs, kw⟩)) (.call (.ref f) ⟨.ref (s.heap.objs.size + 1) :: vs, kw⟩) (PySem.W.InitBack (s.heap.objs.size + 1) R)
   { s with heap := (s.heap.push PySem.W.emptyDict).push (PySem.W.instObj C s.heap.objs.size) }) :
  codeAny (model prog w) A (.call (.ref C) ⟨vs, kw⟩) R s := by
 obtain ⟨hh, g, d, t, os⟩ := s;exact PySem.W.make_core (PySem.W.makes_of X hm) (PySem.W.looks_findIn X hi) (fun self => PySem.W.bind_fn X self hf) (.inl rfl) h
end
def putF (f : Str) (v : V) : List (Str × V) -> List (Str × V)
 | [] => [(f, v)]
 | (g, x) :: r => if g = f then (g, v) :: r else (g, x) :: putF f v r
theorem zf9 (f g : Str) (v : V) : ∀ fs : List (Str × V), (putF f v fs).lookup g = if g = f then some v else fs.lookup g
 | [] => by
   show List.lookup g [(f, v)] = _;by_cases h : g = f
   ·have hb : (g == f) = true := beq_iff_eq.mpr h
    simp only [List.lookup, hb, if_pos h]
   ·have hb : (g == f) = false := beq_eq_false_iff_ne.mpr h
    simp only [List.lookup, hb, if_neg h]
 | (k, x) :: r => by
   have ih := zf9 f g v r;rw [show putF f v ((k, x) :: r) = (if k = f then (k, v) :: r else (k, x) :: putF f v r) from rfl];by_cases hk : k = f
   ·rw [if_pos hk]
    by_cases h : g = k
    ·have hb : (g == k) = true := beq_iff_eq.mpr h
     simp only [List.lookup, hb, if_pos (h.trans hk)]
    ·have hb : (g == k) = false := beq_eq_false_iff_ne.mpr h
     simp only [List.lookup, hb, if_neg (fun e : g = f => h (e.trans hk.symm))]
   ·rw [if_neg hk]
    by_cases h : g = k
    ·have hb : (g == k) = true := beq_iff_eq.mpr h
     simp only [List.lookup, hb, if_neg (fun e : g = f => hk (h.symm.trans e))]
    ·have hb : (g == k) = false := beq_eq_false_iff_ne.mpr h
     simp only [List.lookup, hb];exact ih
theorem zh8 (f : Str) (v : V) : ∀ fs : List (Str × V), f ∈ (putF f v fs).map (·.1) /\ ∀ g, g ∈ fs.map (·.1) -> g ∈ (putF f v fs).map (·.1)
 | [] => ⟨by simp [putF], fun g h => by simp at h⟩
 | (k, x) :: r => by
   obtain ⟨i1, i2⟩ := zh8 f v r;rw [show putF f v ((k, x) :: r) = (if k = f then (k, v) :: r else (k, x) :: putF f v r) from rfl];by_cases hk : k = f
   ·rw [if_pos hk]
    subst hk;exact ⟨by simp, fun g h => by simpa using h⟩
   ·rw [if_neg hk]
    refine ⟨?_, fun g h => ?_⟩
    ·rw [List.map_cons]
     exact List.mem_cons_of_mem _ i1
    ·rw [List.map_cons] at h ⊢
     rcases List.mem_cons.mp h with e | e
     ·exact List.mem_cons.mpr (.inl e)
     ·exact List.mem_cons_of_mem _ (i2 g e)
theorem zh9 (f : Str) (v : V) : ∀ fs : List (Str × V), (putF f v fs).length <= fs.length + 1
 | [] => by simp [putF]
 | (k, x) :: r => by
   have ih := zh9 f v r;rw [show putF f v ((k, x) :: r) = (if k = f then (k, v) :: r else (k, x) :: putF f v r) from rfl];by_cases hk : k = f
   ·rw [if_pos hk, List.length_cons, List.length_cons]; omega
   ·rw [if_neg hk, List.length_cons, List.length_cons]; omega
theorem RelO.some_of {v : V} {o : Option Value} (r : RelO (some v) o) : ∃ u, o = some u /\ RelV v u := by
 cases o with
 | none => exact (show False from r).elim
 | some u => exact ⟨u, rfl, r⟩
theorem RelO.none_of {o : Option Value} (r : RelO none o) : o = none := by
 cases o with
 | none => rfl
 | some u => exact (show False from r).elim
theorem zlf {v : V} {u : Value} (r : RelV v u) : PySem.W.handedIn u = true := by
 cases v with
 | non => cases (show u = Value.none from r); rfl
 | bl b => cases (show u = Value.bool b from r); rfl
 | int i => obtain ⟨t, e⟩ := (show ∃ t, u = Value.int i t from r); cases e; rfl
 | str x => obtain ⟨t, e⟩ := (show ∃ t, u = Value.str x t from r); cases e; rfl
 | byt b => obtain ⟨t, e⟩ := (show ∃ t, u = Value.bytes b t from r); cases e; rfl
 | flt b => obtain ⟨t, e⟩ := (show ∃ t, u = Value.float b t from r); cases e; rfl
 | ref a => cases (show u = Value.ref a from r); rfl
 | ty n => cases (show u = Value.type n from r); rfl
section
variable {P : Program} {w : World} {H H' : Hp} {h h' : Heap} {a C dx : Addr} {fs fs' : List (Str × V)}
theorem zkf (hok : HOk P w H h) (e : H a = some (.ins C dx fs)) : ∃ mA, ObjM h a dx C mA /\ (∀ f, RelO (fs.lookup f) (mA f)) /\ PySem.Within mA (fs.map (·.1)) /\ fs.length <= 1000 /\ H dx = some (.own a) := by
 obtain ⟨d, z, ne, ob, mA, n, r, q⟩ := (show zcb P w H h a (.ins C dx fs) from hok a _ e);exact ⟨mA, ⟨ob, n, ne⟩, r, q, z, d⟩
end
structure Cls (K : PySem.W.Frag) (C : Addr) : Prop where
 pg : PySem.W.plainGet K C Str.empty = true
 hd : PySem.W.hasDictIn K C = true
 po : PySem.W.plainOver K C = true
 sa : PySem.W.findIn K (.ref C) "__setattr__" = some (some (.builtin "object.__setattr__"))
theorem Cls.get {K : PySem.W.Frag} {C : Addr} (c : Cls K C) (f : Str) : PySem.W.plainGet K C f = true := c.pg
def zcq (K : PySem.W.Frag) (C : Addr) (f : Str) : Prop := PySem.W.findIn K (.ref C) f = some none
theorem zcq.taker {K : PySem.W.Frag} {C : Addr} {f : Str} (n : zcq K C f) : PySem.W.takerIn K C f = some none := by
 unfold PySem.W.takerIn;rw [show PySem.W.findIn K (.ref C) f = some none from n];rfl
structure Meth (K : PySem.W.Frag) (C : Addr) (m : Str) (f : Addr) : Prop where
 at_ : PySem.W.findIn K (.ref C) m = some (some (.ref f))
 fn : PySem.W.isFn K (.ref f) = true
 kp : PySem.W.keepIn K (.ref f) = true
section
variable {X : Cx} {pins : List (Addr × Obj)} {σ : St} {H : Hp} {s : Shared} {a C dx : Addr} {fs : List (Str × V)} {f : Str} {v : V} {A : Around} {E : Value -> Shared -> Prop}
theorem zpi {b : Bool} {Q : Value -> Shared -> Prop} (I : Inv X pins σ H s) (e : H a = some (.ins C dx fs)) (c : Cls X.K C) (n : zcq X.K C f) (l : fs.lookup f = some v)
  (h : ∀ u s', Inv X pins σ H s' -> RelV v u -> Q u s') : wpAny (model X.prog X.w) A (getAttr (.ref a) f b) Q E s := by
 obtain ⟨mA, O, r, _, _, _⟩ := zkf I.hok e;obtain ⟨u, hu, ru⟩ := RelO.some_of (v := v) (o := mA f) (by rw [<- l]; exact r f);exact zwo I.kIn O (c.get f) c.hd n hu (zlf ru) (h u _ (I.tok _) ru)
theorem zg0 {m : Str} {g : Addr} {pl : Sem Bool} {Q : Value × List Value -> Shared -> Prop} (I : Inv X pins σ H s) (e : H a = some (.ins C dx fs)) (c : Cls X.K C) (k : Meth X.K C m g) (l : fs.lookup m = none)
  (h : Q (.ref g, [.ref a]) s) : wpAny (model X.prog X.w) A (getMethod (.ref a) m pl) Q E s := by
 obtain ⟨mA, O, r, _, _, _⟩ := zkf I.hok e;have hn : mA m = none := RelO.none_of (by rw [<- l]; exact r m);exact ztp I.kIn O (c.get m) k.at_ k.fn hn h
theorem zpj {y : V} {u : Value} {Q : Unit -> Shared -> Prop} (I : Inv X pins σ H s) (e : H a = some (.ins C dx fs)) (c : Cls X.K C) (n : zcq X.K C f) (hl : fs.length < 1000) (ry : RelV y u)
  (h : ∀ s', Inv X pins σ (upd H a (.ins C dx (putF f y fs))) s' -> Q () s') : wpAny (model X.prog X.w) A (setAttr (.ref a) f u) Q E s := by
 obtain ⟨mA, O, r, wi, _, ho⟩ := zkf I.hok e;have hz : (fs.map (·.1)).length <= sizeLine := by rw [List.length_map, sizeLine_eq]; omega
 refine zwp I.kIn O c.sa c.po n.taker c.hd wi hz fun h' O' sb => h _ ?_;have hd : ∃ o, h'.get? dx = some o := let ⟨o, _, _, e', _⟩ := O'.ns; ⟨o, e'⟩;refine I.write (x := a) (e := dx) (by rw [e]; exact True.intro) (.inr ho) (fun b q hb z => (sb.2 b hb).trans z) hd ?_;refine ⟨by rw [zah O.ne]; exact ho, ?_, O.ne, O'.obj, _, O'.ns, fun g => ?_, fun g hg => ?_⟩
 ·have := zh9 f y fs; omega
 ·show RelO ((putF f y fs).lookup g) (if g = f then some u else mA g)
  rw [zf9];by_cases q : g = f
  ·rw [if_pos q, if_pos q]; exact ry
  ·rw [if_neg q, if_neg q]; exact r g
 ·by_cases q : g = f
  ·rw [q]; exact (zh8 f y fs).1
  ·refine (zh8 f y fs).2 g (wi g fun z => hg ?_)
   show (if g = f then some u else mA g) = none;rw [if_neg q]; exact z
theorem Inv.made (I : Inv X pins σ H s) : Inv X pins σ (upd (upd H s.heap.objs.size (.own (s.heap.objs.size + 1))) (s.heap.objs.size + 1) (.ins C s.heap.objs.size []))
  { s with heap := (s.heap.push PySem.W.emptyDict).push (PySem.W.instObj C s.heap.objs.size) } := by
 have e1 : (s.heap.push PySem.W.emptyDict).get? s.heap.objs.size = some PySem.W.emptyDict := Heap.get?_push_size s.heap rfl;have e2 : ((s.heap.push PySem.W.emptyDict).push (PySem.W.instObj C s.heap.objs.size)).get? (s.heap.objs.size + 1) = some (PySem.W.instObj C s.heap.objs.size) := by
  have := Heap.get?_push_size (s.heap.push PySem.W.emptyDict) (o := PySem.W.instObj C s.heap.objs.size) rfl;rwa [Heap.size_push] at this
 have e3 : (s.heap.push PySem.W.emptyDict).Ns s.heap.objs.size (fun _ => none) := ⟨PySem.W.emptyDict, #[], _, e1, rfl, (fun e he => absurd he (by simp)), fun _ => rfl⟩;have I1 := I.laid (a := s.heap.objs.size) (o := .own (s.heap.objs.size + 1)) (h' := s.heap.push PySem.W.emptyDict) (t' := s.toks) (fun b u q => Heap.get?_push_of_some _ q) (Nat.le_refl _) ⟨_, e1⟩;refine I1.laid (a := s.heap.objs.size + 1) (o := .ins C s.heap.objs.size []) (t' := s.toks) (fun b u q => Heap.get?_push_of_some _ q) (Nat.le_of_eq (Heap.size_push _ _)) ?_;have ne : s.heap.objs.size ≠ s.heap.objs.size + 1 := Nat.ne_of_lt (Nat.lt_succ_self _);refine ⟨by rw [zah ne, zaj], Nat.zero_le _, ne, e2, fun _ => none, (Heap.Ns1.of_empty e3).at fun o q => Heap.get?_push_of_some _ q, fun _ => True.intro, fun y hy => absurd rfl hy⟩
theorem zqs {prog : Program} {w : World} {env : Env} {e : Expr} {f : Str} {pos : Pos} {s : Shared} {Q : Value -> Shared -> Prop} (hb : attributeBase e f env (eval e env) = eval e env)
  (h : wpAny (model prog w) A (eval e env) (fun o s₁ => wpAny (model prog w) A (getAttr o f true) Q E s₁) E s) : wpAny (model prog w) A (eval (.Attribute e f pos) env) Q E s :=
 Attribute_any_ h (by rw [arm_eval_Attribute, hb])
end
def tFld (K : PySem.W.Frag) (ta : TE) (f : Str) : TE := fun σ H Q => ta σ H fun x H1 => ∃ a C dx fs v, x = .ref a /\ H1 a = some (.ins C dx fs) /\ Cls K C /\ zcq K C f /\ fs.lookup f = some v /\ Q v H1
def sFld (K : PySem.W.Frag) (ta tv : TE) (f : Str) : TS := fun D σ H => tv σ H fun y H1 => ta σ H1 fun x H2 => ∃ a C dx fs, x = .ref a /\ H2 a = some (.ins C dx fs) /\ Cls K C /\ zcq K C f /\ fs.length < 1000 /\
 D.nx σ (upd H2 a (.ins C dx (putF f y fs)))
section
variable {X : Cx} {o e value : Expr} {f : Str} {pos pos' tpos : Pos} {ta tv : TE}
theorem zze (he : PE X e ta) (hb : attributeBase e f X.env (eval e X.env) = eval e X.env) : PE X (.Attribute e f pos) (tFld X.K ta f) := by
 intro pins s σ H Q I h;refine zqs hb (thn (he pins s σ H _ I h) fun u s1 hq_ => ?_);obtain ⟨x, H1, I1, rx, a, C, dx, fs, v, ex, ea, c, n, l, q⟩ := hq_;subst ex;obtain rfl : u = Value.ref a := rx;exact zpi I1 ea c n l fun u' s2 I2 ru => ⟨v, H1, I2, ru, q⟩
theorem zzf (ha : PE X o ta) (hv : PE X value tv) (hs : swapsWith value (some (.Attribute o f pos')) pos.line X.env = pure false) : PS X (.Assign [.Attribute o f pos'] value pos) (sFld X.K ta tv f) := by
 intro pins s σ H D I h;refine plainObj_wpAny_Assign_Attribute (thn (hv pins s σ H _ I h) fun u s1 hq_ => ?_) hs;obtain ⟨y, H1, I1, ry, q⟩ := hq_;refine thn (ha pins s1 σ H1 _ I1 q) fun ov s2 hq_ => ?_;obtain ⟨x, H2, I2, rx, a, C, dx, fs, ex, ea, c, n, l, q2⟩ := hq_;subst ex;obtain rfl : ov = Value.ref a := rx;exact zpj I2 ea c n l ry fun s3 I3 => ⟨σ, _, I3, q2⟩
theorem zwq {pl : Sem Bool} {m : Str} {apos : Pos} {args : List Expr} {pins : List (Addr × Obj)} {s : Shared} {σ : St} {H : Hp} {Q : Value -> Shared -> Prop} {te : TE} (he : PE X e te) (I : Inv X pins σ H s)
  (h : te σ H fun x H1 => ∃ a C dx fs g, x = .ref a /\ H1 a = some (.ins C dx fs) /\ Cls X.K C /\ Meth X.K C m g /\ fs.lookup m = none /\
   ∀ s1, Inv X pins σ H1 s1 -> wpAny (model X.prog X.w) X.A (callWith pos (.ref g) [.ref a] (backTo pos (starEach args X.env)) (backToKw pos (keywordEach [] X.env))) Q X.xe s1)
  (ht : eval (.Call (.Attribute e m apos) args [] pos) X.env = (do
   let ov <- eval e X.env
   standAt apos.atName
   let (f, first) <- holding [ov] (getMethod ov m pl)
   callWith pos f first (backTo pos (starEach args X.env)) (backToKw pos (keywordEach [] X.env)))) :
  wpAny (model X.prog X.w) X.A (eval (.Call (.Attribute e m apos) args [] pos) X.env) Q X.xe s := by
 refine PySem.W.methodCall_KW (pl := pl) (thn (he pins s σ H _ I h) fun u s1 hq_ => ?_) ht;obtain ⟨x, H1, I1, rx, a, C, dx, fs, g, ex, ea, c, k, l, q⟩ := hq_;subst ex;obtain rfl : u = Value.ref a := rx;exact zg0 I1 ea c k l (q s1 I1)
end
section
variable {X : Cx} {pins : List (Addr × Obj)} {σ : St} {H : Hp} {s : Shared} {A : Around} {E : Value -> Shared -> Prop} {Q : Value -> Shared -> Prop} {c : Value} {b : Bool}
inductive TyOf (K : PySem.W.Frag) (H : Hp) : V -> Value -> Prop where
 | non : TyOf K H .non (.type "NoneType")
 | bl (x : Bool) : TyOf K H (.bl x) (.type "bool")
 | int (i : Int) : TyOf K H (.int i) (.type "int")
 | str (x : Str) : TyOf K H (.str x) (.type "str")
 | flt (x : UInt64) : TyOf K H (.flt x) (.type "float")
 | lst {a : Addr} {xs : List V} (e : H a = some (.lst xs)) : TyOf K H (.ref a) (.type "list")
 | frz {a : Addr} {o : Obj} {xs : List V} (e : H a = some (.frz o (.lst xs))) : TyOf K H (.ref a) (.type "list")
 | tup {a : Addr} {xs : List V} (e : H a = some (.tup xs)) : TyOf K H (.ref a) (.type "tuple")
 | dK {a : Addr} {kvs : List (Key × V)} (e : H a = some (.dK kvs)) : TyOf K H (.ref a) (.type "dict")
 | dT {a : Addr} {kvs : List (List Key × V)} (e : H a = some (.dT kvs)) : TyOf K H (.ref a) (.type "dict")
 | ins {a C dx : Addr} {fs : List (Str × V)} (e : H a = some (.ins C dx fs)) (cl : Cls K C) (ha : PySem.W.findIn K (.ref C) "__class__" = some (some (.builtin "object.__class__")))
  (hn : PySem.W.specialIn K (.builtin "object.__class__") "__get__" = some (some (.builtin "getset_descriptor.__get__"))) (htk : PySem.W.takesIn K (.builtin "object.__class__") = some true)
  (hm : PySem.W.mroIn K C (.type "object") = some true) : TyOf K H (.ref a) (.ref C)
theorem zqt {x : V} {u t : Value} (I : Inv X pins σ H s) (rx : RelV x u) (ty : TyOf X.K H x t) (e : PySem.W.kitOne X.K t c = some b) (h : ∀ tk, Q (.bool b) { s with toks := tk }) :
  wpAny (model X.prog X.w) A (call (.builtin "isinstance") [u, c]) Q E s := by
 cases ty with
 | non => cases (show u = Value.none from rx); exact PySem.W.kia_one PySem.W.kitx_none I.kIn True.intro e (fun z => nomatch z) h
 | bl y => cases (show u = Value.bool y from rx); exact PySem.W.kia_one PySem.W.kitx_bool I.kIn True.intro e (fun z => nomatch z) h
 | int i => obtain ⟨t, q⟩ := (show ∃ t, u = Value.int i t from rx); cases q; exact PySem.W.kia_one PySem.W.kitx_int I.kIn True.intro e (fun z => nomatch z) h
 | str y => obtain ⟨t, q⟩ := (show ∃ t, u = Value.str y t from rx); cases q; exact PySem.W.kia_one PySem.W.kitx_str I.kIn True.intro e (fun z => nomatch z) h
 | flt y => obtain ⟨t, q⟩ := (show ∃ t, u = Value.float y t from rx); cases q; exact PySem.W.kia_one PySem.W.kitx_float I.kIn True.intro e (fun z => nomatch z) h
 | @lst a xs ea =>
   cases (show u = Value.ref a from rx);obtain ⟨_, _, n, _, h1⟩ := (show zcb X.prog X.w H s.heap a (.lst xs) from I.hok a _ ea);exact PySem.W.kia_one PySem.W.kitx_list I.kIn ⟨_, h1, rfl⟩ e (fun z => nomatch z) h
 | @frz a ob xs ea =>
   cases (show u = Value.ref a from rx);obtain ⟨_, _, _, n, _, h1⟩ := (show zcb X.prog X.w H s.heap a (.frz ob (.lst xs)) from I.hok a _ ea);exact PySem.W.kia_one PySem.W.kitx_list I.kIn ⟨_, h1, rfl⟩ e (fun z => nomatch z) h
 | @tup a xs ea =>
   cases (show u = Value.ref a from rx);obtain ⟨_, _, _, p⟩ := (show zcb X.prog X.w H s.heap a (.tup xs) from I.hok a _ ea);obtain ⟨o, h1, h2, _⟩ := p;exact PySem.W.kia_one PySem.W.kitx_tuple I.kIn ⟨o, h1, h2⟩ e (fun z => nomatch z) h
 | @dK a kvs ea =>
   cases (show u = Value.ref a from rx);obtain ⟨_, _, vs, _, p⟩ := (show zcb X.prog X.w H s.heap a (.dK kvs) from I.hok a _ ea);obtain ⟨o, es, ep, h1, h2, _⟩ := p;exact PySem.W.kia_one PySem.W.kitx_dict I.kIn ⟨o, h1, h2.1⟩ e (fun z => nomatch z) h
 | @dT a kvs ea =>
   cases (show u = Value.ref a from rx);obtain ⟨_, _, xs, _, o, es, ep, h1, h2, _⟩ := (show zcb X.prog X.w H s.heap a (.dT kvs) from I.hok a _ ea);exact PySem.W.kia_one PySem.W.kitx_dict I.kIn ⟨o, h1, h2.1⟩ e (fun z => nomatch z) h
 | @ins a C dx fs ea cl ha hn htk hm =>
   cases (show u = Value.ref a from rx);obtain ⟨mA, O, _⟩ := zkf I.hok ea;obtain ⟨od, J, _⟩ := O.look;exact PySem.W.kia_one (PySem.W.kitx_own (cl.get _) cl.hd ha hn htk hm) I.kIn J e (fun z => nomatch z) h
end
end L2
namespace L2
open PySem PySem.Spec PyProof.Rows
structure Room (k : Nat) (A : Around) : Prop where
 hd : A.handled = none
 dp : A.depth + 3 * k + 5 < recursionLimit
 un : A.units + 16 * k + 200 < cLine
 gd : A.guards = some []
theorem Room.mono {j k : Nat} {A : Around} (r : Room k A) (h : j <= k) : Room j A := ⟨r.hd, by have := r.dp; omega, by have := r.un; omega, r.gd⟩
theorem Room.deeper {k : Nat} {A : Around} (r : Room (k + 1) A) (env : Env) : Room k (A.deeper env) :=
 ⟨r.hd, by have := r.dp; show A.depth + 1 + 3 * k + 5 < _; omega, by have := r.un; show A.units + 3 + 16 * k + 200 < _; omega, r.gd⟩
theorem Room.in1 {k : Nat} {A : Around} (r : Room (k + 1) A) : Room k A.in1 :=
 ⟨r.hd, by have := r.dp; show A.depth + 3 * k + 5 < _; omega, by have := r.un; show A.units + 1 + 16 * k + 200 < _; omega, r.gd⟩
theorem zpk {A : Around} {C : Addr} {us : List Value} {kw : List (Str × Value)} : (A.under (.builtin "type.__call__" ⟨.ref C :: us, kw⟩)).depth = A.depth + 1 := by
 first | rfl | simp [Around.under, Code.weight, Code.isCreation, Code.isGuard, Code.isCaller, Code.frames, Code.isFrame, guardIds]
theorem zpl {A : Around} {C : Addr} {us : List Value} {kw : List (Str × Value)} : (A.under (.builtin "type.__call__" ⟨.ref C :: us, kw⟩)).units = A.units + 1 := by
 first | rfl | simp [Around.under, Code.cUnits, Code.frames, Code.isFrame]
theorem zm0 {A : Around} {C : Addr} {us : List Value} {kw : List (Str × Value)} (h : A.guards = some []) : (A.under (.builtin "type.__call__" ⟨.ref C :: us, kw⟩)).guards = some [] := by
 have e : (Code.builtin "type.__call__" ⟨.ref C :: us, kw⟩).guards = [] := by first | rfl | simp [Code.guards, Code.isGuard, guardIds]
 unfold Around.under;simp only [e, h];rfl
theorem Room.make {k : Nat} {A : Around} (r : Room (k + 1) A) (C : Addr) (us : List Value) (kw : List (Str × Value)) : Room k (A.under (.builtin "type.__call__" ⟨.ref C :: us, kw⟩)) :=
 ⟨r.hd, by have := r.dp; rw [zpk]; omega, by have := r.un; rw [zpl]; omega, zm0 r.gd⟩
theorem Room.depth {k : Nat} {A : Around} (r : Room k A) : A.depth < recursionLimit := by have := r.dp; omega
theorem Room.units {k : Nat} {A : Around} (r : Room k A) : A.units + 64 < cLine := by have := r.un; omega
def tNil : TA := fun _ H Q => Q [] H
def zqu (ta : TE) (tr : TA) : TA := fun σ H Q => ta σ H fun x H1 => tr σ H1 fun xs H2 => Q (x :: xs) H2
section
variable {X : Cx} {e : Expr} {es : List Expr} {te : TE} {t : TA} {pos : Pos}
theorem zhe : PA X [] tNil := fun _ _ _ _ H Q I h => Calls.spliced_nil ⟨[], H, I, .nil, h⟩
theorem zds (ha : PE X e te) (hr : PA X es t) (hs : starEach (e :: es) X.env = (false, eval e X.env) :: starEach es X.env := by rfl) : PA X (e :: es) (zqu te t) := by
 intro pos pins s σ H Q I h;rw [hs];show wpAny _ _ (spliced ((false, eval e X.env) :: backTo pos (starEach es X.env))) _ _ s;refine Calls.spliced_cons (thn (ha pins s σ H _ I h) fun u s1 hq_ => ?_);obtain ⟨x, H1, I1, r1, q1⟩ := hq_;exact thn (hr pos pins s1 σ H1 _ I1 q1) fun us s2 ⟨xs, H2, I2, r2, q2⟩ => ⟨x :: xs, H2, I2, .cons r1 r2, q2⟩
def tTup (t : TA) : TE := fun σ H Q => t σ H fun xs H1 => xs.length <= sizeLine /\ ∀ p, H1 p = none -> Q (.ref p) (upd H1 p (.tup xs))
def tLst (t : TA) : TE := fun σ H Q => t σ H fun xs H1 => xs.length <= sizeLine /\ ∀ p, H1 p = none -> Q (.ref p) (upd H1 p (.lst xs))
theorem zzg {x1} (h : PA X es t) : PE X (.Tuple es x1 pos) (tTup t) := by
 intro pins s σ H Q I hq;refine wpAny_Tuple_spliced (thn (h pos pins s σ H _ I hq) fun us s1 ⟨xs, H1, I1, r, z, q⟩ => ⟨by rw [<- r.length]; exact z, ?_⟩);have hf : H1 s1.heap.objs.size = none := I1.hok.fresh (Nat.le_refl _);refine ⟨.ref s1.heap.objs.size, upd H1 s1.heap.objs.size (.tup xs), I1.laid (t' := s1.toks) (fun b u e => Heap.get?_push_of_some _ e) (Nat.le_refl _) ?_, rfl, q _ hf⟩;exact ⟨z, us, r, ⟨_, Heap.get?_push_size _ rfl, rfl, _, rfl⟩⟩
theorem zvh (h : PA X es t) : PE X (.List es pos) (tLst t) := by
 intro pins s σ H Q I hq;refine wpAny_List_spliced (thn (h pos pins s σ H _ I hq) fun us s1 ⟨xs, H1, I1, r, z, q⟩ => ⟨by rw [<- r.length]; exact z, ?_⟩);have hf : H1 s1.heap.objs.size = none := I1.hok.fresh (Nat.le_refl _);refine ⟨.ref s1.heap.objs.size, upd H1 s1.heap.objs.size (.lst xs), I1.laid (t' := s1.toks) (fun b u e => Heap.get?_push_of_some _ e) (Nat.le_refl _) ?_, rfl, q _ hf⟩;exact ⟨z, us, 0, r, Heap.get?_push_size _ rfl⟩
end
abbrev Sp := List V -> Hp -> VK -> XK -> Prop
abbrev CXT := List Env -> Hp -> Shared -> XK -> Value -> Shared -> Prop
structure Env0 (P : Program) (w : World) (K : PySem.W.Frag) (mg : Str -> Option Value) (base : Heap) (A : Around) (outer : List Env) (s : Shared) (H : Hp) : Prop where
 frames : A.frames = some outer
 mod : Mod K mg base
 bs : ∀ b o, base.get? b = some o -> s.heap.get? b = some o /\ H b = none
 bsz : base.objs.size <= s.heap.objs.size
 funs : s.heap.FunFrames base outer
 frf : ∀ b ∈ frs outer, H b = none
 hok : HOk P w H s.heap
 bare : AllBare s.gens
def CE (outer : List Env) (P : Program) (w : World) (H : Hp) (s : Shared) (Q : VK) (u : Value) (s' : Shared) : Prop :=
 ∃ v H', s'.os = s.os /\ AllBare s'.gens /\ Un (frs outer) [] H H' s.heap s'.heap /\ HOk P w H' s'.heap /\ RelV v u /\ Q v H'
def CR (CX : CXT) (outer : List Env) (P : Program) (w : World) (H : Hp) (s : Shared) (Q : VK) (E : XK) (r : Result) (s' : Shared) : Prop :=
 match r with
 | .ok (.ret u) => CE outer P w H s Q u s'
 | .ok _ => False
 | .error e => CX outer H s E e s'
structure FnOk (P : Program) (w : World) (K : PySem.W.Frag) (mg : Str -> Option Value) (base : Heap) (CX : CXT) (k : Nat) (f : Addr) (fd : FuncData) (ps : List Str) (sp : Sp) : Prop where
 len : ∀ vs H Q E, sp vs H Q E -> vs.length = ps.length
 run : ∀ (A : Around) (outer : List Env) (s : Shared) (H : Hp) (args : Args) (us : List Value) (vs : List V) (Q : VK) (E : XK), Room k A -> Env0 P w K mg base A outer s H -> BindsTo s fd args (ps.zip us) -> Vals vs us -> sp vs H Q E ->
  codeAny (model P w) A (.call (.ref f) args) (CR CX outer P w H s Q E) s
theorem FnOk.mono {P : Program} {w : World} {K : PySem.W.Frag} {mg : Str -> Option Value} {base : Heap} {CX : CXT} {j k : Nat} {f : Addr} {fd : FuncData} {ps : List Str} {sp : Sp} (F : FnOk P w K mg base CX j f fd ps sp) (h : j <= k) :
 FnOk P w K mg base CX k f fd ps sp := ⟨F.len, fun A outer s H args us vs Q E hr => F.run A outer s H args us vs Q E (hr.mono h)⟩
theorem FnOk.imp {P : Program} {w : World} {K : PySem.W.Frag} {mg : Str -> Option Value} {base : Heap} {CX : CXT} {k : Nat} {f : Addr} {fd : FuncData} {ps : List Str} {sp sp' : Sp} (F : FnOk P w K mg base CX k f fd ps sp)
  (h : ∀ vs H Q E, sp' vs H Q E -> sp vs H Q E) : FnOk P w K mg base CX k f fd ps sp' :=
 ⟨fun vs H Q E q => F.len vs H Q E (h _ _ _ _ q), fun A outer s H args us vs Q E hr he hb hv hs => F.run A outer s H args us vs Q E hr he hb hv (h _ _ _ _ hs)⟩
theorem Env0.make {P : Program} {w : World} {K : PySem.W.Frag} {mg : Str -> Option Value} {base : Heap} {A : Around} {outer : List Env} {s : Shared} {H : Hp} (e : Env0 P w K mg base A outer s H) (C : Addr) (us : List Value) (kw : List (Str × Value)) :
 Env0 P w K mg base (A.under (.builtin "type.__call__" ⟨.ref C :: us, kw⟩)) outer s H := ⟨by first | exact e.frames | (simpa [Around.under, Code.envs, Code.isFrame, pushEnvs] using e.frames), e.mod, e.bs, e.bsz, e.funs, e.frf, e.hok, e.bare⟩
theorem Env0.in1 {P : Program} {w : World} {K : PySem.W.Frag} {mg : Str -> Option Value} {base : Heap} {A : Around} {outer : List Env} {s : Shared} {H : Hp} (e : Env0 P w K mg base A outer s H) :
 Env0 P w K mg base A.in1 outer s H := ⟨e.frames, e.mod, e.bs, e.bsz, e.funs, e.frf, e.hok, e.bare⟩
section
variable {X : Cx} {pins : List (Addr × Obj)} {σ : St} {H : Hp} {s s' : Shared}
theorem Inv.env0 (I : Inv X pins σ H s) : Env0 X.prog X.w X.K X.mg X.base X.A X.stack s H :=
 ⟨I.ok.frames, I.ok.mod, I.bs, Nat.le_trans I.ok.bsz I.sz, I.stack, I.stkFree, I.hok, I.bare⟩
theorem Inv.after {Q : VK} {u : Value} (I : Inv X pins σ H s) (h : CE X.stack X.prog X.w H s Q u s') : EP X pins σ Q u s' := by
 obtain ⟨v, H', os, bare, un, hok, r, q⟩ := h;obtain ⟨hh, g, d, t, os'⟩ := s';obtain rfl : os' = s.os := os;exact ⟨v, H', I.call (h' := hh) (g' := g) (d' := d) (t' := t) (ch := []) un hok bare (fun b z => absurd z (by simp)), r, q⟩
end
def zzh (sp : Sp) (dvs : List V) (E : XK) (t : TA) : TE := fun σ H Q => t σ H fun vs H1 => sp (vs ++ dvs) H1 Q E
def zwr (C : Addr) (m : Str) (sp : Sp) (dvs : List V) (E : XK) (ta : TE) (t : TA) : TE := fun σ H Q => ta σ H fun x H1 => ∃ a dx fs, x = .ref a /\ H1 a = some (.ins C dx fs) /\ fs.lookup m = none /\
 t σ H1 fun vs H2 => sp (x :: (vs ++ dvs)) H2 Q E
def zws (C : Addr) (sp : Sp) (dvs : List V) (E : XK) (t : TA) : TE := fun σ H Q => t σ H fun vs H1 => ∀ x dx, H1 x = none -> H1 dx = none -> dx ≠ x ->
 sp (.ref x :: (vs ++ dvs)) (upd (upd H1 dx (.own x)) x (.ins C dx [])) (fun v H2 => v = .non /\ Q (.ref x) H2) E
def zeg (K : PySem.W.Frag) (fd : FuncData) (ps : List Str) (ds : List Value) : Prop :=
 ∀ (s : Shared) (us : List Value), K.In s.heap -> (us ++ ds).length = ps.length -> BindsTo s fd ⟨us, []⟩ (ps.zip (us ++ ds))
theorem zeg.all {K : PySem.W.Frag} {fd : FuncData} {ps : List Str} (h : ∀ us : List Value, us.length = ps.length -> bindArgs fd ⟨us, []⟩ = pure (ps.zip us)) : zeg K fd ps [] := fun s us _ hl => by
 rw [List.append_nil] at hl ⊢;exact .of_eq (h us hl)
def zc7 (CX : CXT) (X : Cx) (E : XK) : Prop := ∀ (pins : List (Addr × Obj)) (σ : St) (H : Hp) (s : Shared) (e : Value) (s' : Shared), Inv X pins σ H s -> CX X.stack H s E e s' -> X.xe e s'
section
variable {X : Cx} {CX : CXT} {k : Nat} {f C : Addr} {fd : FuncData} {ps : List Str} {sp : Sp} {dvs : List V} {ds : List Value} {E : XK} {x m : Str} {p pos apos : Pos} {e o : Expr} {es : List Expr} {ta : TE} {t : TA}
theorem zqv {pins : List (Addr × Obj)} {σ : St} {H : Hp} {s : Shared} {Q : VK} {us : List Value} {vs : List V} (F : FnOk X.prog X.w X.K X.mg X.base CX k f fd ps sp) (hr : Room k X.A) (hb : zeg X.K fd ps ds) (hd : Vals dvs ds) (hx : zc7 CX X E)
  (I : Inv X pins σ H s) (r : Vals vs us) (h : sp (vs ++ dvs) H Q E) : wpAny (model X.prog X.w) X.A (call (.ref f) us) (EP X pins σ Q) X.xe s := by
 have r2 : Vals (vs ++ dvs) (us ++ ds) := r.append hd;have hl : (us ++ ds).length = ps.length := by rw [<- r2.length]; exact F.len _ _ _ _ h
 refine wpAny_call (codeAny_mono (F.run X.A X.stack s H ⟨us, []⟩ (us ++ ds) (vs ++ dvs) Q E hr I.env0 (hb s us I.kIn hl) r2 h) fun r s' hq => ?_);cases r with
 | error e => exact hx pins σ H s e s' I hq
 | ok fl =>
   cases fl with
   | ret u => exact I.after hq
   | next => exact False.elim hq
   | brk => exact False.elim hq
   | cont => exact False.elim hq
theorem zwt (F : FnOk X.prog X.w X.K X.mg X.base CX k f fd ps sp) (hr : Room k X.A) (hg : Gl X x) (hm : X.mg x = some (.ref f)) (hk : PySem.W.keepIn X.K (.ref f) = true) (hb : zeg X.K fd ps ds) (hd : Vals dvs ds) (hx : zc7 CX X E)
  (ha : PA X (e :: es) t) (hdb : (x == ("__debug__" : Str)) = false := by decide) (he : starEach (e :: es) X.env = (false, eval e X.env) :: starEach es X.env := by rfl) (hpl : (backTo pos (starEach es X.env)).any (·.1) = false := by rfl) :
  PE X (.Call (.Name x p) (e :: es) [] pos) (zzh sp dvs E t) := by
 intro pins s σ H Q I h;refine wpAny_Call_Name_kw (zfc I hg hm ?_ hdb);refine PySem.W.callWith_K (h₀ := X.base) I.ok.mod.kin hk (thn (ha pos pins s σ H _ I h) fun us s1 ⟨vs, H1, I1, r, q⟩ => ⟨I1.kIn, ?_⟩) he hpl;exact zqv F hr hb hd hx I1 r q
theorem zqw {pl : Sem Bool} (he : PE X o ta) (c : Cls X.K C) (hm : Meth X.K C m f) (F : FnOk X.prog X.w X.K X.mg X.base CX k f fd ps sp) (hr : Room k X.A) (hb : zeg X.K fd ps ds) (hd : Vals dvs ds) (hx : zc7 CX X E) (ha : PA X (e :: es) t)
  (hst : starEach (e :: es) X.env = (false, eval e X.env) :: starEach es X.env := by rfl) (hpl : (backTo pos (starEach es X.env)).any (·.1) = false := by rfl)
  (ht : eval (.Call (.Attribute o m apos) (e :: es) [] pos) X.env = (do
   let ov <- eval o X.env
   standAt apos.atName
   let (f, first) <- holding [ov] (getMethod ov m pl)
   callWith pos f first (backTo pos (starEach (e :: es) X.env)) (backToKw pos (keywordEach [] X.env))) := by rfl) :
  PE X (.Call (.Attribute o m apos) (e :: es) [] pos) (zwr C m sp dvs E ta t) := by
 intro pins s σ H Q I h;refine PySem.W.methodCall_KW (pl := pl) (thn (he pins s σ H _ I h) fun u s1 hq_ => ?_) ht;obtain ⟨x, H1, I1, rx, a, dx, fs, ex, ea, l, q⟩ := hq_;subst ex;obtain rfl : u = Value.ref a := rx;refine zg0 I1 ea c hm l ?_;refine PySem.W.callWith_K (first := [.ref a]) (h₀ := X.base) I.ok.mod.kin hm.kp (thn (ha pos pins s1 σ H1 _ I1 q) fun us s2 ⟨vs, H2, I2, r, q2⟩ => ⟨I2.kIn, ?_⟩) hst hpl;exact zqv (us := .ref a :: us) (vs := .ref a :: vs) F hr hb hd hx I2 (.cons rfl r) q2
theorem ztr {pl : Sem Bool} (he : PE X o ta) (c : Cls X.K C) (hm : Meth X.K C m f) (F : FnOk X.prog X.w X.K X.mg X.base CX k f fd ps sp) (hr : Room k X.A) (hb : zeg X.K fd ps ds) (hd : Vals dvs ds) (hx : zc7 CX X E)
  (ht : eval (.Call (.Attribute o m apos) [] [] pos) X.env = (do
   let ov <- eval o X.env
   standAt apos.atName
   let (f, first) <- holding [ov] (getMethod ov m pl)
   callWith pos f first (backTo pos (starEach [] X.env)) (backToKw pos (keywordEach [] X.env))) := by rfl) :
  PE X (.Call (.Attribute o m apos) [] [] pos) (zwr C m sp dvs E ta tNil) := by
 intro pins s σ H Q I h;refine PySem.W.methodCall_KW (pl := pl) (thn (he pins s σ H _ I h) fun u s1 hq_ => ?_) ht;obtain ⟨x, H1, I1, rx, a, dx, fs, ex, ea, l, q⟩ := hq_;subst ex;obtain rfl : u = Value.ref a := rx;refine zg0 I1 ea c hm l ?_;exact PySem.W.callWith_K0 (first := [.ref a]) I1.kIn hm.kp (zqv (us := [.ref a]) (vs := [.ref a]) F hr hb hd hx I1 (.cons rfl .nil) q)
structure Mk (K : PySem.W.Frag) (C f : Addr) : Prop where
 makes : PySem.W.makesIn K C = true
 init : PySem.W.findIn K (.ref C) "__init__" = some (some (.ref f))
 fn : PySem.W.isFn K (.ref f) = true
 kp : PySem.W.keepIn K (.ref C) = true
theorem zn7 {pins : List (Addr × Obj)} {σ : St} {H : Hp} {s : Shared} {Q : VK} {us : List Value} {vs : List V} (M : Mk X.K C f) (F : FnOk X.prog X.w X.K X.mg X.base CX k f fd ps sp) (hr : Room (k + 1) X.A) (hb : zeg X.K fd ps ds) (hd : Vals dvs ds)
  (hx : zc7 CX X E) (I : Inv X pins σ H s) (r : Vals vs us)
  (h : ∀ x dx, H x = none -> H dx = none -> dx ≠ x -> sp (.ref x :: (vs ++ dvs)) (upd (upd H dx (.own x)) x (.ins C dx [])) (fun v H2 => v = .non /\ Q (.ref x) H2) E) :
  wpAny (model X.prog X.w) X.A (call (.ref C) us) (EP X pins σ Q) X.xe s := by
 have hq := h (s.heap.objs.size + 1) s.heap.objs.size (I.hok.fresh (Nat.le_succ _)) (I.hok.fresh (Nat.le_refl _)) (Nat.ne_of_lt (Nat.lt_succ_self _));have I2 := Inv.made (C := C) I;have r2 : Vals (V.ref (s.heap.objs.size + 1) :: (vs ++ dvs)) (Value.ref (s.heap.objs.size + 1) :: (us ++ ds)) := .cons rfl (r.append hd);have hl : (Value.ref (s.heap.objs.size + 1) :: us ++ ds).length = ps.length := by
  have e := r2.length;rw [F.len _ _ _ _ hq] at e;exact e.symm
 refine wpAny_call (ztq (f := f) I.kIn M.makes M.init (beq_iff_eq.mp M.fn) (codeAny_mono (F.run _ X.stack _ _ ⟨Value.ref (s.heap.objs.size + 1) :: us, []⟩ (Value.ref (s.heap.objs.size + 1) :: (us ++ ds)) _ _ E (hr.make C us [])
  (I2.env0.make C us []) (hb _ (Value.ref (s.heap.objs.size + 1) :: us) I2.kIn hl) r2 hq) fun r s' hq' => ?_))
 cases r with
 | error e => exact hx pins σ _ _ e s' I2 hq'
 | ok fl =>
   cases fl with
   | ret u =>
     obtain ⟨v, H', I3, rv, ev, q3⟩ := I2.after hq';subst ev;exact ⟨rv, ⟨V.ref (s.heap.objs.size + 1), H', I3, rfl, q3⟩⟩
   | next => exact False.elim hq'
   | brk => exact False.elim hq'
   | cont => exact False.elim hq'
theorem zwu (M : Mk X.K C f) (F : FnOk X.prog X.w X.K X.mg X.base CX k f fd ps sp) (hr : Room (k + 1) X.A) (hg : Gl X x) (hm : X.mg x = some (.ref C)) (hb : zeg X.K fd ps ds) (hd : Vals dvs ds) (hx : zc7 CX X E)
  (ha : PA X (e :: es) t) (hdb : (x == ("__debug__" : Str)) = false := by decide) (he : starEach (e :: es) X.env = (false, eval e X.env) :: starEach es X.env := by rfl) (hpl : (backTo pos (starEach es X.env)).any (·.1) = false := by rfl) :
  PE X (.Call (.Name x p) (e :: es) [] pos) (zws C sp dvs E t) := by
 intro pins s σ H Q I h;refine wpAny_Call_Name_kw (zfc I hg hm ?_ hdb);refine PySem.W.callWith_K (h₀ := X.base) I.ok.mod.kin M.kp (thn (ha pos pins s σ H _ I h) fun us s1 ⟨vs, H1, I1, r, q⟩ => ⟨I1.kIn, ?_⟩) he hpl;exact zn7 M F hr hb hd hx I1 r q
theorem zts (M : Mk X.K C f) (F : FnOk X.prog X.w X.K X.mg X.base CX k f fd ps sp) (hr : Room (k + 1) X.A) (hg : Gl X x) (hm : X.mg x = some (.ref C)) (hb : zeg X.K fd ps ds) (hd : Vals dvs ds) (hx : zc7 CX X E)
  (hdb : (x == ("__debug__" : Str)) = false := by decide) : PE X (.Call (.Name x p) [] [] pos) (zws C sp dvs E tNil) := by
 intro pins s σ H Q I h;refine wpAny_Call_Name_kw (zfc I hg hm ?_ hdb);exact PySem.W.callWith_K0 I.kIn M.kp (zn7 (us := []) M F hr hb hd hx I .nil h)
end
structure zar (N P : List Str) (sc : Scope) : Prop where
 kind : sc.kind = .function
 co : sc.isCoroutine = false
 gen : sc.isGenerator = false
 nd : N.Nodup
 pre : N.take P.length = P
 par : ∀ x ∈ P, sc.names.lookup x = some .local \/ sc.names.lookup x = some .cell
 nofree : ∀ y ∈ sc.names, y.2 ≠ .free
theorem zlg {kindOf : Str -> Option NameKind} {x : Str} : ∀ {binds : List (Str × Value)} {m : Str -> Option Value}, (∀ v, (x, v) ∉ binds) -> bindL kindOf binds m x = m x
 | [], _, _ => rfl
 | (n, v) :: r, m, h => by
   unfold bindL;rw [zlg fun w hw => h w (List.mem_cons_of_mem _ hw)]
   split
   ·have : x ≠ n := by rintro rfl; exact h v List.mem_cons_self
    simp [this]
   ·rfl
theorem zlh {kindOf : Str -> Option NameKind} {x : Str} : ∀ {binds : List (Str × Value)} {m : Str -> Option Value}, (∀ v, (x, v) ∉ binds) -> bindC kindOf binds m x = m x
 | [], _, _ => rfl
 | (n, v) :: r, m, h => by
   unfold bindC;rw [zlh fun w hw => h w (List.mem_cons_of_mem _ hw)]
   split
   ·rfl
   ·have : x ≠ n := by rintro rfl; exact h v List.mem_cons_self
    simp [this]
theorem zli {kindOf : Str -> Option NameKind} {x : Str} {v : Value} : ∀ {P : List Str} {vs : List Value} {i : Nat} {m : Str -> Option Value}, P.Nodup -> P[i]? = some x -> vs[i]? = some v -> kindOf x = some .local ->
  bindL kindOf (P.zip vs) m x = some v
 | [], _, _, _, _, h, _, _ => by simp at h
 | _ :: _, [], _, _, _, _, h, _ => by simp at h
 | p :: P, w :: vs, 0, m, nd, h1, h2, hk => by
   simp at h1 h2; subst h1; subst h2;show bindL kindOf ((p, w) :: P.zip vs) m p = _;unfold bindL;rw [zlg fun v hv => (List.nodup_cons.mp nd).1 (List.of_mem_zip hv).1, if_pos hk];simp
 | p :: P, w :: vs, i + 1, m, nd, h1, h2, hk => by
   show bindL kindOf ((p, w) :: P.zip vs) m x = _;unfold bindL;exact zli (i := i) (List.nodup_cons.mp nd).2 (by simpa using h1) (by simpa using h2) hk
theorem zlj {kindOf : Str -> Option NameKind} {x : Str} {v : Value} : ∀ {P : List Str} {vs : List Value} {i : Nat} {m : Str -> Option Value}, P.Nodup -> P[i]? = some x -> vs[i]? = some v -> kindOf x ≠ some .local ->
  bindC kindOf (P.zip vs) m x = some v
 | [], _, _, _, _, h, _, _ => by simp at h
 | _ :: _, [], _, _, _, _, h, _ => by simp at h
 | p :: P, w :: vs, 0, m, nd, h1, h2, hk => by
   simp at h1 h2; subst h1; subst h2;show bindC kindOf ((p, w) :: P.zip vs) m p = _;unfold bindC;rw [zlh fun v hv => (List.nodup_cons.mp nd).1 (List.of_mem_zip hv).1, if_neg hk];simp
 | p :: P, w :: vs, i + 1, m, nd, h1, h2, hk => by
   show bindC kindOf ((p, w) :: P.zip vs) m x = _;unfold bindC;exact zlj (i := i) (List.nodup_cons.mp nd).2 (by simpa using h1) (by simpa using h2) hk
def start (N : List Str) (vs : List V) : St := vs.map some ++ List.replicate (N.length - vs.length) none
def cxOf (CX : CXT) (P : Program) (w : World) (K : PySem.W.Frag) (mg : Str -> Option Value) (base : Heap) (N : List Str) (qual : Str) (scope : Scope) (f : Addr) (cd : Value) (A : Around) (outer : List Env) (s : Shared) (H : Hp) (E : XK) : Cx where
 prog := P
 w := w
 K := K
 mg := mg
 base := base
 A := A.deeper (envOfC qual scope s.heap.objs.size f cd)
 N := N
 s₀ := s
 H₀ := H
 env := envOfC qual scope s.heap.objs.size f cd
 outer := outer
 stack := envOfC qual scope s.heap.objs.size f cd :: outer
 ex := []
 calm := true
 fn := fun _ => true
 pn := []
 xe := fun e s' => wpAny (model P w) (A.deeper (envOfC qual scope s.heap.objs.size f cd)) (leaving (envOfC qual scope s.heap.objs.size f cd) e) (fun _ s'' => CX outer H s E e s'') (fun e' s'' => CX outer H s E e' s'') s'
theorem zn8 {sc : Scope} {n : Nat} {x : Str} (h : sc.names.lookup x = some .cell) : ∃ c, (cellsFrom n sc.names []).lookup x = some c := by
 have q := PySem.W.cellsFrom_some sc.names n [] (.inl h);exact Option.isSome_iff_exists.mp q
theorem zqx {CX : CXT} {P : Program} {w : World} {K : PySem.W.Frag} {mg : Str -> Option Value} {base : Heap} {N ps : List Str} {qual : Str} {scope : Scope} {f : Addr} {cd : Value} {A : Around} {outer : List Env} {s s1 : Shared} {H : Hp} {E : XK} {us : List Value} {vs : List V}
  (S : zar N ps scope) (hd : A.handled = none) (e0 : Env0 P w K mg base A outer s H) (hl : vs.length = ps.length) (r : Vals vs us)
  (x : InCallC s s.heap.objs.size (bindL (envOfC qual scope s.heap.objs.size f cd).kindOf (ps.zip us) fun _ => none) (cellsFrom (s.heap.objs.size + 1) scope.names []) (bindC (envOfC qual scope s.heap.objs.size f cd).kindOf (ps.zip us) fun _ => none) s1) :
  Inv (cxOf CX P w K mg base N qual scope f cd A outer s H E) [] (start N vs) H s1 := by
 have hpl : ps.length <= N.length := by have := congrArg List.length S.pre; rw [List.length_take] at this; omega
 obtain ⟨h1, tk, rfl, hk⟩ := x.done;have noA : ∀ b : Addr, b ∉ (cxOf CX P w K mg base N qual scope f cd A outer s H E).ex := fun b z => absurd (show b ∈ ([] : List Addr) from z) (by simp);refine ⟨⟨e0.mod, S.kind, rfl, rfl, Nat.le_refl _, fun y z c h1 h2 => ?_, fun y hy => ?_, fun y c _ h => ?_, fun _ => hd, Around.frames_deeper e0.frames, .inr ⟨rfl, rfl⟩, fun b z => absurd z (noA b), e0.bs, e0.bsz, fun b _ _ => noA b, fun b z => absurd z (noA b), e0.funs, e0.frf⟩,
  rfl, e0.bare, Un.kept hk, ⟨_, x.toInCall.ns, fun i y v h1 h2 h3 => ?_⟩, fun y c h => ⟨_, x.cell y c h⟩, e0.hok.fresh (Nat.le_refl _), fun y c h => ?_, fun p hp => absurd (show p ∈ ([] : List (Addr × Obj)) from hp) (by simp), e0.hok.kept hk, ?_, fun i v e => nomatch (show (none : Option (Option V)) = some (some v) from e)⟩
 ·exact name_of_addr x.apart (PySem.mem_of_lookup h1) (PySem.mem_of_lookup h2)
 ·have hy : scope.names.lookup y = some .cell \/ scope.names.lookup y = some .free := hy
  rcases hy with hy | hy
  ·exact zn8 hy
  ·exact absurd rfl (S.nofree _ (PySem.mem_of_lookup hy))
 ·exact Nat.le_of_lt (x.above y c (PySem.mem_of_lookup h))
 ·have hi : i < vs.length := by
   unfold start at h2;by_cases hi : i < vs.length
   ·exact hi
   ·rw [List.getElem?_append_right (by simpa using hi)] at h2
    rw [List.getElem?_replicate] at h2
    split at h2 <;> cases h2
  have ha : vs[i]? = some v := by
   unfold start at h2;rw [List.getElem?_append_left (by simpa using hi), List.getElem?_map] at h2;cases e : vs[i]? with
   | none => rw [e] at h2; cases h2
   | some a => rw [e] at h2; cases h2; rfl
  obtain ⟨u, hu, rv⟩ := r.get ha;have hp : ps[i]? = some y := by
   rw [<- S.pre, List.getElem?_take_of_lt (by omega)]; exact h1
  have ndP : ps.Nodup := by rw [<- S.pre]; exact S.nd.sublist (List.take_sublist _ _)
  refine ⟨u, rv, ?_⟩;rcases S.par y (List.mem_of_getElem? hp) with k | k
  ·exact .inl ⟨k, zli ndP hp hu k⟩
  ·obtain ⟨c, e⟩ := zn8 (n := s.heap.objs.size + 1) k
   refine .inr ⟨.inl k, c, e, ?_⟩;have q := x.cell y c e;rw [zlj ndP hp hu (by show scope.names.lookup y ≠ _; rw [k]; decide)] at q;exact q
 ·exact e0.hok.fresh (Nat.le_of_lt (x.above y c (PySem.mem_of_lookup h)))
 ·unfold start
  show _ = N.length;rw [List.length_append, List.length_map, List.length_replicate];omega
theorem z17 {CX : CXT} {P : Program} {w : World} {K : PySem.W.Frag} {mg : Str -> Option Value} {base : Heap} {k : Nat} {f : Addr} {name qual : Str} {params : Arguments} {body : List Stmt} {scope : Scope} {dV kV doc pm cdv ct oc : Value} {an od : Option Addr}
  {osl : Array (Option Value)} {N ps : List Str} {sp : Sp} (lk : K.lookup f = some ⟨oc, od, .func (PySem.W.fnOf name qual params body scope dV kV doc pm an cdv ct), osl⟩) (hcd : PySem.W.codeIn K cdv qual = true) (S : zar N ps scope)
  (len : ∀ vs H Q E, sp vs H Q E -> vs.length = ps.length)
  (hbody : ∀ (A : Around) (outer : List Env) (s : Shared) (H : Hp) (vs : List V) (Q : VK) (E : XK), Room k (A.deeper (envOfC qual scope s.heap.objs.size f cdv)) -> sp vs H Q E ->
   ∃ t, PSs (cxOf CX P w K mg base N qual scope f cdv A outer s H E) body t /\ t { nx := fun _ H' => Q .non H', rt := Q } (start N vs) H) :
  FnOk P w K mg base CX (k + 1) f (PySem.W.fnOf name qual params body scope dV kV doc pm an cdv ct) ps sp := by
 refine ⟨len, fun A outer s H args us vs Q E hr e0 hb r hsp => ?_⟩;have hl := len _ _ _ _ hsp;have KX : K.In s.heap := e0.mod.kin.keeps fun b o e => (e0.bs b o e).1;have lim : s.heap.NoLimit := e0.mod.nolimit.keeps fun b o e => (e0.bs b o e).1;have hkind : ∀ y ∈ ps.zip us, scope.names.lookup y.1 = some .local \/ (scope.names.lookup y.1 = some .cell /\ ((cellsFrom (s.heap.objs.size + 1) scope.names []).lookup y.1).isSome = true) := fun ⟨n, v⟩ hy => by
  rcases S.par n (List.of_mem_zip hy).1 with q | q
  ·exact .inl q
  ·exact .inr ⟨q, PySem.W.cellsFrom_some _ _ _ (.inl q)⟩
 refine codeAny_call_function hr.depth (KX _ _ lk) rfl S.co S.gen rfl (PySem.W.codeRec_of KX hcd) (hb _ _ _ _ ?_);refine wpAny_newFunctionEnv_cells S.kind hkind fun env he s1 x => ?_;subst he;refine ⟨lim.keeps x.toInCall.keep, codeAny_func ?_⟩;obtain ⟨t, ht, hq⟩ := hbody A outer s H vs Q E (hr.deeper _) hsp;have I : Inv (cxOf CX P w K mg base N qual scope f cdv A outer s H E) [] (start N vs) H s1 := zqx S hr.hd e0 hl r x;refine wpAny_mono (ht [] s1 (start N vs) H _ I hq) (fun fl s' hs => ?_) fun e s' hs => hs;have fin : ∀ {σ' : St} {H' : Hp} {v : V} {u : Value}, Inv (cxOf CX P w K mg base N qual scope f cdv A outer s H E) [] σ' H' s' -> RelV v u -> Q v H' -> CE outer P w H s Q u s' :=
  fun {σ' H' v u} J rv q => ⟨v, H', J.os, J.bare, J.base, J.hok, rv, q⟩
 cases fl with
 | ret u =>
   obtain ⟨v, σ', H', J, rv, q⟩ := hs;exact fin J rv q
 | next =>
   obtain ⟨σ', H', J, q⟩ := hs;exact fin (v := V.non) (u := Value.none) J rfl q
 | brk =>
   obtain ⟨_, _, _, q⟩ := hs;exact False.elim q
 | cont =>
   obtain ⟨_, _, _, q⟩ := hs;exact False.elim q
end L2
namespace L2
open PySem PySem.Spec PyProof.Rows
section
variable {X : Cx} {x : Str} {p pos : Pos} {e : Expr} {es : List Expr} {t : TA} {id T : String} {r : List V -> Hp -> VK -> Prop}
def tCB (r : List V -> Hp -> VK -> Prop) (t : TA) : TE := fun σ H Q => t σ H fun vs H1 => r vs H1 Q
theorem zhu (hc : zf8 X (.builtin id) r) (hg : Gl X x) (hm : X.mg x = none) (hv : bootBuiltins x = some (.builtin id)) (ha : PA X (e :: es) t) (hn : x ≠ "__name__" := by decide) (hdb : (x == ("__debug__" : Str)) = false := by decide)
  (he : starEach (e :: es) X.env = (false, eval e X.env) :: starEach es X.env := by rfl) (hpl : (backTo pos (starEach es X.env)).any (·.1) = false := by rfl) : PE X (.Call (.Name x p) (e :: es) [] pos) (tCB r t) := by
 intro pins s σ H Q I h;refine wpAny_Call_Name_kw (zjs I hg hm hv ?_ hn hdb);exact PyProof.Rows.callWith_builtin1 (thn (ha pos pins s σ H _ I h) fun us s1 ⟨vs, H1, I1, r1, q1⟩ => hc pins s1 σ H1 vs us Q I1 r1 q1) he hpl
theorem zqy (hc : zf8 X (.type T) r) (hg : Gl X x) (hm : X.mg x = none) (hv : bootBuiltins x = some (.type T)) (ha : PA X (e :: es) t) (hn : x ≠ "__name__" := by decide) (hdb : (x == ("__debug__" : Str)) = false := by decide)
  (he : starEach (e :: es) X.env = (false, eval e X.env) :: starEach es X.env := by rfl) (hpl : (backTo pos (starEach es X.env)).any (·.1) = false := by rfl) : PE X (.Call (.Name x p) (e :: es) [] pos) (tCB r t) := by
 intro pins s σ H Q I h;refine wpAny_Call_Name_kw (zjs I hg hm hv ?_ hn hdb);exact PyProof.Rows.callWith_type1 (thn (ha pos pins s σ H _ I h) fun us s1 ⟨vs, H1, I1, r1, q1⟩ => hc pins s1 σ H1 vs us Q I1 r1 q1) he hpl
end
end L2
namespace L2
open PySem PySem.Spec PyProof.Rows
section
variable {κ : Type} [DecidableEq κ]
def valV (kvs : List (κ × V)) (k : κ) : Option V := (kvs.find? fun kv => decide (kv.1 = k)).map (·.2)
def putK (kvs : List (κ × V)) (k : κ) (v : V) : List (κ × V) :=
 if (kvs.any fun kv => decide (kv.1 = k)) = true then kvs.map (fun kv => if kv.1 = k then (kv.1, v) else kv) else kvs ++ [(k, v)]
theorem zhv {p : κ × V} {r : List (κ × V)} {k : κ} (e : p.1 = k) : valV (p :: r) k = some p.2 := by simp [valV, List.find?_cons, e]
theorem zhw {p : κ × V} {r : List (κ × V)} {k : κ} (e : ¬ p.1 = k) : valV (p :: r) k = valV r k := by simp [valV, List.find?_cons, e]
theorem zn9 (k : κ) : ∀ kvs : List (κ × V), (kvs.any fun kv => decide (kv.1 = k)) = (valV kvs k).isSome
 | [] => rfl
 | p :: r => by
   rw [List.any_cons];by_cases e : p.1 = k
   ·simp only [zhv e, decide_eq_true e, Bool.true_or, Option.isSome_some]
   ·rw [zhw e, decide_eq_false e, Bool.false_or]; exact zn9 k r
theorem zia (kvs : List (κ × V)) (k : κ) (v : V) : (putK kvs k v).length <= kvs.length + 1 := by
 unfold putK
 split
 ·rw [List.length_map]; omega
 ·rw [List.length_append, List.length_cons, List.length_nil]; omega
theorem RelO.isSome_eq {o : Option V} {u : Option Value} (r : RelO o u) : o.isSome = u.isSome := by
 cases o with
 | none => cases u with
   | none => rfl
   | some _ => exact (show False from r).elim
 | some _ => cases u with
   | none => exact (show False from r).elim
   | some _ => rfl
theorem RelO.getD {o : Option V} {u : Option Value} {d : V} {d' : Value} (r : RelO o u) (rd : RelV d d') : RelV (o.getD d) (u.getD d') := by
 cases o with
 | none => cases u with
   | none => exact rd
   | some _ => exact (show False from r).elim
 | some _ => cases u with
   | none => exact (show False from r).elim
   | some _ => exact r
theorem KV.val {kvs : List (κ × V)} {vs : List (κ × Value)} (r : KV kvs vs) (k : κ) : RelO (valV kvs k) (valueAt vs k) := by
 unfold KV at r
 induction r with
 | nil => exact True.intro
 | @cons p q ps qs h t ih =>
   obtain ⟨h1, h2⟩ := h;by_cases e : p.1 = k
   ·have e' : q.1 = k := h1.symm.trans e
    have b : valueAt (q :: qs) k = some q.2 := by simp [valueAt, List.find?_cons, e']
    rw [zhv e, b]; exact h2
   ·have e' : ¬ q.1 = k := fun z => e (h1.trans z)
    have b : valueAt (q :: qs) k = valueAt qs k := by simp [valueAt, List.find?_cons, e']
    rw [zhw e, b]; exact ih
theorem KV.any {kvs : List (κ × V)} {vs : List (κ × Value)} (r : KV kvs vs) (k : κ) : (kvs.any fun kv => decide (kv.1 = k)) = vs.any fun kv => decide (kv.1 = k) := by
 unfold KV at r
 induction r with
 | nil => rfl
 | cons h t ih => rw [List.any_cons, List.any_cons, ih, h.1]
theorem KV.repl {kvs : List (κ × V)} {vs : List (κ × Value)} (r : KV kvs vs) (k : κ) {y : V} {u : Value} (ry : RelV y u) :
  KV (kvs.map fun kv => if kv.1 = k then (kv.1, y) else kv) (vs.map fun kv => if kv.1 = k then (kv.1, u) else kv) := by
 unfold KV at r ⊢
 induction r with
 | nil => exact .nil
 | @cons p q ps qs h t ih =>
   rw [List.map_cons, List.map_cons];refine .cons ?_ ih;obtain ⟨h1, h2⟩ := h;by_cases e : p.1 = k
   ·rw [if_pos e, if_pos (h1.symm.trans e)]; exact ⟨h1, ry⟩
   ·rw [if_neg e, if_neg (fun z => e (h1.trans z))]; exact ⟨h1, h2⟩
theorem KV.put {kvs : List (κ × V)} {vs : List (κ × Value)} (r : KV kvs vs) (k : κ) {y : V} {u : Value} (ry : RelV y u) : KV (putK kvs k y) (stored vs k u) := by
 unfold putK stored;rw [r.any k];by_cases e : (vs.any fun kv => decide (kv.1 = k)) = true
 ·rw [if_pos e, if_pos e]; exact r.repl k ry
 ·rw [if_neg e, if_neg e]; exact Paired.snoc r ⟨rfl, ry⟩
theorem KV.keys {kvs : List (κ × V)} {vs : List (κ × Value)} (r : KV kvs vs) : kvs.map (·.1) = vs.map (·.1) := by
 unfold KV at r
 induction r with
 | nil => rfl
 | cons h t ih => rw [List.map_cons, List.map_cons, ih, h.1]
theorem KV.length {kvs : List (κ × V)} {vs : List (κ × Value)} (r : KV kvs vs) : kvs.length = vs.length := Paired.length r
end
theorem zqz {P : Program} {w : World} {k : Key} {u : Value} (r : RelV (kV k) u) : (zbk P w).is k u = true := by
 cases k with
 | inl i => obtain ⟨t, e⟩ := (show ∃ t, u = Value.int i t from r); subst e; exact zmy P w i t
 | inr x => obtain ⟨t, e⟩ := (show ∃ t, u = Value.str x t from r); subst e; exact zmz P w x t
theorem zlk {P : Program} {w : World} : ∀ {ks : List Key} {us : List Value}, Vals (ks.map kV) us -> ItemsAre (zbk P w) ks us
 | [], _, r => by rw [List.map_nil] at r; cases r; exact .nil
 | k :: ks, _, r => by
   rw [List.map_cons] at r;cases r with
   | cons h t => exact .cons (zqz h) (zlk t)
abbrev KT (H : Hp) : List (List Key × V) -> List (List Key × Addr × Value) -> Prop := Paired fun p q => p.1 = q.1 /\ H q.2.1 = some (.tup (p.1.map kV)) /\ RelV p.2 q.2.2
theorem KT.val {H : Hp} {kvs : List (List Key × V)} {xs : List (List Key × Addr × Value)} (r : KT H kvs xs) (k : List Key) : RelO (valV kvs k) ((atKey xs k).map (·.2)) := by
 induction r with
 | nil => exact True.intro
 | @cons p q ps qs h t ih =>
   obtain ⟨h1, _, h2⟩ := h;by_cases e : p.1 = k
   ·have e' : q.1 = k := h1.symm.trans e
    have b : atKey (q :: qs) k = some q.2 := by simp [atKey, List.find?_cons, e']
    rw [zhv e, b]; exact h2
   ·have e' : ¬ q.1 = k := fun z => e (h1.trans z)
    have b : atKey (q :: qs) k = atKey qs k := by simp [atKey, List.find?_cons, e']
    rw [zhw e, b]; exact ih
theorem KT.repl {H : Hp} {kvs : List (List Key × V)} {xs : List (List Key × Addr × Value)} (r : KT H kvs xs) (k : List Key) {y : V} {u : Value} (ry : RelV y u) :
  KT H (kvs.map fun kv => if kv.1 = k then (kv.1, y) else kv) (xs.map (putAt k u)) := by
 induction r with
 | nil => exact .nil
 | @cons p q ps qs h t ih =>
   rw [List.map_cons, List.map_cons];refine .cons ?_ ih;obtain ⟨h1, h2, h3⟩ := h;unfold putAt;by_cases e : p.1 = k
   ·rw [if_pos e, if_pos (h1.symm.trans e)]; exact ⟨h1, h2, ry⟩
   ·rw [if_neg e, if_neg (fun z => e (h1.trans z))]; exact ⟨h1, h2, h3⟩
theorem KT.put {H : Hp} {kvs : List (List Key × V)} {xs : List (List Key × Addr × Value)} (r : KT H kvs xs) (k : List Key) {b : Addr} {y : V} {u : Value} (hb : H b = some (.tup (k.map kV))) (ry : RelV y u) :
  KT H (putK kvs k y) (storedH xs k b u) := by
 have e : (kvs.any fun kv => decide (kv.1 = k)) = (atKey xs k).isSome := by
  rw [zn9, (r.val k).isSome_eq, Option.isSome_map]
 unfold putK storedH;rw [e];by_cases q : (atKey xs k).isSome = true
 ·rw [if_pos q, if_pos q]; exact r.repl k ry
 ·rw [if_neg q, if_neg q]; exact Paired.snoc r ⟨rfl, hb, ry⟩
theorem KT.keeps {H H' : Hp} {kvs : List (List Key × V)} {xs : List (List Key × Addr × Value)} (r : KT H kvs xs) (ht : ∀ b ys, H b = some (.tup ys) -> H' b = some (.tup ys)) : KT H' kvs xs :=
 Paired.mapP r fun _ _ z => ⟨z.1, ht _ _ z.2.1, z.2.2⟩
section
variable {P : Program} {w : World} {H : Hp} {h : Heap} {a : Addr}
theorem zzi {u : HO} (ok : HOk P w H h) (e : Rd H a u) : zcb P w H h a u := e.ok ok
theorem zll {kvs : List (Key × V)} (ok : HOk P w H h) (e : Rd H a (.dK kvs)) : kvs.length <= sizeLine /\ (a == sysModules) = false /\ ∃ vs, KV kvs vs /\ h.DictOf (zbk P w) a vs :=
 show zcb P w H h a (.dK kvs) from zzi ok e
theorem z18 {kvs : List (Key × V)} (ok : HOk P w H h) (e : H a = some (.dK kvs)) : kvs.length <= sizeLine /\ (a == sysModules) = false /\ ∃ vs, KV kvs vs /\ h.DictOf (zbk P w) a vs := zll ok (.inl e)
theorem zlm {ks : List Key} (ok : HOk P w H h) (e : H a = some (.tup (ks.map kV))) : (tupleKind (zbk P w)).is h ks a := by
 obtain ⟨_, its, r, o, h1, h2, n, h3⟩ := (show zcb P w H h a (.tup (ks.map kV)) from ok a _ e);exact ⟨o, its.toArray, n, h1, h2, h3, by simpa using zlk r⟩
theorem zq0 {kvs : List (List Key × V)} (ok : HOk P w H h) (e : Rd H a (.dT kvs)) : kvs.length <= sizeLine /\ (a == sysModules) = false /\
  ∃ xs, KT H kvs xs /\ h.DictOfH (tupleKind (zbk P w)) a xs := by
 obtain ⟨z, y, xs, r, o, es, ep, h1, h2, h3, h4, h5⟩ := (show zcb P w H h a (.dT kvs) from zzi ok e);refine ⟨z, y, xs, r, o, es, ep, h1, h2, h3, h4, fun x hx => ?_, h5⟩;have all : ∀ {l : List (List Key × V)} {m : List (List Key × Addr × Value)}, KT H l m -> ∀ x ∈ m, (tupleKind (zbk P w)).is h x.1 x.2.1 := by
  intro l m q
  induction q with
  | nil => intro x hx; exact nomatch hx
  | @cons p q ps qs hq t ih =>
    intro x hx;rcases List.mem_cons.mp hx with e | hx
    ·subst e
     exact zlm ok (by rw [<- hq.1]; exact hq.2.1)
    ·exact ih x hx
 exact all r x hx
theorem z19 {kvs : List (List Key × V)} (ok : HOk P w H h) (e : H a = some (.dT kvs)) : kvs.length <= sizeLine /\ (a == sysModules) = false /\
 ∃ xs, KT H kvs xs /\ h.DictOfH (tupleKind (zbk P w)) a xs := zq0 ok (.inl e)
end
def DGet (H : Hp) (a : Addr) (y : V) (r : Option V) : Prop :=
 (∃ kvs k, Rd H a (.dK kvs) /\ y = kV k /\ r = valV kvs k) \/ ∃ kvs k b, Rd H a (.dT kvs) /\ y = .ref b /\ H b = some (.tup (k.map kV)) /\ r = valV kvs k
def DPut (H : Hp) (a : Addr) (y v : V) (H' : Hp) : Prop :=
 (∃ kvs k, H a = some (.dK kvs) /\ y = kV k /\ kvs.length < sizeLine /\ H' = upd H a (.dK (putK kvs k v))) \/
 ∃ kvs k b, H a = some (.dT kvs) /\ y = .ref b /\ H b = some (.tup (k.map kV)) /\ kvs.length < sizeLine /\ H' = upd H a (.dT (putK kvs k v))
theorem DGet.k {H : Hp} {a : Addr} {kvs : List (Key × V)} {k : Key} (e : H a = some (.dK kvs)) : DGet H a (kV k) (valV kvs k) := .inl ⟨kvs, k, .inl e, rfl, rfl⟩
theorem DPut.k {H : Hp} {a : Addr} {kvs : List (Key × V)} {k : Key} {v : V} (e : H a = some (.dK kvs)) (hl : kvs.length < sizeLine) : DPut H a (kV k) v (upd H a (.dK (putK kvs k v))) := .inl ⟨kvs, k, e, rfl, hl, rfl⟩
section
variable {X : Cx} {pins : List (Addr × Obj)} {σ : St} {H : Hp} {s : Shared} {a : Addr} {y v : V} {u r : Value} {o : Option V} {A : Around} {E : Value -> Shared -> Prop}
theorem Inv.big (I : Inv X pins σ H s) : sysModules < s.heap.objs.size := by
 have h : mainGlobals < s.heap.objs.size := (I.mod.glob.keeps I.bk).lt;exact Nat.lt_trans (by decide) h
theorem zq1 {Q : Value -> Shared -> Prop} (hu : A.units + 1 < cLine) (I : Inv X pins σ H s) (g : DGet H a y (some v)) (ry : RelV y u) (h : ∀ w' s', Inv X pins σ H s' -> RelV v w' -> Q w' s') :
  wpAny (model X.prog X.w) A (getItem (.ref a) u) Q E s := by
 rcases g with ⟨kvs, k, e, ey, l⟩ | ⟨kvs, k, b, e, ey, eb, l⟩
 ·subst ey
  obtain ⟨z, hd, vs, rel, dd⟩ := zll I.hok e;obtain ⟨w', hw, rw'⟩ := RelO.some_of (v := v) (o := valueAt vs k) (by rw [l]; exact rel.val k);exact wpAny_getItem_of (zqz ry) dd.mapOf hw (h w' _ (I.tok _) rw')
 ·subst ey
  cases (show u = Value.ref b from ry);obtain ⟨z, hd, xs, rel, dd⟩ := zq0 I.hok e;obtain ⟨w', hw, rw'⟩ := RelO.some_of (v := v) (o := (atKey xs k).map (·.2)) (by rw [l]; exact rel.val k);obtain ⟨p, hp, hp2⟩ := Option.map_eq_some_iff.mp hw;refine wpAny_getItem_heap (tupleKind_room_in1 hu) (zlm I.hok eb) dd hp ?_;rw [hp2];exact h w' _ (I.tok _) rw'
theorem d_in {Q : Value -> Shared -> Prop} (hu : A.units + 1 < cLine) (I : Inv X pins σ H s) (g : DGet H a y o) (ry : RelV y u) (h : ∀ s', Inv X pins σ H s' -> Q (.bool o.isSome) s') :
  wpAny (model X.prog X.w) A (compareOp .In u (.ref a)) Q E s := by
 rcases g with ⟨kvs, k, e, ey, l⟩ | ⟨kvs, k, b, e, ey, eb, l⟩
 ·subst ey
  obtain ⟨z, hd, vs, rel, dd⟩ := zll I.hok e;refine wpAny_in_of (zqz ry) hd dd.mapOf ?_;rw [<- (rel.val k).isSome_eq, <- l];exact h _ (I.tok _)
 ·subst ey
  cases (show u = Value.ref b from ry);obtain ⟨z, hd, xs, rel, dd⟩ := zq0 I.hok e;refine wpAny_in_heap (tupleKind_room_in1 hu) (zlm I.hok eb) hd dd ?_;have q := (rel.val k).isSome_eq;rw [Option.isSome_map] at q;rw [<- q, <- l];exact h _ (I.tok _)
theorem zwv {Q : Value -> Shared -> Prop} (hu : A.units + 1 < cLine) (I : Inv X pins σ H s) (g : DGet H a y o) (ry : RelV y u) (h : ∀ s', Inv X pins σ H s' -> Q (.bool (!o.isSome)) s') :
  wpAny (model X.prog X.w) A (compareOp .NotIn u (.ref a)) Q E s := by
 rcases g with ⟨kvs, k, e, ey, l⟩ | ⟨kvs, k, b, e, ey, eb, l⟩
 ·subst ey
  obtain ⟨z, hd, vs, rel, dd⟩ := zll I.hok e;refine wpAny_notIn_of (zqz ry) hd dd.mapOf ?_;rw [<- (rel.val k).isSome_eq, <- l];exact h _ (I.tok _)
 ·subst ey
  cases (show u = Value.ref b from ry);obtain ⟨z, hd, xs, rel, dd⟩ := zq0 I.hok e;refine wpAny_notIn_heap (tupleKind_room_in1 hu) (zlm I.hok eb) hd dd ?_;have q := (rel.val k).isSome_eq;rw [Option.isSome_map] at q;rw [<- q, <- l];exact h _ (I.tok _)
theorem zq2 {h' : Heap} {t' : Nat} {ob : HO} (I : Inv X pins σ H s) (mu : Mut (H a)) (hs : Heap.SameBut a s.heap h') (he : ∃ q, h'.get? a = some q) (new : zcb X.prog X.w (upd H a ob) h' a ob) :
  Inv X pins σ (upd H a ob) { s with heap := h', toks := t' } :=
 I.write (x := a) (e := a) mu (.inl rfl) (fun b q hb z => (hs.2 b hb).trans z) he new
theorem zzj {P : Program} {w : World} {H' : Hp} {h' : Heap} {kvs : List (Key × V)} {vs : List (Key × Value)} (z : kvs.length <= sizeLine) (hd : (a == sysModules) = false) (rel : KV kvs vs) (dd : h'.DictOf (zbk P w) a vs) :
 zcb P w H' h' a (.dK kvs) := ⟨z, hd, vs, rel, dd⟩
theorem zq3 {H' : Hp} {Q : Unit -> Shared -> Prop} (hu : A.units + 1 < cLine) (I : Inv X pins σ H s) (g : DPut H a y v H') (ry : RelV y u) (rv : RelV v r) (h : ∀ s', Inv X pins σ H' s' -> Q () s') :
  wpAny (model X.prog X.w) A (setItem (.ref a) u r) Q E s := by
 rcases g with ⟨kvs, k, e, ey, l, eH⟩ | ⟨kvs, k, b, e, ey, eb, l, eH⟩
 ·subst ey eH
  obtain ⟨z, hd, vs, rel, dd⟩ := z18 I.hok e;have hz : vs.length <= sizeLine := by rw [<- rel.length]; exact z
  have hl : (putK kvs k v).length <= sizeLine := by have := zia kvs k v; omega
  refine wpAny_setItem_pairs (hsz := hz) (zqz ry) dd fun h' dd' hs => h _ ?_;have he : ∃ q, h'.get? a = some q := let ⟨q, _, _, hq, _⟩ := dd'; ⟨q, hq⟩;exact zq2 I (by rw [e]; exact True.intro) hs he (zzj hl hd (rel.put k rv) dd')
 ·subst ey eH
  cases (show u = Value.ref b from ry);obtain ⟨z, hd, xs, rel, dd⟩ := z19 I.hok e;have hz : xs.length <= sizeLine := by rw [<- Paired.length rel]; exact z
  have hl : (putK kvs k v).length <= sizeLine := by have := zia kvs k v; omega
  refine wpAny_setItem_heap (hsz := hz) (tupleKind_room_in1 hu) (zlm I.hok eb) dd fun h' dd' hs => h _ ?_;obtain ⟨q, es, ep, hq, h2, h3, h4, _, h5⟩ := dd';refine zq2 I (by rw [e]; exact True.intro) hs ⟨q, hq⟩ ⟨hl, hd, _, (rel.put k eb rv).keeps fun c ys ec => ?_, q, es, ep, hq, h2, h3, h4, h5⟩;rw [zah (z1x ec e (fun z => nomatch z))];exact ec
end
section
variable {X : Cx} {pins : List (Addr × Obj)} {σ : St} {H : Hp} {s : Shared} {a : Addr} {kvs : List (Key × V)} {k : Key} {u : Value} {A : Around} {E : Value -> Shared -> Prop}
theorem z2a {Q : Value -> Shared -> Prop} (I : Inv X pins σ H s) (e : Rd H a (.dK kvs)) (h : ∀ t s', Inv X pins σ H s' -> Q (.int kvs.length t) s') : wpAny (model X.prog X.w) A (call (.builtin "len") [.ref a]) Q E s := by
 obtain ⟨z, hd, vs, rel, dd⟩ := zll I.hok e;refine call_len_dict hd dd (by rw [<- rel.length]; rw [sizeLine_eq] at z; omega) ?_;rw [<- rel.length];exact h _ _ (I.tok _)
end
def NoSl (i : Expr) : Prop := ∀ ov iv, subscripted i false ov iv = operate [ov, iv] (getItem ov iv)
theorem zww {prog : Program} {w : World} {A : Around} {E : Value -> Shared -> Prop} {s : Shared} {env : Env} {value slice : Expr} {pos : Pos} {T id : String} {Q : Value -> Shared -> Prop}
  (hl : typeLookup (.type T) "__getitem__" = pure (some (.builtin id))) (hs : NoSl slice)
  (h : wpAny (model prog w) A (eval value env) (fun o s₁ => wpAny (model prog w) A (eval slice env) (fun i s₂ => s₂.TypeIs o T /\ wpAny (model prog w) A (getItem o i) Q E s₂) E s₁) E s) :
  wpAny (model prog w) A (eval (.Subscript value slice pos) env) Q E s := by
 refine Subscript_ (wpAny_mono h (fun o s₁ h₁ => wpAny_mono h₁ (fun i s₂ h₂ => ?_) fun _ _ x => x) fun _ _ x => x);obtain ⟨hT, h₂⟩ := h₂;unfold subscriptTail;refine wpAny_bind ?_;rw [getitemInPython_of_ne hT.not_modules];refine wpAny_bind (wpAny_specialOf hT hl ?_);have fin : wpAny (model prog w) A (subscripted slice false o i) (fun r s₃ => wpAny (model prog w) A (letTemporaryGo value o r >>= fun _ => pure r) Q E s₃) E s₂ := by
  rw [hs o i];exact wpAny_operating (wpAny_mono h₂ (fun r s₃ h₃ => wpAny_bind (wpAny_letTemporaryGo (wpAny_pure h₃))) fun _ _ x => x)
 first
  | exact wpAny_pure (wpAny_bind fin)
  | exact wpAny_bind (wpAny_pure (wpAny_bind fin))
  | exact wpAny_bind fin
theorem zm1 {X : Cx} {pins : List (Addr × Obj)} {σ : St} {H : Hp} {s : Shared} {a : Addr} {y : V} {o : Option V} (I : Inv X pins σ H s) (g : DGet H a y o) : s.TypeIs (.ref a) "dict" := by
 rcases g with ⟨kvs, k, e, _, _⟩ | ⟨kvs, k, b, e, _, _, _⟩
 ·obtain ⟨_, _, vs, _, dd⟩ := zll I.hok e
  exact dd.typeIs
 ·obtain ⟨_, _, xs, _, dd⟩ := zq0 I.hok e
  exact dd.typeIs
def z2b (td ty : TE) : TE := fun σ H Q => td σ H fun x H1 => ty σ H1 fun y H2 => ∃ a v, x = .ref a /\ DGet H2 a y (some v) /\ Q v H2
def zwx (ty td : TE) : TE := fun σ H Q => ty σ H fun y H1 => td σ H1 fun x H2 => ∃ a o, x = .ref a /\ DGet H2 a y o /\ Q (.bl (!o.isSome)) H2
def z2c (td ty tv : TE) : TS := fun D σ H => tv σ H fun v H1 => td σ H1 fun x H2 => ty σ H2 fun y H3 => ∃ a H4, x = .ref a /\ DPut H3 a y v H4 /\ D.nx σ H4
section
variable {X : Cx} {o i e value : Expr} {pos pos' tpos : Pos} {td ty tv : TE}
theorem zwy (hu : X.A.units + 1 < cLine) (ho : PE X o td) (hi : PE X i ty) (hs : NoSl i) : PE X (.Subscript o i pos) (z2b td ty) := by
 intro pins s σ H Q I h;refine zww PySem.F.slot_dict_getitem.lookup hs (thn (ho pins s σ H _ I h) fun u s1 hq_ => ?_);obtain ⟨x, H1, I1, rx, q1⟩ := hq_;refine thn (hi pins s1 σ H1 _ I1 q1) fun iv s2 hq_ => ?_;obtain ⟨y, H2, I2, ry, a, v, ex, g, q2⟩ := hq_;subst ex;obtain rfl : u = Value.ref a := rx;exact ⟨zm1 I2 g, zq1 hu I2 g ry fun w' s3 I3 rw' => ⟨v, H2, I3, rw', q2⟩⟩
theorem zq4 (hu : X.A.units + 1 < cLine) (hi : PE X i ty) (ho : PE X o td) : PC X .NotIn i o (zwx ty td) := by
 intro pins s σ H Q I h;refine thn (hi pins s σ H _ I h) fun iv s1 hq_ => ?_;obtain ⟨y, H1, I1, ry, q1⟩ := hq_;refine thn (ho pins s1 σ H1 _ I1 q1) fun u s2 hq_ => ?_;obtain ⟨x, H2, I2, rx, a, ov, ex, g, q2⟩ := hq_;subst ex;obtain rfl : u = Value.ref a := rx;exact zwv hu I2 g ry fun s3 I3 => ⟨.bl (!ov.isSome), H2, I3, rfl, q2⟩
theorem zwz (hu : X.A.units + 1 < cLine) (ho : PE X o td) (hi : PE X i ty) (hv : PE X value tv) (hs : swapsWith value (some (.Subscript o i pos')) pos.line X.env = pure false) :
  PS X (.Assign [.Subscript o i pos'] value pos) (z2c td ty tv) := by
 intro pins s σ H D I h;refine wpAny_Assign_Subscript (thn (hv pins s σ H _ I h) fun r s1 hq_ => ?_) hs;obtain ⟨v, H1, I1, rv, q1⟩ := hq_;refine thn (ho pins s1 σ H1 _ I1 q1) fun u s2 hq_ => ?_;obtain ⟨x, H2, I2, rx, q2⟩ := hq_;refine thn (hi pins s2 σ H2 _ I2 q2) fun iv s3 hq_ => ?_;obtain ⟨y, H3, I3, ry, a, H4, ex, g, q3⟩ := hq_;subst ex;obtain rfl : u = Value.ref a := rx;exact zq3 hu I3 g ry rv fun s4 I4 => ⟨σ, H4, I4, q3⟩
end
theorem ztt {P : Program} {w : World} {H : Hp} (h : Heap) (hb : sysModules < h.objs.size) : zcb P w H (h.push { cls := .type "dict", data := .dict #[] }) h.objs.size (.dK []) :=
 ⟨Nat.zero_le _, beq_eq_false_iff_ne.mpr (Ne.symm (Nat.ne_of_lt hb)), [], .nil, Heap.DictOf.new h⟩
def zzk : TE := fun _ H Q => ∀ p, H p = none -> Q (.ref p) (upd H p (.dK []))
section
variable {X : Cx} {pos : Pos}
theorem ztu : PE X (.Dict [] [] pos) zzk := fun pins s σ H Q I h =>
 wpAny_Dict_empty ⟨.ref s.heap.objs.size, _, I.laid (a := s.heap.objs.size) (o := .dK []) (t' := s.toks) (fun _ _ q => Heap.get?_push_of_some _ q) (Nat.le_refl _) (ztt s.heap I.big), rfl, h _ (I.hok.fresh (Nat.le_refl _))⟩
end
end L2
namespace HT
open PySem PyProof.Rows
section
variable {prog : Program} {w : World} {A : Around} {E : Value -> Shared -> Prop} {s : Shared}
def sIx (n d : Nat) : Option Int -> Nat
 | none => d
 | some v => if v < 0 then (v + (n : Int)).toNat else min v.toNat n
end
end HT
namespace L2
open PySem PySem.Spec PyProof.Rows
abbrev TO := St -> Hp -> (Option Int -> Hp -> Prop) -> Prop
def PO (X : Cx) (e : Option Expr) (t : TO) : Prop :=
 ∀ (pins : List (Addr × Obj)) (s : Shared) (σ : St) (H : Hp) (Q : Option Int -> Hp -> Prop), Inv X pins σ H s -> t σ H Q ->
   wpAny (model X.prog X.w) X.A (evalPart e X.env) (fun u s' => ∃ o H', Inv X pins σ H' s' /\ IsPart u o /\ Q o H') X.xe s
def zw0 : TO := fun _ H Q => Q none H
def z2d (t : TE) : TO := fun σ H Q => t σ H fun x H1 => ∃ i, x = .int i /\ Q (some i) H1
section
variable {X : Cx} {e : Expr} {te : TE} {lo hi : Option Expr} {tl th : TO} {pos p2 : Pos}
theorem zw1 : PO X none zw0 := by
 intro pins s σ H Q I h;rw [evalPart_none];exact wpAny_pure ⟨none, H, I, .none, h⟩
theorem zw2 (h : PE X e te) : PO X (some e) (z2d te) := by
 intro pins s σ H Q I hw;rw [evalPart_some];refine thn (h pins s σ H _ I hw) fun u s1 hq_ => ?_;obtain ⟨x, H1, I1, r1, q1⟩ := hq_;obtain ⟨i, rfl, q⟩ := q1;obtain ⟨t, rfl⟩ := r1;exact ⟨some i, H1, I1, .int i t, q⟩
def SlR (X : Cx) (r : V -> Option Int -> Option Int -> Hp -> VK -> Prop) : Prop :=
 ∀ (pins : List (Addr × Obj)) (s : Shared) (σ : St) (H : Hp) (x : V) (v vl vu : Value) (lo hi : Option Int) (sl : Addr) (Q : VK), Inv X pins σ H s -> RelV x v -> s.heap.IsSliceOf sl vl vu .none -> IsPart vl lo -> IsPart vu hi -> r x lo hi H Q ->
   ∃ T id, typeLookup (.type T) "__getitem__" = pure (some (.builtin id)) /\ s.TypeIs v T /\ wpAny (model X.prog X.w) X.A (getItem v (.ref sl)) (EP X pins σ Q) X.xe s
def tSl (r : V -> Option Int -> Option Int -> Hp -> VK -> Prop) (te : TE) (tl th : TO) : TE := fun σ H Q => te σ H fun x H1 => tl σ H1 fun l H2 => th σ H2 fun u H3 => r x l u H3 Q
theorem ztv {r : V -> Option Int -> Option Int -> Hp -> VK -> Prop} (hr : SlR X r) (he : PE X e te) (hl : PO X lo tl) (hu : PO X hi th) : PE X (.Subscript e (.Slice lo hi none p2) pos) (tSl r te tl th) := by
 intro pins s σ H Q I h;refine Subscript_ (thn (he pins s σ H _ I h) fun v s1 hq_ => ?_);obtain ⟨x, H1, I1, r1, q1⟩ := hq_;refine wpAny_Slice (thn (hl pins s1 σ H1 _ I1 q1) fun vl s2 hq_ => ?_);obtain ⟨l, H2, I2, pl, q2⟩ := hq_;refine thn (hu pins s2 σ H2 _ I2 q2) fun vu s3 hq_ => ?_;obtain ⟨u, H3, I3, pu, q3⟩ := hq_;rw [evalPart_none];refine wpAny_pure ?_;have I4 : Inv X pins σ H3 { s3 with heap := s3.heap.push { cls := .type "slice", data := .fields #[vl, vu, .none] } } := I3.kept (t' := s3.toks) fun b ob q => Heap.get?_push_of_some _ q;obtain ⟨T, id, hT, ht, hg⟩ := hr pins { s3 with heap := s3.heap.push { cls := .type "slice", data := .fields #[vl, vu, .none] } } σ H3 x v vl vu l u s3.heap.objs.size Q I4 r1 (Heap.IsSliceOf.new ..) pl pu q3;show wpAny (model X.prog X.w) X.A (subscriptTail e (.Slice lo hi none p2) v (.ref s3.heap.objs.size)) (EP X pins σ Q) X.xe { s3 with heap := s3.heap.push { cls := .type "slice", data := .fields #[vl, vu, .none] } };exact tail_any (ops := [.ref s3.heap.objs.size, v]) ht hT hg (by with_unfolding_all rfl)
def cutV (xs : List V) (lo hi : Option Int) : List V := (xs.drop (HT.sIx xs.length 0 lo)).take (HT.sIx xs.length xs.length hi - HT.sIx xs.length 0 lo)
theorem zm2 (xs : List V) (lo hi : Option Int) : (cutV xs lo hi).length <= xs.length := by
 unfold cutV;rw [List.length_take, List.length_drop];omega
end
end L2
namespace L2
open PySem PySem.Spec PyProof.Rows
def ixN (n : Nat) (i : Int) : Option Nat := if 0 <= i then (if i < n then some i.toNat else none) else if -(n : Int) <= i then some (i + n).toNat else none
def atI {α : Type} (xs : List α) (i : Int) : Option α := (ixN xs.length i).bind fun j => xs[j]?
theorem zw3 {n : Nat} {i : Int} {j : Nat} (h : ixN n i = some j) : seqIndex? i n = some j /\ j < n /\ -(n : Int) <= i /\ i < n := by
 unfold ixN at h;by_cases h0 : 0 <= i
 ·rw [if_pos h0] at h
  by_cases h1 : i < n
  ·rw [if_pos h1] at h
   have e : i.toNat = j := Option.some.inj h;exact ⟨by rw [seqIndex_of h0 h1, e], by omega, by omega, h1⟩
  ·rw [if_neg h1] at h; cases h
 ·rw [if_neg h0] at h
  by_cases h1 : -(n : Int) <= i
  ·rw [if_pos h1] at h
   have e : (i + n).toNat = j := Option.some.inj h;exact ⟨by rw [seqIndex_neg (by omega) h1, e], by omega, h1, by omega⟩
  ·rw [if_neg h1] at h; cases h
theorem zm3 {α : Type} {xs : List α} {i : Int} {v : α} (h : atI xs i = some v) : ∃ j, seqIndex? i xs.length = some j /\ xs[j]? = some v /\ j < xs.length /\ -(xs.length : Int) <= i /\ i < xs.length := by
 unfold atI at h;cases e : ixN xs.length i with
 | none => rw [e] at h; cases h
 | some j =>
   rw [e] at h;obtain ⟨h1, h2, h3, h4⟩ := zw3 e;exact ⟨j, h1, h, h2, h3, h4⟩
theorem zga {α : Type} {xs : List α} {j : Nat} {v : α} (h : xs[j]? = some v) : atI xs (j : Int) = some v := by
 have hj : j < xs.length := (List.getElem?_eq_some_iff.mp h).1;have e : ixN xs.length (j : Int) = some j := by
  unfold ixN;rw [if_pos (by omega), if_pos (by omega)]; simp
 unfold atI; rw [e]; exact h
def zq5 (b : Expr) : Prop := ∀ o i, subscripted b false o i = operate [o, i] (getItem o i)
def IxR (X : Cx) (r : R2) : Prop :=
 ∀ (value slice : Expr) (pins : List (Addr × Obj)) (s : Shared) (σ : St) (H : Hp) (x y : V) (v u : Value) (Q : VK), Inv X pins σ H s -> RelV x v -> RelV y u -> r x y H Q ->
   subscripted slice false v u = operate [v, u] (getItem v u) -> wpAny (model X.prog X.w) X.A (subscriptTail value slice v u) (EP X pins σ Q) X.xe s
def MtR (X : Cx) (id : String) (r : V -> List V -> Hp -> VK -> Prop) : Prop :=
 ∀ (pins : List (Addr × Obj)) (s : Shared) (σ : St) (H : Hp) (x : V) (xs : List V) (v : Value) (us : List Value) (Q : VK), Inv X pins σ H s -> RelV x v -> Vals xs us -> r x xs H Q ->
   wpAny (model X.prog X.w) X.A (call (.builtin id) (v :: us)) (EP X pins σ Q) X.xe s
section
variable {X : Cx} {a b : Expr} {ta tb : TE} {pos : Pos}
theorem IxR.or {r r' : R2} (h : IxR X r) (h' : IxR X r') : IxR X (fun x y H Q => r x y H Q \/ r' x y H Q) := by
 intro value slice pins s σ H x y v u Q I rx ry q hs;rcases q with q | q
 ·exact h value slice pins s σ H x y v u Q I rx ry q hs
 ·exact h' value slice pins s σ H x y v u Q I rx ry q hs
theorem z2e {r : R2} (hr : IxR X r) (ha : PE X a ta) (hb : PE X b tb) (hs : zq5 b) : PE X (.Subscript a b pos) (tOp r ta tb) := by
 intro pins s σ H Q I h;exact Subscript_ (binT ha hb I h fun v u s2 x y H2 I2 rx ry q => hr a b pins s2 σ H2 x y v u Q I2 rx ry q (hs _ _))
def rIxL (K : PySem.W.Frag) : R2 := fun x y H Q => ∃ p xs i v, x = .ref p /\ y = .int i /\ SqL K H p xs /\ atI xs i = some v /\ Q v H
def rIxT (K : PySem.W.Frag) : R2 := fun x y H Q => ∃ p xs i v, x = .ref p /\ y = .int i /\ SqT K H p xs /\ atI xs i = some v /\ Q v H
def rIxS : R2 := fun x y H Q => ∃ z i c, x = .str z /\ y = .int i /\ z.length <= sizeLine /\ atI z.cps.toList i = some c /\ Q (.str ⟨#[c]⟩) H
theorem zw4 : IxR X (rIxL X.K) := by
 intro value slice pins s σ H x y v u Q I rx ry h hs;obtain ⟨p, xs, i, z, rfl, rfl, hq, he, q⟩ := h;cases rx;obtain ⟨t, rfl⟩ := ry;obtain ⟨its, r, pl, hz⟩ := I.list hq;obtain ⟨j, h1, h2, h3, h4, h5⟩ := zm3 he;obtain ⟨w, ew, rw'⟩ := r.get h2;have hl := r.length;have hn := zle;have fin : EP X pins σ Q w s := ⟨z, H, I, rw', q⟩;by_cases h0 : 0 <= i
 ·have hj : i.toNat = j := by
   rw [seqIndex_of h0 h5] at h1;exact Option.some.inj h1
  exact item_listR pl.isList h0 (by omega) (by rw [hj]; simpa using ew) fin hs
 ·have hj : (i + (its.toArray.size : Int)).toNat = j := by
   rw [seqIndex_neg (by omega) h4] at h1;rw [List.size_toArray, <- hl];exact Option.some.inj h1
  exact subscriptTail_builtinR (x := w) pl.isList.typeIs slot_list_getitem.lookup
   (wpAny_getItem_list_neg (Q := fun r s' => r = w /\ EP X pins σ Q r s') pl.isList (by omega) (by rw [List.size_toArray] <;> omega) (by omega) (by rw [hj]; simpa using ew) ⟨rfl, fin⟩) hs
theorem zzl : IxR X (rIxT X.K) := by
 intro value slice pins s σ H x y v u Q I rx ry h hs;obtain ⟨p, xs, i, z, rfl, rfl, hq, he, q⟩ := h;cases rx;obtain ⟨t, rfl⟩ := ry;obtain ⟨its, r, pl, hz⟩ := I.tuple hq;obtain ⟨j, h1, h2, h3, h4, h5⟩ := zm3 he;obtain ⟨w, ew, rw'⟩ := r.get h2;have hl := r.length;have hn := zle;have fin : EP X pins σ Q w s := ⟨z, H, I, rw', q⟩;exact subscriptTail_builtinR (x := w) pl.typeIs slot_tuple_getitem.lookup
  (getItem_tuple (j := j) (Q := fun r s' => r = w /\ EP X pins σ Q r s') pl (by omega) (by omega) (by rw [List.size_toArray, <- hl]; exact h1) (by simpa using ew) ⟨rfl, fin⟩) hs
theorem zzm : IxR X rIxS := by
 intro value slice pins s σ H x y v u Q I rx ry h hs;obtain ⟨z, i, c, rfl, rfl, hz, he, q⟩ := h;obtain ⟨t, rfl⟩ := rx;obtain ⟨t', rfl⟩ := ry;obtain ⟨j, h1, h2, h3, h4, h5⟩ := zm3 he;have hl : z.cps.toList.length = z.length := by simp [Str.length]
 rw [hl] at h1 h4 h5;have hn := zle;exact tail_any (typeIs_str s z t) slot_str_getitem.lookup (getItem_str (c := c) (by
  have e1 : decide (i < -(2 ^ 63 : Int)) = false := decide_eq_false (by omega);have e2 : decide (i >= 2 ^ 63) = false := decide_eq_false (by omega);rw [e1, e2, Bool.or_false]) (by rw [h1]; simpa using h2) ⟨.str ⟨#[c]⟩, H, I.tok _, ⟨_, rfl⟩, q⟩) hs
def rIx (K : PySem.W.Frag) : R2 := fun x y H Q => rIxL K x y H Q \/ rIxT K x y H Q \/ rIxS x y H Q
theorem zzn : IxR X (rIx X.K) := zw4.or (zzl.or zzm)
theorem Inv.lst {pins : List (Addr × Obj)} {σ : St} {H : Hp} {s : Shared} {p : Addr} {xs : List V} (I : Inv X pins σ H s) (h : H p = some (.lst xs)) :
  ∃ (its : List Value) (n : Nat), Vals xs its /\ s.heap.get? p = some { cls := .type "list", data := .seq its.toArray n } /\ xs.length <= sizeLine := by
 obtain ⟨z, its, n, r, e⟩ := I.hok p _ h;exact ⟨its, n, r, e, z⟩
theorem zln (lo hi : Option Int) (n : Nat) : (sliceBounds lo hi none n).1 = ((HT.sIx n 0 lo : Nat) : Int) /\ (sliceBounds lo hi none n).2.1 = ((HT.sIx n n hi : Nat) : Int) /\ (sliceBounds lo hi none n).2.2 = 1 := by
 refine ⟨?_, ?_, rfl⟩
 ·cases lo with
  | none => simp [sliceBounds, HT.sIx]
  | some i =>
    simp only [sliceBounds, HT.sIx, Option.getD_none, show (1 : Int) > 0 by decide, if_true];by_cases h : i < 0
    ·simp only [h, if_true] <;> omega
    ·simp only [h, if_false] <;> omega
 ·cases hi with
  | none => simp [sliceBounds, HT.sIx]
  | some i =>
    simp only [sliceBounds, HT.sIx, Option.getD_none, show (1 : Int) > 0 by decide, if_true];by_cases h : i < 0
    ·simp only [h, if_true] <;> omega
    ·simp only [h, if_false] <;> omega
theorem zkg (its : List Value) (lo hi : Option Int) : slicePick its.toArray lo hi none = ((its.drop (HT.sIx its.length 0 lo)).take (HT.sIx its.length its.length hi - HT.sIx its.length 0 lo)).toArray := by
 obtain ⟨h1, h2, h3⟩ := zln lo hi its.toArray.size;unfold slicePick;rw [h1, h2, h3];simp only [sliceRange_one, pick_run, List.size_toArray] <;> rfl
def rSlL (K : PySem.W.Frag) : V -> Option Int -> Option Int -> Hp -> VK -> Prop := fun x lo hi H Q => ∃ a xs, x = .ref a /\ SqL K H a xs /\ ∀ p, H p = none -> Q (.ref p) (upd H p (.lst (cutV xs lo hi)))
theorem zw5 : SlR X (rSlL X.K) := by
 intro pins s σ H x v vl vu lo hi sl Q I rx hs pl pu h;obtain ⟨a, xs, rfl, hx, q⟩ := h;cases rx;obtain ⟨its, r, ht, hz⟩ := I.list hx;have hlen := r.length;refine ⟨"list", _, slot_list_getitem.lookup, ht.isList.typeIs, ?_⟩;refine wpAny_getItem_list_slice ht.isList hs pl pu .none (by simp) ?_ (by rw [List.size_toArray] <;> omega);rw [zkg, <- hlen];refine ⟨.ref s.heap.objs.size, _, I.laid (t' := s.toks) (o := .lst (cutV xs lo hi)) (fun b ob q => Heap.get?_push_of_some _ q) (Nat.le_refl _) ?_, rfl, q _ (I.hok.fresh (Nat.le_refl _))⟩;exact ⟨Nat.le_trans (zm2 xs lo hi) hz, _, 0, (r.drop (HT.sIx xs.length 0 lo)).take (HT.sIx xs.length xs.length hi - HT.sIx xs.length 0 lo), Heap.get?_push_size _ rfl⟩
def zg1 : V -> Bool
 | .non => true
 | .bl _ => true
 | .int _ => true
 | .str _ => true
 | _ => false
def eqV : V -> V -> Bool
 | .non, .non => true
 | .bl a, .bl b => a == b
 | .bl a, .int b => (if a then 1 else 0) == b
 | .int a, .bl b => a == (if b then 1 else 0)
 | .int a, .int b => a == b
 | .str a, .str b => a == b
 | _, _ => false
theorem zzo {A : Around} {s : Shared} {y x : V} {u v : Value} (ry : RelV y u) (rx : RelV x v) (fy : zg1 y = true) (fx : zg1 x = true) : SeqAt.EqAt A s u v (eqV y x) := by
 cases y with
 | non =>
   cases ry;cases x with
   | non => cases rx; exact SeqAt.EqAt.same _
   | bl b => cases rx; exact SeqAt.EqAt.none_bool b
   | int b => obtain ⟨t, rfl⟩ := rx; exact SeqAt.EqAt.none_int b t
   | str b => obtain ⟨t, rfl⟩ := rx; exact SeqAt.EqAt.none_str b t
   | _ => exact absurd (show false = true from fx) Bool.false_ne_true
 | bl a =>
   cases ry;cases x with
   | non => cases rx; exact SeqAt.EqAt.bool_none a
   | bl b => cases rx; exact SeqAt.EqAt.bool_bool a b
   | int b => obtain ⟨t, rfl⟩ := rx; exact SeqAt.EqAt.bool_int a b t
   | str b => obtain ⟨t, rfl⟩ := rx; exact SeqAt.EqAt.bool_str a b t
   | _ => exact absurd (show false = true from fx) Bool.false_ne_true
 | int a =>
   obtain ⟨t', rfl⟩ := ry;cases x with
   | non => cases rx; exact SeqAt.EqAt.int_none a t'
   | bl b => cases rx; exact SeqAt.EqAt.int_bool a t' b
   | int b => obtain ⟨t, rfl⟩ := rx; exact SeqAt.EqAt.int_int a t' b t
   | str b => obtain ⟨t, rfl⟩ := rx; exact SeqAt.EqAt.int_str a t' b t
   | _ => exact absurd (show false = true from fx) Bool.false_ne_true
 | str a =>
   obtain ⟨t', rfl⟩ := ry;cases x with
   | non => cases rx; exact SeqAt.EqAt.str_none a t'
   | bl b => cases rx; exact SeqAt.EqAt.str_bool a t' b
   | int b => obtain ⟨t, rfl⟩ := rx; exact SeqAt.EqAt.str_int a t' b t
   | str b => obtain ⟨t, rfl⟩ := rx; exact SeqAt.EqAt.str_str a t' b t
   | _ => exact absurd (show false = true from fx) Bool.false_ne_true
 | _ => exact absurd (show false = true from fy) Bool.false_ne_true
def eqU (x : V) (u : Value) : Bool := match u with
 | .none => eqV .non x
 | .bool b => eqV (.bl b) x
 | .int i _ => eqV (.int i) x
 | .str z _ => eqV (.str z) x
 | _ => false
theorem zvi {x y : V} {u : Value} (r : RelV y u) (f : zg1 y = true) : eqU x u = eqV y x := by
 cases y with
 | non => cases r; rfl
 | bl b => cases r; rfl
 | int i => obtain ⟨t, rfl⟩ := r; rfl
 | str z => obtain ⟨t, rfl⟩ := r; rfl
 | _ => exact absurd (show false = true from f) Bool.false_ne_true
theorem zib {x : V} : ∀ {xs : List V} {us : List Value}, Vals xs us -> xs.all zg1 = true -> us.any (eqU x) = xs.any fun y => eqV y x
 | _, _, .nil, _ => rfl
 | y :: xs, u :: us, .cons r t, f => by
   rw [List.all_cons, Bool.and_eq_true] at f;rw [List.any_cons, List.any_cons, zvi r f.1, zib t f.2]
theorem zgi {A : Around} {s : Shared} {x : V} {v : Value} (rx : RelV x v) (fx : zg1 x = true) : ∀ {xs : List V} {us : List Value}, Vals xs us -> xs.all zg1 = true -> ∀ u ∈ us, SeqAt.EqAt A s u v (eqU x u)
 | _, _, .nil, _ => fun u hu => by cases hu
 | y :: xs, u :: us, .cons r t, f => fun u' hu => by
   rw [List.all_cons, Bool.and_eq_true] at f;rcases List.mem_cons.mp hu with rfl | hu
   ·rw [zvi r f.1]; exact zzo r rx f.1 fx
   ·exact zgi rx fx t f.2 u' hu
def inV (x : V) (xs : List V) : Bool := xs.any fun y => eqV y x
def rIn (K : PySem.W.Frag) (neg : Bool) : R2 := fun x y H Q => ∃ p xs, y = .ref p /\ (SqL K H p xs \/ SqT K H p xs) /\ zg1 x = true /\ xs.all zg1 = true /\ Q (.bl (if neg then !inV x xs else inV x xs)) H
theorem zq6 : OpR X (compareOp .In) (rIn X.K false) := by
 intro pins s σ H x y v u Q I rx ry h;obtain ⟨p, xs, rfl, hq, fx, fs, q⟩ := h;cases ry;rcases hq with hq | hq
 ·obtain ⟨its, r, pl, hz⟩ := I.list hq
  refine SeqAt.in_listAt (eqU x) pl.isList (fun w hw => zgi rx fx r fs w (by simpa using hw)) ⟨.bl _, H, I, rfl, ?_⟩;rw [show its.toArray.any (eqU x) = its.any (eqU x) by simp, zib r fs];exact q
 ·obtain ⟨its, r, pl, hz⟩ := I.tuple hq
  refine SeqAt.in_tupleAt (eqU x) pl (fun w hw => zgi rx fx r fs w (by simpa using hw)) ⟨.bl _, H, I, rfl, ?_⟩;rw [show its.toArray.any (eqU x) = its.any (eqU x) by simp, zib r fs];exact q
theorem zlo : OpR X (compareOp .NotIn) (rIn X.K true) := by
 intro pins s σ H x y v u Q I rx ry h;obtain ⟨p, xs, rfl, hq, fx, fs, q⟩ := h;cases ry;rcases hq with hq | hq
 ·obtain ⟨its, r, pl, hz⟩ := I.list hq
  refine SeqAt.notIn_listAt (eqU x) pl.isList (fun w hw => zgi rx fx r fs w (by simpa using hw)) ⟨.bl _, H, I, rfl, ?_⟩;rw [show its.toArray.any (eqU x) = its.any (eqU x) by simp, zib r fs];exact q
 ·obtain ⟨its, r, pl, hz⟩ := I.tuple hq
  refine SeqAt.notIn_tupleAt (eqU x) pl (fun w hw => zgi rx fx r fs w (by simpa using hw)) ⟨.bl _, H, I, rfl, ?_⟩;rw [show its.toArray.any (eqU x) = its.any (eqU x) by simp, zib r fs];exact q
theorem zf8.or {f : Value} {r r' : List V -> Hp -> VK -> Prop} (h : zf8 X f r) (h' : zf8 X f r') : zf8 X f (fun xs H Q => r xs H Q \/ r' xs H Q) := by
 intro pins s σ H xs us Q I rs q;rcases q with q | q
 ·exact h pins s σ H xs us Q I rs q
 ·exact h' pins s σ H xs us Q I rs q
theorem zlp : zf8 X (.type "list") (fun xs H Q => ∃ p ys, xs = [.ref p] /\ (SqL X.K H p ys \/ SqT X.K H p ys) /\ ∀ l, H l = none -> Q (.ref l) (upd H l (.lst ys))) := by
 intro pins s σ H xs us Q I r h;obtain ⟨p, ys, rfl, hq, q⟩ := h;obtain ⟨u, rfl, rx⟩ := zph r;cases rx;have fin : ∀ (its : List Value), Vals ys its -> ys.length <= sizeLine -> ∀ (h' : Heap) (c' : Nat), (∀ b o', s.heap.get? b = some o' -> h'.get? b = some o') ->
   h'.get? s.heap.objs.size = some { cls := .type "list", dict := none, data := .seq its.toArray c', slots := #[] } -> EP X pins σ Q (.ref s.heap.objs.size) { s with heap := h' } := fun its r' hz h' c' kp e =>
  ⟨.ref s.heap.objs.size, _, I.laid (t' := s.toks) kp (Nat.le_refl _) (show zcb X.prog X.w _ h' _ (.lst ys) from ⟨hz, its, c', r', e⟩), rfl, q _ (I.hok.fresh (Nat.le_refl _))⟩
 rcases hq with hq | hq
 ·obtain ⟨its, r', pl, hz⟩ := I.list hq
  have hlen := r'.length;obtain ⟨o, ho, hc, n, hd⟩ := pl.isList;exact call_list_seq p (.inl rfl) ho hc hd (fun h' c' kp e => fin its r' hz h' c' kp e) (by simp only [List.size_toArray] <;> omega)
 ·obtain ⟨its, r', pl, hz⟩ := I.tuple hq
  have hlen := r'.length;obtain ⟨o, ho, hc, n, hd⟩ := pl;exact call_list_seq p (.inr rfl) ho hc hd (fun h' c' kp e => fin its r' hz h' c' kp e) (by simp only [List.size_toArray] <;> omega)
theorem zkh : zf8 X (.type "tuple") (fun xs H Q => ∃ p ys, xs = [.ref p] /\ ((SqL X.K H p ys /\ ∀ l, H l = none -> Q (.ref l) (upd H l (.tup ys))) \/ (SqT X.K H p ys /\ Q (.ref p) H))) := by
 intro pins s σ H xs us Q I r h;obtain ⟨p, ys, rfl, h⟩ := h;obtain ⟨u, rfl, rx⟩ := zph r;cases rx;rcases h with ⟨hq, q⟩ | ⟨hq, q⟩
 ·obtain ⟨its, r', pl, hz⟩ := I.list hq
  have hlen := r'.length;refine call_tuple_list pl.isList (fun h' kp => ?_) (by simp only [List.size_toArray] <;> omega);have I1 : Inv X pins σ H { s with heap := h' } := I.kept (t' := s.toks) kp;have I2 : Inv X pins σ (upd H h'.objs.size (.tup ys)) { s with heap := h'.push { cls := .type "tuple", data := .seq its.toArray } } :=
   I1.laid (t' := s.toks) (fun b o e => Heap.get?_push_of_some _ e) (Nat.le_refl _) (show zcb X.prog X.w _ _ _ (.tup ys) from ⟨hz, its, r', IsTup.new _ _⟩)
  exact ⟨.ref h'.objs.size, _, I2, rfl, q _ (I1.hok.fresh (Nat.le_refl _))⟩
 ·obtain ⟨its, r', pl, hz⟩ := I.tuple hq
  exact call_tuple_same pl ⟨.ref p, H, I, rfl, q⟩
def tyV (K : PySem.W.Frag) (T : String) (x : V) (H : Hp) : Prop := match x with
 | .str _ => T = "str"
 | .int _ => T = "int"
 | .ref p => (T = "list" /\ ∃ xs, SqL K H p xs) \/ (T = "tuple" /\ ∃ o, K.lookup p = some o /\ o.cls = .type "tuple" /\ o.dict = none) \/
  (T = "dict" /\ ((∃ kvs, H p = some (.dK kvs)) \/ ∃ kvs, H p = some (.dT kvs))) \/ (T = "set" /\ ∃ S n, H p = some (.set S n))
 | _ => False
theorem zvj {pins : List (Addr × Obj)} {σ : St} {H : Hp} {s : Shared} {T : String} {x : V} {v : Value} (I : Inv X pins σ H s) (r : RelV x v) (ty : tyV X.K T x H) :
  s.TypeIs v T /\ ∀ a, v = .ref a -> ∃ ob, s.heap.get? a = some ob /\ ob.dict = none := by
 cases x with
 | str z =>
   obtain ⟨t, rfl⟩ := r;cases (show T = "str" from ty);exact ⟨typeIs_str s z t, fun _ e => nomatch e⟩
 | int i =>
   obtain ⟨t, rfl⟩ := r;cases (show T = "int" from ty);exact ⟨typeIs_int s i t, fun _ e => nomatch e⟩
 | ref p =>
   cases r;rcases ty with ⟨rfl, xs, hq⟩ | ⟨rfl, o, hk, hc, hd⟩ | ⟨rfl, hk⟩ | ⟨rfl, S, n, hk⟩
   ·obtain ⟨its, _, pl, _⟩ := I.list hq
    refine ⟨pl.isList.typeIs, fun a e => ?_⟩;cases e;obtain ⟨o, n, e, c, hd, _⟩ := pl;exact ⟨o, e, hd⟩
   ·refine ⟨⟨o, I.kIn p o hk, hc⟩, fun a e => ?_⟩
    cases e;exact ⟨o, I.kIn _ o hk, hd⟩
   ·have z : ∃ o, s.heap.get? p = some o /\ o.ExactDict := by
     rcases hk with ⟨kvs, hk⟩ | ⟨kvs, hk⟩
     ·obtain ⟨_, _, _, _, o, _, _, e, ex, _⟩ := I.hok p _ hk
      exact ⟨o, e, ex⟩
     ·obtain ⟨_, _, _, _, o, _, _, e, ex, _⟩ := I.hok p _ hk
      exact ⟨o, e, ex⟩
    obtain ⟨o, e, ex⟩ := z;refine ⟨⟨o, e, ex.1⟩, fun a e2 => ?_⟩;cases e2;exact ⟨o, e, ex.2.1⟩
   ·obtain ⟨o, _, _, _, e, ex, _⟩ := I.hok p _ hk
    refine ⟨⟨o, e, ex.1⟩, fun a e2 => ?_⟩;cases e2;exact ⟨o, e, ex.2.1⟩
 | _ => exact False.elim ty
def tBM0 (K : PySem.W.Frag) (T : String) (r : V -> List V -> Hp -> VK -> Prop) (to : TE) : TE := fun σ H Q => to σ H fun x H1 => tyV K T x H1 /\ r x [] H1 Q
def tBM (K : PySem.W.Frag) (T : String) (r : V -> List V -> Hp -> VK -> Prop) (to : TE) (t : TA) : TE := fun σ H Q => to σ H fun x H1 => tyV K T x H1 /\ t σ H1 fun xs H2 => r x xs H2 Q
variable {o e : Expr} {es : List Expr} {to : TE} {t : TA} {name : Str} {apos cpos : Pos} {T id : String} {r : V -> List V -> Hp -> VK -> Prop}
theorem zzp (pa : PlainAttrs T) (slot : Slot T name id) (hty : typeOf (.builtin id) = pure (.type "method_descriptor")) (hm : MtR X id r) (ho : PE X o to)
  (hbase : attributeBase o name X.env (eval o X.env) = eval o X.env := by rfl) (hline : (apos.endLine == cpos.line) = true := by rfl) : PE X (.Call (.Attribute o name apos) [] [] cpos) (tBM0 X.K T r to) := by
 intro pins s σ H Q I h;refine wpAny_Call_method0_late hbase hline (thn (ho pins s σ H _ I h) fun v s1 hq_ => ?_);obtain ⟨x, H1, I1, r1, ty, q1⟩ := hq_;obtain ⟨h1, h2⟩ := zvj I1 r1 ty;exact ⟨T, id, pa, slot, hty, h1, h2, Calls.callWith_builtin rfl (PySem.evalArgs_none (hm pins s1 σ H1 x [] v [] Q I1 r1 .nil q1))⟩
theorem z2f (pa : PlainAttrs T) (slot : Slot T name id) (hty : typeOf (.builtin id) = pure (.type "method_descriptor")) (hm : MtR X id r) (ho : PE X o to) (ha : PA X (e :: es) t)
  (hbase : attributeBase o name X.env (eval o X.env) = eval o X.env := by rfl)
  (hfew : ((backTo cpos (starEach (e :: es) X.env)).all (fun x => !x.1) && (backToKw cpos (keywordEach [] X.env)).all (fun x => x.1.isSome)
   && decide ((e :: es).length + ([] : List Keyword).length + (if ([] : List Keyword).isEmpty then 0 else 1) < 30)) = true := by rfl)
  (hline : (apos.endLine == cpos.line) = true := by rfl) (hs : starEach (e :: es) X.env = (false, eval e X.env) :: starEach es X.env := by rfl) (hplain : (backTo cpos (starEach es X.env)).any (·.1) = false := by rfl) :
  PE X (.Call (.Attribute o name apos) (e :: es) [] cpos) (tBM X.K T r to t) := by
 intro pins s σ H Q I h;refine wpAny_Call_method_late hbase hfew hline rfl (thn (ho pins s σ H _ I h) fun v s1 hq_ => ?_);obtain ⟨x, H1, I1, r1, ty, q1⟩ := hq_;obtain ⟨h1, h2⟩ := zvj I1 r1 ty;refine ⟨T, id, pa, slot, hty, h1, h2, ?_⟩;have hA := ha cpos pins s1 σ H1 _ I1 q1;rw [hs] at hA ⊢;refine Calls.callWith_builtin (by show (false || (backTo cpos (starEach es X.env)).any (·.1)) = false; rw [hplain] <;> rfl) (Calls.evalArgs_plain ?_);exact thn hA fun us s2 ⟨vs, H2, I2, r2, q2⟩ => hm pins s2 σ H2 x vs v us Q I2 r1 r2 q2
end
end L2
namespace L2
open PySem PySem.Spec PyProof.Rows
def MtM (X : Cx) (id : String) (r : V -> List V -> Hp -> VK -> Prop) : Prop :=
 ∀ (pins : List (Addr × Obj)) (s : Shared) (σ : St) (H : Hp) (x : V) (xs : List V) (v : Value) (us : List Value) (Q : VK), Inv X pins σ H s -> RelV x v -> Vals xs us -> r x xs H Q ->
   wpAny (model X.prog X.w) X.A (call (.builtin id) (v :: us)) (EP X pins σ Q) X.xe s
theorem Vals.one {x : V} {us : List Value} (h : Vals [x] us) : ∃ u, us = [u] /\ RelV x u := by
 cases h with
 | cons r t => cases t; exact ⟨_, rfl, r⟩
theorem Vals.two : ∀ {x y : V} {us : List Value}, Vals [x, y] us -> ∃ u v, us = [u, v] /\ RelV x u /\ RelV y v
 | _, _, _, .cons r (.cons q .nil) => ⟨_, _, rfl, r, q⟩
theorem Vals.zero : ∀ {us : List Value}, Vals [] us -> us = []
 | _, .nil => rfl
theorem Vals.dropLast {xs : List V} {us : List Value} (h : Vals xs us) : Vals xs.dropLast us.dropLast := by
 induction h with
 | nil => exact .nil
 | cons r t ih =>
   cases t with
   | nil => exact .nil
   | cons q t' => exact .cons r ih
theorem Vals.eraseIdx : ∀ {xs : List V} {us : List Value} (i : Nat), Vals xs us -> Vals (xs.eraseIdx i) (us.eraseIdx i)
 | _, _, _, .nil => .nil
 | _, _, 0, .cons _ t => t
 | _, _, i + 1, .cons r t => .cons r (Vals.eraseIdx i t)
theorem zpm {α : Type} (l : List α) : l.eraseIdx (l.length - 1) = l.dropLast := by
 induction l with
 | nil => rfl
 | cons a r ih =>
   cases r with
   | nil => rfl
   | cons b r =>
     have e : (a :: b :: r).length - 1 = ((b :: r).length - 1) + 1 := by
      have h1 : (a :: b :: r).length = r.length + 2 := rfl;have h2 : (b :: r).length = r.length + 1 := rfl;omega
     rw [e, List.eraseIdx_cons_succ, ih]
     all_goals rfl
section
variable {X : Cx} {pins : List (Addr × Obj)} {σ : St} {H : Hp} {s : Shared} {l b : Addr} {xs ys zs : List V}
theorem Inv.lset {its its' : List Value} {n : Nat} {f : Array Value -> Array Value} {t' : Nat} (I : Inv X pins σ H s) (hH : H l = some (.lst xs))
  (e : s.heap.get? l = some { cls := .type "list", data := .seq its.toArray n }) (hf : f its.toArray = its'.toArray) (hv : Vals ys its') (hz : ys.length <= sizeLine) :
  Inv X pins σ (upd H l (.lst ys)) { s with heap := s.heap.update l (Obj.mapSeq f), toks := t' } := by
 have q := PySem.IsL.update e f;rw [hf] at q;refine I.write (x := l) (e := l) (by rw [hH]; exact trivial) (.inl rfl) (fun b' u hb hu => (Heap.get?_update_other s.heap (Obj.mapSeq f) (Ne.symm hb)).trans hu) ⟨_, q⟩ ?_;exact ⟨hz, its', _, hv, q⟩
theorem Inv.lnew {its : List Value} {t' : Nat} (I : Inv X pins σ H s) (hv : Vals ys its) (hz : ys.length <= sizeLine) :
  Inv X pins σ (upd H s.heap.objs.size (.lst ys)) { s with heap := s.heap.push { cls := .type "list", data := .seq its.toArray }, toks := t' } :=
 I.laid (fun _ _ q => Heap.get?_push_of_some _ q) (Nat.le_refl _) ⟨hz, its, 0, hv, Heap.get?_push_size _ rfl⟩
theorem Inv.fresh (I : Inv X pins σ H s) : H s.heap.objs.size = none := I.hok.fresh (Nat.le_refl _)
theorem Inv.lstM (I : Inv X pins σ H s) (hH : H l = some (.lst xs)) : xs.length <= sizeLine /\ ∃ (its : List Value) (n : Nat), Vals xs its /\ xs.length = its.length /\ s.heap.get? l = some { cls := .type "list", data := .seq its.toArray n } := by
 obtain ⟨z, its, n, r, e⟩ := I.hok l _ hH;exact ⟨z, its, n, r, r.length, e⟩
theorem ztw {n : Nat} (h : n <= sizeLine) : Builtin.List.listTooLong n = false := by
 unfold Builtin.List.listTooLong;exact decide_eq_false (by omega)
end
section
variable {X : Cx}
def zq7 : V -> List V -> Hp -> VK -> Prop := fun x vs H Q => ∃ l xs y, x = .ref l /\ vs = [y] /\ H l = some (.lst xs) /\ xs.length < sizeLine /\ Q .non (upd H l (.lst (xs ++ [y])))
theorem zic : MtM X "list.append" zq7 := by
 intro pins s σ H x vs v us Q I rx rv h;obtain ⟨l, xs, y, rfl, rfl, hH, hz, q⟩ := h;cases rx;obtain ⟨u, rfl, ru⟩ := rv.one;obtain ⟨z, its, n, r, hl, e⟩ := I.lstM hH;refine call_meets F.slot_list_append ⟨_, e, rfl⟩ F.entry_list_append (F.args_list_append_2 _ _) (PySem.list_append l its.toArray n u (by rw [List.size_toArray]; omega)) ⟨e, ?_⟩;refine ⟨.non, _, I.lset (its' := its ++ [u]) hH e (by simp) (r.append (.cons ru .nil)) ?_, rfl, q⟩;rw [List.length_append, List.length_singleton];omega
def rPop : V -> List V -> Hp -> VK -> Prop := fun x vs H Q => ∃ l xs y, x = .ref l /\ vs = [] /\ H l = some (.lst xs) /\ xs[xs.length - 1]? = some y /\ Q y (upd H l (.lst xs.dropLast))
theorem zzq : MtM X "list.pop" rPop := by
 intro pins s σ H x vs v us Q I rx rv h;obtain ⟨l, xs, y, rfl, rfl, hH, hy, q⟩ := h;cases rx;have hus := rv.zero;subst hus;obtain ⟨z, its, n, r, hl, e⟩ := I.lstM hH;obtain ⟨u, hu, ru⟩ := r.get hy;have hy' : its.toArray[its.toArray.size - 1]? = some u := by
  show its.toArray[its.length - 1]? = some u;rw [<- Array.getElem?_toList, <- hl];exact hu
 refine call_meets F.slot_list_pop ⟨_, e, rfl⟩ F.entry_list_pop (F.args_list_pop_1 _) (MeetsSeq.list_pop_last l its.toArray n u hy' (by rw [List.size_toArray]; omega)) ⟨e, ?_⟩;refine ⟨y, _, I.lset (its' := its.dropLast) hH e ?_ r.dropLast ?_, ru, q⟩
 ·show its.toArray.eraseIdxIfInBounds (its.toArray.size - 1) = its.dropLast.toArray
  rw [List.size_toArray, List.eraseIdxIfInBounds_toArray, zpm]
 ·rw [List.length_dropLast]
  omega
end
end L2
namespace Att
open PySem PySem.W PySem.Calls PyProof.Rows
theorem zid {P : Params} {h : Heap} : ∀ (ns : List Int) (vs : List Value), WellAll P h vs (ns.map WData.int) -> IntsAre vs ns := by
 intro ns
 induction ns with
 | nil =>
   intro vs w;rw [List.map_nil] at w;cases w;exact .nil
 | cons n ns ih =>
   intro vs w;rw [List.map_cons] at w;cases w with
   | cons a b =>
     cases a;exact .cons _ _ (ih _ b)
theorem zq8 {l : OpenLaw} {n : Nat} (hn : l.most = some n) {P : Params} {h : Heap} {args : List WData} {vals : List Value}
  (hpre : l.row.toRowW.claim.pre args = true) (hwl : WellAll P h vals args) :
  ∃ a vs ns, vals = [Value.ref a] /\ args = [WData.list (ns.map WData.int)] /\ h.get? a = some { cls := .type "list", data := .seq vs.toArray } /\ IntsAre vs ns /\ ns.length <= n := by
 have hsh : WShape.hasAll [] args [.list .int] = true := (pre_splitW hpre).1;have hc : l.pre.holds [] { args := args } = true := (pre_splitW hpre).2;obtain ⟨d, r, rfl, h1, h2⟩ := hasAllW_cons hsh;obtain rfl := hasAllW_nil h2;obtain ⟨xs, rfl, h3⟩ := hasW_list h1;obtain ⟨ns, rfl⟩ := items_int h3;have hlen : ns.length <= n := by
  unfold OpenLaw.pre at hc;have h4 : (WTm.not (.lt (.lit (.int (n : Int))) (.len (.arg 0)))).holds [] { args := [.list (ns.map .int)] } = true := by
   have h4 := (holds_andW hc).1;rw [hn] at h4;exact h4
  have h5 := condW_of h4 (w_not (w_lt w_lit (w_len_list (w_arg rfl))));rw [List.length_map] at h5;refine Nat.le_of_not_lt fun q => ?_;have q' : (n : Int) < ((ns.length : Nat) : Int) := by omega
  first
   | (rw [decide_eq_true q'] at h5; exact absurd h5 (by decide))
   | (simp at h5; omega)
 cases hwl with
 | cons w1 w2 =>
   cases w2;cases w1 with
   | list ho hall => exact ⟨_, _, ns, rfl, rfl, ho, zid ns _ hall, hlen⟩
theorem zq9 (l : OpenLaw) (args : List WData) : l.row.toRowW.claim.post args (.bool true) args = true :=
 postW_of (r := l.row.toRowW) (X := (true == true))
  (show WShape.has [] (.bool true) .bool = true by first | rfl | decide | simp [WShape.has, WShape.arms, WShape.armsAll])
  (show (WTm.eq .res (.lit (.bool true))).value [] { args := args, res := some (.bool true), after := args } = some (.bool (true == true)) from w_eq_bool (w_res rfl) w_lit) rfl
theorem attach_call {l : OpenLaw} {n : Nat} {q : Program} {loose : List Str} {XP : (Str -> Option Value) -> Heap -> Prop} {YP : World -> Heap -> Prop} {d : DefRec}
  (hn : l.most = some n) (hdf : d.params.defaults = [])
  (call : ∀ (w : World) (s₀ s₁ : Shared) (mg mb : Str -> Option Value) (fa : Addr) (o : Obj) (pm cd doc : Value) (a : Addr) (vs : List Value) (ns : List Int),
   Ground q loose [] XP w s₀ mg mb s₁.heap -> YP w s₁.heap ->
   s₁.heap.get? fa = some o -> o.data = .func (docDef d.name d.params d.body d.scope pm cd doc) -> s₁.heap.CodeRec cd d.name -> mg d.name = some (.ref fa) ->
   s₁.heap.get? a = some { cls := .type "list", data := .seq vs.toArray } -> IntsAre vs ns -> ns.length <= n -> s₁.gens = #[] ->
   codeAny (model l.prog w) callerA (.call (.ref fa) ⟨[.ref a], []⟩) (fun r s' => r = .ok (.ret (.bool true)) /\ OldK s₁.heap s'.heap /\ s'.os = s₁.os /\ AllBare s'.gens) s₁) :
  WalkO q loose XP YP l.row.toRowW d [] (fun f vs => PySem.call f vs) := by
 intro w s₀ s₁ mg mb G Y fa o pm cd doc dV kV ho hd hcd hD hmg hg args vals as hpre hlay hrd hwl hlo;obtain rfl : dV = .none := Dflts.none hD hdf;obtain rfl : kV = .none := Dflts.noKw hD;obtain ⟨a, vs, ns, rfl, rfl, hobj, hints, hlen⟩ := zq8 hn hpre hwl;refine enter_call (codeAny_mono (call w s₀ s₁ mg mb fa o pm cd doc a vs ns G Y ho (fd_plain hd) hcd hmg hobj hints hlen hg) fun r s' hq => ?_);obtain ⟨rfl, h2, h3, h4⟩ := hq;exact ⟨.inl ⟨.bool true, .bool true, [], rfl, fun _ => rfl, .bool true, zq9 l _, fun _ => ⟨List.Pairwise.nil, fun _ hm => (nomatch hm)⟩⟩, h2, h3, h4⟩
end Att
namespace L2
open PySem PySem.Spec PyProof.Rows
theorem zlq : ∀ {vs : List Value} {ns : List Int}, IntsAre vs ns -> Vals (ns.map V.int) vs
 | _, _, .nil => .nil
 | _, _, .cons n t h => .cons ⟨t, rfl⟩ (zlq h)
def Only (H : Hp) : Prop := ∀ b, H b = none \/ ∃ o xs, H b = some (.frz o (.lst xs))
theorem ztx {P : Program} {w : World} {K : PySem.W.Frag} {mg mb : Str -> Option Value} {CX : CXT} {k : Nat} {fa a : Addr} {fd : FuncData} {x : Str} {sp : Sp} {s₁ : Shared} {vs : List Value} {ns : List Int}
  (KX : K.In s₁.heap) (hns : s₁.heap.Ns mainGlobals mg) (hb : s₁.heap.Ns builtinsNs mb) (hbb : ∀ x : Str, x ≠ "__name__" -> mb x = bootBuiltins x) (hlim : s₁.heap.NoLimit) (hg : s₁.gens = #[])
  (ha : s₁.heap.get? a = some { cls := .type "list", data := .seq vs.toArray }) (hi : IntsAre vs ns) (hl : ns.length <= sizeLine) (hr : Room k callerA)
  (F : ∀ base : Heap, K.In base -> base.Ns mainGlobals mg -> FnOk P w K mg base CX k fa fd [x] sp) (hbind : ∀ (s : Shared) (u : Value), BindsTo s fd ⟨[u], []⟩ [(x, u)])
  (hsp : ∀ H : Hp, Only H -> SqL K H a (ns.map V.int) -> sp [.ref a] H (fun v _ => v = .bl true) fun _ _ _ => False)
  (hCX : ∀ H e s', CX [] H s₁ (fun _ _ _ => False) e s' -> False) :
  codeAny (model P w) callerA (.call (.ref fa) ⟨[.ref a], []⟩) (fun r s' => r = .ok (.ret (.bool true)) /\ OldK s₁.heap s'.heap /\ s'.os = s₁.os /\ AllBare s'.gens) s₁ := by
 have rv := zlq hi;have lenV := hi.length;have core : ∀ H : Hp, Only H -> SqL K H a (ns.map V.int) -> HOk P w H s₁.heap -> (∀ b, H b ≠ none -> b = a) -> (H a ≠ none -> K.lookup a = none) ->
   codeAny (model P w) callerA (.call (.ref fa) ⟨[.ref a], []⟩) (fun r s' => r = .ok (.ret (.bool true)) /\ OldK s₁.heap s'.heap /\ s'.os = s₁.os /\ AllBare s'.gens) s₁ := by
  intro H hO hS hok hA hK;have base_of : ∀ {b : Addr} {o : Obj}, s₁.heap.get? b = some o -> H b = none -> (hidT s₁.heap H).get? b = some o := fun e n => zti e n;have noA : ∀ {b : Addr} {o : Obj} {es : Array DictEntry} {ep : Nat}, s₁.heap.get? b = some o -> o.data = .dict es ep -> H b = none := fun {b o es ep} e d => by
   cases q : H b with
   | none => rfl
   | some u =>
     have e' : b = a := hA b (by rw [q]; simp);subst e';rw [ha] at e; cases e;have d' : Data.seq vs.toArray _ = Data.dict es ep := d;cases d'
  have nsK : ∀ {b : Addr} {m : Str -> Option Value}, s₁.heap.Ns b m -> (hidT s₁.heap H).Ns b m := fun {b m} ⟨o, es, ep, e, d, r⟩ => ⟨o, es, ep, base_of e (noA e d), d, r⟩;have hKb : K.In (hidT s₁.heap H) := fun b o e => base_of (KX b o e) (by
   cases q : H b with
   | none => rfl
   | some u =>
     have e' : b = a := hA b (by rw [q]; simp);subst e';rw [hK (by rw [q]; simp)] at e; cases e)
  have hM : Mod K mg (hidT s₁.heap H) := ⟨hKb, nsK hns, ⟨mb, nsK hb, hbb⟩, let ⟨mc, h1, h2⟩ := hlim; ⟨mc, nsK h1, h2⟩⟩;have e0 : Env0 P w K mg (hidT s₁.heap H) callerA [] s₁ H := ⟨rfl, hM, fun b o e => zwi e, Nat.le_of_eq (zqh _ _), trivial, fun b hb => absurd (show b ∈ ([] : List Addr) from hb) (by simp), hok, .of_eq hg⟩;refine codeAny_mono ((F _ hKb (nsK hns)).run callerA [] s₁ H ⟨[.ref a], []⟩ [.ref a] [.ref a] _ _ hr e0 (hbind s₁ (.ref a)) (.cons rfl .nil) (hsp H hO hS)) fun r s' h => ?_;cases r with
  | error e => exact (hCX H e s' h).elim
  | ok fl =>
    cases fl with
    | next => exact False.elim h
    | brk => exact False.elim h
    | cont => exact False.elim h
    | ret u =>
      obtain ⟨v, H', os, bare, un, hok', r', q⟩ := h;have q' : v = .bl true := q;subst q';obtain rfl : u = Value.bool true := r';refine ⟨rfl, OldK.of_keep fun b o e => ?_, os, bare⟩;cases q : H b with
      | none => exact un.keep b o e q (by intro z; exact absurd (show b ∈ ([] : List Addr) from z) (by simp)) (by simp)
      | some u =>
        rcases hO b with z | ⟨ob, xs, z⟩
        ·rw [q] at z; cases z
        ·have z2 := un.frzs b ob _ z
         obtain ⟨e1, _⟩ := hok b _ z;obtain ⟨e2, _⟩ := hok' b _ z2;rw [e] at e1; cases e1;exact e2
 cases hk : K.lookup a with
 | some o =>
   have e := KX a o hk;rw [ha] at e;cases e;refine core (fun _ => none) (fun _ => .inl rfl) (.inr ⟨_, vs.toArray, _, hk, rfl, rfl, rfl, by rw [List.size_toArray, lenV]; exact hl, by simpa using rv⟩) (fun b u z => by have z' : (none : Option HO) = some u := z; cases z') (fun b z => absurd rfl z) fun z => absurd rfl z
 | none =>
   refine core (fun b => if b = a then some (.frz { cls := .type "list", data := .seq vs.toArray } (.lst (ns.map V.int))) else none) (fun b => ?_) (.inl (.inr ⟨{ cls := .type "list", data := .seq vs.toArray }, if_pos rfl⟩)) (fun b u z => ?_) (fun b z => ?_) fun _ => hk
   ·by_cases hb : b = a
    ·exact .inr ⟨_, _, if_pos hb⟩
    ·exact .inl (if_neg hb)
   ·by_cases hb : b = a
    ·have z' := (if_pos hb).symm.trans z
     cases z';subst hb;exact ⟨ha, by rw [List.length_map]; exact hl, vs, _, rv, ha⟩
    ·have z' := (if_neg hb).symm.trans z
     cases z'
   ·by_cases hb : b = a
    ·exact hb
    ·exact absurd (if_neg hb) z
end L2
namespace L2
open PySem PySem.Spec PyProof.Rows
theorem walk_of {l : PySem.W.OpenLaw} {n k : Nat} {q : Program} {loose : List Str} {XP : (Str -> Option Value) -> Heap -> Prop} {YP : World -> Heap -> Prop} {d : DefRec} {K : Params -> PySem.W.Frag} {CX : World -> CXT} {sp : World -> Sp} {x : Str}
  (hn : l.most = some n) (hn2 : n <= sizeLine) (hdf : d.params.defaults = []) (hr : Room k callerA)
  (hY : ∀ (w : World) (h : Heap), YP w h -> (K w.params).In h)
  (F : ∀ (w : World) (mg : Str -> Option Value) (fa : Addr) (h : Heap), (K w.params).In h -> h.Ns mainGlobals mg -> mg d.name = some (.ref fa) ->
   ∃ fd : FuncData, (∀ (s : Shared) (u : Value), BindsTo s fd ⟨[u], []⟩ [(x, u)]) /\
     ∀ base : Heap, (K w.params).In base -> base.Ns mainGlobals mg -> FnOk l.prog w (K w.params) mg base (CX w) k fa fd [x] (sp w))
  (hsp : ∀ (w : World) (H : Hp) (a : Addr) (ns : List Int), ns.length <= n -> Only H -> SqL (K w.params) H a (ns.map V.int) -> sp w [.ref a] H (fun v _ => v = .bl true) fun _ _ _ => False)
  (hCX : ∀ (w : World) (H : Hp) (s : Shared) (e : Value) (s' : Shared), CX w [] H s (fun _ _ _ => False) e s' -> False) :
  PySem.W.WalkO q loose XP YP l.row.toRowW d [] (fun f vs => PySem.call f vs) := by
 refine Att.attach_call hn hdf fun w s₀ s₁ mg mb fa o pm cd doc a vs ns G Y ho hd hcd hmg hobj hints hlen hg => ?_;have KX := hY w _ Y;obtain ⟨fd, hb, hF⟩ := F w mg fa _ KX G.T.g hmg;exact ztx KX G.T.g G.T.b G.T.builtins G.T.nolimit hg hobj hints (Nat.le_trans hlen hn2) hr hF hb (fun H hO hS => hsp w H a ns hlen hO hS) fun H e s' => hCX w H s₁ e s'
end L2
namespace L2
open PySem PySem.Spec PyProof.Rows
def zd2 (s : Stmt) (j : Nat) : Stmt := match s with
 | .ClassDef _ _ _ body _ _ _ _ _ _ _ => body.getD j (.Pass ⟨0, 0, 0, 0⟩)
 | _ => .Pass ⟨0, 0, 0, 0⟩
def zao (s : Stmt) : Arguments := match s with
 | .FunctionDef _ a _ _ _ _ _ _ _ _ => a
 | _ => { posonlyargs := [], args := [], vararg := none, kwonlyargs := [], kw_defaults := [], kwarg := none, defaults := [] }
def zan (s : Stmt) : List Stmt := match s with
 | .FunctionDef _ _ b _ _ _ _ _ _ _ => b
 | _ => []
def zac (s : Stmt) : Scope := match s with
 | .FunctionDef _ _ _ _ _ _ sc _ _ _ => sc
 | _ => { kind := .function, names := [], isGenerator := false, isCoroutine := false }
abbrev CX0 : CXT := fun _ _ _ _ _ _ => False
abbrev E0 : XK := fun _ _ _ => False
structure Fun (K : PySem.W.Frag) (x qual : Str) (st : Stmt) (f : Addr) (fd : FuncData) : Prop where
 ex : ∃ (oc : Value) (od : Option Addr) (kV doc pm : Value) (an : Option Addr) (cdv ct : Value) (osl : Array (Option Value)),
  fd = PySem.W.fnOf x qual (zao st) (zan st) (zac st) .none kV doc pm an cdv ct /\ K.lookup f = some ⟨oc, od, .func fd, osl⟩ /\ PySem.W.codeIn K cdv qual = true
 kp : PySem.W.keepIn K (.ref f) = true
section
variable {P : Program} {w : World} {K : PySem.W.Frag} {mg : Str -> Option Value} {base : Heap}
theorem Fun.binds {x qual : Str} {st : Stmt} {f : Addr} {fd : FuncData} {ps : List Str} (F : Fun K x qual st f fd)
  (h : ∀ (kV doc pm : Value) (an : Option Addr) (cdv ct : Value) (us : List Value), us.length = ps.length -> bindArgs (PySem.W.fnOf x qual (zao st) (zan st) (zac st) .none kV doc pm an cdv ct) ⟨us, []⟩ = pure (ps.zip us)) : zeg K fd ps [] := by
 obtain ⟨oc, od, kV, doc, pm, an, cdv, ct, osl, rfl, lk, hcd⟩ := F.ex;exact .all (h kV doc pm an cdv ct)
theorem zb9 {x qual : Str} {st : Stmt} {f : Addr} {oc : Value} {od an : Option Addr} {osl : Array (Option Value)} {kV doc pm cdv ct : Value} (l : K.lookup f = some ⟨oc, od, .func (PySem.W.fnOf x qual (zao st) (zan st) (zac st) .none kV doc pm an cdv ct), osl⟩)
 (c : PySem.W.codeIn K cdv qual = true) (k : PySem.W.keepIn K (.ref f) = true) : Fun K x qual st f (PySem.W.fnOf x qual (zao st) (zan st) (zac st) .none kV doc pm an cdv ct) := ⟨⟨oc, od, kV, doc, pm, an, cdv, ct, osl, rfl, l, c⟩, k⟩
end
theorem z2g {A : Around} {k : Nat} (hr : Room k A) : A.units + 1 < cLine := Nat.lt_of_le_of_lt (Nat.add_le_add_left (by decide : 1 <= 64) _) hr.units
theorem zlr {n : Nat} (h : n <= 1000) : n < sizeLine := Nat.lt_of_le_of_lt h (by decide)
section
variable {X : Cx}
theorem pv (i : Nat) {x : Str} {pos : Pos} (hN : X.N[i]? = some x := by rfl) (hv : Vis X.env.scope x := by first | exact Or.inl rfl | exact Or.inr (Or.inl rfl) | exact Or.inr (Or.inr rfl)) (hd : (x == ("__debug__" : Str)) = false := by decide)
 (hcd : (x == ("__classdict__" : Str)) = false := by decide) : PE X (.Name x pos) (tVar i) := zhd hN hv hd hcd
end
theorem iteF {A B : Prop} (h : B) : if false = true then A else B := by
 rw [if_neg Bool.false_ne_true];exact h
theorem iteT {A B : Prop} (h : A) : if true = true then A else B := by
 rw [if_pos rfl];exact h
def Same (H H' : Hp) : Prop := ∀ b o, H b = some o -> H' b = some o
theorem Same.free {H H' : Hp} (e : Same H H') {l : Addr} (h : H' l = Option.none) : H l = Option.none := by
 cases q : H l with
 | none => rfl
 | some o =>
   rw [e l o q] at h;cases h
end L2
namespace L2
open PySem PySem.Spec PyProof.Rows
section
variable {X : Cx}
theorem zra : zf8 X (.builtin "len") (fun xs H Q => ∃ a kvs, xs = [V.ref a] /\ H a = some (.dK kvs) /\ Q (.int kvs.length) H) := by
 intro pins s σ H xs us Q I r h;obtain ⟨a, kvs, rfl, ha, q⟩ := h;obtain ⟨u, rfl, ru⟩ := zph r;cases ru;exact z2a I (.inl ha) fun t s' I' => ⟨.int kvs.length, H, I', ⟨t, rfl⟩, q⟩
end
end L2
namespace L2
open PySem PySem.Spec PyProof.Rows
section
variable {α β : Type}
def Dk : Sem α -> Prop
 | .pure _ => True
 | .raise _ => True
 | .unsupported _ => True
 | .finish _ => True
 | .rule _ k => Dk (k ())
 | .at _ k => Dk (k ())
 | .load _ _ k => ∀ o, Dk (k o)
 | .update _ _ f k => (∀ o, (f o).dict = o.dict /\ (f o).isFreed = o.isFreed) /\ Dk (k ())
 | .loadIfAlive _ k => ∀ o, Dk (k o)
 | .point _ k => Dk (k ())
 | .register _ _ => True
 | .alloc _ k => ∀ a, Dk (k a)
 | .fresh k => ∀ t, Dk (k t)
 | .ask k => ∀ x, Dk (k x)
 | .choose _ _ k => ∀ x, Dk (k x)
 | .os _ _ k => ∀ x, Dk (k x)
 | .handled _ k => ∀ x, Dk (k x)
 | .newGen _ k => ∀ x, Dk (k x)
 | .stack k => ∀ x, Dk (k x)
 | .thread k => ∀ x, Dk (k x)
 | _ => False
def HasD (e : Addr) (d : Option Addr) (h : Heap) : Prop := ∃ o, h.get? e = some o /\ o.dict = d
theorem HasD.upd {e a : Addr} {d : Option Addr} {h : Heap} {f : Obj -> Obj} (x : HasD e d h) (hf : ∀ o, (f o).dict = o.dict /\ (f o).isFreed = o.isFreed) : HasD e d (h.update a f) := by
 obtain ⟨o, h1, h2⟩ := x;by_cases q : a = e
 ·subst q
  refine ⟨f o, Heap.get?_update_self f h1 ?_, by rw [(hf o).1]; exact h2⟩;rw [(hf o).2];exact (Heap.get?_some_iff.mp h1).2
 ·exact ⟨o, by rw [Heap.get?_update_other _ _ q]; exact h1, h2⟩
theorem z2h {M : Model} {Γ : PySem.Ctx} {e : Addr} {d : Option Addr} : ∀ {t : Sem α} {Q : α -> Pos -> Shared -> Prop} {E : Value -> Pos -> Shared -> Prop} {p : Pos} {s : Shared}, Dk t -> HasD e d s.heap -> Sem.wp M Γ t Q E p s ->
  Sem.wp M Γ t (fun a p s' => Q a p s' /\ HasD e d s'.heap) (fun x p s' => E x p s' /\ HasD e d s'.heap) p s := by
 intro t
 induction t with
 | pure a => exact fun _ hd h => ⟨h, hd⟩
 | raise a => exact fun _ hd h => ⟨h, hd⟩
 | unsupported a => exact fun _ hd h => h
 | finish a => exact fun _ hd h => h
 | rule a k ih => exact fun dk hd h => ih () dk hd h
 | «at» a k ih => exact fun dk hd h => ih () dk hd h
 | load a b k ih => exact fun dk hd ⟨o, h1, h2⟩ => ⟨o, h1, ih o (dk o) hd h2⟩
 | update a b f k ih => exact fun dk hd ⟨h1, h2⟩ => ⟨h1, ih () dk.2 (hd.upd dk.1) h2⟩
 | loadIfAlive a k ih => exact fun dk hd h => ih _ (dk _) hd h
 | point a k ih => exact fun dk hd h => ih () dk hd h
 | register a k ih => exact fun dk hd h => h
 | alloc o k ih => exact fun dk hd h => ih _ (dk _) (by obtain ⟨q, h1, h2⟩ := hd; exact ⟨q, Heap.get?_push_of_some _ h1, h2⟩) h
 | fresh k ih => exact fun dk hd h => ih _ (dk _) hd h
 | ask k ih => exact fun dk hd h => ih _ (dk _) hd h
 | choose a b k ih => exact fun dk hd ⟨h0, h⟩ => ⟨h0, ih _ (dk _) hd h⟩
 | os a b k ih => exact fun dk hd h => ih _ (dk _) hd h
 | call c h a b k ih => exact fun dk => dk.elim
 | handled a k ih => exact fun dk hd h => ih _ (dk _) hd h
 | genState g k ih => exact fun dk => dk.elim
 | newGen c k ih => exact fun dk hd h => ih _ (dk _) hd h
 | resume g r a k ih => exact fun dk => dk.elim
 | yield => exact fun dk => dk.elim
 | stack k ih => exact fun dk hd h => ih _ (dk _) hd h
 | await => exact fun dk => dk.elim
 | fork => exact fun dk => dk.elim
 | thread k ih => exact fun dk hd h => ih _ (dk _) hd h
theorem zju {M : Model} {A : Around} {e : Addr} {d : Option Addr} {t : Sem α} {Q : α -> Shared -> Prop} {E : Value -> Shared -> Prop} {s : Shared} (dk : Dk t) (hd : HasD e d s.heap) (h : wpAny M A t Q E s) :
 wpAny M A t (fun a s' => Q a s' /\ HasD e d s'.heap) (fun x s' => E x s' /\ HasD e d s'.heap) s := fun Γ p hi => z2h dk hd (h Γ p hi)
theorem Dk.bind {m : Sem α} {f : α -> Sem β} (h : Dk m) (hf : ∀ a, Dk (f a)) : Dk (m >>= f) := by
 revert h
 show Dk m -> Dk (Sem.bind m f)
 induction m with
 | pure a => exact fun _ => hf a
 | raise a => exact fun _ => trivial
 | unsupported a => exact fun _ => trivial
 | finish a => exact fun _ => trivial
 | rule a k ih => exact fun dk => ih () dk
 | «at» a k ih => exact fun dk => ih () dk
 | load a b k ih => exact fun dk o => ih o (dk o)
 | update a b f k ih => exact fun dk => ⟨dk.1, ih () dk.2⟩
 | loadIfAlive a k ih => exact fun dk o => ih o (dk o)
 | point a k ih => exact fun dk => ih () dk
 | register a k ih => exact fun dk => trivial
 | alloc o k ih => exact fun dk o => ih o (dk o)
 | fresh k ih => exact fun dk o => ih o (dk o)
 | ask k ih => exact fun dk o => ih o (dk o)
 | choose a b k ih => exact fun dk o => ih o (dk o)
 | os a b k ih => exact fun dk o => ih o (dk o)
 | call c h a b k ih => exact fun dk => dk.elim
 | handled a k ih => exact fun dk o => ih o (dk o)
 | genState g k ih => exact fun dk => dk.elim
 | newGen c k ih => exact fun dk o => ih o (dk o)
 | resume g r a k ih => exact fun dk => dk.elim
 | yield => exact fun dk => dk.elim
 | stack k ih => exact fun dk o => ih o (dk o)
 | await => exact fun dk => dk.elim
 | fork => exact fun dk => dk.elim
 | thread k ih => exact fun dk o => ih o (dk o)
end
theorem zrb {α : Type} {a : α} : Dk (pure a : Sem α) := trivial
theorem zm4 {a : Addr} : Dk (load a) := fun _ => trivial
theorem zvk {a : Addr} {f : Obj -> Obj} (h : ∀ o, (f o).dict = o.dict /\ (f o).isFreed = o.isFreed) : Dk (update a f) := ⟨h, trivial⟩
theorem zjd {f : Array Value -> Array Value} (o : Obj) : (Obj.mapFields f o).dict = o.dict /\ (Obj.mapFields f o).isFreed = o.isFreed := by
 obtain ⟨c, d, x, sl⟩ := o;cases x <;> exact ⟨rfl, rfl⟩
theorem zgb {v u : Value} {i : Nat} : Dk (setField v i u) := by
 unfold setField
 split
 ·unfold updateField
  refine zm4.bind fun o => ?_
  split
  ·split
   ·exact zvk fun o => zjd o
   ·trivial
  ·trivial
 ·trivial
theorem zhx {v : Value} {i : Nat} : Dk (field v i) := by
 unfold field fieldsOf;refine Dk.bind ?_ fun x => ?_
 ·split
  ·refine zm4.bind fun o => ?_
   split <;> trivial
  ·trivial
 ·split <;> trivial
theorem zie {v : Value} {f : Option Addr} : Dk (setFlight v f) := by
 unfold setFlight;refine zhx.bind fun tb => ?_
 split
 ·exact zgb
 ·trivial
theorem zki : Dk stack := fun _ => trivial
theorem zrc {env : Env} {l : List Env} : Dk (behindIsImport env l) := by
 unfold behindIsImport
 split
 ·trivial
 ·split
  ·trivial
  ·exact zhx.bind fun _ => trivial
theorem zm5 {env : Env} {b : Bool} {l : List Env} : Dk (keptBack env b l) := by
 unfold keptBack
 split
 ·split
  ·trivial
  ·unfold underTheClaimsCaller
   refine Dk.bind (m := stack >>= fun _ => pure _) (zki.bind fun _ => zrb) fun _ => zrb
 ·trivial
theorem zoa : ∀ l : List Env, Dk (readyFrames l)
 | [] => trivial
 | env :: outer => by
   unfold readyFrames
   split
   ·refine zm4.bind fun o => ?_
    split
    ·trivial
    ·exact zrc.bind fun b => zm5.bind fun v => Dk.bind (zvk (by intro o; obtain ⟨c, d, x, sl⟩ := o; cases x <;> exact ⟨rfl, rfl⟩)) fun _ => zoa outer
   ·trivial
theorem zpn {env : Env} : Dk (PySem.frameOf env) := by
 unfold PySem.frameOf;refine Dk.bind ?_ fun l => Dk.bind ?_ fun x => ?_
 ·unfold frameEnvs
  exact zki.bind fun _ => trivial
 ·unfold frameObject
  split
  ·trivial
  ·exact (zoa _).bind fun _ => trivial
 ·split <;> trivial
theorem zty {f : Addr} {b : Bool} : Dk (entryPlaceOf f b) := by
 unfold entryPlaceOf;refine zki.bind fun l => ?_
 split <;> trivial
theorem zls {x : String} {vs : List Value} : Dk (newFields x vs) := by
 unfold newFields newObj newObjAsIs;dsimp only
 split
 ·trivial
 ·exact fun a => trivial
theorem zrd {v : Value} {env : Env} : Dk (noteFrame v env) := by
 unfold noteFrame
 split
 ·refine zhx.bind fun hd => ?_
  have fin : ∀ f : Addr, Dk (do setField v 1 (<- EntryCells.newEntry hd (<- PySem.frameOf env) .none (rawInt f) .none (<- entryPlaceOf f (hd != .none)))) := fun f =>
   zpn.bind fun a => zty.bind fun b => Dk.bind (by unfold EntryCells.newEntry; exact zls) fun _ => zgb
  split
  ·refine zhx.bind fun _ => ?_
   split
   ·trivial
   ·exact zgb.bind fun _ => fin _
  ·exact fin _
 ·trivial
theorem zg2 {v : Value} {env : Env} : Dk (leaving env v) := by
 unfold leaving;exact zrd.bind fun _ => zie
end L2
namespace L2
open PySem PySem.Spec PyProof.Rows
def CXE (P : Program) (w : World) : CXT := fun outer H s E e s' =>
 ∃ (ea : Addr) (cls a0 : Value) (B : Heap) (H' : Hp) (dx : Option Addr), e = .ref ea /\ s'.os = s.os /\ AllBare s'.gens /\
   Heap.FlyingW B outer ea cls a0 s'.heap /\ HOk P w H' B /\
   (∀ b o, s.heap.get? b = some o -> H b = none -> b ∉ frs outer -> B.get? b = some o) /\
   (∀ b o, s.heap.get? b = some o -> H b = none -> b ∈ frs outer -> ∃ sl, s'.heap.get? b = some { o with slots := sl }) /\
   (∀ b o, s.heap.get? b = some o -> H b = none -> H' b = none) /\
   (∀ b o, s.heap.get? b = some o -> b ∉ frs outer -> ∃ o', B.get? b = some o') /\
   (∀ b xs, H b = some (.tup xs) -> H' b = some (.tup xs)) /\ (∀ b o u, H b = some (.frz o u) -> H' b = some (.frz o u)) /\
   (∀ b ps, H b = some (.tbl ps) -> ∃ more, H' b = some (.tbl (ps ++ more))) /\ HasD ea dx s'.heap /\ E cls dx H'
theorem HOk.hide {P : Program} {w : World} {H : Hp} {h : Heap} {l : List Addr} (ok : HOk P w H h) (hl : ∀ b ∈ l, H b = none) : HOk P w H (PySem.W.hideAll h l) := fun a o e =>
 (ok a o e).stay (fun b u hb q => PySem.W.hideAll_get _ q fun m => by
  rcases hb with z | z
  ·rw [z] at m; rw [hl a m] at e; cases e
  ·rw [hl b m] at z; cases z) (fun _ q => q) fun _ _ q => q
def zkj (X : Cx) (E : XK) : Prop := ∀ (pins : List (Addr × Obj)) (σ : St) (H : Hp) (s : Shared) (ea C : Addr) (vs : List Value) (h' : Heap), Inv X pins σ H s ->
 Heap.MadeExcOf s.heap h' ea (.ref C) vs -> E (.ref C) none H -> X.xe (.ref ea) { s with heap := h' }
section
variable {P : Program} {w : World} {K : PySem.W.Frag} {mg : Str -> Option Value} {base : Heap} {N : List Str} {qual : Str} {scope : Scope} {f : Addr} {cd : Value} {A : Around} {outer : List Env} {s₀ : Shared} {H₀ : Hp} {E : XK}
theorem zej : zkj (cxOf (CXE P w) P w K mg base N qual scope f cd A outer s₀ H₀ E) E := by
 intro pins σ H s ea C vs h' I hm hE;let X := cxOf (CXE P w) P w K mg base N qual scope f cd A outer s₀ H₀ E;have hst : X.stack = X.env :: outer := rfl;have hfrl : ∀ b, b ∈ frs X.stack ↔ b = X.env.locals \/ b ∈ frs outer := fun b => by
  show b ∈ X.env.locals :: frs outer ↔ _;exact List.mem_cons
 have hF : s.heap.FunFrames (PySem.W.hideAll s.heap (frs X.stack)) X.stack := PySem.W.funFrames_hide I.stack fun env he a ha => List.mem_filterMap.mpr ⟨env, he, ha⟩;show wpAny (model P w) X.A (leaving X.env (.ref ea)) _ _ _;have hd0 : HasD ea none h' := by obtain ⟨t, he, _⟩ := hm.there; exact ⟨_, he, rfl⟩
 refine wpAny_mono (zju (e := ea) (d := none) (s := { s with heap := h' }) zg2 hd0 (wpAny_leaves_madeW (Q := fun _ s2 => ∃ h1 t, s2 = { s with heap := h1 } /\ Heap.FlyingW (PySem.W.hideAll s.heap (frs X.stack)) outer ea (.ref C) (.ref t) h1 /\ Heap.UpToSlots h' h1)
  (s := { s with heap := h' }) (base := PySem.W.hideAll s.heap (frs X.stack)) (h := s.heap) (env := X.env) (outer := outer) (L := X.env.locals) I.ok.frames rfl (fun b o q => PySem.W.of_hideAll _ q) hF hm fun h1 t x1 x2 x3 x4 => ⟨h1, t, rfl, x1, x4⟩)) (fun _ s2 z => ?_) fun _ _ z => z.1
 obtain ⟨⟨h1, t, rfl, x1, x4⟩, hd1⟩ := z;have up : ∀ b o, s.heap.get? b = some o -> b ∈ frs X.stack -> ∃ sl, h1.get? b = some { o with slots := sl } := fun b o e hb => by
  obtain ⟨o', e', nd⟩ := (I.stack.mem hb).2;rw [e] at e'; cases e';exact x4 b o (hm.keeps b o e) nd
 refine ⟨ea, .ref C, .ref t, _, H, none, rfl, I.os, I.bare, x1, I.hok.hide I.stkFree, fun b o e n hb => ?_, fun b o e n hb => ?_, fun b o e n => I.base.free b o e n (by simp [cxOf]), fun b o e hb => ?_, I.base.tups, I.base.frzs, I.base.tbls, hd1, hE⟩
 ·have hL : b ≠ X.env.locals := Nat.ne_of_lt (Nat.lt_of_lt_of_le (Heap.lt_size e) I.ok.above)
  refine PySem.W.hideAll_get _ (I.base.keep b o e n hb (by simp [cxOf])) fun m => ?_;rcases (hfrl b).mp m with z | z
  ·exact hL z
  ·exact hb z
 ·obtain ⟨sl, e1⟩ := I.base.slot b o e n hb (by simp [cxOf])
  obtain ⟨sl', e2⟩ := up b _ e1 ((hfrl b).mpr (.inr hb));exact ⟨sl', e2⟩
 ·have hL : b ≠ X.env.locals := Nat.ne_of_lt (Nat.lt_of_lt_of_le (Heap.lt_size e) I.ok.above)
  obtain ⟨o', e1⟩ := I.base.there b o e (by simp [cxOf]);refine ⟨o', PySem.W.hideAll_get _ e1 fun m => ?_⟩;rcases (hfrl b).mp m with z | z
  ·exact hL z
  ·exact hb z
theorem zal : zc7 (CXE P w) (cxOf (CXE P w) P w K mg base N qual scope f cd A outer s₀ H₀ E) E := by
 intro pins σ H s e s' I h;obtain ⟨ea, cls, a0, B, H', dx, rfl, ho, hb, fly, hok, keep, slot, free, there, tups, frzs, tbls, hd, hE⟩ := h;let X := cxOf (CXE P w) P w K mg base N qual scope f cd A outer s₀ H₀ E;have hfrl : ∀ b, b ∈ frs X.stack ↔ b = X.env.locals \/ b ∈ frs outer := fun b => by
  show b ∈ X.env.locals :: frs outer ↔ _;exact List.mem_cons
 show wpAny (model P w) X.A (leaving X.env (.ref ea)) _ _ _;refine wpAny_mono (zju zg2 hd (wpAny_leaves_onW (Q := fun _ s2 => ∃ h1, s2 = { s' with heap := h1 } /\ Heap.FlyingW B outer ea cls a0 h1 /\ Heap.UpToSlots s'.heap h1) (base := B) (env := X.env) (outer := outer) (L := X.env.locals) I.ok.frames rfl fly fun h1 x1 x4 => ⟨h1, rfl, x1, x4⟩)) (fun _ s2 z => ?_) fun _ _ z => z.1;obtain ⟨⟨h1, rfl, x1, x4⟩, hd1⟩ := z;have ndata : ∀ b, b ∈ frs X.stack -> ∀ o, s'.heap.get? b = some o -> ∃ sl, h1.get? b = some { o with slots := sl } := fun b hb o e => by
  obtain ⟨o', e', nd⟩ := (fly.2.2.1.mem hb).2;rw [e] at e'; cases e';exact x4 b o e nd
 refine ⟨ea, cls, a0, B, H', dx, rfl, ho.trans I.os, hb, x1, hok, fun b o e n hb => ?_, fun b o e n hb => ?_, fun b o e n => ?_, fun b o e hb => ?_, fun b xs q => tups b xs (I.base.tups b xs q), fun b o u q => frzs b o u (I.base.frzs b o u q), fun b ps q => ?_, hd1, hE⟩
 ·have hL : b ≠ X.env.locals := Nat.ne_of_lt (Nat.lt_of_lt_of_le (Heap.lt_size e) I.ok.above)
  refine keep b o (I.base.keep b o e n hb (by simp [cxOf])) (I.base.free b o e n (by simp [cxOf])) fun m => ?_;rcases (hfrl b).mp m with z | z
  ·exact hL z
  ·exact hb z
 ·obtain ⟨sl, e1⟩ := I.base.slot b o e n hb (by simp [cxOf])
  obtain ⟨sl', e2⟩ := slot b _ e1 (I.base.free b o e n (by simp [cxOf])) ((hfrl b).mpr (.inr hb));obtain ⟨sl2, e3⟩ := ndata b ((hfrl b).mpr (.inr hb)) _ e2;exact ⟨sl2, e3⟩
 ·obtain ⟨o', e1⟩ := I.base.there b o e (by simp [cxOf])
  exact free b o' e1 (I.base.free b o e n (by simp [cxOf]))
 ·have hL : b ≠ X.env.locals := Nat.ne_of_lt (Nat.lt_of_lt_of_le (Heap.lt_size e) I.ok.above)
  obtain ⟨o', e1⟩ := I.base.there b o e (by simp [cxOf]);refine there b o' e1 fun m => ?_;rcases (hfrl b).mp m with z | z
  ·exact hL z
  ·exact hb z
 ·obtain ⟨m1, q1⟩ := I.base.tbls b ps q
  obtain ⟨m2, q2⟩ := tbls b _ q1;exact ⟨m1 ++ m2, by rw [q2, Array.append_assoc]⟩
end
abbrev bmVE : List Value := [.type "ValueError", .type "Exception", .type "BaseException", .type "object"]
def zdc (K : PySem.W.Frag) (C : Addr) : Option (List Value) := match K.lookup C with
 | some ⟨.type "type", _, .cls cd, sl⟩ => (match cd.mro, sl.toList with
   | .ref C' :: bm, [_, _, _, _, some (.builtin _), _] => bif (C' == C) && !cd.hasDel && bm.contains (.type "BaseException") then some bm else none
   | _, _ => none)
 | _ => none
theorem zvl {K : PySem.W.Frag} {h : Heap} {C : Addr} {bm : List Value} (X : K.In h) (q : zdc K C = some bm) :
  bm.contains (.type "BaseException") = true /\ ∃ nm qn N bs hdct sn sub ab col dd k0 k1 k2 k3 k5 newId, h.get? C = some (excClassObj nm qn C N bs bm hdct sn sub ab col dd k0 k1 k2 k3 k5 newId) := by
 unfold zdc at q
 split at q
 ·rename_i dct cdt slt look
  split at q
  ·rename_i C2 bm2 j0 j1 j2 j3 nid j5 em es
   cases c : ((C2 == C) && !cdt.hasDel && bm2.contains (.type "BaseException")) with
   | false => rw [c] at q; cases q
   | true =>
     rw [c] at q;have e2 : bm2 = bm := Option.some.inj q;simp only [Bool.and_eq_true, beq_iff_eq, Bool.not_eq_true'] at c;obtain ⟨⟨c1, c2⟩, c3⟩ := c;subst c1 e2;refine ⟨c3, ?_⟩;have ob := X _ _ look;obtain ⟨a1, a2, a3, a4, a5, a6, a7, a8, a9, b1, b2⟩ := cdt;have em : a3 = .ref C2 :: bm2 := em;have c2 : b2 = false := c2;have hsl : slt = #[j0, j1, j2, j3, some (.builtin nid), j5] := by
      obtain ⟨l⟩ := slt;exact congrArg Array.mk es
     rw [em, c2, hsl] at ob;exact ⟨_, _, _, _, _, _, _, _, _, _, _, _, _, _, _, _, ob⟩
  ·cases q
 ·cases q
theorem ztz {K : PySem.W.Frag} {h : Heap} {C : Addr} {bmB : List Value} {newId : String} (X : K.In h) (q : PySem.W.excIn K C bmB newId = true) :
  ∃ bm N nm qn bs hdct sn sub ab col dd k0 k1 k2 k3 k5 mN, h.get? C = some (excClassObj nm qn C N bs bm hdct sn sub ab col dd k0 k1 k2 k3 k5 newId) /\ h.Ns N mN /\ mN "__init__" = none /\ OwnTail h bmB bm := by
 unfold PySem.W.excIn at q
 split at q
 ·rename_i dct cdt slt look
  split at q
  ·rename_i C2 bm2 j0 j1 j2 j3 nid j5 em es
   simp only [Bool.and_eq_true, beq_iff_eq, Bool.not_eq_true'] at q;obtain ⟨⟨⟨⟨⟨c1, c2⟩, c3⟩, tl⟩, okN⟩, noI⟩ := q;subst c1 c2;have ob := X _ _ look;obtain ⟨a1, a2, a3, a4, a5, a6, a7, a8, a9, b1, b2⟩ := cdt;have em : a3 = .ref C2 :: bm2 := em;have c3 : b2 = false := c3;have hsl : slt = #[j0, j1, j2, j3, some (.builtin nid), j5] := by
    obtain ⟨l⟩ := slt;exact congrArg Array.mk es
   rw [em, c3, hsl] at ob;exact ⟨_, _, _, _, _, _, _, _, _, _, _, _, _, _, _, _, _, ob, .of_isNs (PySem.W.isNs_of_in X okN), PySem.W.nsMap_none_of_in X okN noI, PySem.W.tail_of_in X tl⟩
  ·cases q
 ·cases q
theorem zje {M : Model} {A : Around} {E : Value -> Shared -> Prop} {K : PySem.W.Frag} {s : Shared} {e C D : Addr} {oe : Obj} {bmC bmD : List Value} {Q : Bool -> Shared -> Prop} (X : K.In s.heap) (qC : zdc K C = some bmC) (qD : zdc K D = some bmD)
  (he : s.heap.get? e = some oe) (hcls : oe.cls = .ref C) (hq : Q ((Value.ref C :: bmC).contains (.ref D)) s) : wpAny M A (excMatches (.ref e) (.ref D)) Q E s := by
 obtain ⟨h, g, d, t, os⟩ := s;obtain ⟨bC, _, _, _, _, _, _, _, _, _, _, _, _, _, _, _, _, hC⟩ := zvl X qC;obtain ⟨bD, _, _, _, _, _, _, _, _, _, _, _, _, _, _, _, _, hD⟩ := zvl X qD;have hDB : (Value.ref D :: bmD).contains (.type "BaseException") = true := by rw [List.contains_cons, bD, Bool.or_true]
 have f := tc_notTuple;unfold excMatches;generalize hv : (Value.ref C :: bmC).contains (.ref D) = v at hq
 repeat (first | (with_reducible refine wpAny_loadPart_at he ?_; rw [hcls]) | with_reducible refine wpAny_loadPart_at hD ?_ | (with_reducible refine wpAny_isSubtype_exc hD ?_; rw [hDB]) | (with_reducible refine wpAny_isSubtype_exc hC ?_; rw [hv]) | wp_step)
 cases v <;> (wp_walk; exact hq)
section
variable {X : Cx}
def zzr (C : Addr) (E : XK) (t : TA) : TS := fun _ σ H => t σ H fun vs H1 => vs.length <= sizeLine /\ E (.ref C) none H1
theorem zt0 {C : Addr} {E : XK} {x : Str} {np cpos pos : Pos} {e : Expr} {es : List Expr} {t : TA} (hx : zkj X E) (hc : X.calm = true) (q : PySem.W.excIn X.K C bmVE "ValueError.__new__" = true) (hg : Gl X x) (hm : X.mg x = some (.ref C)) (ha : PA X (e :: es) t)
  (hdb : (x == ("__debug__" : Str)) = false := by decide) (he : starEach (e :: es) X.env = (false, eval e X.env) :: starEach es X.env := by rfl) (hpl : (backTo cpos (starEach es X.env)).any (·.1) = false := by rfl) :
  PS X (.Raise (some (.Call (.Name x np) (e :: es) [] cpos)) none pos) (zzr C E t) := by
 intro pins s σ H D I h;obtain ⟨bm, N, nm, qn, bs, hdct, sn, sub, ab, col, dd, k0, k1, k2, k3, k5, mN, hC, hN, hni, T⟩ := ztz I.ok.mod.kin q;refine wpAny_Raise_call_subT (C := C) (nm := nm) (q := qn) (N := N) (bs := bs) (bm := bm) (hdct := hdct) (sn := sn) (sub := sub) (ab := ab) (col := col) (dd := dd) (k0 := k0) (k1 := k1) (k2 := k2) (k3 := k3) (k5 := k5)
  PySem.F.excBase_ValueError (mN := mN) (T.hasType PySem.F.excBase_ValueError.hasBase) (I.ok.hd hc) (by rw [he]; show (false || (backTo cpos (starEach es X.env)).any (·.1)) = false; rw [hpl]; rfl) hni (zfc I hg hm ⟨rfl, ?_⟩ hdb)
 have a := ha cpos pins s σ H _ I h;rw [he] at a ⊢;exact Calls.evalArgs_plain (thn a fun us s2 ⟨vs, H2, I2, r, l, z⟩ => ⟨rfl, by show us.length <= sizeLine; rw [<- r.length]; exact l, I2.bk _ _ hC, hN.keeps I2.bk, T.keeps I2.bk, fun h' ea mk => hx pins σ H2 s2 ea C us h' I2 mk z⟩)
abbrev Cx.tryIn (X : Cx) (pn : List (Addr × Obj)) (kn : St) (xe : Value -> Shared -> Prop) : Cx := { X with pn := pn, kn := kn, xe := xe }
abbrev Cx.inExc (X : Cx) (ea : Addr) : Cx := { X with A := X.A.mark (some (.ref ea)), calm := false, xe := fun _ _ => False }
theorem Cx.Ok.tryIn (ok : X.Ok) (pn : List (Addr × Obj)) (kn : St) (xe : Value -> Shared -> Prop) : (X.tryIn pn kn xe).Ok :=
 ⟨ok.mod, ok.kind, ok.glob, ok.blt, ok.above, ok.inj, ok.has, ok.cab, ok.hd, ok.frames, ok.stk, ok.exf, ok.bs, ok.bsz, ok.noex, ok.exfs, ok.funs, ok.frf⟩
theorem Cx.Ok.inExc (ok : X.Ok) (ea : Addr) : (X.inExc ea).Ok :=
 ⟨ok.mod, ok.kind, ok.glob, ok.blt, ok.above, ok.inj, ok.has, ok.cab, (fun h => nomatch h), ok.frames, ok.stk, ok.exf, ok.bs, ok.bsz, ok.noex, ok.exfs, ok.funs, ok.frf⟩
theorem Inv.inExc {pins : List (Addr × Obj)} {σ : St} {H : Hp} {s : Shared} (I : Inv X pins σ H s) (ea : Addr) : Inv (X.inExc ea) pins σ H s :=
 ⟨I.ok.inExc ea, I.os, I.bare, I.base, I.loc, I.cell, I.free, I.freeC, I.pin, I.hok, I.len, I.kn⟩
theorem Inv.outExc {pins : List (Addr × Obj)} {σ : St} {H : Hp} {s : Shared} {ea : Addr} (ok : X.Ok) (I : Inv (X.inExc ea) pins σ H s) : Inv X pins σ H s :=
 ⟨ok, I.os, I.bare, I.base, I.loc, I.cell, I.free, I.freeC, I.pin, I.hok, I.len, I.kn⟩
theorem zcb.there {P : Program} {w : World} {H : Hp} {h : Heap} {a : Addr} {o : HO} (x : zcb P w H h a o) : ∃ u, h.get? a = some u := by
 cases o with
 | lst xs => obtain ⟨_, _, _, _, e⟩ := x; exact ⟨_, e⟩
 | tup xs => obtain ⟨_, _, _, ob, e, _⟩ := x; exact ⟨_, e⟩
 | dK kvs => obtain ⟨_, _, _, _, o, _, _, e, _⟩ := x; exact ⟨_, e⟩
 | dT kvs => obtain ⟨_, _, _, _, o, _, _, e, _⟩ := x; exact ⟨_, e⟩
 | set S n => obtain ⟨o, _, _, _, e, _⟩ := x; exact ⟨_, e⟩
 | ins C dx fs => obtain ⟨_, _, _, e, _⟩ := x; exact ⟨_, e⟩
 | own y => exact x
 | xd fs => obtain ⟨_, ⟨_, _, _, e, _⟩, _⟩ := x; exact ⟨_, e⟩
 | rng lo hi => obtain ⟨_, _, _, e⟩ := x; exact ⟨_, e⟩
 | frz ob u => obtain ⟨e, _⟩ := x; exact ⟨_, e⟩
 | tbl ps => exact ⟨_, (show h.get? a = some _ from x)⟩
 | met f y => exact ⟨_, (show h.get? a = some _ from x)⟩
 | ext φ => exact x.2.1
abbrev THd := Value -> Option Addr -> Addr -> Ends -> St -> Hp -> Prop
def PH (X : Cx) (hs : List ExceptHandler) (t : THd) : Prop :=
 ∀ (pins : List (Addr × Obj)) (s : Shared) (σ : St) (H : Hp) (D : Ends) (ea : Addr) (cls a0 : Value) (dx : Option Addr) (B : Heap), X.Ok -> (∀ h', B.StaysIn h' -> s.heap.UpToSlots h' -> Inv X pins σ H { s with heap := h' }) ->
   (∀ h' φ, B.StaysIn h' -> s.heap.UpToSlots h' -> zcb X.prog X.w H h' ea (.ext φ) -> Inv X pins σ (upd H ea (.ext φ)) { s with heap := h' }) -> Heap.FlyingW B X.stack ea cls a0 s.heap -> (HasD ea dx s.heap /\ H ea = none) -> t cls dx ea D σ H -> wpAny (model X.prog X.w) X.A (handleBy (.ref ea) X.env hs) (SP X pins D) X.xe s
def tTry (X : Cx) (body : List Stmt) (th : THd) : TS := fun D σ H => ∃ (kn : St) (R : XK) (tb : TS), kn.length = σ.length /\ (∀ (i : Nat) (v : V), kn[i]? = some (some v) -> σ[i]? = some (some v)) /\
 (∀ (i : Nat) (v : V), X.kn[i]? = some (some v) -> kn[i]? = some (some v)) /\
 (∀ (pn : List (Addr × Obj)) (xe : Value -> Shared -> Prop), zc7 (CXE X.prog X.w) (X.tryIn pn kn xe) R -> PassesOwn (model X.prog X.w) X.A X.env xe -> PSs (X.tryIn pn kn xe) body tb) /\
 tb D σ H /\ ∀ cls dx ea H', R cls dx H' -> th cls dx ea D kn H'
theorem zzs {body : List Stmt} {h₀ : ExceptHandler} {hs : List ExceptHandler} {th : THd} {pos : Pos} (hph : PH X (h₀ :: hs) th) (hst : X.stack = X.env :: X.outer := by rfl) (hfr : X.env.frame = some X.env.locals := by rfl) :
  PS X (.Try body (h₀ :: hs) [] [] pos) (tTry X body th) := by
 intro pins s σ H D I h;obtain ⟨kn, R, tb, hl, hk, hk2, hb, h, hth⟩ := h;refine wpAny_Try_except ?_;have own := PassesOwn.looking (M := model X.prog X.w) (A := X.A) (env := X.env) (E₁ := X.xe) (K := fun e s₂ => wpAny (model X.prog X.w) X.A (setFlight e none) (fun _ s₃ => wpAny (model X.prog X.w) X.A (handleBy e X.env (h₀ :: hs)) (SP X pins D) X.xe s₃) X.xe s₂);have back : ∀ {pn : List (Addr × Obj)} {xe : Value -> Shared -> Prop} {pins' : List (Addr × Obj)} {σ' : St} {H' : Hp} {s' : Shared}, (∀ p ∈ X.pn ++ pins, p ∈ pn) -> Inv (X.tryIn pn kn xe) pins' σ' H' s' -> Inv X pins σ' H' s' := fun {pn xe pins' σ' H' s'} hp J =>
  ⟨I.ok, J.os, J.bare, J.base, J.loc, J.cell, J.free, J.freeC, fun p z => J.pin p (List.mem_append_left _ (hp p z)), J.hok, J.len, fun i v e => J.kn i v (hk2 i v e)⟩
 have pas : zc7 (CXE X.prog X.w) (X.tryIn (X.pn ++ pins) kn fun e s₁ => wpAny (model X.prog X.w) X.A (noteFrame e X.env) (fun _ s₂ => wpAny (model X.prog X.w) X.A (setFlight e none) (fun _ s₃ => wpAny (model X.prog X.w) X.A (handleBy e X.env (h₀ :: hs)) (SP X pins D) X.xe s₃) X.xe s₂) X.xe s₁) R := by
  intro pins' σ' H1 s1 e s' I1 T;obtain ⟨ea, cls, a0, B, H', dx, rfl, ho, hbare, fly, hok, keep, slot, free, there, tups, frzs, tbls, hd, hE⟩ := T;have I2 : Inv X pins kn H1 s1 := (back (fun _ z => z) I1).weak (by rw [hl, I.len]; exact (I1.len).symm) (fun i v e => I1.kn i v e) hk2;have slot1 : ∀ h', s'.heap.UpToSlots h' -> ∀ b o, s1.heap.get? b = some o -> H1 b = none -> b ∈ frs X.stack -> ∃ sl, h'.get? b = some { o with slots := sl } := fun h' up b o e n hb => by
   obtain ⟨sl, e1⟩ := slot b o e n hb;obtain ⟨o', e', nd⟩ := (fly.2.2.1.mem hb).2;rw [e1] at e';cases e';obtain ⟨sl2, e2⟩ := up b _ e1 nd;exact ⟨sl2, e2⟩
  have there1 : ∀ h', B.StaysIn h' -> s'.heap.UpToSlots h' -> ∀ b o, s1.heap.get? b = some o -> ∃ o', h'.get? b = some o' := fun h' st up b o e => by
   by_cases hb : b ∈ frs X.stack
   ·obtain ⟨sl, e2⟩ := slot1 h' up b o e (I2.stkFree b hb) hb
    exact ⟨_, e2⟩
   ·obtain ⟨o', e2⟩ := there b o e hb
    exact ⟨o', st b o' e2⟩
  have car : ∀ h', B.StaysIn h' -> s'.heap.UpToSlots h' -> Inv X pins kn H' { s' with heap := h' } := fun h' st up =>
   I2.call' (s' := { s' with heap := h' }) (ch := []) ho ⟨fun b o e n hb _ => st b o (keep b o e n hb), fun b o e n hb _ => slot1 h' up b o e n hb, fun b o e n _ => free b o e n, fun b o e _ => there1 h' st up b o e, tups, frzs, tbls⟩ (hok.kept fun b u z => st b u z) hbare (fun _ z => nomatch z)
  have inB : ∀ b u, H' b = some u -> b ≠ ea := fun b u z w => by
   obtain ⟨v, hv⟩ := (hok b u z).there;rw [w, fly.2.1] at hv; cases hv
  have car2 : ∀ h' φ, B.StaysIn h' -> s'.heap.UpToSlots h' -> zcb X.prog X.w H' h' ea (.ext φ) -> Inv X pins kn (upd H' ea (.ext φ)) { s' with heap := h' } := fun h' φ st up new => by
   have kp : ∀ b u, H' b = some u -> upd H' ea (.ext φ) b = some u := fun b u z => by rw [zah (inB b u z)]; exact z
   refine I2.call' (s' := { s' with heap := h' }) (ch := []) ho ⟨fun b o e n hb _ => st b o (keep b o e n hb), fun b o e n hb _ => slot1 h' up b o e n hb, fun b o e n _ => ?_, fun b o e _ => there1 h' st up b o e,
    fun b xs e => kp b _ (tups b xs e), fun b o u e => kp b _ (frzs b o u e), fun b ps e => let ⟨m, q⟩ := tbls b ps e; ⟨m, kp b _ q⟩⟩ (fun b u z => ?_) hbare (fun _ z => nomatch z)
   ·rw [zah]; exact free b o e n
    rintro rfl;by_cases hb : b ∈ frs X.stack
    ·obtain ⟨oe, vs, ge, _, gd, _⟩ := fly.first
     obtain ⟨o', e', nd⟩ := (fly.2.2.1.mem hb).2;rw [ge] at e'; cases e';exact nd vs gd
    ·have := keep b o e n hb
     rw [fly.2.1] at this; cases this
   ·by_cases hb : b = ea
    ·subst hb; rw [zaj] at z; cases z
     exact new
    ·rw [zah hb] at z
     exact (hok b u z).stay (fun c v _ r => st c v r) (fun c r => kp c _ r) fun c xs r => kp c _ r
  have hfr2 : X.A.frames = some (X.env :: X.outer) := hst ▸ I.ok.frames;have fly1 : Heap.FlyingW B (X.env :: X.outer) ea cls a0 s'.heap := hst ▸ fly;show wpAny (model X.prog X.w) X.A (noteFrame (.ref ea) X.env) _ _ _;refine wpAny_mono (zju zrd hd (wpAny_looks_onW (Q := fun _ s2 => ∃ h4, s2 = { s' with heap := h4 } /\ Heap.HeldW B (X.env :: X.outer) ea cls a0 X.env.locals h4 /\ Heap.UpToSlots s'.heap h4) hfr2 hfr fly1 fun h4 held4 sm4 => ⟨h4, rfl, held4, sm4⟩)) (fun _ s2 z => ?_) fun _ _ z => z.1;obtain ⟨⟨h4, rfl, held4, sm4⟩, hd4⟩ := z;refine wpAny_mono (zju zie hd4 (wpAny_landsW (Q := fun _ s2 => ∃ h5, s2 = { s' with heap := h5 } /\ Heap.FlyingW B (X.env :: X.outer) ea cls a0 h5 /\ Heap.UpToSlots h4 h5) held4 fun h5 fly5 sm5 => ⟨h5, rfl, fly5, sm5⟩)) (fun _ s2 z => ?_) fun _ _ z => z.1;obtain ⟨⟨h5, rfl, fly5, sm5⟩, hd5⟩ := z;exact hph pins { s' with heap := h5 } kn H' D ea cls a0 dx B I.ok (fun h' st up => car h' st ((sm4.trans sm5).trans up)) (fun h' φ st up new => car2 h' φ st ((sm4.trans sm5).trans up) new) (hst ▸ fly5) ⟨hd5, by cases q : H' ea with | none => rfl | some u => exact absurd rfl (inB ea u q)⟩ (hth cls dx ea H' hE)
 have I' : Inv (X.tryIn (X.pn ++ pins) kn fun e s₁ => wpAny (model X.prog X.w) X.A (noteFrame e X.env) (fun _ s₂ => wpAny (model X.prog X.w) X.A (setFlight e none) (fun _ s₃ => wpAny (model X.prog X.w) X.A (handleBy e X.env (h₀ :: hs)) (SP X pins D) X.xe s₃) X.xe s₂) X.xe s₁) [] σ H s :=
  ⟨I.ok.tryIn _ _ _, I.os, I.bare, I.base, I.loc, I.cell, I.free, I.freeC, fun p z => I.pin p (by simpa using z), I.hok, I.len, hk⟩
 refine wpAny_mono (hb _ _ pas own [] s σ H D I' h) (fun f s1 q => ?_) fun _ _ z => z;cases f with
 | next => obtain ⟨a, b, c, d⟩ := q; exact wpAny_execs_nil ⟨a, b, back (fun _ z => z) c, d⟩
 | brk => obtain ⟨a, b, c, d⟩ := q; exact ⟨a, b, back (fun _ z => z) c, d⟩
 | cont => obtain ⟨a, b, c, d⟩ := q; exact ⟨a, b, back (fun _ z => z) c, d⟩
 | ret u => obtain ⟨v, a, b, c, d⟩ := q; exact ⟨v, a, b, back (fun _ z => z) c, d⟩
end
structure FunV (K : PySem.W.Frag) (x qual : Str) (st : Stmt) (dV : Value) (f : Addr) (fd : FuncData) : Prop where
 ex : ∃ (oc : Value) (od : Option Addr) (kV doc pm : Value) (an : Option Addr) (cdv ct : Value) (osl : Array (Option Value)),
  fd = PySem.W.fnOf x qual (zao st) (zan st) (zac st) dV kV doc pm an cdv ct /\ K.lookup f = some ⟨oc, od, .func fd, osl⟩ /\ PySem.W.codeIn K cdv qual = true
 kp : PySem.W.keepIn K (.ref f) = true
section
variable {P : Program} {w : World} {K : PySem.W.Frag} {mg : Str -> Option Value} {base : Heap}
theorem Fun.toV {x qual : Str} {st : Stmt} {f : Addr} {fd : FuncData} (F : Fun K x qual st f fd) : FunV K x qual st .none f fd := ⟨F.ex, F.kp⟩
theorem FunV.okE {x qual : Str} {st : Stmt} {dV : Value} {f : Addr} {fd : FuncData} {N ps : List Str} {k : Nat} {sp : Sp} (F : FunV K x qual st dV f fd) (S : zar N ps (zac st)) (len : ∀ vs H Q E, sp vs H Q E -> vs.length = ps.length)
  (hbody : ∀ (cdv : Value) (A : Around) (outer : List Env) (s : Shared) (H : Hp) (vs : List V) (Q : VK) (E : XK), Room k (A.deeper (envOfC qual (zac st) s.heap.objs.size f cdv)) -> sp vs H Q E ->
   ∃ t, PSs (cxOf (CXE P w) P w K mg base N qual (zac st) f cdv A outer s H E) (zan st) t /\ t { nx := fun _ H' => Q .non H', rt := Q } (start N vs) H) : FnOk P w K mg base (CXE P w) (k + 1) f fd ps sp := by
 obtain ⟨oc, od, kV, doc, pm, an, cdv, ct, osl, rfl, lk, hcd⟩ := F.ex;exact z17 lk hcd S len fun A outer s H vs Q E hr hsp => hbody cdv A outer s H vs Q E hr hsp
theorem FnOk.calm {k : Nat} {f : Addr} {fd : FuncData} {ps : List Str} {sp : Sp} (F : FnOk P w K mg base (CXE P w) k f fd ps sp) : FnOk P w K mg base CX0 k f fd ps (fun vs H Q _ => sp vs H Q E0) :=
 ⟨fun vs H Q _ h => F.len vs H Q E0 h, fun A outer s H args us vs Q E hr e0 hb r h => codeAny_mono (F.run A outer s H args us vs Q E0 hr e0 hb r h) fun res s' q => by
  cases res with
  | ok fl => cases fl <;> exact q
  | error e =>
    obtain ⟨_, _, _, _, _, _, _, _, _, _, _, _, _, _, _, _, _, _, _, z⟩ := q;exact z⟩
end
end L2
namespace L2
open PySem PySem.Spec PyProof.Rows
section
variable {X : Cx} {pins : List (Addr × Obj)} {σ : St} {H : Hp} {s : Shared} {a : Addr}
theorem Inv.swap {o1 o2 : HO} (I : Inv X pins σ H s) (e : H a = some o1) (n1 : ∀ xs, o1 ≠ .tup xs) (n2 : ∀ x, o1 ≠ .own x) (n3 : ∀ ps, o1 ≠ .tbl ps) (hz : ∀ o u, X.H₀ a = some (.frz o u) -> o2 = .frz o u)
  (new : zcb X.prog X.w (upd H a o2) s.heap a o2) : Inv X pins σ (upd H a o2) s := by
 have hf : ∀ b, H b = none -> upd H a o2 b = none := fun b n => by rw [zah (by rintro rfl; rw [e] at n; cases n)]; exact n
 have tu : ∀ b xs, H b = some (.tup xs) -> upd H a o2 b = some (.tup xs) := fun b xs n => by rw [zah (by rintro rfl; rw [e] at n; exact n1 xs (Option.some.inj n))]; exact n
 refine ⟨I.ok, I.os, I.bare, ⟨I.base.keep, I.base.slot, fun b o q n hx => hf b (I.base.free b o q n hx), I.base.there, fun b xs q => tu b xs (I.base.tups b xs q), fun b o u q => ?_, fun b ps q => ?_⟩, I.loc, I.cell, hf _ I.free, fun x c q => hf c (I.freeC x c q), fun p hp => ?_, fun b u q => ?_, I.len, I.kn⟩
 ·by_cases hb : b = a
  ·subst hb; rw [zaj, hz o u q]
  ·rw [zah hb]; exact I.base.frzs b o u q
 ·obtain ⟨m, q'⟩ := I.base.tbls b ps q
  exact ⟨m, by rw [zah (by rintro rfl; rw [e] at q'; exact n3 _ (Option.some.inj q'))]; exact q'⟩
 ·obtain ⟨a1, a2, a3, a4, a5⟩ := I.pin p hp
  exact ⟨a1, hf _ a2, a3, a4, a5⟩
 ·by_cases hb : b = a
  ·subst hb; rw [zaj] at q; cases q; exact new
  ·rw [zah hb] at q
   exact (I.hok b u q).stay (fun _ _ _ z => z) (fun c z => by rw [zah (by rintro rfl; rw [e] at z; exact n2 _ (Option.some.inj z))]; exact z) tu
end
theorem KV.at {kvs : List (Key × V)} {vs : List (Key × Value)} (r : KV kvs vs) {i : Nat} {k : Key} {v : V} (e : kvs[i]? = some (k, v)) : ∃ u, vs[i]? = some (k, u) /\ RelV v u := by
 induction r generalizing i with
 | nil => simp at e
 | cons p t ih =>
   cases i with
   | zero =>
     simp at e;rename_i a b _ _;obtain ⟨p1, p2⟩ := p;refine ⟨b.2, ?_, ?_⟩
     ·simp only [List.getElem?_cons_zero, Option.some.injEq]
      rw [e] at p1;exact Prod.ext p1.symm rfl
     ·rw [e] at p2; exact p2
   | succ j =>
     obtain ⟨u, h1, h2⟩ := ih (i := j) (by simpa using e);exact ⟨u, by simpa using h1, h2⟩
theorem zw6 {P : Program} {w : World} {k : Key} {u : Value} (h : (zbk P w).is k u = true) : RelV (kV k) u := by
 rcases za0 h with ⟨i, t, rfl, rfl⟩ | ⟨x, t, rfl, rfl⟩
 ·exact ⟨t, rfl⟩
 ·exact ⟨t, rfl⟩
end L2
namespace L2
open PySem PySem.Spec PyProof.Rows
def zlt (X : Cx) (scope : Scope) (cl : List (Str × Addr)) : List Str -> List Nat -> Prop
 | [], [] => True
 | x :: xs, j :: js => (X.N[j]? = some x /\ Vis X.env.scope x /\ (X.env.kindOf x = some .cell \/ X.env.kindOf x = some .free) /\ ((relabel scope X.env).names.lookup x = some .cell \/ (relabel scope X.env).names.lookup x = some .free) /\ cl.lookup x = X.env.cells.lookup x) /\ zlt X scope cl xs js
 | _, _ => False
def zlu (σ : St) (js : List Nat) : St := js.map fun j => (σ[j]?).join
theorem zlt.len {X : Cx} {scope : Scope} {cl : List (Str × Addr)} : ∀ {xs : List Str} {js : List Nat}, zlt X scope cl xs js -> xs.length = js.length
 | [], [], _ => rfl
 | _ :: xs, _ :: js, h => by simp [zlt.len h.2]
theorem zlt.get {X : Cx} {scope : Scope} {cl : List (Str × Addr)} : ∀ {xs : List Str} {js : List Nat} {k : Nat} {x : Str}, zlt X scope cl xs js -> xs[k]? = some x -> ∃ j, js[k]? = some j /\ X.N[j]? = some x /\ Vis X.env.scope x /\
  (X.env.kindOf x = some .cell \/ X.env.kindOf x = some .free) /\ ((relabel scope X.env).names.lookup x = some .cell \/ (relabel scope X.env).names.lookup x = some .free) /\ cl.lookup x = X.env.cells.lookup x
 | [], [], _, _, _, e => by simp at e
 | y :: xs, j :: js, 0, x, h, e => by
   simp at e;subst e;exact ⟨j, rfl, h.1⟩
 | y :: xs, j :: js, k + 1, x, h, e => by
   obtain ⟨j', h1, h2⟩ := zlt.get (k := k) h.2 (by simpa using e);exact ⟨j', by simpa using h1, h2⟩
abbrev zaw (X : Cx) (scope : Scope) (cl : List (Str × Addr)) (N' : List Str) (fp : List Addr) (s3 : Shared) (H2 : Hp) : Cx :=
 { X with N := N', s₀ := s3, H₀ := H2, env := compEnvC scope cl s3.heap.objs.size X.env, outer := X.stack, stack := X.stack, ex := fp, fn := fun _ => false, pn := [], xe := fun _ _ => False, kn := [] }
structure zd3 (X : Cx) (scope : Scope) (cl : List (Str × Addr)) (ts xs : List Str) (js : List Nat) : Prop where
 clos : closureFor scope X.env = pure cl
 ncell : ∀ y ∈ scope.names, y.2 ≠ .cell
 kind : scope.kind = .function
 names : ∀ y ∈ scope.names, y.2 = .local -> scope.names.lookup y.1 = some .local
 sub : ∀ p ∈ cl, X.env.cells.lookup p.1 = some p.2
 has : (scope.names.filter fun y => y.2 == .free).all (fun y => (cl.map (·.1)).contains y.1) = true
 cap : zlt X scope cl xs js
def tYes : TT := fun _ H Q => Q true H
def zob (p : Addr) (J : It) (g : TG) (tc : TT) (te : TE) (Q : VK) (W : Nat -> Nat -> St -> Hp -> List V -> Prop) : Prop :=
 ∀ i m σ2 H2 acc, W i m σ2 H2 acc -> H2 p = some (.lst acc) /\ ((J.stop i H2 /\ Q (.ref p) H2) \/ (J.go i H2 /\ ∃ N : St -> Hp -> List V -> Prop, (∀ σ' H' acc', N σ' H' acc' -> ∃ m', m' < m /\ W (i + 1) m' σ' H' acc') /\ ∀ x H3, J.yld i H2 x H3 -> g x σ2 H3 fun σ4 H4 => tc σ4 H4 fun ok H5 =>
     if ok = true then te σ4 H5 fun y H6 => H6 p = some (.lst acc) /\ acc.length < sizeLine /\ N σ4 (upd H6 p (.lst (acc ++ [y]))) (acc ++ [y]) else N σ4 H5 acc))
def zpo (nt : Nat) (js : List Nat) (wi : TI) (g : TG) (tc : TT) (te : TE) : TE := fun σ H Q => wi σ H fun J H1 => ∀ p, H1 p = none ->
 ∃ W : Nat -> Nat -> St -> Hp -> List V -> Prop, (∃ m, W 0 m (List.replicate nt none ++ zlu σ js) (upd H1 p (.lst [])) []) /\ zob p J g tc te Q W
section
variable {X : Cx} {pins : List (Addr × Obj)} {σ : St} {H1 : Hp} {s2 : Shared} {scope : Scope} {cl : List (Str × Addr)} {ts xs : List Str} {js : List Nat} {fp : List Addr} {it : Addr} {tn : Nat -> Heap -> Prop} {J : It} {tg : Expr}
theorem zjv {s3 : Shared} {h4 : Heap} {tk : Nat} {H2 : Hp} (C : zd3 X scope cl ts xs js) (I3 : Inv X pins σ H2 s3) (fo : ∀ b ∈ fp, FpOk X pins H2 b) (fl : ∀ b ∈ fp, b < s3.heap.objs.size)
  (ns : ∃ m, h4.Ns s3.heap.objs.size m) (k : ∀ b o, s3.heap.get? b = some o -> h4.get? b = some o) :
  Inv (zaw X scope cl (ts ++ xs) fp s3 H2) [] (List.replicate ts.length none ++ zlu σ js) H2 { s3 with heap := h4, toks := tk } := by
 have lk : ∀ x c, cl.lookup x = some c -> X.env.cells.lookup x = some c := fun x c e => C.sub (x, c) (PySem.mem_of_lookup e);have clt : ∀ x c, X.env.cells.lookup x = some c -> c < s3.heap.objs.size := fun x c e => by
  obtain ⟨v, o, ho, _⟩ := I3.cell x c e;exact Heap.lt_size ho
 have hasC : ∀ x, ((relabel scope X.env).names.lookup x = some .cell \/ (relabel scope X.env).names.lookup x = some .free) -> ∃ c, cl.lookup x = some c := fun x h => by
  have hfree : (x, NameKind.free) ∈ scope.names := by
   obtain ⟨k, hk, hm⟩ : ∃ k, (k = .cell \/ k = .free) /\ (x, k) ∈ (relabel scope X.env).names := by
    rcases h with h | h
    ·exact ⟨_, .inl rfl, PySem.mem_of_lookup h⟩
    ·exact ⟨_, .inr rfl, PySem.mem_of_lookup h⟩
   obtain ⟨⟨n, k'⟩, hm', e⟩ := List.mem_map.mp hm;have nc := C.ncell _ hm';dsimp only at e nc
   split at e
   ·rename_i c
    cases e;simp only [Bool.and_eq_true, beq_iff_eq] at c;rw [<- c.1.1];exact hm'
   ·cases e
    rcases hk with rfl | rfl
    ·exact absurd rfl nc
    ·exact hm'
  have q := List.all_eq_true.mp C.has _ (List.mem_filter.mpr ⟨hfree, rfl⟩);have q : x ∈ cl.map (·.1) := by simpa using q
  obtain ⟨⟨y, c⟩, hy, rfl⟩ := List.mem_map.mp q;cases z : cl.lookup y with
  | some c' => exact ⟨c', rfl⟩
  | none =>
    exfalso;have := List.lookup_eq_none_iff.mp z (y, c) hy;simp at this
 obtain ⟨m, hm⟩ := ns;refine ⟨⟨I3.ok.mod, C.kind, I3.ok.glob, I3.ok.blt, Nat.le_refl _, fun x y c h1 h2 => I3.ok.inj x y c (lk x c h1) (lk y c h2), fun x h => hasC x h, (fun x c h => nomatch h), I3.ok.hd, I3.ok.frames, .inl rfl, fun b hb => ⟨Nat.ne_of_lt (fl b hb), fun x c e => (fo b hb).2.2.2.2.1 x c (lk x c e)⟩,
   I3.bs, Nat.le_trans I3.ok.bsz I3.sz, fun b o e hb => ?_, fun b hb hf => ?_, I3.stack, I3.stkFree⟩,
  rfl, I3.bare, Un.kept k, ⟨m, hm, fun i x v e1 e2 e3 => ?_⟩, fun x c e => ?_, I3.hok.fresh (Nat.le_refl _), fun x c e => I3.freeC x c (lk x c e), fun p hp => absurd hp (by simp), I3.hok.kept k, ?_, (fun i v e => nomatch (show (none : Option (Option V)) = some (some v) from e))⟩
 ·rcases (fo b hb).2.2.2.1 with z | z
  ·exact I3.ok.noex b o e z
  ·exact absurd (Nat.lt_of_lt_of_le (Heap.lt_size (I3.ok.bs b o e).1) z) (Nat.lt_irrefl _)
 ·rcases List.mem_cons.mp (I3.stkSub b hf) with z | z
  ·exact (fo b hb).2.1 z
  ·exact (fo b hb).2.2.1 z
 ·by_cases hi : i < ts.length
  ·rw [List.getElem?_append_left (by simpa using hi), List.getElem?_replicate] at e2
   split at e2 <;> cases e2
  ·have hi : ts.length <= i := Nat.not_lt.mp hi
   rw [List.getElem?_append_right hi] at e1;rw [List.getElem?_append_right (by simpa using hi), List.length_replicate] at e2;obtain ⟨j, hj, hN, hv, hk, hk2, hc⟩ := C.cap.get e1;unfold zlu at e2;rw [List.getElem?_map, hj] at e2;have e2 : (σ[j]?).join = some v := by simpa using e2
   have e4 : σ[j]? = some (some v) := by
    cases q : σ[j]? with
    | none => rw [q] at e2; cases e2
    | some o => rw [q] at e2; exact congrArg some e2
   obtain ⟨m0, _, hl⟩ := I3.loc;obtain ⟨u, ru, l⟩ := hl j x v hN e4 hv;refine ⟨u, ru, .inr ⟨hk2, ?_⟩⟩;rcases l with ⟨z, _⟩ | ⟨_, c, ec, cc⟩
   ·rcases hk with hk | hk <;> (rw [z] at hk; cases hk)
   ·obtain ⟨oc, ho, hd⟩ := cc
    exact ⟨c, hc.trans ec, oc, k _ _ ho, hd⟩
 ·obtain ⟨v, o, ho, hd⟩ := I3.cell x c (lk x c e)
  exact ⟨v, o, k _ _ ho, hd⟩
 ·show (List.replicate ts.length none ++ zlu σ js).length = (ts ++ xs).length
  rw [List.length_append, List.length_replicate, List.length_append, C.cap.len];simp [zlu]
theorem zoc {s3 : Shared} {H2 H' : Hp} {s' : Shared} {σ' : St} (I3 : Inv X pins σ H2 s3) (fo : ∀ b ∈ fp, FpOk X pins H2 b) (Ic : Inv (zaw X scope cl (ts ++ xs) fp s3 H2) [] σ' H' s') :
  Inv X pins σ H' s' /\ (∃ m, s'.heap.Ns s3.heap.objs.size m) /\ H' s3.heap.objs.size = none :=
 ⟨I3.call' Ic.os Ic.base Ic.hok Ic.bare fun b hb => let ⟨_, f2, _, f4, f5, f6⟩ := fo b hb; ⟨f4, f2, f5, f6⟩, let ⟨m, hm, _⟩ := Ic.loc; ⟨m, hm⟩, Ic.free⟩
variable {elt iter c : Expr} {pos : Pos} {g : TG} {tc : TT} {te : TE} {Q : VK}
def zif (Xc : Cx) (fp : List Addr) (tn : Nat -> Heap -> Prop) (W : Nat -> Nat -> St -> Hp -> List V -> Prop) (n : Nat) (s' : Shared) : Prop :=
 ∃ i σ' H' acc, Inv Xc [] σ' H' s' /\ tn i s'.heap /\ (∀ b ∈ fp, H' b = none) /\ W i n σ' H' acc
theorem zlv {Xc : Cx} {p : Addr} {W : Nat -> Nat -> St -> Hp -> List V -> Prop} {n : Nat} {s' : Shared} {E : Value -> Shared -> Prop} {R : Option Value -> Shared -> Prop} (hc : Xc.calm = true) (T : Turn Xc.prog Xc.w Xc.K tg J fp it tn) (go : zob p J g tc te Q W)
  (hg : PG Xc tg g) (hxe : Xc.xe = fun _ _ => False) (fo : ∀ {H' : Hp} {b : Addr}, H' b = none -> b ∈ fp -> FpOk Xc [] H' b) (h : zif Xc fp tn W n s')
  (hend : ∀ σ' H' s1, Inv Xc [] σ' H' s1 -> Q (.ref p) H' -> R none s1)
  (hsome : ∀ v s1, wpAny (model Xc.prog Xc.w) Xc.A (letOwnedTupleGo tg (.ref it) v) (fun _ s2 => wpAny (model Xc.prog Xc.w) Xc.A (assign tg Xc.env v) (fun _ s3 => ∃ (i : Nat) (pins : List (Addr × Obj)) (acc : List V) (σ4 : St) (H4 : Hp) (N : St -> Hp -> List V -> Prop), Inv Xc pins σ4 H4 s3 /\ (∀ σ' H' acc', N σ' H' acc' -> ∃ m', m' < n /\ W (i + 1) m' σ' H' acc') /\
   (∀ b ∈ fp, ∃ o, (b, o) ∈ pins /\ s3.heap.get? b = some o) /\ (∀ h', (∀ b ∈ fp, ∀ o, s3.heap.get? b = some o -> h'.get? b = some o) -> tn (i + 1) h') /\
   tc σ4 H4 fun ok H5 => if ok = true then te σ4 H5 fun y H6 => H6 p = some (.lst acc) /\ acc.length < sizeLine /\ N σ4 (upd H6 p (.lst (acc ++ [y]))) (acc ++ [y]) else N σ4 H5 acc) E s2) E s1 -> R (some v) s1) :
  wpAny (model Xc.prog Xc.w) Xc.A (pyNext (.ref it)) R E s' := by
 obtain ⟨i, σ', H', acc, I, st, fr, w⟩ := h;obtain ⟨hp, cs⟩ := go i n σ' H' acc w;rcases cs with ⟨stop, q⟩ | ⟨gg, N, hN, step⟩
 ·refine thn (T.done Xc rfl rfl rfl hc i [] s' σ' H' E I (fun b hb => fo (fr b hb) hb) st stop) fun r s1 hq_ => ?_
  obtain ⟨hr, I1⟩ := hq_;subst hr;exact hend σ' H' s1 I1 q
 ·refine thn (T.item Xc rfl rfl rfl hc i [] s' σ' H' E I (fun b hb => fo (fr b hb) hb) st gg) fun r s1 hq_ => ?_
  obtain ⟨u, hr, h1⟩ := hq_;subst hr;refine hsome u s1 (thn h1 fun _ s2 hq_ => ?_);obtain ⟨x, H3, I3, r3, y3, st3, fr3⟩ := hq_;have I3' := I3.pinned (fun b hb => fo (fr3 b hb) hb) (T.obj _ _ st3);refine wpAny_mono (hg _ s2 σ' H3 x u _ I3' r3 (step x H3 y3)) (fun _ s3 ⟨σ4, H4, I4, q4⟩ => ?_) fun e s z => by rw [hxe] at z; exact z.elim
  have pn : ∀ b ∈ fp, ∀ o, s2.heap.get? b = some o -> s3.heap.get? b = some o := fun b hb o e => (I4.pin (b, o) (List.mem_append_right _ (List.mem_append_right _ (zfy hb e)))).1;refine ⟨i, _, acc, σ4, H4, N, I4, hN, fun b hb => ?_, fun h' k => T.keep _ _ _ st3 fun b hb o e => k b hb o (pn b hb o e), q4⟩;obtain ⟨o, e, _⟩ := T.obj _ _ st3 b hb;exact ⟨o, List.mem_append_right _ (zfy hb e), pn b hb o e⟩
theorem zjw (hc : X.calm = true) (C : zd3 X scope cl ts xs js) (I2 : Inv X pins σ H1 s2) (T : Turn X.prog X.w X.K tg J fp it tn) (st : tn 0 s2.heap) (fo : ∀ b ∈ fp, FpOk X pins H1 b)
  (q : ∀ p, H1 p = none -> ∃ W : Nat -> Nat -> St -> Hp -> List V -> Prop, (∃ m, W 0 m (List.replicate ts.length none ++ zlu σ js) (upd H1 p (.lst [])) []) /\ zob p J g tc te Q W)
  (hg : ∀ fp s3 H2, PG (zaw X scope cl (ts ++ xs) fp s3 H2) tg g) (ht : ∀ fp s3 H2, PT (zaw X scope cl (ts ++ xs) fp s3 H2) c tc) (he : ∀ fp s3 H2, PE (zaw X scope cl (ts ++ xs) fp s3 H2) elt te)
  {RR : Value -> Addr -> Result -> Shared -> Prop} (hRR : ∀ p C H' s', Inv X pins σ H' s' -> (∃ m, s'.heap.Ns C m) -> H' C = none -> s2.heap.objs.size <= C -> Q (.ref p) H' -> RR (.ref p) C (.ok .next) s') :
  wpAny (model X.prog X.w) X.A (newList []) (fun acc s3 => wpAny (model X.prog X.w) X.A (newFunctionEnv scope X.env.globals cl [] X.env.qual none .none (some X.env)) (fun cenv s4 =>
   codeAny (model X.prog X.w) X.A (.compStart (.ListComp elt [⟨tg, iter, [c], 0⟩] scope pos) 0 (.ref it) acc { cenv with scope := relabel scope X.env }) (RR acc cenv.locals) s4) X.xe s3) X.xe s2 := by
 refine wpAny_newObj_type (wpAny_newFunctionEnv C.ncell (by intro y hy; simp at hy) (fun h4 ns4 sb4 => ?_) C.kind);dsimp only at ns4 sb4 ⊢;have I3 : Inv X pins σ (upd H1 s2.heap.objs.size (.lst [])) { s2 with heap := s2.heap.push { cls := .type "list", data := .seq ([] : List Value).toArray } } :=
  I2.laid (t' := s2.toks) (fun b o e => Heap.get?_push_of_some _ e) (Nat.le_refl _) ⟨Nat.zero_le _, [], _, .nil, Heap.get?_push_size _ rfl⟩
 generalize hs3 : ({ s2 with heap := s2.heap.push { cls := .type "list", data := .seq ([] : List Value).toArray } } : Shared) = s3 at I3;have hsz : s3.heap.objs.size = s2.heap.objs.size + 1 := by rw [<- hs3]; exact Heap.size_push ..
 have hp3 : s2.heap.push { cls := .type "list", data := .seq ([] : List Value).toArray } = s3.heap := by rw [<- hs3]
 obtain ⟨W, ⟨m0, w0⟩, go⟩ := q s2.heap.objs.size (I2.hok.fresh (Nat.le_refl _));have fl : ∀ b ∈ fp, b < s2.heap.objs.size := fun b hb => by
  obtain ⟨o, e, _⟩ := T.obj _ _ st b hb;exact Heap.lt_size e
 have fo3 : ∀ b ∈ fp, FpOk X pins (upd H1 s2.heap.objs.size (.lst [])) b := fun b hb => ⟨by rw [zah (Nat.ne_of_lt (fl b hb))]; exact (fo b hb).1, (fo b hb).2⟩;have k4 : ∀ b o, s3.heap.get? b = some o -> h4.get? b = some o := fun b o e => by
  have hb : b ≠ s3.heap.objs.size := Nat.ne_of_lt (Heap.lt_size e);rw [hp3] at sb4;exact sb4.extBut b o hb (Heap.get?_push_of_some _ e)
 rw [hp3] at ns4;have k24 : ∀ b o, s2.heap.get? b = some o -> h4.get? b = some o := fun b o e => k4 b o (by rw [<- hp3]; exact Heap.get?_push_of_some _ e);have st4 : tn 0 h4 := T.keep _ _ _ st fun b _ o e => k24 b o e;have Ic : Inv (zaw X scope cl (ts ++ xs) fp s3 (upd H1 s2.heap.objs.size (.lst []))) [] _ (upd H1 s2.heap.objs.size (.lst [])) { s3 with heap := h4, toks := s3.toks + ([] : List (Str × Value)).length } :=
  zjv C I3 fo3 (fun b hb => by rw [hsz]; exact Nat.lt_succ_of_lt (fl b hb)) ⟨_, ns4⟩ k4
 have fo' : ∀ {H' : Hp} {b : Addr}, H' b = none -> b ∈ fp -> FpOk (zaw X scope cl (ts ++ xs) fp s3 (upd H1 s2.heap.objs.size (.lst []))) [] H' b := fun {H' b} n hb =>
  ⟨n, Nat.ne_of_lt (show b < s3.heap.objs.size by rw [hsz]; exact Nat.lt_succ_of_lt (fl b hb)), fun hf => (Ic.ok.exfs b hb) hf, .inl hb, fun x c e => (Ic.ok.exf b hb).2 x c e, fun p hp => absurd hp (by simp)⟩
 have loop : ∀ s4 : Shared, s4 = { s3 with heap := h4, toks := s3.toks + ([] : List (Str × Value)).length } -> codeAny (model X.prog X.w) X.A (.compLoop (.ListComp elt [⟨tg, iter, [c], 0⟩] scope pos) 0 (.ref it) (.ref s2.heap.objs.size) (compEnvC scope cl s3.heap.objs.size X.env)) (RR (.ref s2.heap.objs.size) s3.heap.objs.size) s4 := by
  rintro s4 rfl;refine PySem.W.kct_loop (zif (zaw X scope cl (ts ++ xs) fp s3 (upd H1 s2.heap.objs.size (.lst []))) fp tn W) (fun n s' hI => ?_) m0 ⟨0, _, _, [], Ic, st4, fun b hb => (fo3 b hb).1, w0⟩;refine zlv (Xc := zaw X scope cl (ts ++ xs) fp s3 (upd H1 s2.heap.objs.size (.lst []))) hc T go (hg _ _ _) rfl fo' hI (fun σ' H' s1 I1 q1 => ?_) (fun v s1 h1 => ?_)
  ·obtain ⟨J1, J2, J3⟩ := zoc I3 fo3 I1
   exact hRR _ _ H' s1 J1 J2 J3 (by rw [hsz]; exact Nat.le_succ _) q1
  ·refine thn h1 fun _ s5 h5 => thn h5 fun _ s6 h6 => ?_
   obtain ⟨i, pins', acc, σ4, H4, N, I4, hN, pin4, keep4, q4⟩ := h6;have fin : ∀ {H7 : Hp} {s7 : Shared} {acc' : List V}, Inv (zaw X scope cl (ts ++ xs) fp s3 (upd H1 s2.heap.objs.size (.lst []))) pins' σ4 H7 s7 -> N σ4 H7 acc' -> ∃ m, m < n /\ zif (zaw X scope cl (ts ++ xs) fp s3 (upd H1 s2.heap.objs.size (.lst []))) fp tn W m s7 := fun {H7 s7 acc'} I7 n7 => by
    obtain ⟨m', hm, w7⟩ := hN _ _ _ n7;refine ⟨m', hm, i + 1, σ4, H7, acc', I7.pins_of (fun p hp => absurd hp (by simp)), keep4 _ fun b hb o e => ?_, fun b hb => ?_, w7⟩
    ·obtain ⟨o', hm', e'⟩ := pin4 b hb
     rw [e] at e';cases e';exact (I7.pin (b, o) (List.mem_append_right _ hm')).1
    ·obtain ⟨o', hm', e'⟩ := pin4 b hb
     exact (I7.pin (b, o') (List.mem_append_right _ hm')).2.1
   refine wpAny_mono (ht fp s3 _ pins' s6 σ4 H4 _ I4 q4) (fun ok s7 hq_ => ?_) fun _ _ z => z.elim;obtain ⟨H7, I7, q7⟩ := hq_;cases ok with
   | false =>
     have n7 : N σ4 H7 acc := by simpa using q7
     have := fin I7 n7;simpa using this
   | true =>
     have q7 := (if_pos (c := (true = true)) rfl).mp q7;show wpAny _ _ (eval elt _) _ _ _;refine wpAny_mono (he fp s3 _ pins' s7 σ4 H7 _ I7 q7) (fun y s8 hq_ => ?_) fun _ _ z => z.elim;obtain ⟨yv, H8, I8, ry, e8, l8, n8⟩ := hq_;refine wpAny_mono (zic (X := zaw X scope cl (ts ++ xs) fp s3 (upd H1 s2.heap.objs.size (.lst []))) pins' s8 σ4 H8 (.ref s2.heap.objs.size) [yv] (.ref s2.heap.objs.size) [y] (fun _ H9 => H9 = upd H8 s2.heap.objs.size (.lst (acc ++ [yv]))) I8 rfl (.cons ry .nil) ⟨_, acc, yv, rfl, rfl, e8, l8, rfl⟩) (fun _ s9 hq_ => ?_) fun _ _ z => z.elim;obtain ⟨_, H9, I9, _, e9⟩ := hq_;subst e9;exact fin I9 n8
 have hself := T.self X.A 0 { s3 with heap := h4, toks := s3.toks + ([] : List (Str × Value)).length } (fun it' s' => codeAny (model X.prog X.w) X.A (.compLoop (.ListComp elt [⟨tg, iter, [c], 0⟩] scope pos) 0 it' (.ref s2.heap.objs.size) (compEnvC scope cl s3.heap.objs.size X.env)) (RR (.ref s2.heap.objs.size) s3.heap.objs.size) s') (notedBy (model X.prog X.w) X.A (compEnvC scope cl s3.heap.objs.size X.env) fun x s' => RR (.ref s2.heap.objs.size) s3.heap.objs.size (.error x) s') st4 (loop _ rfl);subst hs3;exact codeAny_compStart_list (loop _ rfl) hself
theorem zjx (hc : X.calm = true) (C : zd3 X scope cl ts xs js) (I2 : Inv X pins σ H1 s2) (T : Turn X.prog X.w X.K tg J fp it tn) (st : tn 0 s2.heap) (fo : ∀ b ∈ fp, FpOk X pins H1 b)
  (q : ∀ p, H1 p = none -> ∃ W : Nat -> Nat -> St -> Hp -> List V -> Prop, (∃ m, W 0 m (List.replicate ts.length none ++ zlu σ js) (upd H1 p (.lst [])) []) /\ zob p J g tYes te Q W)
  (hg : ∀ fp s3 H2, PG (zaw X scope cl (ts ++ xs) fp s3 H2) tg g) (he : ∀ fp s3 H2, PE (zaw X scope cl (ts ++ xs) fp s3 H2) elt te)
  {RR : Value -> Addr -> Result -> Shared -> Prop} (hRR : ∀ p C H' s', Inv X pins σ H' s' -> (∃ m, s'.heap.Ns C m) -> H' C = none -> s2.heap.objs.size <= C -> Q (.ref p) H' -> RR (.ref p) C (.ok .next) s') :
  wpAny (model X.prog X.w) X.A (newList []) (fun acc s3 => wpAny (model X.prog X.w) X.A (newFunctionEnv scope X.env.globals cl [] X.env.qual none .none (some X.env)) (fun cenv s4 =>
   codeAny (model X.prog X.w) X.A (.compStart (.ListComp elt [⟨tg, iter, [], 0⟩] scope pos) 0 (.ref it) acc { cenv with scope := relabel scope X.env }) (RR acc cenv.locals) s4) X.xe s3) X.xe s2 := by
 refine wpAny_newObj_type (wpAny_newFunctionEnv C.ncell (by intro y hy; simp at hy) (fun h4 ns4 sb4 => ?_) C.kind);dsimp only at ns4 sb4 ⊢;have I3 : Inv X pins σ (upd H1 s2.heap.objs.size (.lst [])) { s2 with heap := s2.heap.push { cls := .type "list", data := .seq ([] : List Value).toArray } } :=
  I2.laid (t' := s2.toks) (fun b o e => Heap.get?_push_of_some _ e) (Nat.le_refl _) ⟨Nat.zero_le _, [], _, .nil, Heap.get?_push_size _ rfl⟩
 generalize hs3 : ({ s2 with heap := s2.heap.push { cls := .type "list", data := .seq ([] : List Value).toArray } } : Shared) = s3 at I3;have hsz : s3.heap.objs.size = s2.heap.objs.size + 1 := by rw [<- hs3]; exact Heap.size_push ..
 have hp3 : s2.heap.push { cls := .type "list", data := .seq ([] : List Value).toArray } = s3.heap := by rw [<- hs3]
 obtain ⟨W, ⟨m0, w0⟩, go⟩ := q s2.heap.objs.size (I2.hok.fresh (Nat.le_refl _));have fl : ∀ b ∈ fp, b < s2.heap.objs.size := fun b hb => by
  obtain ⟨o, e, _⟩ := T.obj _ _ st b hb;exact Heap.lt_size e
 have fo3 : ∀ b ∈ fp, FpOk X pins (upd H1 s2.heap.objs.size (.lst [])) b := fun b hb => ⟨by rw [zah (Nat.ne_of_lt (fl b hb))]; exact (fo b hb).1, (fo b hb).2⟩;have k4 : ∀ b o, s3.heap.get? b = some o -> h4.get? b = some o := fun b o e => by
  have hb : b ≠ s3.heap.objs.size := Nat.ne_of_lt (Heap.lt_size e);rw [hp3] at sb4;exact sb4.extBut b o hb (Heap.get?_push_of_some _ e)
 rw [hp3] at ns4;have k24 : ∀ b o, s2.heap.get? b = some o -> h4.get? b = some o := fun b o e => k4 b o (by rw [<- hp3]; exact Heap.get?_push_of_some _ e);have st4 : tn 0 h4 := T.keep _ _ _ st fun b _ o e => k24 b o e;have Ic : Inv (zaw X scope cl (ts ++ xs) fp s3 (upd H1 s2.heap.objs.size (.lst []))) [] _ (upd H1 s2.heap.objs.size (.lst [])) { s3 with heap := h4, toks := s3.toks + ([] : List (Str × Value)).length } :=
  zjv C I3 fo3 (fun b hb => by rw [hsz]; exact Nat.lt_succ_of_lt (fl b hb)) ⟨_, ns4⟩ k4
 have fo' : ∀ {H' : Hp} {b : Addr}, H' b = none -> b ∈ fp -> FpOk (zaw X scope cl (ts ++ xs) fp s3 (upd H1 s2.heap.objs.size (.lst []))) [] H' b := fun {H' b} n hb =>
  ⟨n, Nat.ne_of_lt (show b < s3.heap.objs.size by rw [hsz]; exact Nat.lt_succ_of_lt (fl b hb)), fun hf => (Ic.ok.exfs b hb) hf, .inl hb, fun x c e => (Ic.ok.exf b hb).2 x c e, fun p hp => absurd hp (by simp)⟩
 have loop : ∀ s4 : Shared, s4 = { s3 with heap := h4, toks := s3.toks + ([] : List (Str × Value)).length } -> codeAny (model X.prog X.w) X.A (.compLoop (.ListComp elt [⟨tg, iter, [], 0⟩] scope pos) 0 (.ref it) (.ref s2.heap.objs.size) (compEnvC scope cl s3.heap.objs.size X.env)) (RR (.ref s2.heap.objs.size) s3.heap.objs.size) s4 := by
  rintro s4 rfl;refine PySem.W.kcp_loop (zif (zaw X scope cl (ts ++ xs) fp s3 (upd H1 s2.heap.objs.size (.lst []))) fp tn W) (fun n s' hI => ?_) m0 ⟨0, _, _, [], Ic, st4, fun b hb => (fo3 b hb).1, w0⟩;refine zlv (Xc := zaw X scope cl (ts ++ xs) fp s3 (upd H1 s2.heap.objs.size (.lst []))) hc T go (hg _ _ _) rfl fo' hI (fun σ' H' s1 I1 q1 => ?_) (fun v s1 h1 => ?_)
  ·obtain ⟨J1, J2, J3⟩ := zoc I3 fo3 I1
   exact hRR _ _ H' s1 J1 J2 J3 (by rw [hsz]; exact Nat.le_succ _) q1
  ·refine thn h1 fun _ s5 h5 => thn h5 fun _ s6 h6 => ?_
   obtain ⟨i, pins', acc, σ4, H4, N, I4, hN, pin4, keep4, q4⟩ := h6;have fin : ∀ {H7 : Hp} {s7 : Shared} {acc' : List V}, Inv (zaw X scope cl (ts ++ xs) fp s3 (upd H1 s2.heap.objs.size (.lst []))) pins' σ4 H7 s7 -> N σ4 H7 acc' -> ∃ m, m < n /\ zif (zaw X scope cl (ts ++ xs) fp s3 (upd H1 s2.heap.objs.size (.lst []))) fp tn W m s7 := fun {H7 s7 acc'} I7 n7 => by
    obtain ⟨m', hm, w7⟩ := hN _ _ _ n7;refine ⟨m', hm, i + 1, σ4, H7, acc', I7.pins_of (fun p hp => absurd hp (by simp)), keep4 _ fun b hb o e => ?_, fun b hb => ?_, w7⟩
    ·obtain ⟨o', hm', e'⟩ := pin4 b hb
     rw [e] at e';cases e';exact (I7.pin (b, o) (List.mem_append_right _ hm')).1
    ·obtain ⟨o', hm', e'⟩ := pin4 b hb
     exact (I7.pin (b, o') (List.mem_append_right _ hm')).2.1
   have q4 : te σ4 H4 (fun y H6 => H6 s2.heap.objs.size = some (.lst acc) /\ acc.length < sizeLine /\ N σ4 (upd H6 s2.heap.objs.size (.lst (acc ++ [y]))) (acc ++ [y])) := by
    have z := q4;unfold tYes at z;dsimp only at z;rw [if_pos rfl] at z;exact z
   refine wpAny_mono (he fp s3 _ pins' s6 σ4 H4 _ I4 q4) (fun y s8 hq_ => ?_) fun _ _ z => z.elim;obtain ⟨yv, H8, I8, ry, e8, l8, n8⟩ := hq_;refine wpAny_mono (zic (X := zaw X scope cl (ts ++ xs) fp s3 (upd H1 s2.heap.objs.size (.lst []))) pins' s8 σ4 H8 (.ref s2.heap.objs.size) [yv] (.ref s2.heap.objs.size) [y] (fun _ H9 => H9 = upd H8 s2.heap.objs.size (.lst (acc ++ [yv]))) I8 rfl (.cons ry .nil) ⟨_, acc, yv, rfl, rfl, e8, l8, rfl⟩) (fun _ s9 hq_ => ?_) fun _ _ z => z.elim;obtain ⟨_, H9, I9, _, e9⟩ := hq_;subst e9;exact fin I9 n8
 have hself := T.self X.A 0 { s3 with heap := h4, toks := s3.toks + ([] : List (Str × Value)).length } (fun it' s' => codeAny (model X.prog X.w) X.A (.compLoop (.ListComp elt [⟨tg, iter, [], 0⟩] scope pos) 0 it' (.ref s2.heap.objs.size) (compEnvC scope cl s3.heap.objs.size X.env)) (RR (.ref s2.heap.objs.size) s3.heap.objs.size) s') (notedBy (model X.prog X.w) X.A (compEnvC scope cl s3.heap.objs.size X.env) fun x s' => RR (.ref s2.heap.objs.size) s3.heap.objs.size (.error x) s') st4 (loop _ rfl);subst hs3;exact codeAny_compStart_list (loop _ rfl) hself
theorem zjy {C : Addr} {H' : Hp} {s' : Shared} {h' : Heap} (I2 : Inv X pins σ H1 s2) (I : Inv X pins σ H' s') (n : H' C = none) (hC : s2.heap.objs.size <= C) (hs : Heap.SameBut C s'.heap h') : Inv X pins σ H' { s' with heap := h' } := by
 refine I.turned (t' := s'.toks) (it := C) (fun b o hb e => hs.extBut b o hb e) n (Nat.ne_of_gt (Nat.lt_of_lt_of_le I2.lt hC)) (.inr (Nat.le_trans I2.sz hC)) (fun x c e => ?_) fun p hp => ?_
 ·obtain ⟨v, o, ho, _⟩ := I2.cell x c e
  exact Nat.ne_of_lt (Nat.lt_of_lt_of_le (Heap.lt_size ho) hC)
 ·exact Nat.ne_of_lt (Nat.lt_of_lt_of_le (Heap.lt_size (I2.pin p hp).1) hC)
end
section
variable {X : Cx} {elt iter c tg : Expr} {pos : Pos} {g : TG} {tc : TT} {te : TE} {wi : TI} {scope : Scope} {cl : List (Str × Addr)} {ts xs : List Str} {js : List Nat}
theorem zt1 (hc : X.calm = true) (C : zd3 X scope cl ts xs js) (hi : PI X tg iter wi) (hg : ∀ fp s3 H2, PG (zaw X scope cl (ts ++ xs) fp s3 H2) tg g) (ht : ∀ fp s3 H2, PT (zaw X scope cl (ts ++ xs) fp s3 H2) c tc) (he : ∀ fp s3 H2, PE (zaw X scope cl (ts ++ xs) fp s3 H2) elt te)
  (hs : ∀ x, foldedSetIterable iter X.env x = pure x := by intro _; rfl) : PE X (.ListComp elt [⟨tg, iter, [c], 0⟩] scope pos) (zpo ts.length js wi g tc te) := by
 intro pins s σ H Q I h;rw [eval_ListComp];refine wpAny_comprehension_free (use := none) rfl hs C.clos C.kind C.names (thn (hi pins s σ H _ I h) fun xv s1 h1 => thn h1 fun itv s2 h2 => ?_);obtain ⟨it, fp, tn, J, H1, rfl, I2, T, st2, fo, q⟩ := h2;exact zjw (RR := compPost (model X.prog X.w) X.A X.xe none (EP X pins σ Q)) hc C I2 T st2 fo q hg ht he fun p D H' s' I' ns n hD q' => by
  obtain ⟨m, hm⟩ := ns;exact ⟨m, hm, fun h' sb => ⟨.ref p, H', zjy I2 I' n hD sb, rfl, q'⟩⟩
theorem zw7 (hc : X.calm = true) (C : zd3 X scope cl ts xs js) (hi : PI X tg iter wi) (hg : ∀ fp s3 H2, PG (zaw X scope cl (ts ++ xs) fp s3 H2) tg g) (he : ∀ fp s3 H2, PE (zaw X scope cl (ts ++ xs) fp s3 H2) elt te)
  (hs : ∀ x, foldedSetIterable iter X.env x = pure x := by intro _; rfl) : PE X (.ListComp elt [⟨tg, iter, [], 0⟩] scope pos) (zpo ts.length js wi g tYes te) := by
 intro pins s σ H Q I h;rw [eval_ListComp];refine wpAny_comprehension_free (use := none) rfl hs C.clos C.kind C.names (thn (hi pins s σ H _ I h) fun xv s1 h1 => thn h1 fun itv s2 h2 => ?_);obtain ⟨it, fp, tn, J, H1, rfl, I2, T, st2, fo, q⟩ := h2;exact zjx (RR := compPost (model X.prog X.w) X.A X.xe none (EP X pins σ Q)) hc C I2 T st2 fo q hg he fun p D H' s' I' ns n hD q' => by
  obtain ⟨m, hm⟩ := ns;exact ⟨m, hm, fun h' sb => ⟨.ref p, H', zjy I2 I' n hD sb, rfl, q'⟩⟩
theorem zpp {i : Nat} {y : Str} {py spos : Pos} (hc : X.calm = true) (C : zd3 X scope cl ts xs js) (hi : PI X tg iter wi) (hg : ∀ fp s3 H2, PG (zaw X scope cl (ts ++ xs) fp s3 H2) tg g) (he : ∀ fp s3 H2, PE (zaw X scope cl (ts ++ xs) fp s3 H2) elt te)
  (hN : X.N.Nodup) (hy : X.N[i]? = some y) (hx : Loc X.env.scope y) (hkn : ∀ u : V, X.kn[i]? ≠ some (some u)) (hf : X.fn y = true \/ X.env.scope.names.lookup y = some .local := by first | exact .inl rfl | exact .inr rfl | assumption)
  (hsw : swapsWith (.ListComp elt [⟨tg, iter, [], 0⟩] scope pos) (some (.Name y py)) spos.line X.env = pure true := by rfl)
  (hs : ∀ x, foldedSetIterable iter X.env x = pure x := by intro _; rfl) : PS X (.Assign [.Name y py] (.ListComp elt [⟨tg, iter, [], 0⟩] scope pos) spos) (tAsg (zpo ts.length js wi g tYes te) (zld i)) := by
 intro pins s σ H D I h;rw [exec_Assign_Name_used _ _ _ _ hsw];refine wpAny_bind (wpAny_standAt (wpAny_bind ?_));show wpAny _ X.A (do let _ <- comprehension (.ListComp elt [⟨tg, iter, [], 0⟩] scope pos) scope X.env _ (newList []) false (eval iter X.env) (some (assign (.Name y py) X.env))) _ _ s;refine wpAny_bind (wpAny_mono (wpAny_comprehension_free (use := some (assign (.Name y py) X.env)) (Q := fun _ s' => SP X pins D .next s') rfl hs C.clos C.kind C.names (thn (hi pins s σ H _ I h) fun xv s1 h1 => thn h1 fun itv s2 h2 => ?_)) (fun _ s' hq => wpAny_pure (wpAny_pure hq)) fun _ _ e => e);obtain ⟨it, fp, tn, J, H1, rfl, I2, T, st2, fo, q⟩ := h2;refine zjx (Q := fun x H1 => zld i x σ H1 D.nx) (g := g) (te := te) (RR := compPost (model X.prog X.w) X.A X.xe (some (assign (.Name y py) X.env)) (fun _ s' => SP X pins D .next s')) hc C I2 T st2 fo q hg he fun p E H' s' I' ns n hE q' => ?_;obtain ⟨m, hm⟩ := ns;show wpAny _ X.A (assign (.Name y py) X.env (.ref p)) _ _ _;refine wpAny_assign_Name (zh6 I' hN hy hx (show RelV (.ref p) (.ref p) from rfl) (fun s3 I3 hq_ => ?_) hf hkn);obtain ⟨b, sb, hb⟩ := hq_;refine ⟨m, hm.sameBut sb (fun z => ?_), fun h' sb' => ⟨_, H', ?_, q'⟩⟩
 ·rcases hb with hb | hb
  ·exact absurd (Nat.lt_of_lt_of_le I2.lt hE) (by rw [z, hb]; exact Nat.lt_irrefl _)
  ·obtain ⟨v, o, ho, _⟩ := I2.cell y b hb
   exact absurd (Nat.lt_of_lt_of_le (Heap.lt_size ho) hE) (by rw [z]; exact Nat.lt_irrefl _)
 ·refine I3.turned (t' := s3.toks) (it := E) (fun b o hb e => sb'.extBut b o hb e) n (Nat.ne_of_gt (Nat.lt_of_lt_of_le I2.lt hE)) (.inr (Nat.le_trans I2.sz hE)) (fun x c e => ?_) fun p hp => ?_
  ·obtain ⟨v, o, ho, _⟩ := I2.cell x c e
   exact Nat.ne_of_lt (Nat.lt_of_lt_of_le (Heap.lt_size ho) hE)
  ·exact Nat.ne_of_lt (Nat.lt_of_lt_of_le (Heap.lt_size (I2.pin p hp).1) hE)
end
end L2
namespace L2
open PySem PySem.Spec PyProof.Rows
section
variable {X : Cx}
theorem zjf (hc : X.calm = true) : zf8 X (.type "list") (fun xs H Q => ∃ a kvs, xs = [.ref a] /\ Rd H a (.dK kvs) /\ ∀ l, H l = none -> Q (.ref l) (upd H l (.lst (kvs.map fun p => kV p.1)))) := by
 intro pins s σ H xs us Q I r h;obtain ⟨a, kvs, rfl, rd, q⟩ := h;obtain ⟨u, rfl, ru⟩ := zph r;cases ru;obtain ⟨zl, zm, vs, rv, d⟩ := zll I.hok rd;obtain ⟨ep, da⟩ := d.dictAt;have hl : kvs.length = vs.length := rv.length;refine PySem.W.kdl_call (PySem.W.kdl_dict (knd := zbk X.prog X.w) (kvs := vs) (ep := ep) zm) (I.ok.hd hc) da (by omega) fun h' tk acc c k e items => ?_;refine ⟨.ref s.heap.objs.size, _, I.laid (t' := tk) (o := .lst (kvs.map fun p => kV p.1)) k (Nat.le_refl _) ⟨by rw [List.length_map]; exact zl, acc.toList, c, ?_, by simpa using e⟩, rfl, q _ (I.hok.fresh (Nat.le_refl _))⟩;obtain ⟨n1, n2⟩ := items;have go : ∀ (ks : List (Key × V)) (as : List Value), ks.length = as.length -> (∀ (j : Nat) (u : Value), as[j]? = some u -> ∃ p : Key × V, ks[j]? = some p /\ RelV (kV p.1) u) -> Vals (ks.map fun p => kV p.1) as := by
  intro ks
  induction ks with
  | nil => intro as hl _; cases as with | nil => exact .nil | cons _ _ => simp at hl
  | cons p ks ih =>
    intro as hl h;cases as with
    | nil => simp at hl
    | cons u as =>
      obtain ⟨p', e1, r1⟩ := h 0 u rfl;simp at e1;subst e1;exact .cons r1 (ih as (by simpa using hl) fun j w' e => by simpa using h (j + 1) w' (by simpa using e))
 refine go kvs acc.toList (by have z : acc.toList.length = acc.size := Array.length_toList; omega) fun j u e => ?_;obtain ⟨k', x', e1, e2⟩ := n2 j u (by rw [<- Array.getElem?_toList]; exact e);have hj : j < kvs.length := by rw [hl]; exact (List.getElem?_eq_some_iff.mp e1).1
 obtain ⟨w', e3, _⟩ := rv.at (i := j) (k := (kvs[j]).1) (v := (kvs[j]).2) (by simp [hj]);rw [e1] at e3;cases e3;exact ⟨kvs[j], by simp [hj], zw6 e2⟩
theorem zm6 : zf8 X (.builtin "isinstance") (fun xs H Q => ∃ x c cu t b, xs = [x, c] /\ RelV c cu /\ (∀ u, RelV c u -> u = cu) /\ TyOf X.K H x t /\ PySem.W.kitOne X.K t cu = some b /\ Q (.bl b) H) := by
 intro pins s σ H xs us Q I r h;obtain ⟨x, c, cu, t, b, rfl, _, hu, ty, e, q⟩ := h;obtain ⟨u, w', rfl, rx, rc⟩ := zzd r;cases hu w' rc;exact zqt I rx ty e fun tk => ⟨.bl b, H, I.tok tk, rfl, q⟩
theorem zlw : ∀ {ys : List Str} {us : List Value}, Vals (ys.map V.str) us -> StrsAre us ys
 | [], [], _ => .nil
 | y :: ys, u :: us, h => by
   cases h with
   | cons p t =>
     obtain ⟨tk, rfl⟩ := p;exact .cons _ _ (zlw t)
 | [], _ :: _, h => nomatch h
 | _ :: _, [], h => nomatch h
theorem zw8 : MtR X "str.join" (fun x xs H Q => ∃ z l ys, x = .str z /\ xs = [.ref l] /\ SqL X.K H l (ys.map V.str) /\ (ys.map (·.length)).sum + ys.length * z.length <= 16777216 /\ Q (.str (Txt.join z ys)) H) := by
 intro pins s σ H x xs v us Q I rx rv h;obtain ⟨z, l, ys, rfl, rfl, sq, hz, q⟩ := h;obtain ⟨t, rfl⟩ := rx;obtain ⟨u, rfl, ru⟩ := rv.one;cases ru;obtain ⟨its, r, pl, _⟩ := I.list sq;exact join_list pl.isList (zlw r) hz fun t' k => ⟨.str _, H, I.tok k, ⟨t', rfl⟩, q⟩
theorem zm7 {e : Expr} {te : TE} {pos : Pos} (he : PE X e te) : PE X (.FormattedValue e 114 none pos) (fun σ H Q => te σ H fun v H1 => ∃ y, v = .str y /\ (reprText y).length <= sizeLine /\ Q (.str (reprText y)) H1) := by
 intro pins s σ H Q I h;refine wpAny_FormattedValue_repr (thn (he pins s σ H _ I h) fun v s1 hq_ => ?_);obtain ⟨x, H1, I1, r, y, e, l, q⟩ := hq_;subst e;obtain ⟨t, rfl⟩ := r;refine wpAny_pyReprObj_str (hsz := l) ?_;exact formatField_str (hsz := l) fun t' tk => ⟨.str _, H1, I1.tok tk, ⟨t', rfl⟩, q⟩
def tJ : Str -> List TE -> TE
 | acc, [] => fun _ H Q => acc.length <= sizeLine /\ Q (.str acc) H
 | acc, t :: ts => fun σ H Q => t σ H fun v H1 => ∃ y, v = .str y /\ (acc ++ y).length <= sizeLine /\ tJ (acc ++ y) ts σ H1 Q
inductive PJ (X : Cx) : List Expr -> List TE -> Prop where
 | nil : PJ X [] []
 | cons {e : Expr} {es : List Expr} {t : TE} {ts : List TE} : PE X e t -> PJ X es ts -> PJ X (e :: es) (t :: ts)
theorem zt2 {es : List Expr} {ts : List TE} (hj : PJ X es ts) : ∀ {acc : Str} {pins : List (Addr × Obj)} {s : Shared} {σ : St} {H : Hp} {Q : VK}, Inv X pins σ H s -> tJ acc ts σ H Q ->
  wpAny (model X.prog X.w) X.A (joinParts acc (evalEach es X.env)) (EP X pins σ Q) X.xe s := by
 induction hj with
 | nil => intro acc pins s σ H Q I h; exact joinParts_nil (hsz := h.1) ⟨.str acc, H, I.tok _, ⟨_, rfl⟩, h.2⟩
 | @cons e es t ts he hj ih =>
   intro acc pins s σ H Q I h;show wpAny _ _ (joinParts acc (eval e X.env :: evalEach es X.env)) _ _ _;refine joinParts_cons (thn (he pins s σ H _ I h) fun v s1 hq_ => ?_);obtain ⟨x, H1, I1, r, y, e, l, q⟩ := hq_;subst e;obtain ⟨tk, rfl⟩ := r;exact ⟨l, ih I1 q⟩
theorem zlx {a b : Expr} {r : List Expr} {ts : List TE} {pos : Pos} (h : PJ X (a :: b :: r) ts) : PE X (.JoinedStr (a :: b :: r) pos) (tJ Str.empty ts) := fun pins s σ H Q I q => JoinedStr_many (zt2 h I q)
end
end L2
namespace L2
open PySem PySem.Spec PyProof.Rows
theorem zre {prog : Program} {w : World} {A : Around} {E : Value -> Shared -> Prop} {s : Shared} {Q : Int -> Shared -> Prop} (h : Q 0xFCA86420 { s with toks := s.toks + 1 }) : wpAny (model prog w) A (pyHash .none) Q E s := by
 have hT : s.TypeIs .none "NoneType" := rfl;show wpAny _ _ (pyHashByItsType .none) Q E s;unfold pyHashByItsType;refine wpAny_bind ?_;rw [cRoomFor, if_neg (by decide)];refine wpAny_pure ?_;refine wpAny_bind (wpAny_specialOf hT PySem.F.slot_NoneType_hash.lookup ?_);rw [if_neg (by decide)];refine wpAny_bind (wpAny_specialOf hT PySem.F.slot_NoneType_hash.lookup ?_);show wpAny _ _ (callSpecialIfBoundUnlessNone? .none "__hash__" _ >>= _) Q E s;refine wpAny_bind (wpAny_callSpecialIfBoundUnlessNone?_slot hT PySem.F.slot_NoneType_hash (wpAny_call_entry PySem.F.slot_NoneType_hash hT PySem.F.entry_NoneType_hash
  (show wpAny _ _ (do ret (<- mkInt 0xFCA86420)) _ _ s from wpAny_ret_mkInt ?_) (PySem.F.args_NoneType_hash_1 _)))
 show wpAny _ _ (if (decide (-(2 : Int) ^ 63 <= 0xFCA86420) && decide ((0xFCA86420 : Int) < 2 ^ 63)) = true then _ else _) Q E _;rw [if_pos (by decide)];exact wpAny_pure h
def zw9 : Option Key -> Value -> Bool
 | none, .none => true
 | none, _ => false
 | some k, v => zlc k v
def optH (w : World) : Option Key -> Int
 | none => 0xFCA86420
 | some k => keyH w k
theorem zc0 {v : Value} (h : zw9 none v = true) : v = .none := by
 cases v <;> first | rfl | cases h
theorem zkk {k : Key} (h : zlc k .none = true) : False := by
 rcases za0 h with ⟨_, _, _, e⟩ | ⟨_, _, _, e⟩ <;> cases e
def zm8 (prog : Program) (w : World) : PySem.KeyKind prog w (Option Key) where
 is := zw9
 hash := optH w
 inj := fun v a b ha hb => by
  cases a with
  | none =>
    cases b with
    | none => rfl
    | some b => cases zc0 ha; exact (zkk hb).elim
  | some a =>
    cases b with
    | none => cases zc0 hb; exact (zkk ha).elim
    | some b => exact congrArg some ((zbk prog w).inj v a b ha hb)
 byValue := fun k v h => by
  cases k with
  | none => cases zc0 h; rfl
  | some k => exact (zbk prog w).byValue k v h
 pyHash := fun {A E s k v Q} hv h => by
  cases k with
  | none => cases zc0 hv; exact zre h
  | some k => exact (zbk prog w).pyHash (k := k) hv h
 eqBool := fun {A E s a b u v Q} hu hv h => by
  cases a with
  | none =>
    cases zc0 hu;cases b with
    | none => cases zc0 hv; exact SeqAt.EqAt.same _ _ _ _ _ (by simpa using h)
    | some b =>
      rcases za0 hv with ⟨i, t, rfl, rfl⟩ | ⟨x, t, rfl, rfl⟩
      ·exact SeqAt.EqAt.none_int _ _ _ _ _ _ (by simpa using h)
      ·exact SeqAt.EqAt.none_str _ _ _ _ _ _ (by simpa using h)
  | some a =>
    cases b with
    | none =>
      cases zc0 hv;rcases za0 hu with ⟨i, t, rfl, rfl⟩ | ⟨x, t, rfl, rfl⟩
      ·exact SeqAt.EqAt.int_none _ _ _ _ _ _ (by simpa using h)
      ·exact SeqAt.EqAt.str_none _ _ _ _ _ _ (by simpa using h)
    | some b => exact (zbk prog w).eqBool (a := a) (b := b) hu hv (by simpa using h)
 «strs» := fun k x t v h => by
  cases k with
  | none => cases h
  | some k => exact (zbk prog w).strs k x t v h
theorem zxa {P : Program} {w : World} {h : Heap} {a : Addr} {vs : List (Key × Value)} (d : h.DictOf (zbk P w) a vs) : ∃ f, h.MapOf (zm8 P w) a f /\ f none = none := by
 obtain ⟨o, es, ep, ho, ex, hd, keys, r⟩ := id d;refine ⟨fun k => findBy (zm8 P w).is es k, ⟨o, es, ep, ho, ex, hd, fun e he => ?_, fun k => rfl⟩, ?_⟩
 ·obtain ⟨k, h1, h2⟩ := keys e he
  exact ⟨some k, h1, h2⟩
 ·show findBy zw9 es none = none
  unfold findBy;rw [Option.map_eq_none_iff, Array.find?_eq_none];intro e he z;obtain ⟨k, h1, _⟩ := keys e he;rw [zc0 z] at h1;exact zkk h1
section
variable {X : Cx} {o i : Expr} {td ty : TE}
def z2i (ty td : TE) : TE := fun σ H Q => ty σ H fun y H1 => td σ H1 fun x H2 => ∃ a, x = .ref a /\ ((∃ r, DGet H2 a y r /\ Q (.bl r.isSome) H2) \/ (y = .non /\ (∃ kvs, Rd H2 a (.dK kvs)) /\ Q (.bl false) H2))
theorem zxb (hu : X.A.units + 1 < cLine) (hi : PE X i ty) (ho : PE X o td) : PC X .In i o (z2i ty td) := by
 intro pins s σ H Q I h;refine thn (hi pins s σ H _ I h) fun v s1 hq_ => ?_;obtain ⟨y, H1, I1, ry, q1⟩ := hq_;refine thn (ho pins s1 σ H1 _ I1 q1) fun u s2 hq_ => ?_;obtain ⟨x, H2, I2, rx, a, ex, q2⟩ := hq_;subst ex;cases (show u = Value.ref a from rx);rcases q2 with ⟨r, g, q⟩ | ⟨ey, ⟨kvs, rd⟩, q⟩
 ·exact d_in hu I2 g ry fun s' I' => ⟨.bl _, H2, I', rfl, q⟩
 ·subst ey
  cases (show v = Value.none from ry);obtain ⟨z, hd, vs, rel, dd⟩ := zll I2.hok rd;obtain ⟨f, mf, fn⟩ := zxa dd;refine wpAny_in_of (knd := zm8 X.prog X.w) (k := none) (f := f) rfl hd mf ?_;rw [fn];exact ⟨.bl false, H2, I2.tok _, rfl, q⟩
end
end L2
namespace L2
open PySem PySem.Spec PyProof.Rows
section
variable {X : Cx}
theorem zzt : OpR X (compareOp .Is) (fun x y H Q => ∃ a b, x = .bl a /\ y = .bl b /\ Q (.bl (a == b)) H) := by
 intro pins s σ H x y v u Q I rx ry h;obtain ⟨a, b, rfl, rfl, q⟩ := h;cases rx;cases ry;refine wpAny_is_plain rfl ⟨.bl (a == b), H, I, ?_, q⟩;show Value.bool (Value.bool a == Value.bool b) = Value.bool (a == b);cases a <;> cases b <;> rfl
end
end L2
namespace L2
open PySem PySem.Spec PyProof.Rows
section
variable {X : Cx} {elt iter c tg : Expr} {pos : Pos} {g : TG} {tc : TT} {te : TE} {wi : TI} {scope : Scope} {cl : List (Str × Addr)} {ts xs : List Str} {js : List Nat}
theorem zm9 {i : Nat} {y : Str} {py spos : Pos} (hc : X.calm = true) (C : zd3 X scope cl ts xs js) (hi : PI X tg iter wi) (hg : ∀ fp s3 H2, PG (zaw X scope cl (ts ++ xs) fp s3 H2) tg g) (ht : ∀ fp s3 H2, PT (zaw X scope cl (ts ++ xs) fp s3 H2) c tc) (he : ∀ fp s3 H2, PE (zaw X scope cl (ts ++ xs) fp s3 H2) elt te)
  (hN : X.N.Nodup) (hy : X.N[i]? = some y) (hx : Loc X.env.scope y) (hkn : ∀ u : V, X.kn[i]? ≠ some (some u)) (hf : X.fn y = true \/ X.env.scope.names.lookup y = some .local := by first | exact .inl rfl | exact .inr rfl | assumption)
  (hsw : swapsWith (.ListComp elt [⟨tg, iter, [c], 0⟩] scope pos) (some (.Name y py)) spos.line X.env = pure true := by rfl)
  (hs : ∀ x, foldedSetIterable iter X.env x = pure x := by intro _; rfl) : PS X (.Assign [.Name y py] (.ListComp elt [⟨tg, iter, [c], 0⟩] scope pos) spos) (tAsg (zpo ts.length js wi g tc te) (zld i)) := by
 intro pins s σ H D I h;rw [exec_Assign_Name_used _ _ _ _ hsw];refine wpAny_bind (wpAny_standAt (wpAny_bind ?_));show wpAny _ X.A (do let _ <- comprehension (.ListComp elt [⟨tg, iter, [c], 0⟩] scope pos) scope X.env _ (newList []) false (eval iter X.env) (some (assign (.Name y py) X.env))) _ _ s;refine wpAny_bind (wpAny_mono (wpAny_comprehension_free (use := some (assign (.Name y py) X.env)) (Q := fun _ s' => SP X pins D .next s') rfl hs C.clos C.kind C.names (thn (hi pins s σ H _ I h) fun xv s1 h1 => thn h1 fun itv s2 h2 => ?_)) (fun _ s' hq => wpAny_pure (wpAny_pure hq)) fun _ _ e => e);obtain ⟨it, fp, tn, J, H1, rfl, I2, T, st2, fo, q⟩ := h2;refine zjw (Q := fun x H1 => zld i x σ H1 D.nx) (g := g) (tc := tc) (te := te) (RR := compPost (model X.prog X.w) X.A X.xe (some (assign (.Name y py) X.env)) (fun _ s' => SP X pins D .next s')) hc C I2 T st2 fo q hg ht he fun p E H' s' I' ns n hE q' => ?_;obtain ⟨m, hm⟩ := ns;show wpAny _ X.A (assign (.Name y py) X.env (.ref p)) _ _ _;refine wpAny_assign_Name (zh6 I' hN hy hx (show RelV (.ref p) (.ref p) from rfl) (fun s3 I3 hq_ => ?_) hf hkn);obtain ⟨b, sb, hb⟩ := hq_;refine ⟨m, hm.sameBut sb (fun z => ?_), fun h' sb' => ⟨_, H', ?_, q'⟩⟩
 ·rcases hb with hb | hb
  ·exact absurd (Nat.lt_of_lt_of_le I2.lt hE) (by rw [z, hb]; exact Nat.lt_irrefl _)
  ·obtain ⟨v, o, ho, _⟩ := I2.cell y b hb
   exact absurd (Nat.lt_of_lt_of_le (Heap.lt_size ho) hE) (by rw [z]; exact Nat.lt_irrefl _)
 ·refine I3.turned (t' := s3.toks) (it := E) (fun b o hb e => sb'.extBut b o hb e) n (Nat.ne_of_gt (Nat.lt_of_lt_of_le I2.lt hE)) (.inr (Nat.le_trans I2.sz hE)) (fun x c e => ?_) fun p hp => ?_
  ·obtain ⟨v, o, ho, _⟩ := I2.cell x c e
   exact Nat.ne_of_lt (Nat.lt_of_lt_of_le (Heap.lt_size ho) hE)
  ·exact Nat.ne_of_lt (Nat.lt_of_lt_of_le (Heap.lt_size (I2.pin p hp).1) hE)
end
end L2
namespace L2
open PySem PySem.Spec PyProof.Rows PySem.Builtin PySem.Builtin.ObjectAttr
def zdd (C : Addr) (dx : Option Addr) (t : Addr) : Obj := { cls := .ref C, dict := dx, data := .fields #[.ref t, .none, .none, .none, .bool false, .none] }
def zpq : List Value -> List Value
 | .ref _ :: r => zpq r
 | l => l
def zod (l : List Value) : Bool := zpq l == bmVE
theorem zig (self : Value) : ∀ l : List Value, refuseLoop self "__setattr__" l = refuseLoop self "__setattr__" (zpq l)
 | [] => rfl
 | v :: r => by cases v <;> first | rfl | (rw [refuseLoop_ref]; exact zig self r)
theorem zoe (n : String) : ∀ l : List Value, l.contains (.type n) = (zpq l).contains (.type n)
 | [] => rfl
 | v :: r => by
   cases v
   case ref a => rw [List.contains_cons, show (Value.type n == Value.ref a) = false from rfl, Bool.false_or]; exact zoe n r
   all_goals rfl
theorem zrf (self : Value) {l : List Value} (e : zod l = true) : refuseLoop self "__setattr__" l = pure () := by
 rw [zig, show zpq l = bmVE from eq_of_beq e]; exact PySem.F.store_ValueError.passes self
theorem zrg {l : List Value} (e : zod l = true) {n : String} (h : bmVE.contains (.type n) = true) : l.contains (.type n) = true := by
 rw [zoe, show zpq l = bmVE from eq_of_beq e]; exact h
theorem zvm {l : List Value} (e : zod l = true) : l.contains (.type "object") = true /\ l.contains (.type "ValueError") = true /\ l.isEmpty = false := by
 refine ⟨zrg e (by decide +kernel), zrg e (by decide +kernel), ?_⟩;cases l with
 | nil => cases e
 | cons _ _ => rfl
def zkl (K : PySem.W.Frag) (C : Addr) : Bool := (PySem.W.clsIn K C).any fun cd => zod cd.mro
structure XCls (K : PySem.W.Frag) (C : Addr) : Prop where
 sa : PySem.W.findIn K (.ref C) "__setattr__" = some (some (.builtin "object.__setattr__"))
 hd : PySem.W.hasDictIn K C = true
 over : zkl K C = true
section
variable {prog : Program} {w : World} {A : Around} {E : Value -> Shared -> Prop} {s : Shared} {K : PySem.W.Frag} {x C : Addr} {R : Result -> Shared -> Prop}
theorem xosa {ox : Obj} {od : Option Obj} {name : Str} {tk : Tok} {v : Value} (X : K.In s.heap) (I : PySem.W.InstAt s.heap x ox C od) (hp : zkl K C = true) (hn : PySem.W.findIn K (.ref C) name = some none)
  (h : wpAny (model prog w) A.in1 (storeInOwnDict (.ref x) (.ref C) (.str name tk) name v false)
   (fun fin s' => match fin with | .done f => R (.ok f) s' | .again c' => c'.quiet = true /\ codeAny (model prog w) A c' R s') (fun e s' => R (.error e) s') s) :
  codeAny (model prog w) A (.call (.builtin "object.__setattr__") ⟨[.ref x, .str name tk, v], []⟩) R s := by
 have SF := PySem.F.store_object;obtain ⟨cd, hc, ho⟩ := PySem.W.any_some hp;obtain ⟨o1, o2, o3⟩ := zvm ho;have isob : PySem.W.Looks (model prog w) s.heap (isInstance (.ref x) (.type "object")) true :=
  I.type.andThen (PySem.W.looks_mroIn X (by unfold PySem.W.mroIn; rw [hc, Option.bind_some, if_neg (by rw [o3]; decide), o1]))
 refine codeAny_call_builtin SF.slot.plain SF.entry (@PySem.W.check_slot (model prog w) _ _ s "object.__setattr__" "object" "__setattr__" (.ref x) [.str name tk, v] [] _ SF.kind SF.split isob (SF.args (.ref x) (.str name tk) v) ?_);have ml : PySem.W.Looks (model prog w) s.heap (mroOf (.ref C)) cd.mro := (PySem.W.looks_clsIn X hc).andThen .now;rw [PySem.W.osa_eq, refuse_eq];refine wpAny_bind (wpAny_bind (I.type.here (wpAny_bind (ml.here ?_))));rw [zrf _ ho];exact wpAny_pure (wpAny_bind (I.type.here (wpAny_bind ((PySem.W.looks_findIn X hn).here (wpAny_bind (wpAny_pure h))))))
theorem zrh {dx t : Addr} {mA : Str -> Option Value} {name : Str} {v : Value} {ns : List Str} {Q : Unit -> Shared -> Prop} (X : K.In s.heap) (c : XCls K C) (hn : PySem.W.findIn K (.ref C) name = some none)
  (hx : s.heap.get? x = some (zdd C (some dx) t)) (hne : dx ≠ x) (n : s.heap.Ns1 dx mA) (hw : PySem.Within mA ns) (hsz : ns.length < sizeLine)
  (h : ∀ h', h'.Ns1 dx (fun y => if y = name then some v else mA y) -> Heap.SameBut dx s.heap h' -> Q () { s with heap := h', toks := s.toks + 2 }) :
  wpAny (model prog w) A (setAttr (.ref x) name v) Q E s := by
 obtain ⟨od, ho, hl⟩ := zh7 n;have J : PySem.W.InstAt s.heap x (zdd C (some dx) t) C (some od) := ⟨hx, rfl, rfl, ho⟩;refine PySem.W.set_plain X J c.sa (xosa (s := { s with toks := s.toks + 1 }) X J c.over hn ?_);obtain ⟨cd, hc, hd'⟩ := PySem.W.any_some c.hd;refine wpAny_bind (wpAny_pure (wpAny_bind (wpAny_bind (wpAny_loadPart hx (wpAny_bind (PySem.W.Looks.here (s := { s with toks := s.toks + 1 }) (PySem.W.looks_clsIn X hc) ?_))))));rw [hd'];refine wpAny_pure (a := some dx) (wpAny_bind (wpAny_pure (wpAny_bind ?_)));refine wpAny_nsSet1 (s := { s with toks := s.toks + 1 }) n fun h' hn2 hs2 => ?_;obtain ⟨oD, esD, epD, hoD, hdD, hcD⟩ := hn2.count (PySem.Within.cons name v hw);refine wpAny_bind (wpAny_lookBehind hoD (by rw [hdD]; exact pastItsLine_dict (Nat.le_trans hcD (by rw [List.length_cons]; omega))) ?_);exact wpAny_pure (h _ hn2 hs2)
theorem zri {t : Addr} {name : Str} {v : Value} {Q : Unit -> Shared -> Prop} (X : K.In s.heap) (c : XCls K C) (hn : PySem.W.findIn K (.ref C) name = some none)
  (hx : s.heap.get? x = some (zdd C none t))
  (h : ∀ h', h'.Ns1 s.heap.objs.size (fun y => if y = name then some v else none) -> h'.get? x = some (zdd C (some s.heap.objs.size) t) -> (∀ b o, b ≠ x -> s.heap.get? b = some o -> h'.get? b = some o) -> Q () { s with heap := h', toks := s.toks + 2 }) :
  wpAny (model prog w) A (setAttr (.ref x) name v) Q E s := by
 have J : PySem.W.InstAt s.heap x (zdd C none t) C none := ⟨hx, rfl, rfl, trivial⟩;refine PySem.W.set_plain X J c.sa (xosa (s := { s with toks := s.toks + 1 }) X J c.over hn ?_);obtain ⟨cd, hc, hd'⟩ := PySem.W.any_some c.hd;obtain ⟨hh, g, d, tk, os⟩ := s;refine wpAny_bind (wpAny_pure (wpAny_bind (wpAny_bind (wpAny_loadPart hx (wpAny_bind (PySem.W.Looks.here (s := ⟨hh, g, d, tk + 1, os⟩) (PySem.W.looks_clsIn X hc) ?_))))));rw [hd'];have hx1 : (hh.push { cls := .type "dict", data := .dict #[] }).get? x = some (zdd C none t) := Heap.get?_push_of_some _ hx;have hxs : x ≠ hh.objs.size := Nat.ne_of_lt (Heap.lt_size hx);let h1 := (hh.push { cls := .type "dict", data := .dict #[] }).update x fun o => { o with dict := some hh.objs.size };have gd : h1.get? hh.objs.size = some { cls := .type "dict", data := .dict #[] } := (Heap.get?_update_ne _ _ _ _ hxs.symm).trans (Heap.get?_push_at rfl rfl);have gx : h1.get? x = some (zdd C (some hh.objs.size) t) := Heap.get?_update_self _ hx1 rfl;have nd : h1.Ns hh.objs.size (fun _ => none) := ⟨_, #[], _, gd, rfl, fun e he => absurd he (by simp), fun _ => rfl⟩;have main : wpAny (model prog w) A.in1 (storeInDict hh.objs.size (.str name tk) name v) (fun fin s' => match fin with | .done f => (match f with | .ret _ => Q () s' | _ => False) | .again c' => False) (fun _ _ => False) ⟨h1, g, d, tk + 1, os⟩ := by
  unfold storeInDict newKeyGuard;refine wpAny_bind (wpAny_pure (wpAny_bind (wpAny_nsSet1 (Heap.Ns1.of_empty nd) fun h' hn' hs => ?_)));obtain ⟨oD, esD, epD, hoD, hdD, hcD⟩ := hn'.count (Within.cons name v Within.nil);refine wpAny_bind (wpAny_lookBehind hoD (by rw [hdD]; exact pastItsLine_dict (Nat.le_trans hcD (by rw [List.length_cons, List.length_nil, sizeLine_eq]; omega))) ?_);refine wpAny_pure (h h' hn' ((hs.2 x hxs).trans gx) fun b o hb q => (hs.2 b (Nat.ne_of_lt (Heap.lt_size q))).trans ((Heap.get?_update_ne _ _ _ _ hb).trans (Heap.get?_push_of_some _ q)))
 rw [if_neg (by decide)];show wpAny _ _ (if (!true || !typeHasDict (.ref C)) = true then pure none else _) _ _ _;rw [if_neg (by simp [typeHasDict])];refine wpAny_bind (wpAny_alloc' (wpAny_bind (wpAny_update' hx1 (wpAny_pure (wpAny_mono main (fun fin s' z => ?_) fun _ _ z => z.elim)))));rcases fin with (_ | _ | _ | _) | _ <;> first | exact z | exact z.elim
def zd9 (K : PySem.W.Frag) (C fI : Addr) : Bool := match K.lookup C with
 | some ⟨.type "type", _, .cls cd, sl⟩ => (match cd.mro, sl.toList with
   | .ref C' :: bm, [_, _, _, _, some (.builtin n), _] => C' == C && n == "ValueError.__new__" && !cd.hasDel && PySem.W.tailIn K bmVE bm && PySem.W.nsOkIn K cd.ns && PySem.W.nsIn K cd.ns "__init__" == some (some (.ref fI))
   | _, _ => false)
 | _ => false
theorem zxc {h : Heap} {N : Addr} {mN : Str -> Option Value} {n : Str} {v : Value} (X : K.In h) (G : h.Ns N mN) (e : PySem.W.nsIn K N n = some (some v)) : mN n = some v := by
 obtain ⟨ob, ents, _, g1, g2, _, look⟩ := G;unfold PySem.W.nsIn at e
 split at e
 case h_1 q =>
  have z := X _ _ q;rw [g1] at z; cases z; cases g2;rw [<- look];unfold nsFind findBy;rw [<- Array.find?_toList]
  split at e
  case h_1 he => cases e; rw [he]; rfl
  case h_2 => split at e <;> cases e
 case h_2 => cases e
theorem zfd {h : Heap} {fI : Addr} (X : K.In h) (q : zd9 K C fI = true) :
  ∃ bm N nm qn bs hdct sn sub ab col dd k0 k1 k2 k3 k5 mN, h.get? C = some (excClassObj nm qn C N bs bm hdct sn sub ab col dd k0 k1 k2 k3 k5 "ValueError.__new__") /\ h.Ns N mN /\ mN "__init__" = some (.ref fI) /\ OwnTail h bmVE bm := by
 unfold zd9 at q
 split at q
 ·rename_i dct cdt slt look
  split at q
  ·rename_i C2 bm2 j0 j1 j2 j3 nid j5 em es
   simp only [Bool.and_eq_true, beq_iff_eq, Bool.not_eq_true'] at q;obtain ⟨⟨⟨⟨⟨c1, c2⟩, c3⟩, tl⟩, okN⟩, noI⟩ := q;subst c1 c2;have ob := X _ _ look;obtain ⟨a1, a2, a3, a4, a5, a6, a7, a8, a9, b1, b2⟩ := cdt;have em : a3 = .ref C2 :: bm2 := em;have c3 : b2 = false := c3;have hsl : slt = #[j0, j1, j2, j3, some (.builtin "ValueError.__new__"), j5] := by
    obtain ⟨l⟩ := slt;exact congrArg Array.mk es
   rw [em, c3, hsl] at ob;exact ⟨_, _, _, _, _, _, _, _, _, _, _, _, _, _, _, _, _, ob, .of_isNs (PySem.W.isNs_of_in X okN), zxc X (.of_isNs (PySem.W.isNs_of_in X okN)) noI, PySem.W.tail_of_in X tl⟩
  ·cases q
 ·cases q
theorem zna {B : Addr} {pl : Sem Bool} {Q : Value × List Value -> Shared -> Prop} (X : K.In s.heap) (hg : PySem.W.specialIn K (.ref B) "__getattribute__" = some (some (.builtin "type.__getattribute__")))
  (hr : PySem.W.readsIn K B (.type "type") = true) (e : PySem.W.findCls K (.ref B) (.type "type") "__init__" = some (.val (.builtin "ValueError.__init__")))
  (h : Q (.builtin "ValueError.__init__", []) { s with toks := s.toks + 1 }) : wpAny (model prog w) A (getMethod (.ref B) "__init__" pl) Q E s :=
 PySem.W.method_cls X hg (PySem.W.cls_value X hr e (by rfl) h)
theorem zpr {fI : Addr} {dx : Option Addr} {t : Addr} {m : Value} {Q : Value -> Shared -> Prop} (X : K.In s.heap) (q : zd9 K C fI = true) (hx : s.heap.get? x = some (zdd C dx t))
  (h : ∀ h' t' tk', h'.get? x = some (zdd C dx t') -> (∀ b o, b ≠ x -> s.heap.get? b = some o -> h'.get? b = some o) -> Q .none { s with heap := h', toks := tk' }) :
  wpAny (model prog w) A (call (.builtin "ValueError.__init__") [.ref x, m]) Q E s := by
 obtain ⟨bm, N, nm, qn, bs, hdct, sn, sub, ab, col, dd, k0, k1, k2, k3, k5, mN, hC, hN, hni, T⟩ := zfd X q;have F := PySem.F.excBase_ValueError;obtain ⟨hh, g, d, tk, os⟩ := s;refine wpAny_call (codeAny_call_builtin F.init.plain F.initEntry (wpAny_check_init_subT F T hC hx rfl ?_))
 wp_walk
 exact h _ hh.objs.size tk (by rw [Heap.get?_update_self _ (Heap.get?_push_of_some _ hx) rfl]; rfl) fun b o hb q => (Heap.get?_update_ne _ _ _ _ hb).trans (Heap.get?_push_of_some _ q)
structure zzu (h h' : Heap) (e C : Addr) : Prop where
 keeps : ∀ b o, h.get? b = some o -> h'.get? b = some o
 new : h.objs.size <= e
 obj : ∃ t, h'.get? e = some (zdd C none t)
theorem zps {fI : Addr} {oI : Obj} {us : List Value} {Q : Fin -> Shared -> Prop} (X : K.In s.heap) (q : zd9 K C fI = true) (hf : s.heap.get? fI = some oI) (hfc : oI.cls = .type "function") (hlen : us.length <= sizeLine)
  (hq : ∀ h' e, zzu s.heap h' e C -> wpAny (model prog w) A (call (.ref fI) (.ref e :: us)) (fun r s' => r = .none /\ Q (.done (.ret (.ref e))) s') E { s with heap := h' }) :
  wpAny (model prog w) A (Builtin.«type.__call__» ⟨.ref C :: us, []⟩) Q E s := by
 obtain ⟨bm, N, nm, qn, bs, hdct, sn, sub, ab, col, dd, k0, k1, k2, k3, k5, mN, gC, gN, gi, T⟩ := zfd X q;have F := PySem.F.excBase_ValueError;obtain ⟨hh, g, d, tk, os⟩ := s
 repeat (first | with_reducible refine wpAny_loadPart_at gC ?_ | with_reducible refine wpAny_madeBy_exc gC ?_ | wp_step)
 refine codeAny_call_builtin_code (Code.quiet_builtin _ F.quiet) (wpAny_check_new_subT F T gC ?_);refine codeAny_exc_new_subT F T gC ?_ hlen;let h1 := (hh.push { cls := .type "tuple", data := .seq us.toArray }).push { cls := .ref C, data := .fields #[.ref hh.objs.size, .none, .none, .none, .bool false, .none] };have kp : ∀ b o, hh.get? b = some o -> h1.get? b = some o := fun b o z => Heap.get?_push_of_some _ (Heap.get?_push_of_some _ z);have ge : h1.get? (hh.objs.size + 1) = some { cls := .ref C, data := .fields #[.ref hh.objs.size, .none, .none, .none, .bool false, .none] } := by
  have := Heap.get?_push_size (hh.push { cls := .type "tuple", data := .seq us.toArray }) (o := zdd C none hh.objs.size) rfl;rwa [Heap.size_push] at this
 have gC1 := kp _ _ gC;have self1 : (Value.ref C :: bm).contains (.ref C) = true := by simp
 have gN1 : h1.Ns N mN := gN.keeps kp;show wpAny _ _ _ _ _ (⟨h1, g, d, tk, os⟩ : Shared);unfold isInstance
 repeat (first | with_reducible refine wpAny_loadPart_at ge ?_ | (with_reducible refine wpAny_isSubtype_exc gC1 ?_; rw [self1]) | wp_step)
 show wpAny _ _ (typeLookup (.ref C) _) _ _ _;refine wpAny_typeLookup_tail gC1 gN1 (T.keeps kp) F.mroIs F.init.lookup ?_;rw [gi];refine wpAny_holding (wpAny_bind ?_);unfold bindSpecial;refine wpAny_bind (wpAny_typeOf (T := "function") ⟨_, kp _ _ hf, hfc⟩ ?_);rw [if_pos (by decide)];refine wpAny_pure (wpAny_bind (wpAny_mono (hq h1 (hh.objs.size + 1) ⟨kp, Nat.le_succ _, _, ge⟩) (fun r s' z => ?_) fun _ _ z => z));obtain ⟨rfl, z⟩ := z
 wp_walk
 exact z
theorem z2j {fI : Addr} {oI : Obj} {us : List Value} {Q : Value -> Shared -> Prop} (X : K.In s.heap) (q : zd9 K C fI = true) (hf : s.heap.get? fI = some oI) (hfc : oI.cls = .type "function") (hlen : us.length <= sizeLine)
  (hq : ∀ h' e, zzu s.heap h' e C -> wpAny (model prog w) (A.under (.builtin "type.__call__" ⟨.ref C :: us, []⟩)) (call (.ref fI) (.ref e :: us)) (fun r s' => r = .none /\ Q (.ref e) s') E { s with heap := h' }) :
  wpAny (model prog w) A (call (.ref C) us) Q E s := by
 obtain ⟨bm, N, nm, qn, bs, hdct, sn, sub, ab, col, dd, k0, k1, k2, k3, k5, mN, gC, gN, gi, T⟩ := zfd X q;have r1 := tc_lookup;have r2 := tc_bind (.ref C);have isT : s.TypeIs (.ref C) "type" := ⟨_, gC, rfl⟩;refine wpAny_call (codeAny_of_tree ?_);show wpAny _ _ (callAny (.ref C) _) _ _ _;obtain ⟨hh, g, d, tk, os⟩ := s
 repeat (any_goals (first | assumption | with_reducible refine wpAny_loadPart_at gC ?_ | wp_step))
 refine ⟨rfl, ?_⟩;exact codeAny_call_builtin_at (Code.quiet_builtin _ (by decide +kernel)) entry_typeCall (wpAny_check_type_call_sub gC (zps X q hf hfc hlen fun h' e mk => hq h' e mk))
theorem zzv {env : Env} {fI : Addr} {m : Sem Value} {Q : Flow -> Shared -> Prop} (q : zd9 K C fI = true) (hd : A.handled = none)
  (h : wpAny (model prog w) A m (fun v s1 => K.In s1.heap /\ ∃ e t dx, v = .ref e /\ s1.heap.get? e = some (zdd C dx t) /\ E (.ref e) s1) E s) : wpAny (model prog w) A (raiseStmt env (some m) none) Q E s := by
 unfold raiseStmt;refine wpAny_bind (wpAny_mono h (fun v s1 z => ?_) fun _ _ z => z);obtain ⟨X, e, t, dx, rfl, ge, hE⟩ := z;obtain ⟨bm, N, nm, qn, bs, hdct, sn, sub, ab, col, dd, k0, k1, k2, k3, k5, mN, gC, gN, gi, T⟩ := zfd X q;have isB : (Value.ref C :: bm).contains (.type "BaseException") = true := by rw [List.contains_cons, T.hasType PySem.F.excBase_ValueError.hasBase, Bool.or_true]
 obtain ⟨hp, g, d, tk, os⟩ := s1;have ge : hp.get? e = some { cls := .ref C, dict := dx, data := .fields #[.ref t, .none, .none, .none, .bool false, .none] } := ge
 repeat (first | with_reducible refine wpAny_loadPart_at ge ?_ | with_reducible refine wpAny_loadPart_at gC ?_ | (with_reducible refine wpAny_isSubtype_exc gC ?_; rw [isB]) | wp_step)
 exact wpAny_raiseNew_none hd hE
theorem zzw {env : Env} {fI : Addr} {y : Str} {np cpos pos : Pos} {args : List Expr} {Q : Flow -> Shared -> Prop} (q : zd9 K C fI = true) (hd : A.handled = none) (hpl : (backTo cpos (starEach args env)).any (·.1) = false)
  (h : wpAny (model prog w) A (eval (.Name y np) env) (fun f s1 => f = .ref C /\ wpAny (model prog w) A (evalArgs (.ref C) true (backTo cpos (starEach args env)) []) (fun a s2 => a.kw = [] /\ K.In s2.heap /\
   wpAny (model prog w) A (call (.ref C) a.pos) (fun v s3 => K.In s3.heap /\ ∃ e t dx, v = .ref e /\ s3.heap.get? e = some (zdd C dx t) /\ E (.ref e) s3) E s2) E s1) E s) :
  wpAny (model prog w) A (exec (.Raise (some (.Call (.Name y np) args [] cpos)) none pos) env) Q E s := by
 rw [arm_exec_Raise];have core : wpAny (model prog w) A (eval (.Call (.Name y np) args [] cpos) env) (fun v s3 => K.In s3.heap /\ ∃ e t dx, v = .ref e /\ s3.heap.get? e = some (zdd C dx t) /\ E (.ref e) s3) E s := by
  refine wpAny_Call_ofName (wpAny_mono h (fun f s1 z => ?_) fun _ _ z => z);obtain ⟨rfl, z⟩ := z;unfold callWith;refine wpAny_bind (wpAny_holding (wpAny_mono z (fun a s2 y2 => wpAny_bind (wpAny_standAt ?_)) fun _ _ z => z));obtain ⟨ap, ak⟩ := a;obtain ⟨e1, X, y2⟩ := y2;obtain rfl : ak = [] := e1;obtain ⟨bm, N, nm, qn, bs, hdct, sn, sub, ab, col, dd, k0, k1, k2, k3, k5, mN, gC, gN, gi, T⟩ := zfd X q;obtain ⟨hp, g, d, tk, os⟩ := s2;simp only [hpl];refine wpAny_bind (wpAny_keeperOf_exc gC ?_);exact wpAny_bind (wpAny_mono y2 (fun v s3 z => wpAny_bind (wpAny_holding (wpAny_point (wpAny_pure z)))) fun _ _ z => z)
 exact wpAny_bind (wpAny_standAt (zzv q hd (wpAny_bind (wpAny_mono core (fun v s3 z => wpAny_bind (wpAny_standAt (wpAny_pure z))) fun _ _ z => z))))
end
end L2
namespace L2
open PySem PySem.Spec PyProof.Rows
def excO (x C : Addr) (dx : Option Addr) : HO := .ext fun h => ∃ t, h.get? x = some (zdd C dx t)
def unt (H : Hp) (a : Addr) : Hp := fun b => if b = a then none else H b
theorem zih {H : Hp} {a b : Addr} (h : b ≠ a) : unt H a b = H b := by unfold unt; rw [if_neg h]
theorem zhy {H : Hp} {a : Addr} : unt H a a = none := by unfold unt; rw [if_pos rfl]
theorem zzx {H : Hp} {a : Addr} {o : HO} (e : H a = some o) : upd H a o = H := by
 funext b; unfold upd; split
 ·rename_i z; rw [z, e]
 ·rfl
section
variable {P : Program} {w : World} {H : Hp} {h h' : Heap} {x C d : Addr} {dx : Option Addr} {t : Addr} {fs fs' : List (Str × V)}
theorem znb (e : h.get? x = some (zdd C dx t)) : zcb P w H h x (excO x C dx) := ⟨⟨t, e⟩, ⟨_, e⟩, fun _ _ z k => let ⟨t, e⟩ := z; ⟨t, k _ e⟩⟩
theorem zhz (ok : HOk P w H h) (e : H x = some (excO x C dx)) : ∃ t, h.get? x = some (zdd C dx t) := (ok x _ e).1
theorem HOk.writeX (ok : HOk P w H h) (hd : H d = some (.xd fs)) (k : ∀ b u, b ≠ d -> h.get? b = some u -> h'.get? b = some u) (new : zcb P w (upd H d (.xd fs')) h' d (.xd fs')) : HOk P w (upd H d (.xd fs')) h' := fun b u q => by
 by_cases hb : b = d
 ·subst hb; rw [zaj] at q; cases q; exact new
 ·rw [zah hb] at q
  refine (ok b u q).stay (fun c v hc r => k c v ?_ r) (fun c r => ?_) fun c xs r => ?_
  ·rintro rfl
   rcases hc with z | z
   ·exact hb z.symm
   ·rw [hd] at z; cases z
  ·rw [zah]; exact r
   rintro rfl; rw [hd] at r; cases r
  ·rw [zah]; exact r
   rintro rfl; rw [hd] at r; cases r
theorem Un.writeX {fr ex : List Addr} (hd : H d = some (.xd fs)) (k : ∀ b u, b ≠ d -> h.get? b = some u -> h'.get? b = some u) (hdo : ∃ u, h'.get? d = some u) : Un fr ex H (upd H d (.xd fs')) h h' := by
 have ne : ∀ b, H b = none -> b ≠ d := fun b n z => by rw [z, hd] at n; cases n
 refine ⟨fun b u q n _ _ => k b u (ne b n) q, fun b u q n _ _ => ⟨u.slots, k b u (ne b n) q⟩, fun b u q n _ => by rw [zah (ne b n)]; exact n, fun b u q _ => ?_,
  fun b xs q => ?_, fun b u xs q => ?_, fun b ps q => ⟨#[], ?_⟩⟩
 ·by_cases z : b = d
  ·subst z; exact hdo
  ·exact ⟨u, k b u z q⟩
 ·rw [zah]; exact q
  rintro rfl; rw [hd] at q; cases q
 ·rw [zah]; exact q
  rintro rfl; rw [hd] at q; cases q
 ·rw [zah, q]; simp
  rintro rfl; rw [hd] at q; cases q
theorem HOk.unt (ok : HOk P w H h) {φ : Heap -> Prop} (e : H x = some (.ext φ)) : HOk P w (unt H x) h := fun b u q => by
 by_cases hb : b = x
 ·subst hb; rw [zhy] at q; cases q
 ·rw [zih hb] at q
  refine (ok b u q).stay (fun _ _ _ z => z) (fun c r => ?_) fun c xs r => ?_
  ·rw [zih]; exact r
   rintro rfl; rw [e] at r; cases r
  ·rw [zih]; exact r
   rintro rfl; rw [e] at r; cases r
end
theorem mem_of_lookup {g : Str} {v : V} : ∀ {fs : List (Str × V)}, fs.lookup g = some v -> g ∈ fs.map (·.1)
 | (k, u) :: r, e => by
   by_cases z : g = k
   ·rw [z]; exact List.mem_cons_self
   ·have hb : (g == k) = false := beq_eq_false_iff_ne.mpr z
    rw [List.lookup, hb] at e;exact List.mem_cons_of_mem _ (mem_of_lookup e)
theorem zrj {fs : List (Str × V)} {mA : Str -> Option Value} (r : ∀ f, RelO (fs.lookup f) (mA f)) : PySem.Within mA (fs.map (·.1)) := fun g hg => by
 have z := r g;cases e : fs.lookup g with
 | some v => exact mem_of_lookup e
 | none =>
   rw [e] at z;cases q : mA g with
   | none => exact absurd q hg
   | some u => rw [q] at z; exact z.elim
def zvn (K : PySem.W.Frag) (t : TA) : TE := fun σ H Q => t σ H fun vs H1 => ∃ a m C fI dx, vs = [.ref a, m] /\ H1 a = some (excO a C dx) /\ zd9 K C fI = true /\ Q .non H1
section
variable {X : Cx} {E : XK} {B : Addr} {y f : Str} {np apos pos pos' : Pos} {e o value : Expr} {es : List Expr} {t : TA} {ta tv : TE}
theorem zt3 {pl : Sem Bool} (hg : Gl X y) (hm : X.mg y = some (.ref B)) (h1 : PySem.W.specialIn X.K (.ref B) "__getattribute__" = some (some (.builtin "type.__getattribute__")))
  (h2 : PySem.W.readsIn X.K B (.type "type") = true) (h3 : PySem.W.findCls X.K (.ref B) (.type "type") "__init__" = some (.val (.builtin "ValueError.__init__"))) (ha : PA X (e :: es) t)
  (hdb : (y == ("__debug__" : Str)) = false := by decide) (hst : starEach (e :: es) X.env = (false, eval e X.env) :: starEach es X.env := by rfl) (hpl : (backTo pos (starEach es X.env)).any (·.1) = false := by rfl)
  (ht : eval (.Call (.Attribute (.Name y np) "__init__" apos) (e :: es) [] pos) X.env = (do
   let ov <- eval (.Name y np) X.env
   standAt apos.atName
   let (f, first) <- holding [ov] (getMethod ov "__init__" pl)
   callWith pos f first (backTo pos (starEach (e :: es) X.env)) (backToKw pos (keywordEach [] X.env))) := by rfl) :
  PE X (.Call (.Attribute (.Name y np) "__init__" apos) (e :: es) [] pos) (zvn X.K t) := by
 intro pins s σ H Q I h;refine PySem.W.methodCall_KW (pl := pl) (zfc I hg hm ?_ hdb) ht;refine zna I.kIn h1 h2 h3 ?_;refine PyProof.Rows.callWith_builtin1 (thn (ha pos pins _ σ H _ (I.tok _) h) fun us s1 hq_ => ?_) hst hpl;obtain ⟨vs, H1, I1, r1, a, m, C, fI, dx, ev, ea, q, z⟩ := hq_;subst ev;cases r1 with
 | cons ra rm =>
   cases rm with
   | cons rm0 rn =>
     cases rn;obtain rfl := (show _ = Value.ref a from ra);obtain ⟨t0, hx⟩ := zhz I1.hok ea;refine zpr I1.kIn q hx fun h' t' tk' g k => ⟨.non, H1, ?_, rfl, z⟩;have I2 := I1.write (h' := h') (t' := tk') (x := a) (e := a) (o := excO a C dx) (by rw [ea]; exact trivial) (.inl rfl) k ⟨_, g⟩ (znb g);rw [zzx ea] at I2;exact I2
def zxd (K : PySem.W.Frag) (ta tv : TE) (f : Str) : TS := fun D σ H => tv σ H fun y H1 => ta σ H1 fun x H2 => ∃ a C, x = .ref a /\ XCls K C /\ PySem.W.findIn K (.ref C) f = some none /\
 ((H2 a = some (excO a C none) /\ ∀ d, H2 d = none -> D.nx σ (upd (upd H2 a (excO a C (some d))) d (.xd [(f, y)]))) \/
  ∃ d fs, H2 a = some (excO a C (some d)) /\ H2 d = some (.xd fs) /\ fs.length < 1000 /\ D.nx σ (upd H2 d (.xd (putF f y fs))))
theorem zrk (ha : PE X o ta) (hv : PE X value tv) (hs : swapsWith value (some (.Attribute o f pos')) pos.line X.env = pure false) : PS X (.Assign [.Attribute o f pos'] value pos) (zxd X.K ta tv f) := by
 intro pins s σ H D I h;refine plainObj_wpAny_Assign_Attribute (thn (hv pins s σ H _ I h) fun u s1 hq_ => ?_) hs;obtain ⟨y, H1, I1, ry, q⟩ := hq_;refine thn (ha pins s1 σ H1 _ I1 q) fun ov s2 hq_ => ?_;obtain ⟨x, H2, I2, rx, a, C, ex, c, n, q2⟩ := hq_;subst ex;obtain rfl : ov = Value.ref a := rx;rcases q2 with ⟨ea, q2⟩ | ⟨d, fs, ea, ed, hl, q2⟩
 ·obtain ⟨t, hx⟩ := zhz I2.hok ea
  refine zri I2.kIn c n hx fun h' n1 g k => ⟨σ, _, ?_, q2 s2.heap.objs.size (I2.hok.fresh (Nat.le_refl _))⟩;have ha' : a ≠ s2.heap.objs.size := Nat.ne_of_lt (Heap.lt_size hx);have hd0 : H2 s2.heap.objs.size = none := I2.hok.fresh (Nat.le_refl _);have na : ∀ b, H2 b = none -> b ≠ a := fun b z w => by rw [w, ea] at z; cases z
  have nd : ∀ b v, s2.heap.get? b = some v -> b ≠ s2.heap.objs.size := fun b v z => Nat.ne_of_lt (Heap.lt_size z);have nk : ∀ b v, H2 b = some v -> (∀ φ, v ≠ .ext φ) -> upd (upd H2 a (excO a C (some s2.heap.objs.size))) s2.heap.objs.size (.xd [(f, y)]) b = some v := fun b v z w => by
   rw [zah (fun q => by rw [q, hd0] at z; cases z), zah (fun q => by rw [q, ea] at z; cases z; exact w _ rfl)]; exact z
  have un : Un X.fs [] H2 (upd (upd H2 a (excO a C (some s2.heap.objs.size))) s2.heap.objs.size (.xd [(f, y)])) s2.heap h' :=
   ⟨fun b v z nn _ _ => k b v (na b nn) z, fun b v z nn _ _ => ⟨v.slots, k b v (na b nn) z⟩, fun b v z nn _ => by rw [zah (nd b v z), zah (na b nn)]; exact nn,
    fun b v z _ => (by
     by_cases w : b = a
     ·rw [w]; exact ⟨_, g⟩
     ·exact ⟨v, k b v w z⟩),
    fun b xs z => nk b _ z (by intro _ w; cases w), fun b v xs z => nk b _ z (by intro _ w; cases w), fun b ps z => ⟨#[], by rw [nk b _ z (by intro _ w; cases w)]; simp⟩⟩
  refine I2.un un fun b v z => ?_;by_cases w : b = s2.heap.objs.size
  ·subst w
   rw [zaj] at z; cases z;refine ⟨_, n1, fun g' => ?_⟩;show RelO (List.lookup g' [(f, y)]) (if g' = f then some u else none);by_cases z2 : g' = f
   ·have hb : (g' == f) = true := beq_iff_eq.mpr z2
    simp only [List.lookup, hb, if_pos z2]; exact ry
   ·have hb : (g' == f) = false := beq_eq_false_iff_ne.mpr z2
    simp only [List.lookup, hb, if_neg z2]; trivial
  ·rw [zah w] at z
   by_cases w2 : b = a
   ·subst w2
    rw [zaj] at z; cases z;exact znb g
   ·rw [zah w2] at z
    refine (I2.hok b v z).stay (fun c' v' hc r => k c' v' ?_ r) (fun c' r => nk c' _ r (by intro _ w; cases w)) fun c' xs r => nk c' _ r (by intro _ w; cases w);rcases hc with q | q
    ·rw [q]; exact w2
    ·rintro rfl; rw [ea] at q; cases q
 ·obtain ⟨t, hx⟩ := zhz I2.hok ea
  obtain ⟨mA, n1, r⟩ := I2.hok d _ ed;have hne : d ≠ a := fun z => by rw [z, ea] at ed; cases ed
  have wi := zrj r;refine zrh I2.kIn c n hx hne n1 wi (by rw [List.length_map, sizeLine_eq]; omega) fun h' n2 sb => ⟨σ, _, ?_, q2⟩;obtain ⟨od, _, _, hod, _⟩ := id n2;refine I2.un (Un.writeX ed (fun b v hb z => (sb.2 b hb).trans z) ⟨od, hod⟩) (I2.hok.writeX ed (fun b v hb z => (sb.2 b hb).trans z) ⟨_, n2, fun g => ?_⟩);show RelO ((putF f y fs).lookup g) (if g = f then some u else mA g);rw [zf9];by_cases z : g = f
  ·rw [if_pos z, if_pos z]; exact ry
  ·rw [if_neg z, if_neg z]; exact r g
end
end L2
namespace L2
open PySem PySem.Spec PyProof.Rows
def zii (X : Cx) (E : XK) : Prop := ∀ (pins : List (Addr × Obj)) (σ : St) (H1 : Hp) (s1 : Shared) (H : Hp) (s : Shared) (ea C t : Addr) (dx : Option Addr), Inv X pins σ H1 s1 -> s1.heap.objs.size <= ea -> Inv X pins σ H s ->
 H ea = some (excO ea C dx) -> s.heap.get? ea = some (zdd C dx t) -> E (.ref C) dx (unt H ea) -> X.xe (.ref ea) s
section
variable {P : Program} {w : World} {K : PySem.W.Frag} {mg : Str -> Option Value} {base : Heap} {N : List Str} {qual : Str} {scope : Scope} {f : Addr} {cd : Value} {A : Around} {outer : List Env} {s₀ : Shared} {H₀ : Hp} {E : XK}
theorem zpt : zii (cxOf (CXE P w) P w K mg base N qual scope f cd A outer s₀ H₀ E) E := by
 intro pins σ H1 s1 H s ea C t dx I1 hea I eH he hE;let X := cxOf (CXE P w) P w K mg base N qual scope f cd A outer s₀ H₀ E;let B := PySem.W.hideAll s.heap (ea :: frs X.stack);have hfrl : ∀ b, b ∈ frs X.stack ↔ b = X.env.locals \/ b ∈ frs outer := fun b => by
  show b ∈ X.env.locals :: frs outer ↔ _;exact List.mem_cons
 have old : ∀ b o, s₀.heap.get? b = some o -> b ≠ ea := fun b o e => Nat.ne_of_lt (Nat.lt_of_lt_of_le (Heap.lt_size e) (Nat.le_trans I1.sz hea));have hF : s.heap.FunFrames B X.stack := PySem.W.funFrames_hide I.stack fun env hv a ha => List.mem_cons_of_mem _ (List.mem_filterMap.mpr ⟨env, hv, ha⟩);have hB : B.get? ea = none := PySem.W.hideAll_none _ List.mem_cons_self;have kB : ∀ b o, s.heap.get? b = some o -> b ≠ ea -> b ∉ frs X.stack -> B.get? b = some o := fun b o e n1 n2 => PySem.W.hideAll_get _ e fun m => (List.mem_cons.mp m).elim n1 n2;have ntr : ∀ b v, H b = some v -> (∀ φ, v ≠ .ext φ) -> unt H ea b = some v := fun b v z q => by
  rw [zih (fun y => by rw [y, eH] at z; cases z; exact q _ rfl)]; exact z
 show wpAny (model P w) X.A (leaving X.env (.ref ea)) _ _ _;refine wpAny_mono (zju (e := ea) (d := dx) zg2 ⟨_, he, rfl⟩ (wpAny_leaving_firstW (Q := fun _ s2 => ∃ h1, s2 = { s with heap := h1 } /\ Heap.LeftW B X.stack ea (.ref C) (.ref t) s.heap h1)
  (base := B) (env := X.env) (outer := outer) (L := X.env.locals) (a0 := .ref t) I.ok.frames hF rfl he (fun b o q => PySem.W.of_hideAll _ q) hB rfl rfl rfl fun h1 k => ⟨h1, rfl, k⟩)) (fun _ s2 z => ?_) fun _ _ z => z.1
 obtain ⟨⟨h1, rfl, k1, ⟨_, _, k2⟩, k3, k4⟩, hd1⟩ := z;refine ⟨ea, .ref C, .ref t, B, unt H ea, dx, rfl, I.os, I.bare, ⟨k1, hB, k2, k3⟩, ?_, fun b o e n hb => ?_, fun b o e n hb => ?_, fun b o e n => ?_, fun b o e hb => ?_, fun b xs e => ?_, fun b o u e => ?_, fun b ps e => ?_, hd1, hE⟩
 ·refine HOk.hide (HOk.unt I.hok eH) fun b hb => ?_
  rcases List.mem_cons.mp hb with z | z
  ·rw [z]; exact zhy
  ·by_cases q : b = ea
   ·rw [q]; exact zhy
   ·rw [zih q]; exact I.stkFree b z
 ·have hL : b ≠ X.env.locals := Nat.ne_of_lt (Nat.lt_of_lt_of_le (Heap.lt_size e) I.ok.above)
  refine kB b o (I.base.keep b o e n hb (by simp [cxOf])) (old b o e) fun m => ?_;rcases (hfrl b).mp m with z | z
  ·exact hL z
  ·exact hb z
 ·obtain ⟨sl, e1⟩ := I.base.slot b o e n hb (by simp [cxOf])
  obtain ⟨o', e', nd⟩ := (I.stack.mem ((hfrl b).mpr (.inr hb))).2;rw [e1] at e'; cases e';obtain ⟨sl', e2⟩ := k4 b _ e1 nd;exact ⟨sl', e2⟩
 ·rw [zih (old b o e)]; exact I.base.free b o e n (by simp [cxOf])
 ·have hL : b ≠ X.env.locals := Nat.ne_of_lt (Nat.lt_of_lt_of_le (Heap.lt_size e) I.ok.above)
  obtain ⟨o', e1⟩ := I.base.there b o e (by simp [cxOf]);refine ⟨o', kB b o' e1 (old b o e) fun m => ?_⟩;rcases (hfrl b).mp m with z | z
  ·exact hL z
  ·exact hb z
 ·exact ntr b _ (I.base.tups b xs e) (by intro _ z; cases z)
 ·exact ntr b _ (I.base.frzs b o u e) (by intro _ z; cases z)
 ·obtain ⟨more, e1⟩ := I.base.tbls b ps e
  exact ⟨more, ntr b _ e1 (by intro _ z; cases z)⟩
end
def zxe (C : Addr) (sp : Sp) (E : XK) (t : TA) : TS := fun _ σ H => t σ H fun vs H1 => vs.length <= sizeLine /\ ∀ ea, H1 ea = none ->
 sp (.ref ea :: vs) (upd H1 ea (excO ea C none)) (fun v H2 => v = .non /\ ∃ dx, H2 ea = some (excO ea C dx) /\ E (.ref C) dx (unt H2 ea)) E0
section
variable {X : Cx} {E : XK} {k : Nat} {C fI : Addr} {fd : FuncData} {ps : List Str} {sp : Sp} {y : Str} {np cpos pos : Pos} {e : Expr} {es : List Expr} {t : TA}
theorem zrl (hx : zii X E) (hp : zc7 (CXE X.prog X.w) X E0) (hc : X.calm = true) (q : zd9 X.K C fI = true) (hf : PySem.W.isFn X.K (.ref fI) = true) (F : FnOk X.prog X.w X.K X.mg X.base (CXE X.prog X.w) k fI fd ps sp) (hr : Room (k + 1) X.A) (hb : zeg X.K fd ps [])
  (hg : Gl X y) (hm : X.mg y = some (.ref C)) (ha : PA X (e :: es) t)
  (hdb : (y == ("__debug__" : Str)) = false := by decide) (he : starEach (e :: es) X.env = (false, eval e X.env) :: starEach es X.env := by rfl) (hpl : (backTo cpos (starEach es X.env)).any (·.1) = false := by rfl) :
  PS X (.Raise (some (.Call (.Name y np) (e :: es) [] cpos)) none pos) (zxe C sp E t) := by
 intro pins s σ H D I h;refine zzw (K := X.K) q (I.ok.hd hc) (by rw [he]; show (false || (backTo cpos (starEach es X.env)).any (·.1)) = false; rw [hpl]; rfl) (zfc I hg hm ⟨rfl, ?_⟩ hdb);have a := ha cpos pins s σ H _ I h;rw [he] at a ⊢;refine Calls.evalArgs_plain (thn a fun us s2 ⟨vs, H2, I2, r, l, z⟩ => ⟨rfl, I2.kIn, ?_⟩);obtain ⟨oI, g1, g2⟩ : ∃ oI, s2.heap.get? fI = some oI /\ oI.cls = .type "function" := by
  obtain ⟨o, ho, hc'⟩ := Option.map_eq_some_iff.mp (show (X.K.lookup fI).map (·.cls) = some (.type "function") from eq_of_beq hf);exact ⟨o, I2.kIn _ _ ho, hc'⟩
 refine z2j I2.kIn q g1 g2 (by show us.length <= sizeLine; rw [<- r.length]; exact l) fun h' ea mk => ?_;obtain ⟨t0, ht0⟩ := mk.obj;have I3 : Inv X pins σ (upd H2 ea (excO ea C none)) { s2 with heap := h' } := I2.laid (t' := s2.toks) mk.keeps mk.new (znb ht0);have r2 : Vals (V.ref ea :: vs) (Value.ref ea :: us) := .cons rfl r;have sq := z ea (I2.hok.fresh mk.new);have hl : (Value.ref ea :: us ++ []).length = ps.length := by
  rw [List.append_nil, <- r2.length]; exact F.len _ _ _ _ sq
 have bb := hb { s2 with heap := h' } (Value.ref ea :: us) I3.kIn hl;rw [List.append_nil] at bb;refine wpAny_call (codeAny_mono (F.run _ X.stack _ _ ⟨Value.ref ea :: us, []⟩ (Value.ref ea :: us) _ _ E0 (hr.make C us []) (I3.env0.make C us []) bb r2 sq) fun r' s' hq => ?_);cases r' with
 | error ex => exact hp pins σ _ _ ex s' I3 hq
 | ok fl =>
   cases fl with
   | ret u =>
     obtain ⟨v, H', I4, rv, ev, dx, e4, q4⟩ := I3.after hq;subst ev;obtain ⟨t4, g4⟩ := zhz I4.hok e4;exact ⟨rv, I4.kIn, ea, t4, dx, rfl, g4, hx pins σ H2 s2 H' s' ea C t4 dx I2 mk.new I4 e4 g4 q4⟩
   | next => exact False.elim hq
   | brk => exact False.elim hq
   | cont => exact False.elim hq
end
end L2
namespace L2
open PySem PySem.Spec PyProof.Rows PySem.Builtin PySem.Builtin.ObjectAttr
structure XGet (K : PySem.W.Frag) (C : Addr) : Prop where
 ga : PySem.W.findIn K (.ref C) "__getattribute__" = some (some (.builtin "BaseException.__getattribute__"))
 gh : PySem.W.findIn K (.ref C) "__getattr__" = some none
 hd : PySem.W.hasDictIn K C = true
 over : zkl K C = true
section
variable {prog : Program} {w : World} {A : Around} {E : Value -> Shared -> Prop} {s : Shared} {K : PySem.W.Frag} {x C : Addr}
theorem zzy {ox : Obj} {od : Option Obj} {name : Str} {tk : Tok} {fill expr : Bool} {Q : Value -> Shared -> Prop} (X : K.In s.heap) (c : XGet K C) (J : PySem.W.InstAt s.heap x ox C od)
  (h : wpAny (model prog w) A.in1 (Builtin.«object.__getattribute__» ⟨[.ref x, .str name tk], []⟩) (fun fin s' => match fin with | .done (.ret v) => wpAny (model prog w) A (handedOut v) Q E s' | _ => False) (fun _ _ => False) s) :
  wpAny (model prog w) A (getAttrBy (.ref x) (.str name tk) fill expr) Q E s := by
 have FB := PySem.F.attrBase_ValueError;have neq : (onTheHeap (Value.ref C) && Value.builtin "BaseException.__getattribute__" == Value.builtin "object.__getattribute__") = false := by
  rw [show (Value.builtin "BaseException.__getattribute__" == Value.builtin "object.__getattribute__") = false from by decide +kernel, Bool.and_false]
 obtain ⟨cd, gcd, gv⟩ := PySem.W.any_some c.over;have isB : PySem.W.Looks (model prog w) s.heap (isInstance (.ref x) (.type "BaseException")) true :=
  J.type.andThen (PySem.W.looks_mroIn X (by unfold PySem.W.mroIn; rw [gcd, Option.bind_some, if_neg (by rw [(zvm gv).2.2]; decide), zrg gv (by decide +kernel)]))
 unfold getAttrBy;refine wpAny_holding (wpAny_bind (J.type.here (wpAny_bind ((PySem.W.looks_findIn X c.ga).here ?_))));dsimp only;rw [neq, if_neg (by decide)];unfold getAttrByItsOwn;refine wpAny_bind ((PySem.W.looks_hook (r := none) X (by rw [if_pos (by rfl)]; exact c.gh)).here (wpAny_bind (wpAny_attempt (wpAny_holding ?_))));unfold callGetattribute;rw [show (expr && onTheHeap (Value.builtin "BaseException.__getattribute__")) = false from by cases expr <;> rfl, if_neg (by decide)];unfold boundAndCalled;rw [FB.ga.bind];refine wpAny_bind (wpAny_pure ?_);show wpAny _ _ (call (.builtin "BaseException.__getattribute__") [.ref x, .str name tk]) _ _ _;refine wpAny_call (codeAny_call_builtin FB.ga.plain PySem.F.entry_bexc_ga ?_);refine @PySem.W.check_slot (model prog w) _ _ s "BaseException.__getattribute__" "BaseException" "__getattribute__" (.ref x) [.str name tk] [] _ (by decide +kernel) (by decide +kernel) isB (PySem.F.args_bexc_ga (.ref x) (.str name tk)) ?_;refine wpAny_mono h (fun fin s' z => ?_) fun _ _ z => z.elim;rcases fin with (_ | _ | _ | _) | _ <;> first | exact z | exact z.elim
theorem xget {dx : Addr} {ox : Obj} {mA : Str -> Option Value} {name : Str} {v : Value} {expr : Bool} {Q : Value -> Shared -> Prop} (X : K.In s.heap) (c : XGet K C) (hn : PySem.W.findIn K (.ref C) name = some none)
  (hx : s.heap.get? x = some ox) (hc : ox.cls = .ref C) (hd : ox.dict = some dx) (hnc : PySem.W.notCls ox = true) (n : s.heap.Ns1 dx mA) (hv : mA name = some v) (hh : PySem.W.handedIn v = true) (h : Q v { s with toks := s.toks + 1 }) :
  wpAny (model prog w) A (getAttr (.ref x) name expr) Q E s := by
 obtain ⟨od, ho, hl⟩ := zh7 n;have J : PySem.W.InstAt s.heap x ox C (some od) := ⟨hx, hc, hnc, by rw [hd]; exact ho⟩;have L := PySem.W.looks_find (M := model prog w) X J (PySem.W.findObj_own c.hd hn rfl (by rw [hl, hv]));unfold getAttr;refine wpAny_bind (wpAny_mkText (zzy (s := { s with toks := s.toks + 1 }) X c J ?_));unfold Builtin.«object.__getattribute__»;refine wpAny_bind (wpAny_pure (wpAny_bind (wpAny_pure (wpAny_bind (PySem.W.Looks.here (s := { s with toks := s.toks + 1 }) J.type (wpAny_bind (PySem.W.Looks.here (s := { s with toks := s.toks + 1 }) L ?_)))))));refine wpAny_pure ?_;show wpAny _ _ (handedOut v) _ _ _;rw [PySem.W.handedOut_of hh]; exact wpAny_pure h
structure XKit (K : PySem.W.Frag) (C : Addr) : Prop extends XGet K C where
 ha : PySem.W.findIn K (.ref C) "__class__" = some (some (.builtin "object.__class__"))
 hn : PySem.W.specialIn K (.builtin "object.__class__") "__get__" = some (some (.builtin "getset_descriptor.__get__"))
 htk : PySem.W.takesIn K (.builtin "object.__class__") = some true
 hm : PySem.W.mroIn K C (.type "object") = some true
theorem zzz {ox : Obj} {od : Option Obj} {Q : Option Value -> Shared -> Prop} (X : K.In s.heap) (c : XKit K C) (J : PySem.W.InstAt s.heap x ox C od) (h : Q (some (.ref C)) { s with toks := s.toks + 1 }) :
  wpAny (model prog w) A (getAttr? (.ref x) "__class__") Q E s := by
 have fo : PySem.W.findObj K C od "__class__" = some (.bind (.builtin "getset_descriptor.__get__") (.builtin "object.__class__")) := by
  obtain ⟨cd, hc, _⟩ := PySem.W.any_some c.hd;unfold PySem.W.findObj;rw [hc, Option.bind_some, c.ha, Option.bind_some];simp [c.hn, c.htk]
 have L := PySem.W.looks_find (M := model prog w) X J fo;unfold getAttr? getAttrBy?;refine wpAny_bind (wpAny_mkText (wpAny_bind (wpAny_attempt (zzy (s := { s with toks := s.toks + 1 }) X c.toXGet J ?_))));unfold Builtin.«object.__getattribute__»;refine wpAny_bind (wpAny_pure (wpAny_bind (wpAny_pure (wpAny_bind (PySem.W.Looks.here (s := { s with toks := s.toks + 1 }) J.type (wpAny_bind (PySem.W.Looks.here (s := { s with toks := s.toks + 1 }) L ?_)))))));unfold bindTo;refine wpAny_bind (wpAny_holding (wpAny_call (PySem.W.class_get (s := { s with toks := s.toks + 1 }) (ox := ox) (od := od) X J c.hm (wpAny_pure (PySem.W.handed_on rfl (wpAny_pure h))))))
theorem zt4 {ox : Obj} {od : Option Obj} (c : XKit K C) : PySem.W.KitX K (.ref x) (.ref C) (fun h => PySem.W.InstAt h x ox C od) where
 ty := fun _ _ _ I => I.type
 it := fun _ _ X _ => by
  obtain ⟨cd, hc, _⟩ := PySem.W.any_some c.hd;unfold PySem.W.clsIn at hc
  split at hc
  case h_1 q =>
   intro A' Q' E' s' k z;unfold isType loadHead;exact wpAny_bind (wpAny_loadPart (k _ _ (X _ _ q)) (wpAny_pure z))
  case h_2 => cases hc
 ne := fun h tp dd its n sl X htp => by
  obtain ⟨cd, hc, _⟩ := PySem.W.any_some c.hd;refine Bool.eq_false_iff.mpr fun w => ?_;obtain rfl : C = tp := Value.ref.inj (beq_iff_eq.mp w);unfold PySem.W.clsIn at hc
  split at hc
  case h_1 q => cases (X _ _ q).symm.trans htp
  case h_2 => cases hc
 ca := fun X I k => zzz X c I k
end
def excL (x C : Addr) (dx : Option Addr) : HO := .ext fun h => ∃ o, h.get? x = some o /\ o.cls = .ref C /\ o.dict = dx /\ PySem.W.notCls o = true
theorem zxf {P : Program} {w : World} {H : Hp} {h : Heap} {x C : Addr} {dx : Option Addr} {o : Obj} (e : h.get? x = some o) (e1 : o.cls = .ref C) (e2 : o.dict = dx) (e3 : PySem.W.notCls o = true) : zcb P w H h x (excL x C dx) :=
 ⟨⟨o, e, e1, e2, e3⟩, ⟨o, e⟩, fun _ _ z k => let ⟨o, e, e1⟩ := z; ⟨o, k _ e, e1⟩⟩
theorem zof {P : Program} {w : World} {H : Hp} {h : Heap} {x C : Addr} {dx : Option Addr} (ok : HOk P w H h) (e : H x = some (excL x C dx)) : ∃ o, h.get? x = some o /\ o.cls = .ref C /\ o.dict = dx /\ PySem.W.notCls o = true := (ok x _ e).1
def goes (i : Nat) (D : Ends) : Ends := { nx := fun σ H => D.nx (σ.set i none) H, bk := fun σ H => D.bk (σ.set i none) H, ct := fun σ H => D.ct (σ.set i none) H, rt := D.rt }
def zz0 (K : PySem.W.Frag) (D : Addr) (i : Nat) (ts : TS) (tr : THd) : THd := fun cls dx ea En σ H => ∃ C bmC, cls = .ref C /\ zdc K C = some bmC /\
 if (Value.ref C :: bmC).contains (.ref D) = true then (H ea = none -> ts (goes i En) (σ.set i (some (.ref ea))) (upd H ea (excL ea C dx))) else tr cls dx ea En σ H
section
variable {X : Cx}
theorem zog {es : Array DictEntry} (sk : StrKeys es) {oc : Value} {od : Option Addr} {ep : Nat} {osl : Array (Option Value)} (y : Str) : nsLookByArray y ⟨oc, od, .dict es ep, osl⟩ = pure (nsFind es y) := by
 unfold nsLookByArray nsFind findBy;dsimp only;cases q : es.find? (fun e => e.key.isStr y) with
 | some en => rfl
 | none =>
   have noref : (es.any fun e => e.refKey) = false := by
    rw [Array.any_eq_false'];intro en hen;obtain ⟨_, _, z⟩ := sk en hen;simp [DictEntry.refKey, z]
   dsimp only;rw [noref]; rfl
theorem zpu {M : Model} {A : Around} {E : Value -> Shared -> Prop} {s : Shared} {a : Addr} {m : Str -> Option Value} {name : Str} {u : Value} {Q : Bool -> Shared -> Prop} (hn : s.heap.Ns a m) (hu : m name = some u)
  (hQ : ∀ h' m', h'.Ns a m' -> (∀ y, y ≠ name -> m' y = m y) -> Heap.SameBut a s.heap h' -> Q true { s with heap := h' }) : wpAny M A (nsDel a name) Q E s := by
 obtain ⟨o, es, ep, ho, hd, sk, look⟩ := hn;obtain ⟨en, gen, _⟩ := Option.map_eq_some_iff.mp (show (es.find? fun e => e.key.isStr name).map (·.val) = some u from (look name).trans hu);have gk : en.key.isStr name = true := by
  have := Array.find?_some (p := fun e : DictEntry => e.key.isStr name) gen;exact this
 have isIn : (es.any fun e => e.key.isStr name) = true := Array.any_eq_true'.mpr ⟨en, Array.mem_of_find?_eq_some gen, gk⟩;obtain ⟨j, hj⟩ : ∃ j, es.findIdx? (fun e => e.key.isStr name) = some j := by
  cases q : es.findIdx? (fun e => e.key.isStr name) with
  | some j => exact ⟨j, rfl⟩
  | none =>
    have := (Array.findIdx?_eq_none_iff.mp q) en (Array.mem_of_find?_eq_some gen);rw [gk] at this; cases this
 have has : nsHas name o = pure true := by
  rw [nsHas_eq]; unfold nsHasByArray; rw [hd];show (if (es.any fun e => e.key.isStr name) = true then _ else _) = _;rw [isIn]; rfl
 unfold nsDel;refine wpAny_bind (wpAny_loadPart ho ?_);rw [has];refine wpAny_bind (wpAny_pure (wpAny_bind (wpAny_updatePart ho (wpAny_pure ?_))));obtain ⟨oc, od, odt, osl⟩ := o;have hd : odt = .dict es ep := hd;subst hd;have e1 : Obj.dropName name ⟨oc, od, .dict es ep, osl⟩ = ⟨oc, od, .dict (es.eraseIdxIfInBounds j) (ep + 1), osl⟩ := by rw [Obj.dropName_eq]; simp only [Obj.dropNameByArray, hj]
 have sk2 := sk.erase j;refine hQ _ (nsFind (es.eraseIdxIfInBounds j)) ⟨_, _, _, Heap.get?_update_self _ ho (by rw [e1]; rfl), by rw [e1], sk2, fun _ => rfl⟩ (fun y hy => ?_) (Heap.SameBut.update ..);have l1 := nsLook_dropName hy ⟨oc, od, .dict es ep, osl⟩;rw [e1, nsLook_eq, zog sk2, zog sk] at l1;have l2 : nsFind (es.eraseIdxIfInBounds j) y = nsFind es y := by injection l1
 rw [l2, look]
theorem Inv.gone {pins : List (Addr × Obj)} {σ : St} {H : Hp} {s : Shared} {i : Nat} {x : Str} {h' : Heap} {t' : Nat} {m m' : Str -> Option Value} (I : Inv X pins σ H s) (hN : X.N.Nodup) (hi : X.N[i]? = some x) (hk : ∀ u : V, X.kn[i]? ≠ some (some u))
  (hm : ∀ (j : Nat) (y : Str) (v : V), X.N[j]? = some y -> σ[j]? = some (some v) -> Vis X.env.scope y -> ∃ u, RelV v u /\ Look X.env s.heap m y u)
  (hn : h'.Ns X.env.locals m') (oth : ∀ y, y ≠ x -> m' y = m y) (sb : Heap.SameBut X.env.locals s.heap h') : Inv X pins (σ.set i none) H { s with heap := h', toks := t' } := by
 have hL : ∀ b o, X.s₀.heap.get? b = some o -> b ≠ X.env.locals := fun b o e => Nat.ne_of_lt (Nat.lt_of_lt_of_le (Heap.lt_size e) I.ok.above);have hiσ : i < σ.length := by rw [I.len]; exact (List.getElem?_eq_some_iff.mp hi).1
 refine ⟨I.ok, I.os, I.bare, ⟨fun b o e n hb hx => (sb.2 b (hL b o e)).trans (I.base.keep b o e n hb hx), fun b o e n hb hx => ?_, I.base.free, fun b o e hx => ?_, I.base.tups, I.base.frzs, I.base.tbls⟩, ⟨m', hn, fun j y v e1 e2 e3 => ?_⟩, fun y c e => ?_, I.free, I.freeC, fun p hp => ?_, fun b ob e => ?_, ?_, fun j v e => ?_⟩
 ·obtain ⟨sl, e1⟩ := I.base.slot b o e n hb hx
  exact ⟨sl, (sb.2 b (hL b o e)).trans e1⟩
 ·obtain ⟨o', e1⟩ := I.base.there b o e hx
  exact ⟨o', (sb.2 b (hL b o e)).trans e1⟩
 ·by_cases hj : j = i
  ·subst hj
   rw [List.getElem?_set_self hiσ] at e2;cases e2
  ·rw [List.getElem?_set_ne (Ne.symm hj)] at e2
   obtain ⟨u', r', q⟩ := hm j y v e1 e2 e3;refine ⟨u', r', ?_⟩;rcases q with ⟨k, e⟩ | ⟨k, c, e, z⟩
   ·exact .inl ⟨k, by rw [oth y fun w => hj (zkd hN e1 (w ▸ hi))]; exact e⟩
   ·exact .inr ⟨k, c, e, z.sameBut sb (I.cne y c e)⟩
 ·obtain ⟨w', z⟩ := I.cell y c e
  exact ⟨w', z.sameBut sb (I.cne y c e)⟩
 ·obtain ⟨e, n, ne, nf, d⟩ := I.pin p hp
  exact ⟨(sb.2 p.1 ne).trans e, n, ne, nf, d⟩
 ·refine (I.hok b ob e).stay (fun c w' hc q => (sb.2 c ?_).trans q) (fun _ q => q) fun _ _ q => q
  rintro rfl;rcases hc with z | z
  ·rw [<- z, I.free] at e; cases e
  ·rw [I.free] at z; cases z
 ·show (σ.set i none).length = _
  rw [List.length_set]; exact I.len
 ·by_cases hj : j = i
  ·subst hj; exact absurd e (hk v)
  ·rw [List.getElem?_set_ne (Ne.symm hj)]; exact I.kn j v e
theorem zgj {pins : List (Addr × Obj)} {σ : St} {H : Hp} {s : Shared} {A : Around} {E : Value -> Shared -> Prop} {i : Nat} {x : Str} {pos : Pos} {Q : Unit -> Shared -> Prop} (I : Inv X pins σ H s) (hN : X.N.Nodup) (hi : X.N[i]? = some x) (hx : X.env.scope.names.lookup x = some .local) (hk : ∀ u : V, X.kn[i]? ≠ some (some u))
  (h : ∀ s', Inv X pins (σ.set i none) H s' -> Q () s') : wpAny (model X.prog X.w) A (do bindName X.env x .none; unbindBehindTheSuite X.env x pos) Q E s := by
 have nocls : (X.env.scope.kind == .class || (X.env.scope.kind == .module && X.env.locals != X.env.globals)) = false := by rw [I.ok.kind]; rfl
 have kx : X.env.kindOf x = some .local := hx;have hiσ : i < σ.length := by rw [I.len]; exact (List.getElem?_eq_some_iff.mp hi).1
 refine wpAny_bind (wpAny_bindName (zht (v := .non) I hN hi (.inl hx) rfl (fun s1 I1 => ?_) (.inr hx) hk));obtain ⟨m, hn, hl⟩ := id I1.loc;obtain ⟨u, _, lk⟩ := hl i x .non hi (List.getElem?_set_self hiσ) (.inl hx);have hu : m x = some u := by
  rcases lk with ⟨_, z⟩ | ⟨z, _⟩
  ·exact z
  ·rw [kx] at z; rcases z with z | z <;> cases z
 unfold unbindBehindTheSuite unbindName deleteName;refine wpAny_onRaise (wpAny_bind (wpAny_point (wpAny_bind ?_)));simp only [kx, nocls];rw [if_neg (by decide)];refine wpAny_bind (zpu hn hu fun h' m' hn' oth sb => ?_);simp only [Bool.not_true, Bool.false_eq_true, if_false];refine wpAny_pure (wpAny_point ?_);have I2 := I1.gone (t' := s1.toks) hN hi hk hl hn' oth sb;rw [List.set_set] at I2;exact h _ I2
theorem zt5 {D : Addr} {bmD : List Value} {i : Nat} {x n : Str} {np pos : Pos} {b₀ : Stmt} {suite : List Stmt} {rest : List ExceptHandler} {ts : TS} {tr : THd} (hg : Gl X x) (hm : X.mg x = some (.ref D)) (qD : zdc X.K D = some bmD) (hN : X.N.Nodup) (hi : X.N[i]? = some n) (hx : X.env.scope.names.lookup n = some .local) (hk : ∀ u : V, X.kn[i]? ≠ some (some u))
  (hs : ∀ ea, PSs (X.inExc ea) (b₀ :: suite) ts) (hr : PH X rest tr) (hdb : (x == ("__debug__" : Str)) = false := by decide) :
  PH X (.ExceptHandler (some (.Name x np)) (some n) (b₀ :: suite) pos :: rest) (zz0 X.K D i ts tr) := by
 intro pins s σ H En ea cls a0 dx B ok car car2 fly hd h;obtain ⟨C, bmC, rfl, qC, h⟩ := h;have I : Inv X pins σ H s := car s.heap fly.1 (.refl _);have I' := I.inExc ea;obtain ⟨oe, hoe, hoc⟩ := fly.there;refine wpAny_handleBy_cons (codeAny_handlers_test ?_) (by intro q; cases q);refine zfc (X := X.inExc ea) I' hg hm ?_ hdb;refine zje I.kIn qC qD hoe hoc ?_;cases c : (Value.ref C :: bmC).contains (.ref D) with
 | false =>
   rw [c] at h;exact hr pins s σ H En ea _ a0 dx B ok car car2 fly hd (by simpa using h)
 | true =>
   rw [c] at h;have h : H ea = none -> ts (goes i En) (σ.set i (some (.ref ea))) (upd H ea (excL ea C dx)) := by simpa using h
   refine codeAny_handlers_suite_as ?_;refine wpAny_mono (zju zie hd.1 (lands_againW (Q := fun _ s2 => ∃ h6, s2 = { s with heap := h6 } /\ Heap.FlyingW B X.stack ea (.ref C) a0 h6 /\ Heap.UpToSlots s.heap h6) fly fun h6 fly6 sm6 => ⟨h6, rfl, fly6, sm6⟩)) (fun _ s2 z => ?_) fun _ _ z => z.1;obtain ⟨⟨h6, rfl, fly6, sm6⟩, oh, go, gd⟩ := z;obtain ⟨o1, vs1, g1, g2, g3, _⟩ := fly6.first
   have go : h6.get? ea = some oh := go;rw [g1] at go; cases go;have I6 : Inv X pins σ (upd H ea (excL ea C dx)) { s with heap := h6 } := car2 h6 _ fly6.1 sm6 (zxf g1 g2 gd (by unfold PySem.W.notCls; rw [g3]));refine zht (X := X.inExc ea) (v := .ref ea) (I6.inExc ea) hN hi (.inl hx) rfl (fun s3 I3 => ?_) (.inr hx) hk;refine wpAny_mono (hs ea pins s3 _ _ (goes i En) I3 (h hd.2)) (fun f s4 q => ?_) fun _ _ z => z.elim;cases f with
   | next => obtain ⟨a, b, c, d⟩ := q; exact zgj (c.outExc ok) hN hi hx hk fun s5 I5 => ⟨_, _, I5, d⟩
   | brk => obtain ⟨a, b, c, d⟩ := q; exact zgj (c.outExc ok) hN hi hx hk fun s5 I5 => ⟨_, _, I5, d⟩
   | cont => obtain ⟨a, b, c, d⟩ := q; exact zgj (c.outExc ok) hN hi hx hk fun s5 I5 => ⟨_, _, I5, d⟩
   | ret u => obtain ⟨v, a, b, c, r, d⟩ := q; exact zgj (c.outExc ok) hN hi hx hk fun s5 I5 => ⟨v, _, _, I5, r, d⟩
variable {e : Expr} {f : Str} {pos : Pos} {ta : TE}
def tXat (K : PySem.W.Frag) (ta : TE) (f : Str) : TE := fun σ H Q => ta σ H fun x H1 => ∃ a C d fs v, x = .ref a /\ H1 a = some (excL a C (some d)) /\ XGet K C /\ PySem.W.findIn K (.ref C) f = some none /\ H1 d = some (.xd fs) /\ fs.lookup f = some v /\ Q v H1
theorem zz1 (he : PE X e ta) (hb : attributeBase e f X.env (eval e X.env) = eval e X.env) : PE X (.Attribute e f pos) (tXat X.K ta f) := by
 intro pins s σ H Q I h;refine zqs hb (thn (he pins s σ H _ I h) fun u s1 hq_ => ?_);obtain ⟨x, H1, I1, rx, a, C, d, fs, v, ex, ea, c, n, ed, l, q⟩ := hq_;subst ex;obtain rfl : u = Value.ref a := rx;obtain ⟨o, g1, g2, g3, g4⟩ := zof I1.hok ea;obtain ⟨mA, n1, r⟩ := I1.hok d _ ed;obtain ⟨u', hu, ru⟩ := RelO.some_of (v := v) (o := mA f) (by rw [<- l]; exact r f);exact xget I1.kIn c n g1 g2 g3 g4 n1 hu (zlf ru) ⟨v, H1, I1.tok _, ru, q⟩
theorem zjz : zf8 X (.builtin "isinstance") (fun xs H Q => ∃ a C dx c cu b, xs = [.ref a, c] /\ (∀ u, RelV c u -> u = cu) /\ H a = some (excL a C dx) /\ XKit X.K C /\ PySem.W.kitOne X.K (.ref C) cu = some b /\ (∀ d, dx = some d -> ∃ fs, H d = some (.xd fs)) /\ Q (.bl b) H) := by
 intro pins s σ H xs us Q I r h;obtain ⟨a, C, dx, c, cu, b, rfl, hu, ea, k, e, hdx, q⟩ := h;obtain ⟨u, w', rfl, rx, rc⟩ := zzd r;cases hu w' rc;cases (show u = Value.ref a from rx);obtain ⟨o, g1, g2, g3, g4⟩ := zof I.hok ea;have J : ∃ od, PySem.W.InstAt s.heap a o C od := by
  cases dx with
  | none => exact ⟨none, g1, g2, g4, by rw [g3]; trivial⟩
  | some d =>
    obtain ⟨fs, ed⟩ := hdx d rfl;obtain ⟨od, ho⟩ := (I.hok d _ ed).there;exact ⟨some od, g1, g2, g4, by rw [g3]; exact ho⟩
 obtain ⟨od, J⟩ := J;exact PySem.W.kia_one (zt4 k) I.kIn J e (fun z => nomatch z) fun tk => ⟨.bl b, H, I.tok tk, rfl, q⟩
end
end L2
namespace MF
open PySem L2
inductive T where
 | non | bl (b : Bool) | int (i : Int) | str (x : Str) | lst (ts : List T) | tup (ts : List T) | dic (kvs : List (Key × T)) | obj (k : Nat)
inductive Cell where
 | lst (ts : List T) | dic (kvs : List (Key × T)) | ins (C : Addr) (fs : List (Str × T)) | exc (C : Addr) (fs : Option (List (Str × T))) | lck (kvs : List (Key × T))
abbrev Sto := List Cell
structure Wd where
 HS : Hp
 μ : Nat -> Addr
 n : Nat
 Z : Addr -> Option (Obj × HO)
 P : Hp
structure Wd.le (W W' : Wd) : Prop where
 hs : ∀ a o, W.HS a = some o -> W'.HS a = some o
 z : ∀ a o, W.Z a = some o -> W'.Z a = some o
 p : ∀ a o, W.P a = some o -> W'.P a = some o
 n : W.n <= W'.n
 μ : ∀ k, k < W.n -> W'.μ k = W.μ k
theorem Wd.le.refl (W : Wd) : W.le W := ⟨fun _ _ h => h, fun _ _ h => h, fun _ _ h => h, Nat.le_refl _, fun _ _ => rfl⟩
theorem Wd.le.trans {W W1 W2 : Wd} (a : W.le W1) (b : W1.le W2) : W.le W2 :=
 ⟨fun x o h => b.hs x o (a.hs x o h), fun x o h => b.z x o (a.z x o h), fun x o h => b.p x o (a.p x o h), Nat.le_trans a.n b.n, fun k h => (b.μ k (Nat.lt_of_lt_of_le h a.n)).trans (a.μ k h)⟩
mutual
def Den (W : Wd) : T -> V -> Prop
 | .non, v => v = .non
 | .bl b, v => v = .bl b
 | .int i, v => v = .int i
 | .str x, v => v = .str x
 | .lst ts, v => ∃ a vs, v = .ref a /\ W.HS a = some (.lst vs) /\ Dens W ts vs
 | .tup ts, v => ∃ a vs, v = .ref a /\ W.HS a = some (.tup vs) /\ Dens W ts vs
 | .dic kvs, v => ∃ a ks, v = .ref a /\ W.HS a = some (.dK ks) /\ DenK W kvs ks
 | .obj k, v => v = .ref (W.μ k) /\ k < W.n
def Dens (W : Wd) : List T -> List V -> Prop
 | [], vs => vs = []
 | t :: ts, vs => ∃ v r, vs = v :: r /\ Den W t v /\ Dens W ts r
def DenK (W : Wd) : List (Key × T) -> List (Key × V) -> Prop
 | [], vs => vs = []
 | (k, t) :: ts, vs => ∃ v r, vs = (k, v) :: r /\ Den W t v /\ DenK W ts r
end
mutual
theorem Den.mono {W W' : Wd} (l : W.le W') : ∀ (t : T) (v : V), Den W t v -> Den W' t v
 | .non, _, h => by simpa [Den] using h
 | .bl _, _, h => by simpa [Den] using h
 | .int _, _, h => by simpa [Den] using h
 | .str _, _, h => by simpa [Den] using h
 | .lst ts, v, h => by
   obtain ⟨a, vs, e, h1, h2⟩ := (by simpa only [Den] using h : ∃ a vs, v = .ref a /\ W.HS a = some (.lst vs) /\ Dens W ts vs);simp only [Den]; exact ⟨a, vs, e, l.hs _ _ h1, Dens.mono l ts vs h2⟩
 | .tup ts, v, h => by
   obtain ⟨a, vs, e, h1, h2⟩ := (by simpa only [Den] using h : ∃ a vs, v = .ref a /\ W.HS a = some (.tup vs) /\ Dens W ts vs);simp only [Den]; exact ⟨a, vs, e, l.hs _ _ h1, Dens.mono l ts vs h2⟩
 | .dic ks, v, h => by
   obtain ⟨a, vs, e, h1, h2⟩ := (by simpa only [Den] using h : ∃ a vs, v = .ref a /\ W.HS a = some (.dK vs) /\ DenK W ks vs);simp only [Den]; exact ⟨a, vs, e, l.hs _ _ h1, DenK.mono l ks vs h2⟩
 | .obj k, v, h => by
   obtain ⟨e, h1⟩ := (by simpa only [Den] using h : v = .ref (W.μ k) /\ k < W.n);simp only [Den]; exact ⟨by rw [l.μ k h1]; exact e, Nat.lt_of_lt_of_le h1 l.n⟩
theorem Dens.mono {W W' : Wd} (l : W.le W') : ∀ (ts : List T) (vs : List V), Dens W ts vs -> Dens W' ts vs
 | [], vs, h => by simpa only [Dens] using h
 | t :: ts, vs, h => by
   obtain ⟨v, r, e, h1, h2⟩ := (by simpa only [Dens] using h : ∃ v r, vs = v :: r /\ Den W t v /\ Dens W ts r);simp only [Dens]; exact ⟨v, r, e, Den.mono l t v h1, Dens.mono l ts r h2⟩
theorem DenK.mono {W W' : Wd} (l : W.le W') : ∀ (ts : List (Key × T)) (vs : List (Key × V)), DenK W ts vs -> DenK W' ts vs
 | [], vs, h => by simpa only [DenK] using h
 | (k, t) :: ts, vs, h => by
   obtain ⟨v, r, e, h1, h2⟩ := (by simpa only [DenK] using h : ∃ v r, vs = (k, v) :: r /\ Den W t v /\ DenK W ts r);simp only [DenK]; exact ⟨v, r, e, Den.mono l t v h1, DenK.mono l ts r h2⟩
end
section
variable {W : Wd}
theorem zb7 {v : V} : Den W .non v ↔ v = .non := by simp only [Den]
theorem zax {b : Bool} {v : V} : Den W (.bl b) v ↔ v = .bl b := by simp only [Den]
theorem zap {i : Int} {v : V} : Den W (.int i) v ↔ v = .int i := by simp only [Den]
theorem zaz {x : Str} {v : V} : Den W (.str x) v ↔ v = .str x := by simp only [Den]
theorem zc8 {ts : List T} {v : V} : Den W (.lst ts) v ↔ ∃ a vs, v = .ref a /\ W.HS a = some (.lst vs) /\ Dens W ts vs := by simp only [Den]
theorem zde {ts : List T} {v : V} : Den W (.tup ts) v ↔ ∃ a vs, v = .ref a /\ W.HS a = some (.tup vs) /\ Dens W ts vs := by simp only [Den]
theorem zfe {ts : List (Key × T)} {v : V} : Den W (.dic ts) v ↔ ∃ a vs, v = .ref a /\ W.HS a = some (.dK vs) /\ DenK W ts vs := by simp only [Den]
theorem zbs {k : Nat} {v : V} : Den W (.obj k) v ↔ v = .ref (W.μ k) /\ k < W.n := by simp only [Den]
theorem za6 {vs : List V} : Dens W [] vs ↔ vs = [] := by simp only [Dens]
theorem zas {t : T} {ts : List T} {vs : List V} : Dens W (t :: ts) vs ↔ ∃ v r, vs = v :: r /\ Den W t v /\ Dens W ts r := by simp only [Dens]
theorem zck {vs : List (Key × V)} : DenK W [] vs ↔ vs = [] := by simp only [DenK]
theorem zbv {k : Key} {t : T} {ts : List (Key × T)} {vs : List (Key × V)} : DenK W ((k, t) :: ts) vs ↔ ∃ v r, vs = (k, v) :: r /\ Den W t v /\ DenK W ts r := by simp only [DenK]
theorem Dens.nil' : Dens W [] [] := za6.mpr rfl
theorem Dens.cons' {t : T} {ts : List T} {v : V} {vs : List V} (h : Den W t v) (r : Dens W ts vs) : Dens W (t :: ts) (v :: vs) := zas.mpr ⟨v, vs, rfl, h, r⟩
theorem Dens.length : ∀ {ts : List T} {vs : List V}, Dens W ts vs -> ts.length = vs.length
 | [], vs, h => by rw [za6.mp h]; rfl
 | t :: ts, vs, h => by
   obtain ⟨v, r, e, _, h2⟩ := zas.mp h;subst e;simp [Dens.length h2]
theorem Dens.get : ∀ {ts : List T} {vs : List V} {i : Nat} {t : T}, Dens W ts vs -> ts[i]? = some t -> ∃ v, vs[i]? = some v /\ Den W t v
 | [], _, _, _, _, e => by simp at e
 | t0 :: ts, vs, i, t, h, e => by
   obtain ⟨v, r, rfl, h1, h2⟩ := zas.mp h;cases i with
   | zero => simp at e; subst e; exact ⟨v, rfl, h1⟩
   | succ i =>
     obtain ⟨v', e1, e2⟩ := Dens.get (i := i) h2 (by simpa using e);exact ⟨v', by simpa using e1, e2⟩
theorem Dens.get' : ∀ {ts : List T} {vs : List V} {i : Nat} {v : V}, Dens W ts vs -> vs[i]? = some v -> ∃ t, ts[i]? = some t /\ Den W t v
 | [], _, _, _, h, e => by rw [za6.mp h] at e; simp at e
 | t0 :: ts, vs, i, v', h, e => by
   obtain ⟨v, r, rfl, h1, h2⟩ := zas.mp h;cases i with
   | zero => simp at e; subst e; exact ⟨t0, rfl, h1⟩
   | succ i =>
     obtain ⟨t, e1, e2⟩ := Dens.get' (i := i) h2 (by simpa using e);exact ⟨t, by simpa using e1, e2⟩
theorem Dens.append : ∀ {ts us : List T} {vs ws : List V}, Dens W ts vs -> Dens W us ws -> Dens W (ts ++ us) (vs ++ ws)
 | [], _, _, _, h, g => by rw [za6.mp h]; exact g
 | t :: ts, us, vs, ws, h, g => by
   obtain ⟨v, r, rfl, h1, h2⟩ := zas.mp h;exact Dens.cons' h1 (Dens.append h2 g)
theorem Dens.take : ∀ {ts : List T} {vs : List V} (i : Nat), Dens W ts vs -> Dens W (ts.take i) (vs.take i)
 | ts, vs, 0, _ => by simpa using Dens.nil'
 | [], _, _, h => by rw [za6.mp h]; simpa using Dens.nil'
 | t :: ts, vs, i + 1, h => by
   obtain ⟨v, r, rfl, h1, h2⟩ := zas.mp h;exact Dens.cons' h1 (Dens.take i h2)
theorem Dens.drop : ∀ {ts : List T} {vs : List V} (i : Nat), Dens W ts vs -> Dens W (ts.drop i) (vs.drop i)
 | ts, vs, 0, h => by simpa using h
 | [], _, _, h => by rw [za6.mp h]; simpa using Dens.nil'
 | t :: ts, vs, i + 1, h => by
   obtain ⟨v, r, rfl, h1, h2⟩ := zas.mp h;simpa using Dens.drop i h2
theorem Dens.eraseIdx : ∀ {ts : List T} {vs : List V} (i : Nat), Dens W ts vs -> Dens W (ts.eraseIdx i) (vs.eraseIdx i)
 | [], _, _, h => by rw [za6.mp h]; simpa using Dens.nil'
 | t :: ts, vs, i, h => by
   obtain ⟨v, r, rfl, h1, h2⟩ := zas.mp h;cases i with
   | zero => exact h2
   | succ i => exact Dens.cons' h1 (Dens.eraseIdx i h2)
theorem DenK.length : ∀ {ts : List (Key × T)} {vs : List (Key × V)}, DenK W ts vs -> ts.length = vs.length
 | [], vs, h => by rw [zck.mp h]; rfl
 | (k, t) :: ts, vs, h => by
   obtain ⟨v, r, e, _, h2⟩ := zbv.mp h;subst e;simp [DenK.length h2]
theorem DenK.nil' : DenK W [] [] := zck.mpr rfl
theorem DenK.cons' {k : Key} {t : T} {ts : List (Key × T)} {v : V} {vs : List (Key × V)} (h : Den W t v) (r : DenK W ts vs) : DenK W ((k, t) :: ts) ((k, v) :: vs) := zbv.mpr ⟨v, vs, rfl, h, r⟩
end
def DenF (W : Wd) : List (Str × T) -> List (Str × V) -> Prop
 | [], vs => vs = []
 | (k, t) :: ts, vs => ∃ v r, vs = (k, v) :: r /\ Den W t v /\ DenF W ts r
theorem DenF.mono {W W' : Wd} (l : W.le W') : ∀ {ts : List (Str × T)} {vs : List (Str × V)}, DenF W ts vs -> DenF W' ts vs
 | [], _, h => h
 | (k, t) :: ts, vs, h => by
   obtain ⟨v, r, e, h1, h2⟩ := h;exact ⟨v, r, e, Den.mono l _ _ h1, DenF.mono l h2⟩
theorem DenF.length {W : Wd} : ∀ {ts : List (Str × T)} {vs : List (Str × V)}, DenF W ts vs -> ts.length = vs.length
 | [], _, h => by rw [show _ = [] from h]; rfl
 | (k, t) :: ts, vs, h => by
   obtain ⟨v, r, rfl, h1, h2⟩ := h;simp [DenF.length h2]
def XP (W : Wd) : Option Addr -> Option (List (Str × T)) -> Prop
 | none, none => True
 | some d, some fs => ∃ ks, W.P d = some (.xd ks) /\ DenF W fs ks
 | _, _ => False
theorem XP.mono {W W' : Wd} (l : W.le W') : ∀ {dx : Option Addr} {fs : Option (List (Str × T))}, XP W dx fs -> XP W' dx fs
 | none, none, _ => trivial
 | some _, some _, ⟨ks, h1, h2⟩ => ⟨ks, l.p _ _ h1, DenF.mono l h2⟩
 | none, some _, h => h.elim
 | some _, none, h => h.elim
def zbw (W : Wd) (H : Hp) (a : Addr) : Cell -> Prop
 | .lst ts => ∃ vs, H a = some (.lst vs) /\ Dens W ts vs
 | .dic kvs => ∃ ks, H a = some (.dK ks) /\ DenK W kvs ks
 | .ins C fs => ∃ dx ks, H a = some (.ins C dx ks) /\ DenF W fs ks
 | .exc C fs => ∃ dx, H a = some (excL a C dx) /\ XP W dx fs
 | .lck kvs => ∃ o ks, H a = some (.frz o (.dK ks)) /\ DenK W kvs ks
theorem zbw.mono {W W' : Wd} (l : W.le W') {H : Hp} {a : Addr} : ∀ {c : Cell}, zbw W H a c -> zbw W' H a c
 | .lst ts, ⟨vs, h1, h2⟩ => ⟨vs, h1, Dens.mono l _ _ h2⟩
 | .dic ts, ⟨vs, h1, h2⟩ => ⟨vs, h1, DenK.mono l _ _ h2⟩
 | .ins C ts, ⟨dx, vs, h1, h2⟩ => ⟨dx, vs, h1, DenF.mono l h2⟩
 | .exc C fs, ⟨dx, h1, h2⟩ => ⟨dx, h1, h2.mono l⟩
 | .lck ts, ⟨o, vs, h1, h2⟩ => ⟨o, vs, h1, DenK.mono l _ _ h2⟩
theorem zbw.at {W : Wd} {H H' : Hp} {a : Addr} (e : H' a = H a) : ∀ {c : Cell}, zbw W H a c -> zbw W H' a c
 | .lst ts, ⟨vs, h1, h2⟩ => ⟨vs, e.trans h1, h2⟩
 | .dic ts, ⟨vs, h1, h2⟩ => ⟨vs, e.trans h1, h2⟩
 | .ins C ts, ⟨dx, vs, h1, h2⟩ => ⟨dx, vs, e.trans h1, h2⟩
 | .exc C ts, ⟨dx, h1, h2⟩ => ⟨dx, e.trans h1, h2⟩
 | .lck ts, ⟨o, vs, h1, h2⟩ => ⟨o, vs, e.trans h1, h2⟩
theorem zbw.some {W : Wd} {H : Hp} {a : Addr} : ∀ {c : Cell}, zbw W H a c -> ∃ o, H a = some o /\ ∀ y, o ≠ .own y
 | .lst ts, ⟨vs, h1, h2⟩ => ⟨_, h1, (by intro _ z; cases z)⟩
 | .dic ts, ⟨vs, h1, h2⟩ => ⟨_, h1, (by intro _ z; cases z)⟩
 | .ins C ts, ⟨dx, vs, h1, h2⟩ => ⟨_, h1, (by intro _ z; cases z)⟩
 | .exc C ts, ⟨dx, h1, h2⟩ => ⟨_, h1, (by intro _ z; cases z)⟩
 | .lck ts, ⟨o, vs, h1, h2⟩ => ⟨_, h1, (by intro _ z; cases z)⟩
def zxg : HO -> Prop
 | .frz _ _ => False
 | _ => True
def RdX (H : Hp) (a : Addr) (o : HO) : Prop := H a = some o \/ ((∃ q, H a = some (.frz q o)) /\ ∀ xs, o ≠ .tup xs)
theorem RdX.rd {H : Hp} {a : Addr} {o : HO} (h : RdX H a o) : Rd H a o := by
 rcases h with h | ⟨h, _⟩
 ·exact .inl h
 ·exact .inr h
theorem RdX.ex {H : Hp} {a : Addr} {o : HO} (h : RdX H a o) : ∃ u, H a = some u := by
 rcases h with h | ⟨⟨q, h⟩, _⟩
 ·exact ⟨_, h⟩
 ·exact ⟨_, h⟩
theorem RdX.at {H H' : Hp} {a : Addr} {o : HO} (e : H' a = H a) (h : RdX H a o) : RdX H' a o := by
 rcases h with h | ⟨⟨q, h⟩, n⟩
 ·exact .inl (e.trans h)
 ·exact .inr ⟨⟨q, e.trans h⟩, n⟩
theorem RdX.tup {H : Hp} {a : Addr} {xs : List V} (h : RdX H a (.tup xs)) : H a = some (.tup xs) := by
 rcases h with h | ⟨_, n⟩
 ·exact h
 ·exact absurd rfl (n xs)
structure Rep (W : Wd) (S : Sto) (H : Hp) : Prop where
 sub : ∀ a o, W.HS a = some o -> RdX H a o /\ zxg o
 len : S.length = W.n
 cell : ∀ k c, S[k]? = some c -> zbw W H (W.μ k) c /\ W.HS (W.μ k) = none
 inj : ∀ j k, j < W.n -> k < W.n -> W.μ j = W.μ k -> j = k
 zed : ∀ a q, W.Z a = some q -> H a = some (.frz q.1 q.2)
 prv : ∀ a o, W.P a = some o -> H a = some o /\ W.HS a = none /\ ∀ k, k < W.n -> W.μ k ≠ a
theorem Rep.lt {W : Wd} {S : Sto} {H : Hp} (r : Rep W S H) {k : Nat} {c : Cell} (h : S[k]? = some c) : k < W.n := by
 rw [<- r.len]; exact (List.getElem?_eq_some_iff.mp h).1
inductive R (α : Type) where
 | ok (a : α) (S : Sto)
 | exc (C : Addr) (fs : Option (List (Str × T))) (S : Sto)
 | bad
abbrev M (α : Type) := Sto -> R α
def M.pure {α : Type} (a : α) : M α := fun S => .ok a S
def M.bind {α β : Type} (m : M α) (f : α -> M β) : M β := fun S => match m S with
 | .ok a S' => f a S'
 | .exc C fs S' => .exc C fs S'
 | .bad => .bad
def M.bad {α : Type} : M α := fun _ => .bad
def M.raise {α : Type} (C : Addr) (fs : Option (List (Str × T))) : M α := fun S => .exc C fs S
def XOk (W : Wd) (H : Hp) : Option Addr -> Option (List (Str × T)) -> Prop
 | none, none => True
 | some d, some fs => ∃ ks, H d = some (.xd ks) /\ W.HS d = none /\ DenF W fs ks
 | _, _ => False
def Post {α : Type} (E : XK) (W : Wd) (Q : α -> Wd -> Sto -> Hp -> Prop) : R α -> Prop
 | .ok a S' => ∀ W' H', W.le W' -> Rep W' S' H' -> Q a W' S' H'
 | .exc C fs S' => ∀ W' H' dx, W.le W' -> Rep W' S' H' -> XOk W' H' dx fs -> E (.ref C) dx H'
 | .bad => False
theorem Post.imp {α : Type} {E : XK} {W : Wd} {Q Q' : α -> Wd -> Sto -> Hp -> Prop} {r : R α} (h : Post E W Q r) (f : ∀ a W' S' H', W.le W' -> Rep W' S' H' -> Q a W' S' H' -> Q' a W' S' H') : Post E W Q' r := by
 cases r with
 | ok a S => exact fun W' H' l rp => f a W' S H' l rp (h W' H' l rp)
 | exc C fs S => exact h
 | bad => exact h
theorem Post.bind {α β : Type} {E : XK} {W : Wd} {Q : β -> Wd -> Sto -> Hp -> Prop} {m : M α} {f : α -> M β} {S : Sto} (h : Post E W Q (M.bind m f S)) :
  Post E W (fun a W1 S1 _ => Post E W1 Q (f a S1)) (m S) := by
 unfold M.bind at h;cases e : m S with
 | ok a S1 =>
   rw [e] at h;have h : Post E W Q (f a S1) := h;intro W1 H1 l _;show Post E W1 Q (f a S1);cases e2 : f a S1 with
   | ok b S2 => rw [e2] at h; exact fun W2 H2 l2 rp => h W2 H2 (l.trans l2) rp
   | exc C fs S2 => rw [e2] at h; exact fun W2 H2 dx l2 rp => h W2 H2 dx (l.trans l2) rp
   | bad => rw [e2] at h; exact h
 | exc C fs S1 => rw [e] at h; exact h
 | bad => rw [e] at h; exact h
abbrev Ev := List (Option T)
def zly (W : Wd) : Option T -> Option V -> Prop
 | none, _ => True
 | some t, some v => Den W t v
 | some _, none => False
def zau (W : Wd) : Ev -> St -> Prop
 | [], σ => σ = []
 | o :: ρ, σ => ∃ s r, σ = s :: r /\ zly W o s /\ zau W ρ r
theorem zly.mono {W W' : Wd} (l : W.le W') : ∀ {o : Option T} {s : Option V}, zly W o s -> zly W' o s
 | none, _, _ => trivial
 | some t, some v, h => Den.mono l t v h
theorem zau.mono {W W' : Wd} (l : W.le W') : ∀ {ρ : Ev} {σ : St}, zau W ρ σ -> zau W' ρ σ
 | [], _, h => h
 | o :: ρ, σ, ⟨s, r, e, h1, h2⟩ => ⟨s, r, e, h1.mono l, h2.mono l⟩
theorem zau.get {W : Wd} : ∀ {ρ : Ev} {σ : St} {i : Nat} {t : T}, zau W ρ σ -> ρ[i]? = some (some t) -> ∃ v, σ[i]? = some (some v) /\ Den W t v
 | [], _, _, _, _, e => by simp at e
 | o :: ρ, σ, i, t, ⟨s, r, e0, h1, h2⟩, e => by
   subst e0;cases i with
   | zero =>
     simp at e;subst e;cases s with
     | none => exact h1.elim
     | some v => exact ⟨v, rfl, h1⟩
   | succ i =>
     obtain ⟨v, e1, e2⟩ := zau.get (i := i) h2 (by simpa using e);exact ⟨v, by simpa using e1, e2⟩
theorem zau.set {W : Wd} {t : T} {v : V} (hv : Den W t v) : ∀ {ρ : Ev} {σ : St} (i : Nat), zau W ρ σ -> zau W (ρ.set i (some t)) (σ.set i (some v))
 | [], σ, i, h => by rw [show σ = [] from h]; exact rfl
 | o :: ρ, σ, i, ⟨s, r, e0, h1, h2⟩ => by
   subst e0;cases i with
   | zero => exact ⟨_, _, rfl, hv, h2⟩
   | succ i => exact ⟨_, _, rfl, h1, zau.set hv i h2⟩
theorem zau.append {W : Wd} : ∀ {ρ ρ' : Ev} {σ σ' : St}, zau W ρ σ -> zau W ρ' σ' -> zau W (ρ ++ ρ') (σ ++ σ')
 | [], _, σ, _, h, g => by rw [show σ = [] from h]; exact g
 | o :: ρ, ρ', σ, σ', ⟨s, r, e0, h1, h2⟩, g => by
   subst e0;exact ⟨_, _, rfl, h1, zau.append h2 g⟩
theorem zau.nones {W : Wd} {σ : St} : ∀ (n : Nat), σ.length = n -> zau W (List.replicate n none) σ := by
 induction σ with
 | nil => intro n h; subst h; exact rfl
 | cons s σ ih =>
   intro n h;subst h;exact ⟨s, σ, rfl, trivial, ih _ rfl⟩
theorem zau.ofDens {W : Wd} : ∀ {ts : List T} {vs : List V}, Dens W ts vs -> zau W (ts.map some) (vs.map some)
 | [], vs, h => by rw [za6.mp h]; exact rfl
 | t :: ts, vs, h => by
   obtain ⟨v, r, rfl, h1, h2⟩ := zas.mp h;exact ⟨_, _, rfl, h1, zau.ofDens h2⟩
theorem zau.cap {W : Wd} {ρ : Ev} {σ : St} (h : zau W ρ σ) : ∀ (js : List Nat), zau W (js.map fun j => (ρ[j]?).join) (zlu σ js)
 | [] => rfl
 | j :: js => by
   refine ⟨_, _, rfl, ?_, zau.cap h js⟩;show zly W ((ρ[j]?).join) ((σ[j]?).join);cases e : ρ[j]? with
   | none => exact trivial
   | some o =>
     cases o with
     | none => exact trivial
     | some t =>
       obtain ⟨v, e1, h1⟩ := h.get e;rw [e1];exact h1
abbrev DE := Ev -> M T
abbrev DT := Ev -> M Bool
abbrev DA := Ev -> M (List T)
inductive Fl where
 | nx (ρ : Ev) | rt (t : T) | bk (ρ : Ev) | ct (ρ : Ev)
abbrev DS := Ev -> M Fl
abbrev QV (Q : VK) : T -> Wd -> Sto -> Hp -> Prop := fun t W' _ H' => ∀ v, Den W' t v -> Q v H'
def RE (E : XK) (f : DE) : TE := fun σ H Q => ∃ W S ρ, Rep W S H /\ zau W ρ σ /\ Post E W (QV Q) (f ρ S)
def RT (E : XK) (f : DT) : TT := fun σ H Q => ∃ W S ρ, Rep W S H /\ zau W ρ σ /\ Post E W (fun b _ _ H' => Q b H') (f ρ S)
def RA (E : XK) (f : DA) : TA := fun σ H Q => ∃ W S ρ, Rep W S H /\ zau W ρ σ /\ Post E W (fun ts W' _ H' => ∀ vs, Dens W' ts vs -> Q vs H') (f ρ S)
def QF (D : Ends) : Fl -> Wd -> Sto -> Hp -> Prop
 | .nx ρ', W', _, H' => ∀ σ', zau W' ρ' σ' -> D.nx σ' H'
 | .rt t, W', _, H' => ∀ v, Den W' t v -> D.rt v H'
 | .bk ρ', W', _, H' => ∀ σ', zau W' ρ' σ' -> D.bk σ' H'
 | .ct ρ', W', _, H' => ∀ σ', zau W' ρ' σ' -> D.ct σ' H'
def RS (E : XK) (f : DS) : TS := fun D σ H => ∃ W S ρ, Rep W S H /\ zau W ρ σ /\ Post E W (QF D) (f ρ S)
theorem zbp {X : Cx} {e : Expr} {t t' : TE} (h : PE X e t) (w : ∀ σ H Q, t' σ H Q -> t σ H Q) : PE X e t' := fun pins s σ H Q I q => h pins s σ H Q I (w σ H Q q)
theorem zrm {X : Cx} {e : Expr} {t t' : TT} (h : PT X e t) (w : ∀ σ H Q, t' σ H Q -> t σ H Q) : PT X e t' := fun pins s σ H Q I q => h pins s σ H Q I (w σ H Q q)
theorem zz2 {X : Cx} {e : List Expr} {t t' : TA} (h : PA X e t) (w : ∀ σ H Q, t' σ H Q -> t σ H Q) : PA X e t' := fun p pins s σ H Q I q => h p pins s σ H Q I (w σ H Q q)
theorem zg3 {X : Cx} {st : Stmt} {t t' : TS} (h : PS X st t) (w : ∀ D σ H, t' D σ H -> t D σ H) : PS X st t' := fun pins s σ H D I q => h pins s σ H D I (w D σ H q)
theorem zvo {X : Cx} {st : List Stmt} {t t' : TS} (h : PSs X st t) (w : ∀ D σ H, t' D σ H -> t D σ H) : PSs X st t' := fun pins s σ H D I q => h pins s σ H D I (w D σ H q)
end MF
namespace MF
open PySem L2
section
variable {W : Wd} {S : Sto} {H : Hp}
theorem Rep.hsNone (r : Rep W S H) {p : Addr} (h : H p = none) : W.HS p = none := by
 cases e : W.HS p with
 | none => rfl
 | some o =>
   obtain ⟨u, z⟩ := (r.sub p o e).1.ex;rw [h] at z;cases z
theorem Rep.cellAt (r : Rep W S H) {k : Nat} (h : k < W.n) : ∃ c, S[k]? = some c := by
 rw [<- r.len] at h;exact ⟨S[k], List.getElem?_eq_getElem h⟩
theorem Rep.μne (r : Rep W S H) {p : Addr} (h : H p = none) {k : Nat} (hk : k < W.n) : W.μ k ≠ p := by
 intro e;obtain ⟨c, hc⟩ := r.cellAt hk;obtain ⟨o, ho, _⟩ := (r.cell k c hc).1.some;rw [e, h] at ho;cases ho
def Wd.frz (W : Wd) (p : Addr) (o : HO) : Wd := ⟨upd W.HS p o, W.μ, W.n, W.Z, W.P⟩
theorem Wd.frz_le {p : Addr} {o : HO} (h : W.HS p = none) : W.le (W.frz p o) := ⟨fun a u e => by
 show upd W.HS p o a = some u;rw [zah (fun z => by rw [z, h] at e; cases e)]; exact e, fun _ _ e => e, fun _ _ e => e, Nat.le_refl _, fun _ _ => rfl⟩
theorem RdX.upd {p a : Addr} {o u : HO} (hp : H p = none) (h : RdX H a u) : RdX (upd H p o) a u := by
 obtain ⟨w, z⟩ := h.ex;exact h.at (zah (za5 z hp))
theorem Rep.extra (r : Rep W S H) {p : Addr} (hp : H p = none) (o : HO) : Rep W S (upd H p o) where
 sub := fun a u e => ⟨RdX.upd hp (r.sub a u e).1, (r.sub a u e).2⟩
 len := r.len
 cell := fun k c e => ⟨(r.cell k c e).1.at (zah (r.μne hp (r.lt e))), (r.cell k c e).2⟩
 inj := r.inj
 zed := fun a q e => by
  have h2 := r.zed a q e;rw [zah (za5 h2 hp)]; exact h2
 prv := fun a q e => by
  obtain ⟨h1, h2⟩ := r.prv a q e;exact ⟨by rw [zah (za5 h1 hp)]; exact h1, h2⟩
theorem Rep.frz (r : Rep W S H) {p : Addr} (hp : H p = none) (o : HO) (no : zxg o) : Rep (W.frz p o) S (upd H p o) where
 sub := fun a u e => by
  by_cases z : a = p
  ·subst z
   have e : upd W.HS a o a = some u := e;rw [zaj] at e;cases e;exact ⟨.inl zaj, no⟩
  ·have e : upd W.HS p o a = some u := e
   rw [zah z] at e;exact ⟨RdX.upd hp (r.sub a u e).1, (r.sub a u e).2⟩
 len := r.len
 cell := fun k c e => ⟨((r.cell k c e).1.at (zah (r.μne hp (r.lt e)))).mono (Wd.frz_le (r.hsNone hp)), by
  show upd W.HS p o (W.μ k) = none;rw [zah (r.μne hp (r.lt e))]; exact (r.cell k c e).2⟩
 inj := r.inj
 zed := fun a q e => by
  have h2 := r.zed a q e;rw [zah (za5 h2 hp)]; exact h2
 prv := fun a q e => by
  obtain ⟨h1, h2, h3⟩ := r.prv a q e;have ne := za5 h1 hp;exact ⟨by rw [zah ne]; exact h1, by show upd W.HS p o a = none; rw [zah ne]; exact h2, h3⟩
def Wd.add (W : Wd) (p : Addr) : Wd := ⟨W.HS, fun k => if k = W.n then p else W.μ k, W.n + 1, W.Z, W.P⟩
theorem Wd.add_le {p : Addr} : W.le (W.add p) := ⟨fun _ _ e => e, fun _ _ e => e, fun _ _ e => e, Nat.le_succ _, fun k h => by
 show (if k = W.n then p else W.μ k) = W.μ k;rw [if_neg (Nat.ne_of_lt h)]⟩
theorem Wd.add_at {p : Addr} : (W.add p).μ W.n = p := by show (if W.n = W.n then p else _) = p; rw [if_pos rfl]
theorem Wd.add_old {p : Addr} {k : Nat} (h : k < W.n) : (W.add p).μ k = W.μ k := Wd.add_le.μ k h
theorem Rep.cellNew' (r : Rep W S H) {p : Addr} {H' : Hp} (hp : H p = none) (keep : ∀ a o, H a = some o -> H' a = some o) (c : Cell) (hc : zbw (W.add p) H' p c) : Rep (W.add p) (S ++ [c]) H' where
 sub := fun a u e => by
  obtain ⟨h1, h2⟩ := r.sub a u e;obtain ⟨w, z⟩ := h1.ex;exact ⟨h1.at ((keep _ _ z).trans z.symm), h2⟩
 len := by rw [List.length_append, List.length_singleton, r.len]; rfl
 cell := fun k c' e => by
  by_cases z : k < S.length
  ·rw [List.getElem?_append_left z] at e
   have hk : k < W.n := r.len ▸ z;rw [Wd.add_old hk];obtain ⟨h1, h2⟩ := r.cell k c' e;obtain ⟨o, ho, _⟩ := h1.some;exact ⟨(h1.at ((keep _ _ ho).trans ho.symm)).mono Wd.add_le, h2⟩
  ·have hk : k = W.n := by
    have := (List.getElem?_eq_some_iff.mp e).1;rw [List.length_append, List.length_singleton] at this;have l := r.len;omega
   subst hk;rw [<- r.len, List.getElem?_append_right (Nat.le_refl _), Nat.sub_self] at e;have e : c = c' := by simpa using e
   subst e;rw [Wd.add_at];exact ⟨hc, r.hsNone hp⟩
 inj := fun j k hj hk e => by
  have hj : j < W.n + 1 := hj;have hk : k < W.n + 1 := hk;by_cases z : j < W.n
  ·by_cases y : k < W.n
   ·rw [Wd.add_old z, Wd.add_old y] at e; exact r.inj j k z y e
   ·have : k = W.n := by omega
    subst this;rw [Wd.add_old z, Wd.add_at] at e;exact absurd e (r.μne hp z)
  ·have : j = W.n := by omega
   subst this;by_cases y : k < W.n
   ·rw [Wd.add_old y, Wd.add_at] at e
    exact absurd e.symm (r.μne hp y)
   ·omega
 zed := fun a q e => by
  exact keep _ _ (r.zed a q e)
 prv := fun a q e => by
  obtain ⟨h1, h2, h3⟩ := r.prv a q e;refine ⟨keep _ _ h1, h2, fun k hk z => ?_⟩;have hk : k < W.n + 1 := hk;by_cases y : k < W.n
  ·rw [Wd.add_old y] at z; exact h3 k y z
  ·have : k = W.n := by omega
   subst this;rw [Wd.add_at] at z;rw [z, h1] at hp;cases hp
theorem Rep.cellNew (r : Rep W S H) {p : Addr} (hp : H p = none) (c : Cell) (o : HO) (hc : zbw (W.add p) (upd H p o) p c) : Rep (W.add p) (S ++ [c]) (upd H p o) :=
 r.cellNew' hp (fun a u e => by rw [zah (za5 e hp)]; exact e) c hc
theorem Rep.noZ (r : Rep W S H) {k : Nat} {c : Cell} (h : S[k]? = some c) (nl : ∀ kvs, c ≠ .lck kvs) : W.Z (W.μ k) = none := by
 cases e : W.Z (W.μ k) with
 | none => rfl
 | some q =>
   have z := r.zed _ _ e;have y := (r.cell k c h).1;cases c with
   | lst ts => obtain ⟨_, h1, _⟩ := y; rw [z] at h1; cases h1
   | dic ts => obtain ⟨_, h1, _⟩ := y; rw [z] at h1; cases h1
   | ins _ ts => obtain ⟨_, _, h1, _⟩ := y; rw [z] at h1; cases h1
   | exc _ ts => obtain ⟨_, h1, _⟩ := y; rw [z] at h1; cases h1
   | lck ts => exact absurd rfl (nl ts)
theorem Rep.cellSet (r : Rep W S H) {k : Nat} {c : Cell} (h : S[k]? = some c) (c' : Cell) (o : HO) (hc : zbw W (upd H (W.μ k) o) (W.μ k) c') (nz : W.Z (W.μ k) = none := by
  exact Rep.noZ (by assumption) (by assumption) (by intro _ z; cases z)) : Rep W (S.set k c') (upd H (W.μ k) o) where
 sub := fun a u e => by
  have ne : a ≠ W.μ k := fun z => by rw [z, (r.cell k c h).2] at e; cases e
  exact ⟨(r.sub a u e).1.at (zah ne), (r.sub a u e).2⟩
 len := by rw [List.length_set]; exact r.len
 cell := fun j c2 e => by
  by_cases z : j = k
  ·subst z
   have hj := r.lt h;rw [List.getElem?_set_self (by rw [r.len]; exact hj)] at e;cases e;exact ⟨hc, (r.cell j c h).2⟩
  ·rw [List.getElem?_set_ne (Ne.symm z)] at e
   have hj := r.lt e;exact ⟨(r.cell j c2 e).1.at (zah fun y => z (r.inj j k hj (r.lt h) y)), (r.cell j c2 e).2⟩
 inj := r.inj
 zed := fun a q e => by
  rw [zah fun z => by rw [z, nz] at e; cases e]; exact r.zed a q e
 prv := fun a q e => by
  obtain ⟨h1, h2, h3⟩ := r.prv a q e;exact ⟨by rw [zah (Ne.symm (h3 k (r.lt h)))]; exact h1, h2, h3⟩
def Wd.priv (W : Wd) (p : Addr) (o : HO) : Wd := ⟨W.HS, W.μ, W.n, W.Z, upd W.P p o⟩
theorem Wd.priv_le {p : Addr} {o : HO} (h : W.P p = none) : W.le (W.priv p o) := ⟨fun _ _ e => e, fun _ _ e => e, fun a u e => by
 show upd W.P p o a = some u;rw [zah (fun z => by rw [z, h] at e; cases e)]; exact e, Nat.le_refl _, fun _ _ => rfl⟩
theorem Rep.prvNone (r : Rep W S H) {p : Addr} (h : H p = none) : W.P p = none := by
 cases e : W.P p with
 | none => rfl
 | some o => rw [(r.prv p o e).1] at h; cases h
theorem Rep.samePriv {W' : Wd} {H' : Hp} (r : Rep W S H) (hs : W'.HS = W.HS) (hμ : W'.μ = W.μ) (hn : W'.n = W.n) (hz : W'.Z = W.Z) (c : ∀ {k : Nat} {c : Cell}, S[k]? = some c -> zbw W H (W.μ k) c -> zbw W' H' (W.μ k) c)
  (sub : ∀ a o, W.HS a = some o -> RdX H a o -> RdX H' a o) (z : ∀ a o u, W.Z a = some (o, u) -> H a = some (.frz o u) -> H' a = some (.frz o u))
  (prv : ∀ a o, W'.P a = some o -> H' a = some o /\ W.HS a = none /\ ∀ k, k < W.n -> W.μ k ≠ a) : Rep W' S H' where
 sub := fun a o e => by rw [hs] at e; exact ⟨sub a o e (r.sub a o e).1, (r.sub a o e).2⟩
 len := by rw [hn]; exact r.len
 cell := fun k c' e => by rw [hs, hμ]; exact ⟨c e (r.cell k c' e).1, (r.cell k c' e).2⟩
 inj := by rw [hn, hμ]; exact r.inj
 zed := fun a o e => by
  rw [hz] at e;exact z a o.1 o.2 e (r.zed a o e)
 prv := fun a o e => by rw [hs, hn, hμ]; exact prv a o e
mutual
theorem Den.hs {W W' : Wd} (hs : W'.HS = W.HS) (hμ : W'.μ = W.μ) (hn : W'.n = W.n) : ∀ (t : T) (v : V), Den W t v -> Den W' t v
 | .non, _, h => zb7.mpr (zb7.mp h)
 | .bl _, _, h => zax.mpr (zax.mp h)
 | .int _, _, h => zap.mpr (zap.mp h)
 | .str _, _, h => zaz.mpr (zaz.mp h)
 | .lst ts, v, h => by obtain ⟨a, vs, e, h1, h2⟩ := zc8.mp h; exact zc8.mpr ⟨a, vs, e, by rw [hs]; exact h1, Dens.hs hs hμ hn ts vs h2⟩
 | .tup ts, v, h => by obtain ⟨a, vs, e, h1, h2⟩ := zde.mp h; exact zde.mpr ⟨a, vs, e, by rw [hs]; exact h1, Dens.hs hs hμ hn ts vs h2⟩
 | .dic ts, v, h => by obtain ⟨a, vs, e, h1, h2⟩ := zfe.mp h; exact zfe.mpr ⟨a, vs, e, by rw [hs]; exact h1, DenK.hs hs hμ hn ts vs h2⟩
 | .obj k, v, h => by obtain ⟨e, h1⟩ := zbs.mp h; exact zbs.mpr ⟨by rw [hμ]; exact e, by rw [hn]; exact h1⟩
theorem Dens.hs {W W' : Wd} (hs : W'.HS = W.HS) (hμ : W'.μ = W.μ) (hn : W'.n = W.n) : ∀ (ts : List T) (vs : List V), Dens W ts vs -> Dens W' ts vs
 | [], vs, h => za6.mpr (za6.mp h)
 | t :: ts, vs, h => by obtain ⟨v, r, e, h1, h2⟩ := zas.mp h; exact zas.mpr ⟨v, r, e, Den.hs hs hμ hn t v h1, Dens.hs hs hμ hn ts r h2⟩
theorem DenK.hs {W W' : Wd} (hs : W'.HS = W.HS) (hμ : W'.μ = W.μ) (hn : W'.n = W.n) : ∀ (ts : List (Key × T)) (vs : List (Key × V)), DenK W ts vs -> DenK W' ts vs
 | [], vs, h => zck.mpr (zck.mp h)
 | (k, t) :: ts, vs, h => by obtain ⟨v, r, e, h1, h2⟩ := zbv.mp h; exact zbv.mpr ⟨v, r, e, Den.hs hs hμ hn t v h1, DenK.hs hs hμ hn ts r h2⟩
end
theorem DenF.hs {W W' : Wd} (hs : W'.HS = W.HS) (hμ : W'.μ = W.μ) (hn : W'.n = W.n) : ∀ {ts : List (Str × T)} {vs : List (Str × V)}, DenF W ts vs -> DenF W' ts vs
 | [], _, h => h
 | (k, t) :: ts, vs, ⟨v, r, e, h1, h2⟩ => ⟨v, r, e, Den.hs hs hμ hn t v h1, DenF.hs hs hμ hn h2⟩
theorem zbw.hs {W W' : Wd} (hs : W'.HS = W.HS) (hμ : W'.μ = W.μ) (hn : W'.n = W.n) (hp : ∀ d ks, W.P d = Option.some (.xd ks) -> W'.P d = Option.some (.xd ks)) {a : Addr} : ∀ {c : Cell}, zbw W H a c -> zbw W' H a c
 | .lst ts, ⟨vs, h1, h2⟩ => ⟨vs, h1, Dens.hs hs hμ hn _ _ h2⟩
 | .dic ts, ⟨vs, h1, h2⟩ => ⟨vs, h1, DenK.hs hs hμ hn _ _ h2⟩
 | .ins C ts, ⟨dx, vs, h1, h2⟩ => ⟨dx, vs, h1, DenF.hs hs hμ hn h2⟩
 | .lck ts, ⟨o, vs, h1, h2⟩ => ⟨o, vs, h1, DenK.hs hs hμ hn _ _ h2⟩
 | .exc C none, ⟨none, h1, h2⟩ => ⟨none, h1, trivial⟩
 | .exc C (Option.some fs), ⟨Option.some d, h1, ⟨ks, h2, h3⟩⟩ => ⟨Option.some d, h1, ks, hp d ks h2, DenF.hs hs hμ hn h3⟩
 | .exc C none, ⟨Option.some _, _, h2⟩ => h2.elim
 | .exc C (Option.some _), ⟨none, _, h2⟩ => h2.elim
theorem Rep.privNew (r : Rep W S H) {p : Addr} (hp : H p = none) (o : HO) : Rep (W.priv p o) S (upd H p o) :=
 r.samePriv rfl rfl rfl rfl (fun e c => zbw.hs (W := W) (W' := W.priv p o) rfl rfl rfl (fun d ks z => by
  show upd W.P p o d = _;rw [zah (fun q => by have y := (r.prv d _ z).1; rw [q, hp] at y; cases y)]; exact z) (zbw.at (zah (r.μne hp (r.lt e))) c)) (fun a u _ h => RdX.upd hp h) (fun a q u _ h => by rw [zah (za5 h hp)]; exact h) fun a u e => by
  have e : upd W.P p o a = some u := e;by_cases z : a = p
  ·subst z
   rw [zaj] at e;cases e;exact ⟨zaj, r.hsNone hp, fun k hk => r.μne hp hk⟩
  ·rw [zah z] at e ⊢
   exact r.prv a u e
theorem Rep.privSet (r : Rep W S H) {p : Addr} {o : HO} (hp : W.P p = some o) (nx : ∀ ks, o ≠ .xd ks) (nfz : ∀ q u, o ≠ .frz q u) (o' : HO) : Rep (W.priv p o') S (upd H p o') := by
 obtain ⟨h1, h2, h3⟩ := r.prv p o hp;have ne : ∀ a u, W.HS a = some u -> a ≠ p := fun a u e z => by rw [z, h2] at e; cases e
 refine r.samePriv rfl rfl rfl rfl (fun e c => zbw.hs (W := W) (W' := W.priv p o') rfl rfl rfl (fun d ks z => by
  show upd W.P p o' d = _;rw [zah (fun q => by rw [q, hp] at z; cases z; exact nx _ rfl)]; exact z) (zbw.at (zah (h3 _ (r.lt e))) c)) (fun a u e h => h.at (zah (ne a u e))) (fun a q u e h => by rw [zah (fun z => by rw [z, h1] at h; cases h; exact nfz _ _ rfl)]; exact h) fun a u e => ?_
 have e : upd W.P p o' a = some u := e;by_cases z : a = p
 ·subst z
  rw [zaj] at e;cases e;exact ⟨zaj, h2, h3⟩
 ·rw [zah z] at e ⊢
  exact r.prv a u e
def Wd.unp (W : Wd) (p : Addr) : Wd := ⟨W.HS, W.μ, W.n, W.Z, fun a => if a = p then none else W.P a⟩
theorem Rep.unp (r : Rep W S H) (p : Addr) (nx : ∀ ks, W.P p ≠ some (.xd ks)) : Rep (W.unp p) S H :=
 r.samePriv rfl rfl rfl rfl (fun e c => zbw.hs (W := W) (W' := W.unp p) rfl rfl rfl (fun d ks z => by
  show (if d = p then none else W.P d) = _;rw [if_neg (fun q => by rw [q] at z; exact nx _ z)]; exact z) c) (fun a u _ h => h) (fun a q u _ h => h) fun a u e => by
  have e : (if a = p then none else W.P a) = some u := e;by_cases z : a = p
  ·rw [if_pos z] at e; cases e
  ·rw [if_neg z] at e; exact r.prv a u e
theorem Rep.privFrz (r : Rep W S H) {p : Addr} {o : HO} (hp : W.P p = some o) (no : zxg o) (nx : ∀ ks, o ≠ .xd ks) : Rep ((W.unp p).frz p o) S H := by
 obtain ⟨h1, h2, h3⟩ := r.prv p o hp;have r' := r.unp p (fun ks z => by rw [hp] at z; cases z; exact nx _ rfl);have l : (W.unp p).le ((W.unp p).frz p o) := Wd.frz_le h2;refine ⟨fun a u e => ?_, r.len, fun k c e => ⟨(r'.cell k c e).1.mono l, ?_⟩, r.inj, fun a q e => ?_, fun a u e => ?_⟩
 ·have e : upd W.HS p o a = some u := e
  by_cases z : a = p
  ·subst z
   rw [zaj] at e;cases e;exact ⟨.inl h1, no⟩
  ·rw [zah z] at e; exact r.sub a u e
 ·show upd W.HS p o (W.μ k) = none
  rw [zah (h3 k (r.lt e))]; exact (r.cell k c e).2
 ·exact r'.zed a q e
 ·obtain ⟨g1, g2, g3⟩ := r'.prv a u e
  refine ⟨g1, ?_, g3⟩;show upd W.HS p o a = none;by_cases z : a = p
  ·have e : (if a = p then none else W.P a) = some u := e
   rw [if_pos z] at e; cases e
  ·rw [zah z]; exact g2
end
def zav (S : Sto) : T -> Option (List T)
 | .lst ts => some ts
 | .obj k => match S[k]? with
   | some (.lst ts) => some ts
   | _ => none
 | _ => none
def zcw (S : Sto) : T -> Option (List T)
 | .tup ts => some ts
 | t => zav S t
def zdv (S : Sto) : T -> Option (List (Key × T))
 | .dic ts => some ts
 | .obj k => match S[k]? with
   | some (.dic ts) => some ts
   | _ => none
 | _ => none
section
variable {W : Wd} {S : Sto} {H : Hp}
theorem zlz {k : Nat} {ts : List T} (h : zav S (.obj k) = some ts) : S[k]? = some (.lst ts) := by
 unfold zav at h;cases e : S[k]? with
 | none => simp [e] at h
 | some c => cases c <;> simp [e] at h; subst h; rfl
theorem zrn {k : Nat} {ts : List (Key × T)} (h : zdv S (.obj k) = some ts) : S[k]? = some (.dic ts) := by
 unfold zdv at h;cases e : S[k]? with
 | none => simp [e] at h
 | some c => cases c <;> simp [e] at h; subst h; rfl
theorem Rep.list (r : Rep W S H) {t : T} {v : V} {ts : List T} (d : Den W t v) (h : zav S t = some ts) : ∃ a vs, v = .ref a /\ Rd H a (.lst vs) /\ Dens W ts vs := by
 cases t with
 | lst xs =>
   have e : xs = ts := by simpa [zav] using h
   subst e;obtain ⟨a, vs, rfl, h1, h2⟩ := zc8.mp d;exact ⟨a, vs, rfl, (r.sub a _ h1).1.rd, h2⟩
 | obj k =>
   obtain ⟨rfl, hk⟩ := zbs.mp d;obtain ⟨⟨vs, h1, h2⟩, _⟩ := r.cell k _ (zlz h);exact ⟨_, vs, rfl, .inl h1, h2⟩
 | _ => simp [zav] at h
theorem Rep.seq (r : Rep W S H) {t : T} {v : V} {ts : List T} (d : Den W t v) (h : zcw S t = some ts) : ∃ a vs, v = .ref a /\ (Rd H a (.lst vs) \/ Rd H a (.tup vs)) /\ Dens W ts vs := by
 cases t with
 | tup xs =>
   have e : xs = ts := by simpa [zcw] using h
   subst e;obtain ⟨a, vs, rfl, h1, h2⟩ := zde.mp d;exact ⟨a, vs, rfl, .inr (r.sub a _ h1).1.rd, h2⟩
 | lst xs => obtain ⟨a, vs, e, h1, h2⟩ := r.list d (by simpa [zcw] using h); exact ⟨a, vs, e, .inl h1, h2⟩
 | obj k => obtain ⟨a, vs, e, h1, h2⟩ := r.list d (by simpa [zcw] using h); exact ⟨a, vs, e, .inl h1, h2⟩
 | _ => simp [zcw, zav] at h
theorem Rep.dict (r : Rep W S H) {t : T} {v : V} {ts : List (Key × T)} (d : Den W t v) (h : zdv S t = some ts) : ∃ a vs, v = .ref a /\ Rd H a (.dK vs) /\ DenK W ts vs := by
 cases t with
 | dic xs =>
   have e : xs = ts := by simpa [zdv] using h
   subst e;obtain ⟨a, vs, rfl, h1, h2⟩ := zfe.mp d;exact ⟨a, vs, rfl, (r.sub a _ h1).1.rd, h2⟩
 | obj k =>
   obtain ⟨rfl, hk⟩ := zbs.mp d;obtain ⟨⟨vs, h1, h2⟩, _⟩ := r.cell k _ (zrn h);exact ⟨_, vs, rfl, .inl h1, h2⟩
 | _ => simp [zdv] at h
end
def eVar (i : Nat) : DE := fun ρ => match ρ[i]? with
 | some (some t) => M.pure t
 | _ => M.bad
def eC (t : T) : DE := fun _ => M.pure t
def e2 (g : T -> T -> M T) (fa fb : DE) : DE := fun ρ => (fa ρ).bind fun x => (fb ρ).bind fun y => g x y
def e1 (g : T -> M T) (fa : DE) : DE := fun ρ => (fa ρ).bind g
def aNil : DA := fun _ => M.pure []
def zab (fa : DE) (r : DA) : DA := fun ρ => (fa ρ).bind fun t => (r ρ).bind fun ts => M.pure (t :: ts)
section
variable {X : Cx} {E : XK} {a b e : Expr} {es : List Expr} {fa fb : DE} {fr : DA} {pos : Pos}
theorem zz3 {i : Nat} {σ : St} {H : Hp} {Q : VK} (h : RE E (eVar i) σ H Q) : tVar i σ H Q := by
 obtain ⟨W, S, ρ, r, env, p⟩ := h;unfold eVar at p;cases e : ρ[i]? with
 | none => rw [e] at p; exact p.elim
 | some o =>
   cases o with
   | none => rw [e] at p; exact p.elim
   | some t =>
     rw [e] at p;obtain ⟨v, e1, d⟩ := env.get e;exact ⟨v, e1, p W H (Wd.le.refl W) r v d⟩
theorem ev (i : Nat) {x : Str} (hN : X.N[i]? = some x := by rfl) (hv : Vis X.env.scope x := by first | exact Or.inl rfl | exact Or.inr (Or.inl rfl) | exact Or.inr (Or.inr rfl)) (hd : (x == ("__debug__" : Str)) = false := by decide)
 (hcd : (x == ("__classdict__" : Str)) = false := by decide) : PE X (.Name x pos) (RE E (eVar i)) := zbp (pv i hN hv hd hcd) fun _ _ _ => zz3
theorem re_c {t : T} {v : V} (hd : ∀ W, Den W t v) {σ : St} {H : Hp} {Q : VK} (h : RE E (eC t) σ H Q) : Q v H := by
 obtain ⟨W, S, ρ, r, env, p⟩ := h;exact p W H (Wd.le.refl W) r v (hd W)
theorem zag {i j} : PE X (.Constant (.int i) j pos) (RE E (eC (.int i))) := zbp zyr fun _ _ _ => re_c fun W => zap.mpr rfl
theorem zl0 {i j} : PE X (.Constant (.bool i) j pos) (RE E (eC (.bl i))) := zbp z1y fun _ _ _ => re_c fun W => zax.mpr rfl
theorem za8 {i j} : PE X (.Constant (.str i) j pos) (RE E (eC (.str i))) := zbp zvd fun _ _ _ => re_c fun W => zaz.mpr rfl
theorem zij {j} : PE X (.Constant .none j pos) (RE E (eC .non)) := zbp zys fun _ _ _ => re_c fun W => zb7.mpr rfl
def G2 (E : XK) (r : R2) (g : T -> T -> M T) : Prop := ∀ (tx ty : T) (W : Wd) (S : Sto) (H : Hp) (x y : V) (Q : VK), Rep W S H -> Den W tx x -> Den W ty y -> Post E W (QV Q) (g tx ty S) -> r x y H Q
theorem re2 {r : R2} {g : T -> T -> M T} (hg : G2 E r g) {σ : St} {H : Hp} {Q : VK} (h : RE E (e2 g fa fb) σ H Q) : tOp r (RE E fa) (RE E fb) σ H Q := by
 obtain ⟨W, S, ρ, rp, env, p⟩ := h;refine ⟨W, S, ρ, rp, env, (Post.bind p).imp fun tx W1 S1 H1 l1 r1 p1 x dx => ?_⟩;refine ⟨W1, S1, ρ, r1, env.mono l1, (Post.bind p1).imp fun ty W2 S2 H2 l2 r2 p2 y dy => ?_⟩;exact hg tx ty W2 S2 H2 x y Q r2 (Den.mono l2 _ _ dx) dy p2
def G1 (E : XK) (r : V -> Hp -> VK -> Prop) (g : T -> M T) : Prop := ∀ (tx : T) (W : Wd) (S : Sto) (H : Hp) (x : V) (Q : VK), Rep W S H -> Den W tx x -> Post E W (QV Q) (g tx S) -> r x H Q
theorem re1 {r : V -> Hp -> VK -> Prop} {g : T -> M T} (hg : G1 E r g) {σ : St} {H : Hp} {Q : VK} (h : RE E (e1 g fa) σ H Q) : RE E fa σ H (fun x H1 => r x H1 Q) := by
 obtain ⟨W, S, ρ, rp, env, p⟩ := h;exact ⟨W, S, ρ, rp, env, (Post.bind p).imp fun tx W1 S1 H1 l1 r1 p1 x dx => hg tx W1 S1 H1 x Q r1 dx p1⟩
theorem zaf : PA X [] (RA E aNil) := zz2 zhe fun σ H Q h => by
 obtain ⟨W, S, ρ, r, env, p⟩ := h;exact p W H (Wd.le.refl W) r [] Dens.nil'
theorem zaa (ha : PE X e (RE E fa)) (hr : PA X es (RA E fr)) (hs : starEach (e :: es) X.env = (false, eval e X.env) :: starEach es X.env := by rfl) : PA X (e :: es) (RA E (zab fa fr)) :=
 zz2 (zds ha hr hs) fun σ H Q h => by
  obtain ⟨W, S, ρ, rp, env, p⟩ := h;refine ⟨W, S, ρ, rp, env, (Post.bind p).imp fun tx W1 S1 H1 l1 r1 p1 x dx => ?_⟩;refine ⟨W1, S1, ρ, r1, env.mono l1, (Post.bind p1).imp fun ts W2 S2 H2 l2 r2 p2 vs dvs => ?_⟩;exact p2 W2 H2 (Wd.le.refl _) r2 _ (Dens.cons' (Den.mono l2 _ _ dx) dvs)
end
def gI (f : Int -> Int -> Option T) (x y : T) : M T := fun S => match x, y with
 | .int i, .int j => (match f i j with
   | some t => .ok t S
   | none => .bad)
 | _, _ => .bad
theorem zz4 {E : XK} {W : Wd} {S : Sto} {f : Int -> Int -> Option T} {tx ty : T} {Q : T -> Wd -> Sto -> Hp -> Prop} (p : Post E W Q (gI f tx ty S)) : ∃ i j t, tx = .int i /\ ty = .int j /\ f i j = some t /\ Post E W Q (.ok t S) := by
 unfold gI at p;cases tx with
 | int i =>
   cases ty with
   | int j =>
     cases e : f i j with
     | none => simp only [e] at p; exact p.elim
     | some t => simp only [e] at p; exact ⟨i, j, t, rfl, rfl, e, p⟩
   | _ => exact p.elim
 | _ => exact p.elim
def fSub (i j : Int) : Option T := some (.int (i - j))
def fMul (i j : Int) : Option T := if (-(2 ^ 64) < i /\ i < 2 ^ 64) \/ (-(2 ^ 64) < j /\ j < 2 ^ 64) then some (.int (i * j)) else none
def fDiv (i j : Int) : Option T := if 0 < j /\ j < 1073741824 then some (.int (i / j)) else none
def fMod (i j : Int) : Option T := if 0 < j then some (.int (i % j)) else none
def fPow (i j : Int) : Option T := if 0 <= j /\ j <= 1000 /\ i.natAbs < 2 ^ 64 then some (.int (i ^ j.toNat)) else none
def fLt (i j : Int) : Option T := some (.bl (decide (i < j)))
def fGt (i j : Int) : Option T := some (.bl (decide (j < i)))
def fGe (i j : Int) : Option T := some (.bl (decide (j <= i)))
section
variable {X : Cx} {E : XK} {a b e : Expr} {fa fb : DE} {pos : Pos}
theorem now {E : XK} {W : Wd} {S : Sto} {H : Hp} {t : T} {v : V} {Q : VK} (p : Post E W (QV Q) (.ok t S)) (r : Rep W S H) (d : Den W t v) : Q v H := p W H (Wd.le.refl W) r v d
theorem zt6 {f : Int -> Int -> V} {g : Int -> Int -> Option T} (h : ∀ i j t, g i j = some t -> ∀ W, Den W t (f i j)) : G2 E (rI0 f) (gI g) := by
 intro tx ty W S H x y Q r dx dy p;obtain ⟨i, j, t, rfl, rfl, e, p⟩ := zz4 p;exact ⟨i, j, zap.mp dx, zap.mp dy, now p r (h i j t e W)⟩
theorem g2_I {C : Int -> Int -> Prop} {f : Int -> Int -> V} {g : Int -> Int -> Option T} (h : ∀ i j t, g i j = some t -> C i j /\ ∀ W, Den W t (f i j)) : G2 E (rI C f) (gI g) := by
 intro tx ty W S H x y Q r dx dy p;obtain ⟨i, j, t, rfl, rfl, e, p⟩ := zz4 p;exact ⟨i, j, zap.mp dx, zap.mp dy, (h i j t e).1, now p r ((h i j t e).2 W)⟩
theorem zz5 (ha : PE X a (RE E fa)) (hb : PE X b (RE E fb)) : PE X (.BinOp a .Sub b pos) (RE E (e2 (gI fSub) fa fb)) := zbp (zpe zy6 ha hb) fun _ _ _ => re2 (zt6 fun i j t e W => by cases e; exact zap.mpr rfl)
theorem zt7 (ha : PE X a (RE E fa)) (hb : PE X b (RE E fb)) : PE X (.BinOp a .Mult b pos) (RE E (e2 (gI fMul) fa fb)) := zbp (zpe zy7 ha hb) fun _ _ _ => re2 (g2_I fun i j t e => by
 unfold fMul at e; split at e
 ·rename_i h; cases e; exact ⟨h, fun W => zap.mpr rfl⟩
 ·cases e)
theorem zjg (ha : PE X a (RE E fa)) (hb : PE X b (RE E fb)) : PE X (.BinOp a .FloorDiv b pos) (RE E (e2 (gI fDiv) fa fb)) := zbp (zpe zwl ha hb) fun _ _ _ => re2 (g2_I fun i j t e => by
 unfold fDiv at e; split at e
 ·rename_i h; cases e; exact ⟨h, fun W => zap.mpr rfl⟩
 ·cases e)
theorem zek (ha : PE X a (RE E fa)) (hb : PE X b (RE E fb)) : PE X (.BinOp a .Mod b pos) (RE E (e2 (gI fMod) fa fb)) := zbp (zpe zy8 ha hb) fun _ _ _ => re2 (g2_I fun i j t e => by
 unfold fMod at e; split at e
 ·rename_i h; cases e; exact ⟨h, fun W => zap.mpr rfl⟩
 ·cases e)
theorem zz6 (ha : PE X a (RE E fa)) (hb : PE X b (RE E fb)) : PE X (.BinOp a .Pow b pos) (RE E (e2 (gI fPow) fa fb)) := zbp (zpe zy9 ha hb) fun _ _ _ => re2 (g2_I fun i j t e => by
 unfold fPow at e; split at e
 ·rename_i h; cases e; exact ⟨⟨h.1, Int.le_trans h.2.1 (by decide), h.2.2⟩, fun W => zap.mpr rfl⟩
 ·cases e)
def gAdd (x y : T) : M T := fun S => match x, y with
 | .int i, .int j => .ok (.int (i + j)) S
 | .str i, .str j => if i.length + j.length <= 1000 then .ok (.str (i ++ j)) S else .bad
 | _, _ => match zav S x, zav S y with
   | some xs, some ys => if xs.length + ys.length <= 1000 then .ok (.lst (xs ++ ys)) S else .bad
   | _, _ => .bad
theorem zxh : OpR X (binaryOp .Add) (fun x y H Q => ∃ l b xs zs, x = .ref l /\ y = .ref b /\ Rd H l (.lst xs) /\ Rd H b (.lst zs) /\ xs.length + zs.length <= sizeLine /\ ∀ p, H p = none -> Q (.ref p) (upd H p (.lst (xs ++ zs)))) := by
 intro pins s σ H x y v u Q I rx ry h;obtain ⟨l, b, xs, zs, rfl, rfl, hH, hB, hz, q⟩ := h;cases rx;cases ry;obtain ⟨z, its, n, r, e⟩ := hH.ok I.hok;obtain ⟨z2, its2, n2, r2, e2⟩ := hB.ok I.hok;have hl := r.length;have hl2 := r2.length;refine PySem.P.add_list e e2 ?_ (by rw [List.size_toArray, List.size_toArray]; omega);have ea : its.toArray ++ its2.toArray = (its ++ its2).toArray := by simp
 rw [ea];exact ⟨.ref _, _, I.lnew (t' := s.toks) (r.append r2) (by rw [List.length_append]; omega), rfl, q _ I.fresh⟩
theorem big {n : Nat} (h : n <= 1000) : n <= sizeLine := Nat.le_of_lt (zlr h)
theorem zl1 {E : XK} {W : Wd} {S : Sto} {H : Hp} {Q : VK} {ts : List T} {vs : List V} (p : Post E W (QV Q) (.ok (.lst ts) S)) (r : Rep W S H) (d : Dens W ts vs) : ∀ a, H a = none -> Q (.ref a) (upd H a (.lst vs)) := fun a ha => by
 have l : W.le (W.frz a (.lst vs)) := Wd.frz_le (r.hsNone ha);exact p (W.frz a (.lst vs)) _ l (r.frz ha _ trivial) _ (zc8.mpr ⟨a, vs, rfl, zaj, Dens.mono l _ _ d⟩)
theorem znc {E : XK} {W : Wd} {S : Sto} {H : Hp} {Q : VK} {ts : List T} {vs : List V} (p : Post E W (QV Q) (.ok (.tup ts) S)) (r : Rep W S H) (d : Dens W ts vs) : ∀ a, H a = none -> Q (.ref a) (upd H a (.tup vs)) := fun a ha => by
 have l : W.le (W.frz a (.tup vs)) := Wd.frz_le (r.hsNone ha);exact p (W.frz a (.tup vs)) _ l (r.frz ha _ trivial) _ (zde.mpr ⟨a, vs, rfl, zaj, Dens.mono l _ _ d⟩)
theorem zt8 {E : XK} {W : Wd} {S : Sto} {H : Hp} {Q : VK} {ts : List T} {vs : List V} (p : Post E W (QV Q) (.ok (.obj S.length) (S ++ [.lst ts]))) (r : Rep W S H) (d : Dens W ts vs) : ∀ a, H a = none -> Q (.ref a) (upd H a (.lst vs)) := fun a ha => by
 refine p (W.add a) _ Wd.add_le (r.cellNew ha (.lst ts) _ ⟨vs, zaj, Dens.mono Wd.add_le _ _ d⟩) _ (zbs.mpr ⟨?_, ?_⟩)
 ·rw [r.len, Wd.add_at]
 ·rw [r.len]; exact Nat.lt_succ_self _
theorem zz7 : G2 E (fun x y H Q => (rI0 (fun i j => .int (i + j)) x y H Q \/ (∃ i j, x = .str i /\ y = .str j /\ i.length + j.length <= sizeLine /\ Q (.str (i ++ j)) H)) \/ (∃ l b xs zs, x = .ref l /\ y = .ref b /\ Rd H l (.lst xs) /\ Rd H b (.lst zs) /\ xs.length + zs.length <= sizeLine /\ ∀ p, H p = none -> Q (.ref p) (upd H p (.lst (xs ++ zs))))) gAdd := by
 intro tx ty W S H x y Q r dx dy p;have lists : ∀ {tx ty : T}, Den W tx x -> Den W ty y -> Post E W (QV Q) (match zav S tx, zav S ty with | some xs, some ys => if xs.length + ys.length <= 1000 then .ok (.lst (xs ++ ys)) S else .bad | _, _ => .bad) -> (∃ l b xs zs, x = .ref l /\ y = .ref b /\ Rd H l (.lst xs) /\ Rd H b (.lst zs) /\ xs.length + zs.length <= sizeLine /\ ∀ p, H p = none -> Q (.ref p) (upd H p (.lst (xs ++ zs)))) := by
  intro tx ty dx dy p;cases e1 : zav S tx with
  | none => simp only [e1] at p; exact p.elim
  | some xs =>
    cases e2 : zav S ty with
    | none => simp only [e1, e2] at p; exact p.elim
    | some ys =>
      simp only [e1, e2] at p
      split at p
      ·rename_i hl
       obtain ⟨a, vs, rfl, h1, h2⟩ := r.list dx e1;obtain ⟨b, ws, rfl, h3, h4⟩ := r.list dy e2;refine ⟨a, b, vs, ws, rfl, rfl, h1, h3, big (by rw [<- h2.length, <- h4.length]; exact hl), zl1 p r (h2.append h4)⟩
      ·exact p.elim
 unfold gAdd at p
 split at p
 ·exact .inl (.inl ⟨_, _, zap.mp dx, zap.mp dy, now p r (zap.mpr rfl)⟩)
 ·split at p
  ·rename_i hl
   exact .inl (.inr ⟨_, _, zaz.mp dx, zaz.mp dy, big hl, now p r (zaz.mpr rfl)⟩)
  ·exact p.elim
 ·exact .inr (lists dx dy p)
theorem zf3 (ha : PE X a (RE E fa)) (hb : PE X b (RE E fb)) : PE X (.BinOp a .Add b pos) (RE E (e2 gAdd fa fb)) := zbp (zpe ((zy5.or zpg).or zxh) ha hb) fun _ _ _ => re2 zz7
end
end MF
namespace MF
open PySem L2 PySem.SeqAt
mutual
def pd : T -> Option PyData
 | .non => some .none
 | .bl b => some (.bool b)
 | .int i => some (.int i)
 | .str x => some (.str x)
 | .lst ts => (pds ts).map .list
 | .tup ts => (pds ts).map .tuple
 | .dic _ => none
 | .obj _ => none
def pds : List T -> Option (List PyData)
 | [] => some []
 | t :: ts => match pd t, pds ts with
   | some d, some ds => some (d :: ds)
   | _, _ => none
end
mutual
def RdD (H : Hp) : PyData -> V -> Prop
 | .none, v => v = .non
 | .bool b, v => v = .bl b
 | .int i, v => v = .int i
 | .str x, v => v = .str x
 | .list ds, v => ∃ a vs, v = .ref a /\ Rd H a (.lst vs) /\ RdDs H ds vs
 | .tuple ds, v => ∃ a vs, v = .ref a /\ Rd H a (.tup vs) /\ RdDs H ds vs
 | .dict _, _ => False
def RdDs (H : Hp) : List PyData -> List V -> Prop
 | [], vs => vs = []
 | d :: ds, vs => ∃ v r, vs = v :: r /\ RdD H d v /\ RdDs H ds r
end
section
variable {W : Wd} {S : Sto} {H : Hp}
mutual
theorem zro (r : Rep W S H) : ∀ (t : T) (v : V) (d : PyData), Den W t v -> pd t = some d -> RdD H d v
 | .non, v, d, h, e => by simp only [pd] at e; cases e; simp only [RdD]; exact zb7.mp h
 | .bl _, v, d, h, e => by simp only [pd] at e; cases e; simp only [RdD]; exact zax.mp h
 | .int _, v, d, h, e => by simp only [pd] at e; cases e; simp only [RdD]; exact zap.mp h
 | .str _, v, d, h, e => by simp only [pd] at e; cases e; simp only [RdD]; exact zaz.mp h
 | .lst ts, v, d, h, e => by
   simp only [pd] at e;obtain ⟨ds, e1, rfl⟩ := Option.map_eq_some_iff.mp e;obtain ⟨a, vs, rfl, h1, h2⟩ := zc8.mp h;simp only [RdD];exact ⟨a, vs, rfl, (r.sub _ _ h1).1.rd, rdDs_of r ts vs ds h2 e1⟩
 | .tup ts, v, d, h, e => by
   simp only [pd] at e;obtain ⟨ds, e1, rfl⟩ := Option.map_eq_some_iff.mp e;obtain ⟨a, vs, rfl, h1, h2⟩ := zde.mp h;simp only [RdD];exact ⟨a, vs, rfl, (r.sub _ _ h1).1.rd, rdDs_of r ts vs ds h2 e1⟩
 | .dic _, v, d, h, e => by simp only [pd] at e; cases e
 | .obj _, v, d, h, e => by simp only [pd] at e; cases e
theorem rdDs_of (r : Rep W S H) : ∀ (ts : List T) (vs : List V) (ds : List PyData), Dens W ts vs -> pds ts = some ds -> RdDs H ds vs
 | [], vs, ds, h, e => by simp only [pds] at e; cases e; simp only [RdDs]; exact za6.mp h
 | t :: ts, vs, ds, h, e => by
   obtain ⟨v, q, rfl, h1, h2⟩ := zas.mp h;simp only [pds] at e;cases e1 : pd t with
   | none => simp [e1] at e
   | some d =>
     cases e2 : pds ts with
     | none => simp [e1, e2] at e
     | some ds' =>
       simp [e1, e2] at e;subst e;simp only [RdDs];exact ⟨v, q, rfl, zro r t v d h1 e1, rdDs_of r ts q ds' h2 e2⟩
end
end
mutual
theorem zc9 {P : Program} {w : World} {H : Hp} {h : Heap} (ok : HOk P w H h) : ∀ (d : PyData) (v : V) (u : Value), RdD H d v -> RelV v u -> ∃ as, Reads h u d as
 | .none, v, u, q, r => by simp only [RdD] at q; subst q; cases r; exact ⟨_, .none⟩
 | .bool b, v, u, q, r => by simp only [RdD] at q; subst q; cases r; exact ⟨_, .bool b⟩
 | .int i, v, u, q, r => by simp only [RdD] at q; subst q; obtain ⟨t, rfl⟩ := r; exact ⟨_, .int i t⟩
 | .str i, v, u, q, r => by simp only [RdD] at q; subst q; obtain ⟨t, rfl⟩ := r; exact ⟨_, .str i t⟩
 | .list ds, v, u, q, r => by
   simp only [RdD] at q;obtain ⟨a, vs, rfl, h1, h2⟩ := q;cases r;obtain ⟨_, its, n, r, e⟩ := h1.ok ok;obtain ⟨as, ra⟩ := readsAll_of ok ds vs its h2 r;exact ⟨_, .list e rfl rfl (by simpa using ra)⟩
 | .tuple ds, v, u, q, r => by
   simp only [RdD] at q;obtain ⟨a, vs, rfl, h1, h2⟩ := q;cases r;obtain ⟨_, its, r, o, e, hc, n, hd⟩ := h1.ok ok;obtain ⟨as, ra⟩ := readsAll_of ok ds vs its h2 r;exact ⟨_, .tuple e hc hd (by simpa using ra)⟩
 | .dict _, v, u, q, r => by simp only [RdD] at q
theorem readsAll_of {P : Program} {w : World} {H : Hp} {h : Heap} (ok : HOk P w H h) : ∀ (ds : List PyData) (vs : List V) (us : List Value), RdDs H ds vs -> Vals vs us -> ∃ as, ReadsAll h us ds as
 | [], vs, us, q, r => by simp only [RdDs] at q; subst q; cases r; exact ⟨_, .nil⟩
 | d :: ds, vs, us, q, r => by
   simp only [RdDs] at q;obtain ⟨v, vr, rfl, h1, h2⟩ := q;cases r with
   | cons r1 r2 =>
     obtain ⟨as, ra⟩ := zc9 ok d v _ h1 r1;obtain ⟨bs, rb⟩ := readsAll_of ok ds vr _ h2 r2;exact ⟨_, .cons ra rb⟩
end
def pdS (S : Sto) : T -> Option PyData
 | .obj k => match S[k]? with
   | some (.lst ts) => (pds ts).map .list
   | _ => none
 | t => pd t
theorem zvp {W : Wd} {S : Sto} {H : Hp} (r : Rep W S H) {t : T} {v : V} {d : PyData} (h : Den W t v) (e : pdS S t = some d) : RdD H d v := by
 cases t with
 | obj k =>
   obtain ⟨rfl, hk⟩ := zbs.mp h;unfold pdS at e;cases e0 : S[k]? with
   | none => simp [e0] at e
   | some c =>
     cases c with
     | lst ts =>
       simp only [e0] at e;obtain ⟨ds, e1, rfl⟩ := Option.map_eq_some_iff.mp e;obtain ⟨⟨vs, h1, h2⟩, _⟩ := r.cell k _ e0;simp only [RdD];exact ⟨_, vs, rfl, .inl h1, rdDs_of r ts vs ds h2 e1⟩
     | dic _ => simp [e0] at e
     | ins _ _ => simp [e0] at e
     | exc _ _ => simp [e0] at e
     | lck _ => simp [e0] at e
 | _ => exact zro r _ v d h (by simpa [pdS] using e)
def toV : T -> Option V
 | .non => some .non
 | .bl b => some (.bl b)
 | .int i => some (.int i)
 | .str x => some (.str x)
 | _ => none
theorem zkm {W : Wd} {t : T} {v u : V} (h : Den W t v) (e : toV t = some u) : v = u := by
 cases t <;> simp only [toV, Option.some.injEq] at e <;> first | (subst e; first | exact zb7.mp h | exact zax.mp h | exact zap.mp h | exact zaz.mp h) | cases e
def eqS (S : Sto) (x y : T) : Option Bool := match toV x, toV y with
 | some u, some v => if scal u v = true then some (decide (u = v)) else none
 | _, _ => match pdS S x, pdS S y with
   | some a, some b => if (a.canLay0 && b.canLay0 && decide (a.depth <= 50)) = true then some (PyData.eqv a b) else none
   | _, _ => none
def gEq (x y : T) : M T := fun S => match eqS S x y with
 | some b => .ok (.bl b) S
 | none => .bad
def gNe (x y : T) : M T := fun S => match eqS S x y with
 | some b => .ok (.bl (!b)) S
 | none => .bad
def rEqD (neg : Bool) : R2 := fun x y H Q => ∃ a b, RdD H a x /\ RdD H b y /\ a.canLay0 = true /\ b.canLay0 = true /\ a.depth <= 50 /\ Q (.bl (if neg then !PyData.eqv a b else PyData.eqv a b)) H
section
variable {X : Cx} {E : XK} {a b e : Expr} {es : List Expr} {fa fb fc : DE} {fr : DA} {pos : Pos}
theorem zvq (hu : X.A.units + 64 < cLine) : OpR X (compareOp .Eq) (rEqD false) := by
 intro pins s σ H x y v u Q I rx ry h;obtain ⟨a, b, ra, rb, ca, cb, hd, q⟩ := h;obtain ⟨as, qa⟩ := zc9 I.hok a x v ra rx;obtain ⟨bs, qb⟩ := zc9 I.hok b y u rb ry;exact compareEq_reads qa qb ca cb (by have := Nat.min_le_left a.depth b.depth; omega) ⟨.bl _, H, I, rfl, q⟩
theorem zvr (hu : X.A.units + 64 < cLine) : OpR X (compareOp .NotEq) (rEqD true) := by
 intro pins s σ H x y v u Q I rx ry h;obtain ⟨a, b, ra, rb, ca, cb, hd, q⟩ := h;obtain ⟨as, qa⟩ := zc9 I.hok a x v ra rx;obtain ⟨bs, qb⟩ := zc9 I.hok b y u rb ry;exact compareNe_reads qa qb ca cb (by have := Nat.min_le_left a.depth b.depth; omega) ⟨.bl _, H, I, rfl, q⟩
theorem zvs {W : Wd} {S : Sto} {H : Hp} {tx ty : T} {x y : V} {c : Bool} (r : Rep W S H) (dx : Den W tx x) (dy : Den W ty y) (e : eqS S tx ty = some c) :
  (scal x y = true /\ c = decide (x = y)) \/ ∃ a b, RdD H a x /\ RdD H b y /\ a.canLay0 = true /\ b.canLay0 = true /\ a.depth <= 50 /\ c = PyData.eqv a b := by
 have data : (match pdS S tx, pdS S ty with | some a, some b => if (a.canLay0 && b.canLay0 && decide (a.depth <= 50)) = true then some (PyData.eqv a b) else none | _, _ => none) = some c -> ∃ a b, RdD H a x /\ RdD H b y /\ a.canLay0 = true /\ b.canLay0 = true /\ a.depth <= 50 /\ c = PyData.eqv a b := fun e => by
  cases e1 : pdS S tx with
  | none => simp [e1] at e
  | some a =>
    cases e2 : pdS S ty with
    | none => simp [e1, e2] at e
    | some b =>
      simp only [e1, e2] at e
      split at e
      ·rename_i hc
       simp only [Bool.and_eq_true, decide_eq_true_eq] at hc;cases e;exact ⟨a, b, zvp r dx e1, zvp r dy e2, hc.1.1, hc.1.2, hc.2, rfl⟩
      ·cases e
 unfold eqS at e;cases e1 : toV tx with
 | none => simp only [e1] at e; exact .inr (data e)
 | some u =>
   cases e2 : toV ty with
   | none => simp only [e1, e2] at e; exact .inr (data e)
   | some v =>
     simp only [e1, e2] at e
     split at e
     ·rename_i hs
      cases e;have h1 := zkm dx e1;have h2 := zkm dy e2;subst h1 h2;exact .inl ⟨hs, rfl⟩
     ·cases e
theorem zz8 : G2 E (fun x y H Q => rEq x y H Q \/ rEqD false x y H Q) gEq := by
 intro tx ty W S H x y Q r dx dy p;unfold gEq at p;cases e : eqS S tx ty with
 | none => simp only [e] at p; exact p.elim
 | some c =>
   simp only [e] at p;rcases zvs r dx dy e with ⟨h1, rfl⟩ | ⟨a, b, h1, h2, h3, h4, h5, rfl⟩
   ·exact .inl ⟨h1, now p r (zax.mpr rfl)⟩
   ·exact .inr ⟨a, b, h1, h2, h3, h4, h5, now p r (zax.mpr rfl)⟩
theorem zz9 : G2 E (fun x y H Q => rNe x y H Q \/ rEqD true x y H Q) gNe := by
 intro tx ty W S H x y Q r dx dy p;unfold gNe at p;cases e : eqS S tx ty with
 | none => simp only [e] at p; exact p.elim
 | some c =>
   simp only [e] at p;rcases zvs r dx dy e with ⟨h1, rfl⟩ | ⟨a, b, h1, h2, h3, h4, h5, rfl⟩
   ·exact .inl ⟨h1, now p r (zax.mpr rfl)⟩
   ·exact .inr ⟨a, b, h1, h2, h3, h4, h5, now p r (zax.mpr rfl)⟩
theorem e_eq (hu : X.A.units + 64 < cLine) (ha : PE X a (RE E fa)) (hb : PE X b (RE E fb)) : PE X (.Compare a [.Eq] [b] pos) (RE E (e2 gEq fa fb)) := zbp (zqr (zza.or (zvq hu)) ha hb (zgh _)) fun _ _ _ => re2 zz8
theorem e_ne (hu : X.A.units + 64 < cLine) (ha : PE X a (RE E fa)) (hb : PE X b (RE E fb)) : PE X (.Compare a [.NotEq] [b] pos) (RE E (e2 gNe fa fb)) := zbp (zqr (zzb.or (zvr hu)) ha hb (zgh _)) fun _ _ _ => re2 zz9
def inF (x : T) (ts : List T) : Option Bool := match toV x, ts.mapM toV with
 | some u, some vs => if (zg1 u && vs.all zg1) = true then some (inV u vs) else none
 | _, _ => none
def inS (S : Sto) (x y : T) : Option Bool := match zcw S y with
 | some ts => (match inF x ts with
   | some b => some b
   | none => match pd x, pds ts with
     | some d, some ds => if (d.canLay0 && PyData.canLayAll0 ds && decide (d.depth <= 20) && decide (PyData.depthAll ds <= 20)) = true then some (ds.any fun z => PyData.eqv z d) else none
     | _, _ => none)
 | none => none
def gIn (x y : T) : M T := fun S => match inS S x y with
 | some b => .ok (.bl b) S
 | none => .bad
def zik (x y : T) : M T := fun S => match inS S x y with
 | some b => .ok (.bl (!b)) S
 | none => .bad
theorem zoh {W : Wd} : ∀ {ts : List T} {vs us : List V}, Dens W ts vs -> ts.mapM toV = some us -> vs = us
 | [], vs, us, h, e => by
   have e : some [] = some us := by simpa using e
   rw [za6.mp h, <- Option.some.inj e]
 | t :: ts, vs, us, h, e => by
   obtain ⟨v, r, rfl, h1, h2⟩ := zas.mp h;rw [List.mapM_cons] at e;cases e1 : toV t with
   | none => simp [e1] at e
   | some u =>
     cases e2 : ts.mapM toV with
     | none => simp [e1, e2] at e
     | some ws =>
       simp [e1, e2] at e;subst e;rw [zkm h1 e1, zoh h2 e2]
def rInD (neg : Bool) : R2 := fun x y H Q => ∃ p xs ds d, y = .ref p /\ (Rd H p (.lst xs) \/ Rd H p (.tup xs)) /\ RdDs H ds xs /\ RdD H d x /\ PyData.canLayAll0 ds = true /\ d.canLay0 = true /\ d.depth <= 20 /\ PyData.depthAll ds <= 20 /\
 Q (.bl (if neg then !(ds.any fun z => PyData.eqv z d) else ds.any fun z => PyData.eqv z d)) H
theorem zvt {W : Wd} {S : Sto} {H : Hp} {tx ty : T} {x y : V} {c : Bool} (K : PySem.W.Frag) (r : Rep W S H) (dx : Den W tx x) (dy : Den W ty y) (e : inS S tx ty = some c) :
  (∃ p xs, y = .ref p /\ (SqL K H p xs \/ SqT K H p xs) /\ zg1 x = true /\ xs.all zg1 = true /\ c = inV x xs) \/
  ∃ p xs ds d, y = .ref p /\ (Rd H p (.lst xs) \/ Rd H p (.tup xs)) /\ RdDs H ds xs /\ RdD H d x /\ PyData.canLayAll0 ds = true /\ d.canLay0 = true /\ d.depth <= 20 /\ PyData.depthAll ds <= 20 /\ c = ds.any fun z => PyData.eqv z d := by
 unfold inS at e;cases e0 : zcw S ty with
 | none => simp only [e0] at e; cases e
 | some ts =>
   obtain ⟨p, xs, rfl, h1, h2⟩ := r.seq dy e0;simp only [e0] at e;cases ef : inF tx ts with
   | some b =>
     simp only [ef] at e;cases e;unfold inF at ef;cases e1 : toV tx with
     | none => simp [e1] at ef
     | some u =>
       cases e2 : ts.mapM toV with
       | none => simp [e1, e2] at ef
       | some us =>
         simp only [e1, e2] at ef
         split at ef
         ·rename_i hf
          rw [Bool.and_eq_true] at hf;cases ef;have q1 := zkm dx e1;have q2 := zoh h2 e2;subst q1 q2;refine .inl ⟨p, xs, rfl, ?_, hf.1, hf.2, rfl⟩;rcases h1 with h1 | h1
          ·exact .inl (.inl h1)
          ·exact .inr (.inl h1)
         ·cases ef
   | none =>
     simp only [ef] at e;cases e1 : pd tx with
     | none => simp [e1] at e
     | some d =>
       cases e2 : pds ts with
       | none => simp [e1, e2] at e
       | some ds =>
         simp only [e1, e2] at e
         split at e
         ·rename_i hc
          simp only [Bool.and_eq_true, decide_eq_true_eq] at hc;cases e;exact .inr ⟨p, xs, ds, d, rfl, h1, rdDs_of r _ _ _ h2 e2, zro r _ _ _ dx e1, hc.1.1.2, hc.1.1.1, hc.1.2, hc.2, rfl⟩
         ·cases e
theorem z0a (hu : X.A.units + 64 < cLine) : OpR X (compareOp .In) (rInD false) := by
 intro pins s σ H x y v u Q I rx ry h;obtain ⟨p, xs, ds, d, rfl, hp, rs, rd, cs, cd, hd, hds, q⟩ := h;cases ry;obtain ⟨bs, qb⟩ := zc9 I.hok d x v rd rx;rcases hp with hp | hp
 ·obtain ⟨as, qa⟩ := zc9 I.hok (.list ds) (.ref p) (.ref p) (by simp only [RdD]; exact ⟨p, xs, rfl, hp, rs⟩) rfl
  exact in_list_reads qa qb cs cd (by omega) ⟨.bl _, H, I, rfl, q⟩
 ·obtain ⟨as, qa⟩ := zc9 I.hok (.tuple ds) (.ref p) (.ref p) (by simp only [RdD]; exact ⟨p, xs, rfl, hp, rs⟩) rfl
  exact in_tuple_reads qa qb cs cd (by omega) ⟨.bl _, H, I, rfl, q⟩
theorem zrp (hu : X.A.units + 64 < cLine) : OpR X (compareOp .NotIn) (rInD true) := by
 intro pins s σ H x y v u Q I rx ry h;obtain ⟨p, xs, ds, d, rfl, hp, rs, rd, cs, cd, hd, hds, q⟩ := h;cases ry;obtain ⟨bs, qb⟩ := zc9 I.hok d x v rd rx;rcases hp with hp | hp
 ·obtain ⟨as, qa⟩ := zc9 I.hok (.list ds) (.ref p) (.ref p) (by simp only [RdD]; exact ⟨p, xs, rfl, hp, rs⟩) rfl
  exact notIn_list_reads qa qb cs cd (by omega) ⟨.bl _, H, I, rfl, q⟩
 ·obtain ⟨as, qa⟩ := zc9 I.hok (.tuple ds) (.ref p) (.ref p) (by simp only [RdD]; exact ⟨p, xs, rfl, hp, rs⟩) rfl
  exact notIn_tuple_reads qa qb cs cd (by omega) ⟨.bl _, H, I, rfl, q⟩
theorem z2k (K : PySem.W.Frag) : G2 E (fun x y H Q => rIn K false x y H Q \/ rInD false x y H Q) gIn := by
 intro tx ty W S H x y Q r dx dy p;unfold gIn at p;cases e : inS S tx ty with
 | none => simp only [e] at p; exact p.elim
 | some c =>
   simp only [e] at p;rcases zvt K r dx dy e with ⟨q, xs, rfl, h1, h2, h3, rfl⟩ | ⟨q, xs, ds, d, rfl, h1, h2, h3, h4, h5, h6, h7, rfl⟩
   ·exact .inl ⟨q, xs, rfl, h1, h2, h3, now p r (zax.mpr rfl)⟩
   ·exact .inr ⟨q, xs, ds, d, rfl, h1, h2, h3, h4, h5, h6, h7, now p r (zax.mpr rfl)⟩
theorem zt9 (K : PySem.W.Frag) : G2 E (fun x y H Q => rIn K true x y H Q \/ rInD true x y H Q) zik := by
 intro tx ty W S H x y Q r dx dy p;unfold zik at p;cases e : inS S tx ty with
 | none => simp only [e] at p; exact p.elim
 | some c =>
   simp only [e] at p;rcases zvt K r dx dy e with ⟨q, xs, rfl, h1, h2, h3, rfl⟩ | ⟨q, xs, ds, d, rfl, h1, h2, h3, h4, h5, h6, h7, rfl⟩
   ·exact .inl ⟨q, xs, rfl, h1, h2, h3, now p r (zax.mpr rfl)⟩
   ·exact .inr ⟨q, xs, ds, d, rfl, h1, h2, h3, h4, h5, h6, h7, now p r (zax.mpr rfl)⟩
end
end MF
namespace MF
open PySem L2
def zxi (t : T) : M Bool := fun S => match t with
 | .bl b => .ok b S
 | _ => .bad
def truM (t : T) : M Bool := fun S => match t with
 | .non => .ok false S
 | .bl b => .ok b S
 | .int i => .ok (i != 0) S
 | .str x => if x.length <= 1000 then .ok ((x.length : Int) != 0) S else .bad
 | t => match zcw S t with
   | some ts => .ok (!ts.isEmpty) S
   | none => .bad
def tst (f : DE) : DT := fun ρ => (f ρ).bind zxi
def tru (f : DE) : DT := fun ρ => (f ρ).bind truM
def tOrD (f g : DT) : DT := fun ρ => (f ρ).bind fun c => if c = true then M.pure true else g ρ
def zrq (f : DT) : DT := fun ρ => (f ρ).bind fun c => M.pure (!c)
section
variable {X : Cx} {E : XK} {a b c e : Expr} {es : List Expr} {fa fb fc : DE} {ta tb : DT} {fr : DA} {pos : Pos}
theorem zrr {f : DE} {σ : St} {H : Hp} {Q : Bool -> Hp -> Prop} (h : RT E (tst f) σ H Q) : RE E f σ H (fun x H' => ∃ k, x = .bl k /\ Q k H') := by
 obtain ⟨W, S, ρ, rp, env, p⟩ := h;refine ⟨W, S, ρ, rp, env, (Post.bind p).imp fun t W1 S1 H1 l1 r1 p1 v dv => ?_⟩;cases t with
 | bl k => exact ⟨k, zax.mp dv, p1 W1 H1 (Wd.le.refl _) r1⟩
 | _ => exact p1.elim
theorem zkn {op : CmpOp} {r : R2} {g : T -> T -> M T} (ho : OpR X (compareOp op) r) (hg : G2 E r g) (ha : PE X a (RE E fa)) (hb : PE X b (RE E fb)) (hm : behindInMarks op b = false) : PT X (.Compare a [op] [b] pos) (RT E (tst (e2 g fa fb))) :=
 zrm (zwn ho ha hb hm) fun σ H Q h => re2 hg (zrr h)
theorem t_eq (hu : X.A.units + 64 < cLine) (ha : PE X a (RE E fa)) (hb : PE X b (RE E fb)) : PT X (.Compare a [.Eq] [b] pos) (RT E (tst (e2 gEq fa fb))) := zkn (zza.or (zvq hu)) zz8 ha hb (zgh _)
theorem t_ne (hu : X.A.units + 64 < cLine) (ha : PE X a (RE E fa)) (hb : PE X b (RE E fb)) : PT X (.Compare a [.NotEq] [b] pos) (RT E (tst (e2 gNe fa fb))) := zkn (zzb.or (zvr hu)) zz9 ha hb (zgh _)
theorem t_lt (ha : PE X a (RE E fa)) (hb : PE X b (RE E fb)) : PT X (.Compare a [.Lt] [b] pos) (RT E (tst (e2 (gI fLt) fa fb))) := zkn z13 (zt6 fun i j t e W => by cases e; exact zax.mpr rfl) ha hb (zgh _)
theorem t_gt (ha : PE X a (RE E fa)) (hb : PE X b (RE E fb)) : PT X (.Compare a [.Gt] [b] pos) (RT E (tst (e2 (gI fGt) fa fb))) := zkn z14 (zt6 fun i j t e W => by cases e; exact zax.mpr rfl) ha hb (zgh _)
theorem t_ge (ha : PE X a (RE E fa)) (hb : PE X b (RE E fb)) : PT X (.Compare a [.GtE] [b] pos) (RT E (tst (e2 (gI fGe) fa fb))) := zkn z15 (zt6 fun i j t e W => by cases e; exact zax.mpr rfl) ha hb (zgh _)
theorem t_in (hu : X.A.units + 64 < cLine) (ha : PE X a (RE E fa)) (hb : PE X b (RE E fb)) (hm : behindInMarks .In b = false := by with_unfolding_all rfl) : PT X (.Compare a [.In] [b] pos) (RT E (tst (e2 gIn fa fb))) := zkn (zq6.or (z0a hu)) (z2k X.K) ha hb hm
theorem zxj (hu : X.A.units + 64 < cLine) (ha : PE X a (RE E fa)) (hb : PE X b (RE E fb)) (hm : behindInMarks .NotIn b = false := by with_unfolding_all rfl) : PT X (.Compare a [.NotIn] [b] pos) (RT E (tst (e2 zik fa fb))) := zkn (zlo.or (zrp hu)) (zt9 X.K) ha hb hm
theorem zvu {W : Wd} {S : Sto} {H : Hp} {t : T} {v : V} {Q : Bool -> Hp -> Prop} {K : PySem.W.Frag} (r : Rep W S H) (d : Den W t v) (p : Post E W (fun b _ _ H' => Q b H') (truM t S)) : ∃ k, TruV K v H k /\ Q k H := by
 have go : ∀ {k : Bool}, Post E W (fun b _ _ H' => Q b H') (.ok k S) -> Q k H := fun p => p W H (Wd.le.refl _) r;have sq : ∀ {t : T}, Den W t v -> Post E W (fun b _ _ H' => Q b H') (match zcw S t with | some ts => .ok (!ts.isEmpty) S | none => .bad) -> ∃ k, TruV K v H k /\ Q k H := fun {t} d p => by
  cases e : zcw S t with
  | none => simp only [e] at p; exact p.elim
  | some ts =>
    simp only [e] at p;obtain ⟨a, vs, rfl, h1, h2⟩ := r.seq d e;have hl : (!ts.isEmpty) = !vs.isEmpty := by
     have := h2.length;cases ts <;> cases vs <;> simp_all
    refine ⟨_, ?_, go p⟩;rcases h1 with h1 | h1
    ·exact .inl ⟨vs, .inl h1, hl⟩
    ·exact .inr (.inl ⟨vs, .inl h1, hl⟩)
 unfold truM at p
 split at p
 ·rw [zb7.mp d]; exact ⟨_, rfl, go p⟩
 ·rw [zax.mp d]; exact ⟨_, rfl, go p⟩
 ·rw [zap.mp d]; exact ⟨_, rfl, go p⟩
 ·split at p
  ·rename_i hl; rw [zaz.mp d]; exact ⟨_, ⟨big hl, rfl⟩, go p⟩
  ·exact p.elim
 ·exact sq d p
theorem zrs (ha : PE X a (RE E fa)) (he : ∀ whole, isTrue a X.env whole = (do let v <- whole; standAt a.pos; holding [v] (truthy v)) := by intro _; rfl) : PT X a (RT E (tru fa)) :=
 zrm (ztn ha he) fun σ H Q h => by
  obtain ⟨W, S, ρ, rp, env, p⟩ := h;exact ⟨W, S, ρ, rp, env, (Post.bind p).imp fun t W1 S1 H1 l1 r1 p1 v dv => zvu r1 dv p1⟩
theorem z2l {e : Expr} {t t' : TT} (h : PW X e t) (w : ∀ σ H Q, t' σ H Q -> t σ H Q) : PW X e t' := fun wh pins s σ H Q I q => h wh pins s σ H Q I (w σ H Q q)
theorem z0b (ha : PT X a (RT E ta)) : PW X (.BoolOp .Or [a] pos) (RT E ta) := zyt ha
theorem zrt {c : Bool} {σ : St} {H : Hp} {Q : Bool -> Hp -> Prop} (h : RT E (fun _ => M.pure c) σ H Q) : Q c H := by
 obtain ⟨W, S, ρ, rp, env, p⟩ := h;exact p W H (Wd.le.refl _) rp
theorem t_or (ha : PT X a (RT E ta)) (hb : PW X (.BoolOp .Or (b :: es) pos) (RT E tb)) : PW X (.BoolOp .Or (a :: b :: es) pos) (RT E (tOrD ta tb)) :=
 z2l (z1z ha hb) fun σ H Q h => by
  obtain ⟨W, S, ρ, rp, env, p⟩ := h;refine ⟨W, S, ρ, rp, env, (Post.bind p).imp fun c W1 S1 H1 l1 r1 p1 => ?_⟩;cases c with
  | false => exact iteF ⟨W1, S1, ρ, r1, env.mono l1, p1⟩
  | true => exact iteT (p1 W1 H1 (Wd.le.refl _) r1)
theorem zxk (ha : PT X a (RT E ta)) : PT X (.UnaryOp .Not a pos) (RT E (zrq ta)) := zrm (zyu ha) fun σ H Q h => by
 obtain ⟨W, S, ρ, rp, env, p⟩ := h;exact ⟨W, S, ρ, rp, env, (Post.bind p).imp fun c W1 S1 H1 l1 r1 p1 => p1 W1 H1 (Wd.le.refl _) r1⟩
def eAnd (f g : DE) : DE := fun ρ => (f ρ).bind fun x => match x with
 | .bl true => g ρ
 | .bl false => M.pure (.bl false)
 | _ => M.bad
def eNot (f : DE) : DE := fun ρ => (f ρ).bind fun x => (truM x).bind fun b => M.pure (.bl (!b))
def eIf (c : DT) (f g : DE) : DE := fun ρ => (c ρ).bind fun b => if b = true then f ρ else g ρ
theorem zxl {op} (ha : PE X a (RE E fa)) : PE X (.BoolOp op [a] pos) (RE E fa) := zyv ha
theorem zxm (ha : PE X a (RE E fa)) (hb : PE X (.BoolOp .And (b :: es) pos) (RE E fb)) : PE X (.BoolOp .And (a :: b :: es) pos) (RE E (eAnd fa fb)) := zbp (zyw ha hb) fun σ H Q h => by
 obtain ⟨W, S, ρ, rp, env, p⟩ := h;refine ⟨W, S, ρ, rp, env, (Post.bind p).imp fun t W1 S1 H1 l1 r1 p1 v dv => ?_⟩;cases t with
 | bl k =>
   refine ⟨k, zax.mp dv, ?_⟩;cases k with
   | true => exact iteT ⟨W1, S1, ρ, r1, env.mono l1, p1⟩
   | false => exact iteF (now p1 r1 (zax.mpr rfl))
 | _ => exact p1.elim
theorem zxn {ta : TE} (ha : PE X a ta) : PE X (.UnaryOp .Not a pos) (fun σ H Q => ta σ H fun x H1 => ∃ k, TruV X.K x H1 k /\ Q (.bl (!k)) H1) := by
 intro pins s σ H Q I h;refine PyProof.Rows.UnaryOp_ (thn (ha pins s σ H _ I h) fun v s1 hq_ => ?_);obtain ⟨x, H1, I1, r1, k, tr, q1⟩ := hq_;refine PyProof.Rows.not_of ?_;exact thn (zvg pins s1 σ H1 x v (fun b H' => Q (.bl (!b)) H') I1 r1 ⟨k, tr, q1⟩) fun b s2 ⟨H2, I2, q2⟩ => ⟨.bl (!b), H2, I2, rfl, q2⟩
theorem z2m (ha : PE X a (RE E fa)) : PE X (.UnaryOp .Not a pos) (RE E (eNot fa)) := zbp (zxn ha) fun σ H Q h => by
 obtain ⟨W, S, ρ, rp, env, p⟩ := h;refine ⟨W, S, ρ, rp, env, (Post.bind p).imp fun t W1 S1 H1 l1 r1 p1 v dv => ?_⟩;refine zvu (Q := fun k H' => Q (.bl (!k)) H') r1 dv ((Post.bind p1).imp fun b W2 S2 H2 l2 r2 p2 => now p2 r2 (zax.mpr rfl))
theorem zxo (hc : PT X c (RT E ta)) (ha : PE X a (RE E fa)) (hb : PE X b (RE E fb)) : PE X (.IfExp c a b pos) (RE E (eIf ta fa fb)) := zbp (ztk hc ha hb) fun σ H Q h => by
 obtain ⟨W, S, ρ, rp, env, p⟩ := h;refine ⟨W, S, ρ, rp, env, (Post.bind p).imp fun k W1 S1 H1 l1 r1 p1 => ?_⟩;cases k with
 | true => exact iteT ⟨W1, S1, ρ, r1, env.mono l1, p1⟩
 | false => exact iteF ⟨W1, S1, ρ, r1, env.mono l1, p1⟩
def zil : T -> Bool
 | .non => true
 | _ => false
theorem zl2 {W : Wd} {t : T} {v : V} (d : Den W t v) : decide (v = .non) = zil t := by
 cases t with
 | non => rw [zb7.mp d]; rfl
 | bl _ => rw [zax.mp d]; rfl
 | int _ => rw [zap.mp d]; rfl
 | str _ => rw [zaz.mp d]; rfl
 | lst _ => obtain ⟨a, vs, rfl, _⟩ := zc8.mp d; rfl
 | tup _ => obtain ⟨a, vs, rfl, _⟩ := zde.mp d; rfl
 | dic _ => obtain ⟨a, vs, rfl, _⟩ := zfe.mp d; rfl
 | obj _ => obtain ⟨rfl, _⟩ := zbs.mp d; rfl
def gIs (x y : T) : M T := fun S => match y with
 | .non => .ok (.bl (zil x)) S
 | .bl b => (match x with
   | .bl a => .ok (.bl (a == b)) S
   | _ => .bad)
 | _ => .bad
def zgk (x y : T) : M T := fun S => match y with
 | .non => .ok (.bl (!zil x)) S
 | .bl b => (match x with
   | .bl a => .ok (.bl (!(a == b))) S
   | _ => .bad)
 | _ => .bad
theorem zru : OpR X (compareOp .IsNot) (fun x y H Q => ∃ a b, x = .bl a /\ y = .bl b /\ Q (.bl (!(a == b))) H) := by
 intro pins s σ H x y v u Q I rx ry h;obtain ⟨a, b, rfl, rfl, q⟩ := h;cases rx;cases ry;refine wpAny_isNot_plain rfl ⟨.bl (!(a == b)), H, I, ?_, q⟩;show Value.bool (!(Value.bool a == Value.bool b)) = Value.bool (!(a == b));cases a <;> cases b <;> rfl
theorem z2n : G2 E (fun x y H Q => (y = .non /\ Q (.bl (decide (x = .non))) H) \/ (∃ a b, x = .bl a /\ y = .bl b /\ Q (.bl (a == b)) H)) gIs := by
 intro tx ty W S H x y Q r dx dy p;unfold gIs at p
 split at p
 ·exact .inl ⟨zb7.mp dy, by rw [zl2 dx]; exact now p r (zax.mpr rfl)⟩
 ·split at p
  ·exact .inr ⟨_, _, zax.mp dx, zax.mp dy, now p r (zax.mpr rfl)⟩
  ·exact p.elim
 ·exact p.elim
theorem zua : G2 E (fun x y H Q => (y = .non /\ Q (.bl (!decide (x = .non))) H) \/ (∃ a b, x = .bl a /\ y = .bl b /\ Q (.bl (!(a == b))) H)) zgk := by
 intro tx ty W S H x y Q r dx dy p;unfold zgk at p
 split at p
 ·exact .inl ⟨zb7.mp dy, by rw [zl2 dx]; exact now p r (zax.mpr rfl)⟩
 ·split at p
  ·exact .inr ⟨_, _, zax.mp dx, zax.mp dy, now p r (zax.mpr rfl)⟩
  ·exact p.elim
 ·exact p.elim
theorem t_is (ha : PE X a (RE E fa)) (hb : PE X b (RE E fb)) : PT X (.Compare a [.Is] [b] pos) (RT E (tst (e2 gIs fa fb))) := zkn (zzc.or zzt) z2n ha hb (zgh _)
theorem zrv (ha : PE X a (RE E fa)) (hb : PE X b (RE E fb)) : PT X (.Compare a [.IsNot] [b] pos) (RT E (tst (e2 zgk fa fb))) := zkn (zwm.or zru) zua ha hb (zgh _)
theorem Dens.atI {W : Wd} {ts : List T} {vs : List V} {i : Int} {t : T} (h : Dens W ts vs) (e : atI ts i = some t) : ∃ v, L2.atI vs i = some v /\ Den W t v := by
 unfold L2.atI at e ⊢;rw [<- h.length];cases e1 : ixN ts.length i with
 | none => rw [e1] at e; cases e
 | some j =>
   rw [e1] at e;exact h.get e
def gIx (x y : T) : M T := fun S => match y with
 | .int i => (match zcw S x with
   | some ts => (match atI ts i with
     | some t => .ok t S
     | none => .bad)
   | none => match x with
     | .str z => if z.length <= 1000 then (match atI z.cps.toList i with
       | some c => .ok (.str ⟨#[c]⟩) S
       | none => .bad) else .bad
     | _ => .bad)
 | _ => .bad
theorem z2o (K : PySem.W.Frag) : G2 E (rIx K) gIx := by
 intro tx ty W S H x y Q r dx dy p;unfold gIx at p
 split at p
 ·rename_i i
  cases e : zcw S tx with
  | some ts =>
    simp only [e] at p;cases e2 : atI ts i with
    | none => simp only [e2] at p; exact p.elim
    | some t =>
      simp only [e2] at p;obtain ⟨a, vs, rfl, h1, h2⟩ := r.seq dx e;obtain ⟨v, e3, dv⟩ := h2.atI e2;rcases h1 with h1 | h1
      ·exact .inl ⟨a, vs, i, v, rfl, zap.mp dy, .inl h1, e3, now p r dv⟩
      ·exact .inr (.inl ⟨a, vs, i, v, rfl, zap.mp dy, .inl h1, e3, now p r dv⟩)
  | none =>
    simp only [e] at p
    split at p
    ·rename_i z
     split at p
     ·rename_i hl
      cases e2 : atI z.cps.toList i with
      | none => simp only [e2] at p; exact p.elim
      | some c =>
        simp only [e2] at p;exact .inr (.inr ⟨z, i, c, zaz.mp dx, zap.mp dy, big hl, e2, now p r (zaz.mpr rfl)⟩)
     ·exact p.elim
    ·exact p.elim
 ·exact p.elim
theorem e_ix (ha : PE X a (RE E fa)) (hb : PE X b (RE E fb)) (hs : zq5 b := by exact fun _ _ => rfl) : PE X (.Subscript a b pos) (RE E (e2 gIx fa fb)) := zbp (z2e zzn ha hb hs) fun _ _ _ => re2 (z2o X.K)
def keyT : T -> Option Key
 | .int i => some (.inl i)
 | .str x => some (.inr x)
 | _ => none
theorem zoi {W : Wd} {t : T} {v : V} {k : Key} (d : Den W t v) (e : keyT t = some k) : v = kV k := by
 cases t with
 | int i => cases e; exact zap.mp d
 | str i => cases e; exact zaz.mp d
 | _ => cases e
def valT (kvs : List (Key × T)) (k : Key) : Option T := (kvs.find? fun kv => decide (kv.1 = k)).map (·.2)
def putT (kvs : List (Key × T)) (k : Key) (v : T) : List (Key × T) :=
 if (kvs.any fun kv => decide (kv.1 = k)) = true then kvs.map (fun kv => if kv.1 = k then (kv.1, v) else kv) else kvs ++ [(k, v)]
theorem DenK.val {W : Wd} : ∀ {kvs : List (Key × T)} {ks : List (Key × V)} (k : Key), DenK W kvs ks -> (∀ t, valT kvs k = some t -> ∃ v, valV ks k = some v /\ Den W t v) /\ (valT kvs k = none -> valV ks k = none)
 | [], ks, k, h => by rw [zck.mp h]; exact ⟨(fun t e => by cases e), fun _ => rfl⟩
 | (k', t) :: kvs, ks, k, h => by
   obtain ⟨v, r, rfl, h1, h2⟩ := zbv.mp h;have ih := DenK.val k h2;by_cases e : k' = k
   ·have a : valT ((k', t) :: kvs) k = some t := by simp [valT, List.find?_cons, e]
    have b : valV ((k', v) :: r) k = some v := zhv e;rw [a, b];exact ⟨fun t' e' => by cases e'; exact ⟨v, rfl, h1⟩, fun z => by cases z⟩
   ·have a : valT ((k', t) :: kvs) k = valT kvs k := by simp [valT, List.find?_cons, e]
    have b : valV ((k', v) :: r) k = valV r k := zhw e;rw [a, b];exact ih
theorem DenK.any {W : Wd} : ∀ {kvs : List (Key × T)} {ks : List (Key × V)} (k : Key), DenK W kvs ks -> (kvs.any fun kv => decide (kv.1 = k)) = ks.any fun kv => decide (kv.1 = k)
 | [], ks, k, h => by rw [zck.mp h]; rfl
 | (k', t) :: kvs, ks, k, h => by
   obtain ⟨v, r, rfl, h1, h2⟩ := zbv.mp h;rw [List.any_cons, List.any_cons, DenK.any k h2]
theorem DenK.repl {W : Wd} {t0 : T} {v0 : V} (d : Den W t0 v0) : ∀ {kvs : List (Key × T)} {ks : List (Key × V)} (k : Key), DenK W kvs ks -> DenK W (kvs.map (fun kv => if kv.1 = k then (kv.1, t0) else kv)) (ks.map (fun kv => if kv.1 = k then (kv.1, v0) else kv))
 | [], ks, k, h => by rw [zck.mp h]; exact DenK.nil'
 | (k', t) :: kvs, ks, k, h => by
   obtain ⟨v, r, rfl, h1, h2⟩ := zbv.mp h;have ih := DenK.repl d k h2;rw [List.map_cons, List.map_cons];by_cases e : k' = k
   ·rw [if_pos e, if_pos e]; exact DenK.cons' d ih
   ·rw [if_neg e, if_neg e]; exact DenK.cons' h1 ih
theorem DenK.snoc {W : Wd} {t0 : T} {v0 : V} (d : Den W t0 v0) : ∀ {kvs : List (Key × T)} {ks : List (Key × V)} (k : Key), DenK W kvs ks -> DenK W (kvs ++ [(k, t0)]) (ks ++ [(k, v0)])
 | [], ks, k, h => by rw [zck.mp h]; exact DenK.cons' d DenK.nil'
 | (k', t) :: kvs, ks, k, h => by
   obtain ⟨v, r, rfl, h1, h2⟩ := zbv.mp h;exact DenK.cons' h1 (DenK.snoc d k h2)
theorem DenK.put {W : Wd} {t0 : T} {v0 : V} (d : Den W t0 v0) {kvs : List (Key × T)} {ks : List (Key × V)} (k : Key) (h : DenK W kvs ks) : DenK W (putT kvs k t0) (putK ks k v0) := by
 unfold putT putK;rw [h.any k];by_cases e : (ks.any fun kv => decide (kv.1 = k)) = true
 ·rw [if_pos e, if_pos e]; exact DenK.repl d k h
 ·rw [if_neg e, if_neg e]; exact DenK.snoc d k h
def gDix (x y : T) : M T := fun S => match zdv S x, keyT y with
 | some kvs, some k => (match valT kvs k with
   | some t => .ok t S
   | none => .bad)
 | _, _ => .bad
def gDin (y x : T) : M T := fun S => match zdv S x with
 | some kvs => (match keyT y with
   | some k => .ok (.bl (valT kvs k).isSome) S
   | none => match y with
     | .non => .ok (.bl false) S
     | _ => .bad)
 | none => .bad
def zb8 (y x : T) : M T := fun S => match zdv S x, keyT y with
 | some kvs, some k => .ok (.bl (!(valT kvs k).isSome)) S
 | _, _ => .bad
theorem znd {W : Wd} {S : Sto} {H : Hp} (r : Rep W S H) {tx ty : T} {x y : V} {kvs : List (Key × T)} {k : Key} (dx : Den W tx x) (dy : Den W ty y) (e1 : zdv S tx = some kvs) (e2 : keyT ty = some k) :
  ∃ a o, x = .ref a /\ DGet H a y o /\ (∀ t, valT kvs k = some t -> ∃ v, o = some v /\ Den W t v) /\ (valT kvs k).isSome = o.isSome := by
 obtain ⟨a, ks, rfl, h1, h2⟩ := r.dict dx e1;obtain ⟨q1, q2⟩ := h2.val k;refine ⟨a, valV ks k, rfl, .inl ⟨ks, k, h1, zoi dy e2, rfl⟩, q1, ?_⟩;cases e : valT kvs k with
 | none => rw [q2 e]; rfl
 | some t => obtain ⟨v, e3, _⟩ := q1 t e; rw [e3]; rfl
theorem zxp (hu : X.A.units + 1 < cLine) (ha : PE X a (RE E fa)) (hb : PE X b (RE E fb)) (hs : NoSl b := by exact fun _ _ => rfl) : PE X (.Subscript a b pos) (RE E (e2 gDix fa fb)) :=
 zbp (zwy hu ha hb hs) fun σ H Q h => re2 (r := fun x y H Q => ∃ a v, x = .ref a /\ DGet H a y (some v) /\ Q v H) (fun tx ty W S H x y Q r dx dy p => by
  unfold gDix at p;cases e1 : zdv S tx with
  | none => simp only [e1] at p; exact p.elim
  | some kvs =>
    cases e2 : keyT ty with
    | none => simp only [e1, e2] at p; exact p.elim
    | some k =>
      simp only [e1, e2] at p;cases e3 : valT kvs k with
      | none => simp only [e3] at p; exact p.elim
      | some t =>
        simp only [e3] at p;obtain ⟨a, o, rfl, g, q1, _⟩ := znd r dx dy e1 e2;obtain ⟨v, rfl, dv⟩ := q1 t e3;exact ⟨a, v, rfl, g, now p r dv⟩) h
theorem z0c : G2 E (fun y x H Q => ∃ a, x = .ref a /\ ((∃ r, DGet H a y r /\ Q (.bl r.isSome) H) \/ (y = .non /\ (∃ kvs, Rd H a (.dK kvs)) /\ Q (.bl false) H))) gDin := by
 intro ty tx W S H y x Q r dy dx p;unfold gDin at p;cases e1 : zdv S tx with
 | none => simp only [e1] at p; exact p.elim
 | some kvs =>
   simp only [e1] at p;cases e2 : keyT ty with
   | some k =>
     simp only [e2] at p;obtain ⟨a, o, rfl, g, _, q⟩ := znd r dx dy e1 e2;exact ⟨a, rfl, .inl ⟨o, g, by rw [<- q]; exact now p r (zax.mpr rfl)⟩⟩
   | none =>
     simp only [e2] at p
     split at p
     ·obtain ⟨a, ks, rfl, h1, h2⟩ := r.dict dx e1
      exact ⟨a, rfl, .inr ⟨zb7.mp dy, ⟨ks, h1⟩, now p r (zax.mpr rfl)⟩⟩
     ·exact p.elim
theorem zrw : G2 E (fun y x H Q => ∃ a o, x = .ref a /\ DGet H a y o /\ Q (.bl (!o.isSome)) H) zb8 := by
 intro ty tx W S H y x Q r dy dx p;unfold zb8 at p;cases e1 : zdv S tx with
 | none => simp only [e1] at p; exact p.elim
 | some kvs =>
   cases e2 : keyT ty with
   | none => simp only [e1, e2] at p; exact p.elim
   | some k =>
     simp only [e1, e2] at p;obtain ⟨a, o, rfl, g, _, q⟩ := znd r dx dy e1 e2;exact ⟨a, o, rfl, g, by rw [<- q]; exact now p r (zax.mpr rfl)⟩
theorem zxq (hu : X.A.units + 1 < cLine) (ha : PE X a (RE E fa)) (hb : PE X b (RE E fb)) (hm : behindInMarks .In b = false := by with_unfolding_all rfl) : PT X (.Compare a [.In] [b] pos) (RT E (tst (e2 gDin fa fb))) := zrm (zve (zxb hu ha hb) hm) fun σ H Q h => re2 z0c (zrr h)
theorem zh0 (hu : X.A.units + 1 < cLine) (ha : PE X a (RE E fa)) (hb : PE X b (RE E fb)) (hm : behindInMarks .NotIn b = false := by with_unfolding_all rfl) : PT X (.Compare a [.NotIn] [b] pos) (RT E (tst (e2 zb8 fa fb))) := zrm (zve (zq4 hu ha hb) hm) fun σ H Q h => re2 zrw (zrr h)
end
end MF
namespace MF
open PySem L2
def lstF (ts : List T) : M T := fun S => if ts.length <= 1000 then .ok (.lst ts) S else .bad
def lstC (ts : List T) : M T := fun S => if ts.length <= 1000 then .ok (.obj S.length) (S ++ [.lst ts]) else .bad
def tupF (ts : List T) : M T := fun S => if ts.length <= 1000 then .ok (.tup ts) S else .bad
def eA (g : List T -> M T) (f : DA) : DE := fun ρ => (f ρ).bind g
def zhf : DE := fun _ S => .ok (.obj S.length) (S ++ [.dic []])
section
variable {X : Cx} {E : XK} {a b c e o : Expr} {es : List Expr} {fa fb fc : DE} {ta tb : DT} {fr : DA} {pos : Pos}
theorem reA {g : List T -> M T} {r : List V -> Hp -> VK -> Prop} (hg : ∀ (ts : List T) (W : Wd) (S : Sto) (H : Hp) (vs : List V) (Q : VK), Rep W S H -> Dens W ts vs -> Post E W (QV Q) (g ts S) -> r vs H Q) {σ : St} {H : Hp} {Q : VK}
  (h : RE E (eA g fr) σ H Q) : RA E fr σ H (fun vs H1 => r vs H1 Q) := by
 obtain ⟨W, S, ρ, rp, env, p⟩ := h;exact ⟨W, S, ρ, rp, env, (Post.bind p).imp fun ts W1 S1 H1 l1 r1 p1 vs dv => hg ts W1 S1 H1 vs Q r1 dv p1⟩
theorem zjh (h : PA X es (RA E fr)) : PE X (.List es pos) (RE E (eA lstF fr)) := zbp (zvh h) fun σ H Q q => reA (r := fun vs H Q => vs.length <= sizeLine /\ ∀ p, H p = none -> Q (.ref p) (upd H p (.lst vs))) (fun ts W S H vs Q r d p => by
 unfold lstF at p
 split at p
 ·rename_i hl; exact ⟨big (by rw [<- d.length]; exact hl), zl1 p r d⟩
 ·exact p.elim) q
theorem zhg (h : PA X es (RA E fr)) : PE X (.List es pos) (RE E (eA lstC fr)) := zbp (zvh h) fun σ H Q q => reA (r := fun vs H Q => vs.length <= sizeLine /\ ∀ p, H p = none -> Q (.ref p) (upd H p (.lst vs))) (fun ts W S H vs Q r d p => by
 unfold lstC at p
 split at p
 ·rename_i hl; exact ⟨big (by rw [<- d.length]; exact hl), zt8 p r d⟩
 ·exact p.elim) q
theorem zgc {k} (h : PA X es (RA E fr)) : PE X (.Tuple es k pos) (RE E (eA tupF fr)) := zbp (zzg h) fun σ H Q q => reA (r := fun vs H Q => vs.length <= sizeLine /\ ∀ p, H p = none -> Q (.ref p) (upd H p (.tup vs))) (fun ts W S H vs Q r d p => by
 unfold tupF at p
 split at p
 ·rename_i hl; exact ⟨big (by rw [<- d.length]; exact hl), znc p r d⟩
 ·exact p.elim) q
theorem zko : PE X (.Dict [] [] pos) (RE E zhf) := zbp ztu fun σ H Q h a ha => by
 obtain ⟨W, S, ρ, r, env, p⟩ := h;refine p (W.add a) _ Wd.add_le (r.cellNew ha (.dic []) _ ⟨[], zaj, DenK.nil'⟩) _ (zbs.mpr ⟨?_, ?_⟩)
 ·rw [r.len, Wd.add_at]
 ·rw [r.len]; exact Nat.lt_succ_self _
def gLen (t : T) : M T := fun S => match zcw S t with
 | some ts => .ok (.int ts.length) S
 | none => match t with
   | .str x => if x.length <= 1000 then .ok (.int x.length) S else .bad
   | _ => .bad
theorem zh1 {W : Wd} {t : T} {vs : List V} (h : Dens W [t] vs) : ∃ v, vs = [v] /\ Den W t v := by
 obtain ⟨v, r, rfl, h1, h2⟩ := zas.mp h;rw [za6.mp h2];exact ⟨v, rfl, h1⟩
theorem zrx {x : Str} {id : String} {p : Pos} {r : List V -> Hp -> VK -> Prop} {g : T -> M T} (hc : zf8 X (.builtin id) r) (hg : ∀ (t : T) (W : Wd) (S : Sto) (H : Hp) (v : V) (Q : VK), Rep W S H -> Den W t v -> Post E W (QV Q) (g t S) -> r [v] H Q)
  (gl : Gl X x) (hm : X.mg x = none) (hv : bootBuiltins x = some (.builtin id)) (ha : PE X e (RE E fa)) (hn : x ≠ "__name__") (hdb : (x == ("__debug__" : Str)) = false)
  (he : starEach [e] X.env = (false, eval e X.env) :: starEach [] X.env) (hpl : (backTo pos (starEach [] X.env)).any (·.1) = false) : PE X (.Call (.Name x p) [e] [] pos) (RE E (e1 g fa)) :=
 zbp (zhu hc gl hm hv (zds ha zhe he) hn hdb he hpl) fun σ H Q h => re1 (r := fun x H Q => r [x] H Q) hg h
theorem zry {x : Str} {id : String} {p : Pos} {r : List V -> Hp -> VK -> Prop} {g : T -> M T} (hc : zf8 X (.type id) r) (hg : ∀ (t : T) (W : Wd) (S : Sto) (H : Hp) (v : V) (Q : VK), Rep W S H -> Den W t v -> Post E W (QV Q) (g t S) -> r [v] H Q)
  (gl : Gl X x) (hm : X.mg x = none) (hv : bootBuiltins x = some (.type id)) (ha : PE X e (RE E fa)) (hn : x ≠ "__name__") (hdb : (x == ("__debug__" : Str)) = false)
  (he : starEach [e] X.env = (false, eval e X.env) :: starEach [] X.env) (hpl : (backTo pos (starEach [] X.env)).any (·.1) = false) : PE X (.Call (.Name x p) [e] [] pos) (RE E (e1 g fa)) :=
 zbp (zqy hc gl hm hv (zds ha zhe he) hn hdb he hpl) fun σ H Q h => re1 (r := fun x H Q => r [x] H Q) hg h
theorem z2p (K : PySem.W.Frag) (t : T) (W : Wd) (S : Sto) (H : Hp) (v : V) (Q : VK) (r : Rep W S H) (d : Den W t v) (p : Post E W (QV Q) (gLen t S)) : ∃ x n, [v] = [x] /\ LenV K x H n /\ Q (.int n) H := by
 unfold gLen at p;cases e : zcw S t with
 | some ts =>
   simp only [e] at p;obtain ⟨a, vs, rfl, h1, h2⟩ := r.seq d e;refine ⟨_, ts.length, rfl, ?_, now p r (zap.mpr rfl)⟩;rcases h1 with h1 | h1
   ·exact .inl ⟨vs, .inl h1, h2.length⟩
   ·exact .inr ⟨vs, .inl h1, h2.length⟩
 | none =>
   simp only [e] at p
   split at p
   ·split at p
    ·rename_i hl; rw [zaz.mp d]; exact ⟨_, _, rfl, ⟨big hl, rfl⟩, now p r (zap.mpr rfl)⟩
    ·exact p.elim
   ·exact p.elim
theorem zpv {p : Pos} (gl : Gl X "len") (hm : X.mg "len" = none) (ha : PE X e (RE E fa))
  (he : starEach [e] X.env = (false, eval e X.env) :: starEach [] X.env := by rfl) (hpl : (backTo pos (starEach [] X.env)).any (·.1) = false := by rfl) : PE X (.Call (.Name "len" p) [e] [] pos) (RE E (e1 gLen fa)) :=
 zrx zto (z2p X.K) gl hm PySem.boot_len ha (by decide) (by decide) he hpl
def zl3 (t : T) : M T := fun S => match t with
 | .obj k => (match S[k]? with
   | some (.dic kvs) => .ok (.int kvs.length) S
   | _ => .bad)
 | _ => .bad
theorem zvv {p : Pos} (gl : Gl X "len") (hm : X.mg "len" = none) (ha : PE X e (RE E fa))
  (he : starEach [e] X.env = (false, eval e X.env) :: starEach [] X.env := by rfl) (hpl : (backTo pos (starEach [] X.env)).any (·.1) = false := by rfl) : PE X (.Call (.Name "len" p) [e] [] pos) (RE E (e1 zl3 fa)) :=
 zrx zra (fun t W S H v Q r d p => by
  unfold zl3 at p
  split at p
  ·rename_i k
   split at p
   ·rename_i kvs e
    obtain ⟨rfl, _⟩ := zbs.mp d;obtain ⟨⟨ks, h1, h2⟩, _⟩ := r.cell k _ e;exact ⟨_, ks, rfl, h1, by rw [<- h2.length]; exact now p r (zap.mpr rfl)⟩
   ·exact p.elim
  ·exact p.elim) gl hm PySem.boot_len ha (by decide) (by decide) he hpl
def kT : Key -> T
 | .inl i => .int i
 | .inr x => .str x
theorem z0d {W : Wd} (k : Key) : Den W (kT k) (kV k) := by
 cases k with
 | inl i => exact zap.mpr rfl
 | inr i => exact zaz.mpr rfl
def zff (S : Sto) (t : T) : Option (List T) := match zcw S t with
 | some ts => some ts
 | none => (zdv S t).map fun kvs => kvs.map fun p => kT p.1
def zne (t : T) : M T := fun S => match zff S t with
 | some ts => .ok (.lst ts) S
 | none => .bad
theorem zoj {W : Wd} : ∀ {kvs : List (Key × T)} {ks : List (Key × V)}, DenK W kvs ks -> Dens W (kvs.map fun p => kT p.1) (ks.map fun p => kV p.1)
 | [], ks, h => by rw [zck.mp h]; exact Dens.nil'
 | (k, t) :: kvs, ks, h => by
   obtain ⟨v, r, rfl, h1, h2⟩ := zbv.mp h;exact Dens.cons' (z0d k) (zoj h2)
abbrev z2q (K : PySem.W.Frag) : List V -> Hp -> VK -> Prop := fun xs H Q => (∃ p ys, xs = [.ref p] /\ (SqL K H p ys \/ SqT K H p ys) /\ ∀ l, H l = none -> Q (.ref l) (upd H l (.lst ys))) \/
 (∃ a kvs, xs = [.ref a] /\ Rd H a (.dK kvs) /\ ∀ l, H l = none -> Q (.ref l) (upd H l (.lst (kvs.map fun p => kV p.1))))
theorem zub {K : PySem.W.Frag} {W : Wd} {S : Sto} {H : Hp} {t : T} {v : V} {ts : List T} {Q : VK} (r : Rep W S H) (d : Den W t v) (e : zff S t = some ts) (h : ∀ vs, Dens W ts vs -> ∀ l, H l = none -> Q (.ref l) (upd H l (.lst vs))) : z2q K [v] H Q := by
 unfold zff at e;cases e1 : zcw S t with
 | some us =>
   simp only [e1] at e;cases e;obtain ⟨a, vs, rfl, h1, h2⟩ := r.seq d e1;refine .inl ⟨a, vs, rfl, ?_, h vs h2⟩;rcases h1 with h1 | h1
   ·exact .inl (.inl h1)
   ·exact .inr (.inl h1)
 | none =>
   simp only [e1] at e;obtain ⟨kvs, e2, rfl⟩ := Option.map_eq_some_iff.mp e;obtain ⟨a, ks, rfl, h1, h2⟩ := r.dict d e2;exact .inr ⟨a, ks, rfl, h1, h _ (zoj h2)⟩
theorem z2r : bootBuiltins "list" = some (.type "list") := by decide +kernel
theorem z0e : bootBuiltins "tuple" = some (.type "tuple") := by decide +kernel
theorem zvw {p : Pos} (hc : X.calm = true) (gl : Gl X "list") (hm : X.mg "list" = none) (ha : PE X e (RE E fa))
  (he : starEach [e] X.env = (false, eval e X.env) :: starEach [] X.env := by rfl) (hpl : (backTo pos (starEach [] X.env)).any (·.1) = false := by rfl) : PE X (.Call (.Name "list" p) [e] [] pos) (RE E (e1 zne fa)) :=
 zry (zlp.or (zjf hc)) (fun t W S H v Q r d p => by
  unfold zne at p;cases e : zff S t with
  | none => simp only [e] at p; exact p.elim
  | some ts => simp only [e] at p; exact zub r d e fun vs dv => zl1 p r dv) gl hm z2r ha (by decide) (by decide) he hpl
def zok (t : T) : M T := fun S => match zcw S t with
 | some ts => .ok (.tup ts) S
 | none => .bad
theorem zxr {p : Pos} (gl : Gl X "tuple") (hm : X.mg "tuple" = none) (ha : PE X e (RE E fa))
  (he : starEach [e] X.env = (false, eval e X.env) :: starEach [] X.env := by rfl) (hpl : (backTo pos (starEach [] X.env)).any (·.1) = false := by rfl) : PE X (.Call (.Name "tuple" p) [e] [] pos) (RE E (e1 zok fa)) :=
 zry zkh (fun t W S H v Q r d p => by
  unfold zok at p;cases t with
  | tup ts =>
    simp only [zcw] at p;obtain ⟨a, vs, rfl, h1, h2⟩ := zde.mp d;exact ⟨a, vs, rfl, .inr ⟨.inl (r.sub _ _ h1).1.rd, now p r d⟩⟩
  | lst ts =>
    simp only [zcw, zav] at p;obtain ⟨a, vs, rfl, h1, h2⟩ := r.list d rfl;exact ⟨a, vs, rfl, .inl ⟨.inl h1, znc p r h2⟩⟩
  | obj k =>
    cases e : zav S (.obj k) with
    | none => simp only [zcw, e] at p; exact p.elim
    | some ts =>
      simp only [zcw, e] at p;obtain ⟨a, vs, rfl, h1, h2⟩ := r.list d e;exact ⟨a, vs, rfl, .inl ⟨.inl h1, znc p r h2⟩⟩
  | _ => exact p.elim) gl hm z0e ha (by decide) (by decide) he hpl
inductive BT where
 | list | tuple | str | int | bool
def BT.nm : BT -> String
 | .list => "list" | .tuple => "tuple" | .str => "str" | .int => "int" | .bool => "bool"
def isaS (S : Sto) (c : BT) : T -> Option Bool
 | .non => some false
 | .bl _ => some (match c with | .bool => true | .int => true | _ => false)
 | .int _ => some (match c with | .int => true | _ => false)
 | .str _ => some (match c with | .str => true | _ => false)
 | .lst _ => some (match c with | .list => true | _ => false)
 | .tup _ => some (match c with | .tuple => true | _ => false)
 | .dic _ => none
 | .obj k => match S[k]? with
   | some (.lst _) => some (match c with | .list => true | _ => false)
   | _ => none
def gIsa (c : BT) (t : T) : M T := fun S => match isaS S c t with
 | some b => .ok (.bl b) S
 | none => .bad
theorem znf : bootBuiltins "isinstance" = some (.builtin "isinstance") := by decide +kernel
theorem tyL {K : PySem.W.Frag} {H : Hp} {a : Addr} {vs : List V} (h : Rd H a (.lst vs)) : TyOf K H (.ref a) (.type "list") := by
 rcases h with h | ⟨o, h⟩
 ·exact .lst h
 ·exact .frz h
theorem z0f {p q : Pos} {y : Str} (c : BT) (gl : Gl X "isinstance") (hm : X.mg "isinstance" = none) (ha : PE X e (RE E fa)) (gy : Gl X y) (my : X.mg y = none) (by_ : bootBuiltins y = some (.type c.nm)) (ny : y ≠ "__name__" := by decide) (dy : (y == ("__debug__" : Str)) = false := by decide)
  (he : starEach [e, .Name y q] X.env = (false, eval e X.env) :: starEach [.Name y q] X.env := by rfl) (he2 : starEach [.Name y q] X.env = (false, eval (.Name y q) X.env) :: starEach [] X.env := by rfl) (hpl : (backTo pos (starEach [.Name y q] X.env)).any (·.1) = false := by rfl) :
  PE X (.Call (.Name "isinstance" p) [e, .Name y q] [] pos) (RE E (e1 (gIsa c) fa)) :=
 zbp (zhu zm6 gl hm znf (zds ha (zds (zqj (v := .ty c.nm) gy my by_ rfl ny dy) zhe he2) he) (by decide) (by decide) he hpl) fun σ H Q h =>
  re1 (r := fun x H Q => ∃ x' c' cu t b, [x, .ty c.nm] = [x', c'] /\ RelV c' cu /\ (∀ u, RelV c' u -> u = cu) /\ TyOf X.K H x' t /\ PySem.W.kitOne X.K t cu = some b /\ Q (.bl b) H) (fun t W S H v Q r d p => by
   have go : ∀ {ty : Value} {b : Bool}, Post E W (QV Q) (.ok (.bl b) S) -> TyOf X.K H v ty -> PySem.W.kitOne X.K ty (.type c.nm) = some b -> ∃ x' c' cu t b, [v, .ty c.nm] = [x', c'] /\ RelV c' cu /\ (∀ u, RelV c' u -> u = cu) /\ TyOf X.K H x' t /\ PySem.W.kitOne X.K t cu = some b /\ Q (.bl b) H :=
    fun p ht hk => ⟨_, _, _, _, _, rfl, rfl, (fun u z => z), ht, hk, now p r (zax.mpr rfl)⟩
   unfold gIsa at p;cases t with
   | non => rw [zb7.mp d] at go ⊢; cases c <;> exact go p .non rfl
   | bl b => rw [zax.mp d] at go ⊢; cases c <;> exact go p (.bl b) rfl
   | int b => rw [zap.mp d] at go ⊢; cases c <;> exact go p (.int b) rfl
   | str b => rw [zaz.mp d] at go ⊢; cases c <;> exact go p (.str b) rfl
   | lst ts => obtain ⟨a, vs, rfl, h1, h2⟩ := r.list d rfl; cases c <;> exact go p (tyL h1) rfl
   | tup ts =>
     obtain ⟨a, vs, rfl, h1, h2⟩ := zde.mp d;cases c <;> exact go p (.tup (r.sub _ _ h1).1.tup) rfl
   | dic _ => exact p.elim
   | obj k =>
     obtain ⟨rfl, _⟩ := zbs.mp d;cases e : S[k]? with
     | none => simp only [isaS, e] at p; exact p.elim
     | some cl =>
       cases cl with
       | lst ts =>
         simp only [isaS, e] at p;obtain ⟨⟨vs, h1, h2⟩, _⟩ := r.cell k _ e;cases c <;> exact go p (.lst h1) rfl
       | dic _ => simp only [isaS, e] at p; exact p.elim
       | ins _ _ => simp only [isaS, e] at p; exact p.elim
       | exc _ _ => simp only [isaS, e] at p; exact p.elim
       | lck _ => simp only [isaS, e] at p; exact p.elim) h
end
end MF
namespace MF
open PySem L2
def zji (f : Str) (v : T) : List (Str × T) -> List (Str × T)
 | [] => [(f, v)]
 | (g, x) :: r => if g = f then (g, v) :: r else (g, x) :: zji f v r
theorem DenF.look {W : Wd} {f : Str} : ∀ {fs : List (Str × T)} {ks : List (Str × V)}, DenF W fs ks -> (∀ t, fs.lookup f = some t -> ∃ v, ks.lookup f = some v /\ Den W t v) /\ (fs.lookup f = none -> ks.lookup f = none)
 | [], ks, h => by rw [show ks = [] from h]; exact ⟨(fun t e => by cases e), fun _ => rfl⟩
 | (g, t) :: fs, ks, h => by
   obtain ⟨v, r, rfl, h1, h2⟩ := h;have ih := DenF.look (f := f) h2;by_cases e : f = g
   ·have b : (f == g) = true := beq_iff_eq.mpr e
    simp only [List.lookup, b];exact ⟨fun t' e' => by cases e'; exact ⟨v, rfl, h1⟩, fun z => by cases z⟩
   ·have b : (f == g) = false := beq_eq_false_iff_ne.mpr e
    simp only [List.lookup, b];exact ih
theorem DenF.put {W : Wd} {f : Str} {t0 : T} {v0 : V} (d : Den W t0 v0) : ∀ {fs : List (Str × T)} {ks : List (Str × V)}, DenF W fs ks -> DenF W (zji f t0 fs) (putF f v0 ks)
 | [], ks, h => by rw [show ks = [] from h]; exact ⟨_, _, rfl, d, rfl⟩
 | (g, t) :: fs, ks, h => by
   obtain ⟨v, r, rfl, h1, h2⟩ := h;have ih := DenF.put (f := f) d h2;rw [show zji f t0 ((g, t) :: fs) = (if g = f then (g, t0) :: fs else (g, t) :: zji f t0 fs) from rfl, show putF f v0 ((g, v) :: r) = (if g = f then (g, v0) :: r else (g, v) :: putF f v0 r) from rfl];by_cases e : g = f
   ·rw [if_pos e, if_pos e]; exact ⟨_, _, rfl, d, h2⟩
   ·rw [if_neg e, if_neg e]; exact ⟨_, _, rfl, h1, ih⟩
def ze9 (S : Sto) (C : Addr) : T -> Option (Nat × List (Str × T))
 | .obj k => match S[k]? with
   | some (.ins C' fs) => if C' = C then some (k, fs) else none
   | _ => none
 | _ => none
theorem Rep.inst {W : Wd} {S : Sto} {H : Hp} (r : Rep W S H) {C : Addr} {t : T} {v : V} {k : Nat} {fs : List (Str × T)} (d : Den W t v) (h : ze9 S C t = some (k, fs)) :
  ∃ dx ks, v = .ref (W.μ k) /\ S[k]? = some (.ins C fs) /\ H (W.μ k) = some (.ins C dx ks) /\ DenF W fs ks := by
 cases t with
 | obj j =>
   obtain ⟨rfl, hj⟩ := zbs.mp d;unfold ze9 at h;cases e : S[j]? with
   | none => simp [e] at h
   | some c =>
     cases c with
     | ins C' fs' =>
       simp only [e] at h
       split at h
       ·rename_i hc
        cases h;subst hc;obtain ⟨⟨dx, ks, h1, h2⟩, _⟩ := r.cell _ _ e;exact ⟨dx, ks, rfl, e, h1, h2⟩
       ·cases h
     | lst _ => simp [e] at h
     | dic _ => simp [e] at h
     | exc _ _ => simp [e] at h
     | lck _ => simp [e] at h
 | _ => simp [ze9] at h
def gFld (C : Addr) (f : Str) (t : T) : M T := fun S => match ze9 S C t with
 | some (_, fs) => (match fs.lookup f with
   | some u => .ok u S
   | none => .bad)
 | none => .bad
def zgd (C : Addr) (f : Str) (fo fv : DE) : DS := fun ρ => (fv ρ).bind fun t => (fo ρ).bind fun o => fun S => match ze9 S C o with
 | some (k, fs) => if fs.length < 900 then .ok (.nx ρ) (S.set k (.ins C (zji f t fs))) else .bad
 | none => .bad
def zng (fd fk fv : DE) : DS := fun ρ => (fv ρ).bind fun t => (fd ρ).bind fun d => (fk ρ).bind fun k => fun S => match d, keyT k with
 | .obj j, some key => (match S[j]? with
   | some (.dic kvs) => if kvs.length <= 900 then .ok (.nx ρ) (S.set j (.dic (putT kvs key t))) else .bad
   | _ => .bad)
 | _, _ => .bad
def z34 (fl fi fv : DE) : DS := fun ρ => (fv ρ).bind fun t => (fl ρ).bind fun l => (fi ρ).bind fun i => fun S => match l, i with
 | .obj j, .int n => (match S[j]? with
   | some (.lst ts) => (match ixN ts.length n with
     | some m => .ok (.nx ρ) (S.set j (.lst (ts.set m t)))
     | none => .bad)
   | _ => .bad)
 | _, _ => .bad
section
variable {X : Cx} {E : XK} {a b c e o i value : Expr} {es : List Expr} {fa fb fc fo fv fi : DE} {ta tb : DT} {fr : DA} {pos pos' : Pos} {f : Str} {C : Addr}
theorem zfa (cl : Cls X.K C) (na : zcq X.K C f) (ha : PE X e (RE E fa)) (hb : attributeBase e f X.env (eval e X.env) = eval e X.env := by rfl) : PE X (.Attribute e f pos) (RE E (e1 (gFld C f) fa)) :=
 zbp (zze ha hb) fun σ H Q h => re1 (r := fun x H1 Q => ∃ a C dx fs v, x = .ref a /\ H1 a = some (.ins C dx fs) /\ Cls X.K C /\ zcq X.K C f /\ fs.lookup f = some v /\ Q v H1) (fun t W S H v Q r d p => by
  unfold gFld at p;cases e : ze9 S C t with
  | none => simp only [e] at p; exact p.elim
  | some q =>
    obtain ⟨k, fs⟩ := q;simp only [e] at p;cases e2 : fs.lookup f with
    | none => simp only [e2] at p; exact p.elim
    | some u =>
      simp only [e2] at p;obtain ⟨dx, ks, rfl, h0, h1, h2⟩ := r.inst d e;obtain ⟨v, e3, dv⟩ := h2.look.1 u e2;exact ⟨_, C, dx, ks, v, rfl, h1, cl, na, e3, now p r dv⟩) h
theorem zg4 (cl : Cls X.K C) (na : zcq X.K C f) (ho : PE X o (RE E fo)) (hv : PE X value (RE E fv)) (hs : swapsWith value (some (.Attribute o f pos')) pos.line X.env = pure false := by rfl) : PS X (.Assign [.Attribute o f pos'] value pos) (RS E (zgd C f fo fv)) :=
 zg3 (zzf ho hv hs) fun D σ H h => by
  obtain ⟨W, S, ρ, rp, env, p⟩ := h;refine ⟨W, S, ρ, rp, env, (Post.bind p).imp fun t W1 S1 H1 l1 r1 p1 y dy => ?_⟩;refine ⟨W1, S1, ρ, r1, env.mono l1, (Post.bind p1).imp fun o W2 S2 H2 l2 r2 p2 x dx => ?_⟩;cases e : ze9 S2 C o with
  | none => simp only [e] at p2; exact p2.elim
  | some q =>
    obtain ⟨k, fs⟩ := q;simp only [e] at p2
    split at p2
    ·rename_i hl
     obtain ⟨d', ks, rfl, h0, h1, h2⟩ := r2.inst dx e;refine ⟨_, C, d', ks, rfl, h1, cl, na, by rw [<- h2.length]; omega, ?_⟩;exact p2 W2 _ (Wd.le.refl _) (r2.cellSet h0 _ _ ⟨d', _, zaj, h2.put (Den.mono l2 _ _ dy)⟩) σ (env.mono (l1.trans l2))
    ·exact p2.elim
theorem zol (hu : X.A.units + 1 < cLine) (ho : PE X o (RE E fo)) (hi : PE X i (RE E fi)) (hv : PE X value (RE E fv)) (hs : swapsWith value (some (.Subscript o i pos')) pos.line X.env = pure false := by rfl) : PS X (.Assign [.Subscript o i pos'] value pos) (RS E (zng fo fi fv)) :=
 zg3 (zwz hu ho hi hv hs) fun D σ H h => by
  obtain ⟨W, S, ρ, rp, env, p⟩ := h;refine ⟨W, S, ρ, rp, env, (Post.bind p).imp fun t W1 S1 H1 l1 r1 p1 v dv => ?_⟩;refine ⟨W1, S1, ρ, r1, env.mono l1, (Post.bind p1).imp fun d W2 S2 H2 l2 r2 p2 x dx => ?_⟩;refine ⟨W2, S2, ρ, r2, env.mono (l1.trans l2), (Post.bind p2).imp fun k W3 S3 H3 l3 r3 p3 y dy => ?_⟩;have dx := Den.mono l3 _ _ dx;have dv := Den.mono (l2.trans l3) _ _ dv
  split at p3
  ·rename_i e2
   split at p3
   ·rename_i kvs e
    split at p3
    ·rename_i hl
     obtain ⟨rfl, _⟩ := zbs.mp dx;obtain ⟨⟨ks, h1, h2⟩, _⟩ := r3.cell _ _ e;refine ⟨_, _, rfl, .inl ⟨ks, _, h1, zoi dy ‹keyT k = some _›, zlr (by rw [<- h2.length]; omega), rfl⟩, ?_⟩;exact p3 W3 _ (Wd.le.refl _) (r3.cellSet e _ _ ⟨_, zaj, h2.put dv _⟩) σ (env.mono (l1.trans (l2.trans l3)))
    ·exact p3.elim
   ·exact p3.elim
  ·exact p3.elim
def eMt (ok : Sto -> T -> Bool) (g : T -> List T -> M T) (fo : DE) (fr : DA) : DE := fun ρ => (fo ρ).bind fun t => fun S => if ok S t = true then ((fr ρ).bind fun ts => g t ts) S else .bad
def okL (S : Sto) (t : T) : Bool := (zav S t).isSome
def okS (_ : Sto) : T -> Bool
 | .str _ => true
 | _ => false
def GM (E : XK) (r : V -> List V -> Hp -> VK -> Prop) (g : T -> List T -> M T) : Prop := ∀ (t : T) (ts : List T) (W : Wd) (S : Sto) (H : Hp) (v : V) (vs : List V) (Q : VK), Rep W S H -> Den W t v -> Dens W ts vs -> Post E W (QV Q) (g t ts S) -> r v vs H Q
theorem zrz {K : PySem.W.Frag} {W : Wd} {S : Sto} {H : Hp} {t : T} {v : V} (r : Rep W S H) (d : Den W t v) (h : okL S t = true) : tyV K "list" v H := by
 obtain ⟨ts, e⟩ := Option.isSome_iff_exists.mp h;obtain ⟨a, vs, rfl, h1, _⟩ := r.list d e;exact .inl ⟨rfl, vs, .inl h1⟩
theorem z0g {K : PySem.W.Frag} {W : Wd} {S : Sto} {H : Hp} {t : T} {v : V} (r : Rep W S H) (d : Den W t v) (h : okS S t = true) : tyV K "str" v H := by
 cases t with
 | str x => rw [zaz.mp d]; exact rfl
 | _ => cases h
theorem e_mt {ok : Sto -> T -> Bool} {T' id : String} {name : Str} {r : V -> List V -> Hp -> VK -> Prop} {g : T -> List T -> M T} {apos : Pos} (pa : PlainAttrs T') (slot : Slot T' name id) (hty : typeOf (.builtin id) = pure (.type "method_descriptor")) (hm : MtR X id r)
  (hok : ∀ {W : Wd} {S : Sto} {H : Hp} {t : T} {v : V}, Rep W S H -> Den W t v -> ok S t = true -> tyV X.K T' v H) (hg : GM E r g) (ho : PE X o (RE E fo)) (ha : PA X (e :: es) (RA E fr))
  (hbase : attributeBase o name X.env (eval o X.env) = eval o X.env := by rfl)
  (hfew : ((backTo pos (starEach (e :: es) X.env)).all (fun x => !x.1) && (backToKw pos (keywordEach [] X.env)).all (fun x => x.1.isSome)
   && decide ((e :: es).length + ([] : List Keyword).length + (if ([] : List Keyword).isEmpty then 0 else 1) < 30)) = true := by rfl)
  (hline : (apos.endLine == pos.line) = true := by rfl) (hs : starEach (e :: es) X.env = (false, eval e X.env) :: starEach es X.env := by rfl) (hplain : (backTo pos (starEach es X.env)).any (·.1) = false := by rfl) :
  PE X (.Call (.Attribute o name apos) (e :: es) [] pos) (RE E (eMt ok g fo fr)) :=
 zbp (z2f pa slot hty hm ho ha hbase hfew hline hs hplain) fun σ H Q h => by
  obtain ⟨W, S, ρ, rp, env, p⟩ := h;refine ⟨W, S, ρ, rp, env, (Post.bind p).imp fun t W1 S1 H1 l1 r1 p1 v dv => ?_⟩
  split at p1
  ·rename_i h
   refine ⟨hok r1 dv h, W1, S1, ρ, r1, env.mono l1, (Post.bind p1).imp fun ts W2 S2 H2 l2 r2 p2 vs dvs => ?_⟩;exact hg t ts W2 S2 H2 v vs Q r2 (Den.mono l2 _ _ dv) dvs p2
  ·exact p1.elim
theorem z2s {ok : Sto -> T -> Bool} {T' id : String} {name : Str} {r : V -> List V -> Hp -> VK -> Prop} {g : T -> List T -> M T} {apos : Pos} (pa : PlainAttrs T') (slot : Slot T' name id) (hty : typeOf (.builtin id) = pure (.type "method_descriptor")) (hm : MtR X id r)
  (hok : ∀ {W : Wd} {S : Sto} {H : Hp} {t : T} {v : V}, Rep W S H -> Den W t v -> ok S t = true -> tyV X.K T' v H) (hg : GM E r g) (ho : PE X o (RE E fo))
  (hbase : attributeBase o name X.env (eval o X.env) = eval o X.env := by rfl) (hline : (apos.endLine == pos.line) = true := by rfl) :
  PE X (.Call (.Attribute o name apos) [] [] pos) (RE E (eMt ok g fo aNil)) :=
 zbp (zzp pa slot hty hm ho hbase hline) fun σ H Q h => by
  obtain ⟨W, S, ρ, rp, env, p⟩ := h;refine ⟨W, S, ρ, rp, env, (Post.bind p).imp fun t W1 S1 H1 l1 r1 p1 v dv => ?_⟩
  split at p1
  ·rename_i h
   exact ⟨hok r1 dv h, hg t [] W1 S1 H1 v [] Q r1 dv Dens.nil' p1⟩
  ·exact p1.elim
def cellL (S : Sto) : T -> Option (Nat × List T)
 | .obj k => match S[k]? with
   | some (.lst ts) => some (k, ts)
   | _ => none
 | _ => none
theorem Rep.cellL {W : Wd} {S : Sto} {H : Hp} (r : Rep W S H) {t : T} {v : V} {k : Nat} {ts : List T} (d : Den W t v) (h : cellL S t = some (k, ts)) : ∃ vs, v = .ref (W.μ k) /\ S[k]? = some (.lst ts) /\ H (W.μ k) = some (.lst vs) /\ Dens W ts vs := by
 cases t with
 | obj j =>
   obtain ⟨rfl, hj⟩ := zbs.mp d;unfold MF.cellL at h;cases e : S[j]? with
   | none => simp [e] at h
   | some c =>
     cases c with
     | lst us =>
       simp only [e] at h;cases h;obtain ⟨⟨vs, h1, h2⟩, _⟩ := r.cell _ _ e;exact ⟨vs, rfl, e, h1, h2⟩
     | dic _ => simp [e] at h
     | ins _ _ => simp [e] at h
     | exc _ _ => simp [e] at h
     | lck _ => simp [e] at h
 | _ => simp [MF.cellL] at h
def gApp (t : T) (as : List T) : M T := fun S => match cellL S t, as with
 | some (k, ts), [y] => if ts.length < 1000 then .ok .non (S.set k (.lst (ts ++ [y]))) else .bad
 | _, _ => .bad
def gExt (t : T) (as : List T) : M T := fun S => match cellL S t, as with
 | some (k, ts), [y] => (match zav S y with
   | some us => if ts.length + us.length <= 1000 then .ok .non (S.set k (.lst (ts ++ us))) else .bad
   | none => .bad)
 | _, _ => .bad
def z3d (t : T) (as : List T) : M T := fun S => match cellL S t, as with
 | some (k, _), [] => .ok .non (S.set k (.lst []))
 | _, _ => .bad
def gPop (t : T) (as : List T) : M T := fun S => match cellL S t, as with
 | some (k, ts), [] => (match ts[ts.length - 1]? with
   | some y => .ok y (S.set k (.lst ts.dropLast))
   | none => .bad)
 | _, _ => .bad
theorem z0h : GM E zq7 gApp := by
 intro t as W S H v vs Q r d da p;unfold gApp at p
 split at p
 ·rename_i k ts y e
  split at p
  ·rename_i hl
   obtain ⟨us, rfl, h0, h1, h2⟩ := r.cellL d e;obtain ⟨w, rfl, dw⟩ := zh1 da;exact ⟨_, us, w, rfl, rfl, h1, Nat.lt_of_lt_of_le (by rw [<- h2.length]; exact hl) (big (Nat.le_refl _)), p W _ (Wd.le.refl _) (r.cellSet h0 _ _ ⟨_, zaj, h2.append (Dens.cons' dw Dens.nil')⟩) _ (zb7.mpr rfl)⟩
  ·exact p.elim
 ·exact p.elim
def zom : V -> List V -> Hp -> VK -> Prop := fun x vs H Q => ∃ l b xs zs, x = .ref l /\ vs = [.ref b] /\ H l = some (.lst xs) /\ Rd H b (.lst zs) /\ xs.length + zs.length <= sizeLine /\ Q .non (upd H l (.lst (xs ++ zs)))
theorem zpw : MtR X "list.extend" zom := by
 intro pins s σ H x vs v us Q I rx rv h;obtain ⟨l, b, xs, zs, rfl, rfl, hH, hB, hz, q⟩ := h;cases rx;obtain ⟨u, rfl, ru⟩ := rv.one;cases ru;obtain ⟨z, its, n, r, hl, e⟩ := I.lstM hH;obtain ⟨z2, its2, n2, r2, e2⟩ := hB.ok I.hok;have hl2 := r2.length;have hsz : its.toArray.size + its2.toArray.size <= sizeLine := by rw [List.size_toArray, List.size_toArray]; omega
 have hlong : ¬ (!its.toArray.isEmpty && Builtin.List.listTooLong (its.toArray.size + its2.toArray.size)) = true := by
  rw [ztw hsz, Bool.and_false];exact Bool.false_ne_true
 refine call_meets F.slot_list_extend ⟨_, e, rfl⟩ F.entry_list_extend (F.args_list_extend_2 _ _)
  (AutoSeq1.list_extend_list_list_0 l its.toArray n b its2.toArray n2 hlong (by rw [List.size_toArray]; omega) (by omega)) ⟨e, e2, ?_⟩
 refine ⟨.non, _, I.lset (its' := its ++ its2) hH e (by simp) (r.append r2) ?_, rfl, q⟩;rw [List.length_append];omega
theorem z0i : GM E zom gExt := by
 intro t as W S H v vs Q r d da p;unfold gExt at p
 split at p
 ·rename_i k ts y e
  cases e2 : zav S y with
  | none => simp only [e2] at p; exact p.elim
  | some zs =>
    simp only [e2] at p
    split at p
    ·rename_i hl
     obtain ⟨us, rfl, h0, h1, h2⟩ := r.cellL d e;obtain ⟨w, rfl, dw⟩ := zh1 da;obtain ⟨b, ws, rfl, h3, h4⟩ := r.list dw e2;exact ⟨_, b, us, ws, rfl, rfl, h1, h3, big (by rw [<- h2.length, <- h4.length]; exact hl), p W _ (Wd.le.refl _) (r.cellSet h0 _ _ ⟨_, zaj, h2.append h4⟩) _ (zb7.mpr rfl)⟩
    ·exact p.elim
 ·exact p.elim
theorem Dens.dropLast {W : Wd} {ts : List T} {vs : List V} (h : Dens W ts vs) : Dens W ts.dropLast vs.dropLast := by
 rw [List.dropLast_eq_take, List.dropLast_eq_take, h.length];exact h.take _
theorem z0j : GM E rPop gPop := by
 intro t as W S H v vs Q r d da p;unfold gPop at p
 split at p
 ·rename_i k ts e
  cases e2 : ts[ts.length - 1]? with
  | none => simp only [e2] at p; exact p.elim
  | some y =>
    simp only [e2] at p;obtain ⟨us, rfl, h0, h1, h2⟩ := r.cellL d e;rw [za6.mp da];obtain ⟨w, e3, dw⟩ := h2.get e2;exact ⟨_, us, w, rfl, rfl, h1, by rw [<- h2.length]; exact e3, p W _ (Wd.le.refl _) (r.cellSet h0 _ _ ⟨_, zaj, h2.dropLast⟩) _ dw⟩
 ·exact p.elim
def zfg : List T -> Option (List Str)
 | [] => some []
 | .str x :: ts => (zfg ts).map (x :: ·)
 | _ :: _ => none
theorem zkp {W : Wd} : ∀ {ts : List T} {vs : List V} {ys : List Str}, Dens W ts vs -> zfg ts = some ys -> vs = ys.map V.str
 | [], vs, ys, h, e => by cases e; exact za6.mp h
 | t :: ts, vs, ys, h, e => by
   obtain ⟨v, r, rfl, h1, h2⟩ := zas.mp h;cases t with
   | str x =>
     simp only [zfg] at e;obtain ⟨zs, e1, rfl⟩ := Option.map_eq_some_iff.mp e;rw [zaz.mp h1, zkp h2 e1];rfl
   | _ => simp [zfg] at e
def zpx (t : T) (as : List T) : M T := fun S => match t, as with
 | .str z, [y] => (match (zav S y).bind zfg with
   | some ys => if (ys.map (·.length)).sum + ys.length * z.length <= 100000 then .ok (.str (Txt.join z ys)) S else .bad
   | none => .bad)
 | _, _ => .bad
theorem zxs (K : PySem.W.Frag) : GM E (fun x xs H Q => ∃ z l ys, x = .str z /\ xs = [.ref l] /\ SqL K H l (ys.map V.str) /\ (ys.map (·.length)).sum + ys.length * z.length <= 16777216 /\ Q (.str (Txt.join z ys)) H) zpx := by
 intro t as W S H v vs Q r d da p;unfold zpx at p
 split at p
 ·rename_i z y
  cases e : (zav S y).bind zfg with
  | none => simp only [e] at p; exact p.elim
  | some ys =>
    simp only [e] at p
    split at p
    ·rename_i hl
     obtain ⟨us, e1, e2⟩ := Option.bind_eq_some_iff.mp e;obtain ⟨w, rfl, dw⟩ := zh1 da;obtain ⟨b, ws, rfl, h3, h4⟩ := r.list dw e1;rw [zkp h4 e2] at h3;exact ⟨z, b, ys, zaz.mp d, rfl, .inl h3, by omega, now p r (zaz.mpr rfl)⟩
    ·exact p.elim
 ·exact p.elim
theorem z2t {apos : Pos} (ho : PE X o (RE E fo)) (ha : PA X [e] (RA E fr)) (hbase : attributeBase o "append" X.env (eval o X.env) = eval o X.env := by rfl)
  (hline : (apos.endLine == pos.line) = true := by rfl) (hs : starEach [e] X.env = (false, eval e X.env) :: starEach [] X.env := by rfl)
  (hfew : ((backTo pos (starEach [e] X.env)).all (fun x => !x.1) && (backToKw pos (keywordEach [] X.env)).all (fun x => x.1.isSome) && decide ([e].length + ([] : List Keyword).length + (if ([] : List Keyword).isEmpty then 0 else 1) < 30)) = true := by rfl) : PE X (.Call (.Attribute o "append" apos) [e] [] pos) (RE E (eMt okL gApp fo fr)) :=
 e_mt PySem.F.plainAttrs_list PySem.F.slot_list_append PySem.F.type_list_append zic zrz z0h ho ha hbase hfew hline hs rfl
theorem zl4 {apos : Pos} (ho : PE X o (RE E fo)) (ha : PA X [e] (RA E fr)) (hbase : attributeBase o "extend" X.env (eval o X.env) = eval o X.env := by rfl)
  (hline : (apos.endLine == pos.line) = true := by rfl) (hs : starEach [e] X.env = (false, eval e X.env) :: starEach [] X.env := by rfl)
  (hfew : ((backTo pos (starEach [e] X.env)).all (fun x => !x.1) && (backToKw pos (keywordEach [] X.env)).all (fun x => x.1.isSome) && decide ([e].length + ([] : List Keyword).length + (if ([] : List Keyword).isEmpty then 0 else 1) < 30)) = true := by rfl) : PE X (.Call (.Attribute o "extend" apos) [e] [] pos) (RE E (eMt okL gExt fo fr)) :=
 e_mt PySem.F.plainAttrs_list PySem.F.slot_list_extend PySem.F.type_list_extend zpw zrz z0i ho ha hbase hfew hline hs rfl
theorem z0k {apos : Pos} (ho : PE X o (RE E fo)) (ha : PA X [e] (RA E fr)) (hbase : attributeBase o "join" X.env (eval o X.env) = eval o X.env := by rfl)
  (hline : (apos.endLine == pos.line) = true := by rfl) (hs : starEach [e] X.env = (false, eval e X.env) :: starEach [] X.env := by rfl)
  (hfew : ((backTo pos (starEach [e] X.env)).all (fun x => !x.1) && (backToKw pos (keywordEach [] X.env)).all (fun x => x.1.isSome) && decide ([e].length + ([] : List Keyword).length + (if ([] : List Keyword).isEmpty then 0 else 1) < 30)) = true := by rfl) : PE X (.Call (.Attribute o "join" apos) [e] [] pos) (RE E (eMt okS zpx fo fr)) :=
 e_mt PySem.F.plainAttrs_str PySem.F.slot_str_join PySem.F.type_str_join zw8 z0g (zxs X.K) ho ha hbase hfew hline hs rfl
theorem z2u {apos : Pos} (ho : PE X o (RE E fo)) (hbase : attributeBase o "pop" X.env (eval o X.env) = eval o X.env := by rfl) (hline : (apos.endLine == pos.line) = true := by rfl) : PE X (.Call (.Attribute o "pop" apos) [] [] pos) (RE E (eMt okL gPop fo aNil)) :=
 z2s PySem.F.plainAttrs_list PySem.F.slot_list_pop PySem.F.type_list_pop zzq zrz z0j ho hbase hline
end
end MF
namespace MF
open PySem L2
def sNx : DS := fun ρ => M.pure (.nx ρ)
def sSeq (f g : DS) : DS := fun ρ => (f ρ).bind fun x => match x with
 | .nx ρ' => g ρ'
 | o => M.pure o
def sRet (f : DE) : DS := fun ρ => (f ρ).bind fun t => M.pure (.rt t)
def zeu (f : DE) : DS := fun ρ => (f ρ).bind fun _ => M.pure (.nx ρ)
def sSet (i : Nat) (f : DE) : DS := fun ρ => (f ρ).bind fun t => M.pure (.nx (ρ.set i (some t)))
def sIf (c : DT) (f g : DS) : DS := fun ρ => (c ρ).bind fun b => if b = true then f ρ else g ρ
theorem zkq {α : Type} {E : XK} {W W' : Wd} {Q : α -> Wd -> Sto -> Hp -> Prop} {r : R α} (h : Post E W Q r) (l : W.le W') : Post E W' Q r := by
 cases r with
 | ok a S => exact fun W2 H2 l2 rp => h W2 H2 (l.trans l2) rp
 | exc C fs S => exact fun W2 H2 dx l2 rp => h W2 H2 dx (l.trans l2) rp
 | bad => exact h
section
variable {X : Cx} {E : XK} {a b c e o : Expr} {es : List Expr} {fa fb fc : DE} {tc : DT} {fr : DA} {pos : Pos} {st : Stmt} {rest sa sb : List Stmt} {f g : DS}
theorem z2v {D : Ends} {σ : St} {H : Hp} (h : RS E sNx D σ H) : D.nx σ H := by
 obtain ⟨W, S, ρ, rp, env, p⟩ := h;exact p W H (Wd.le.refl _) rp σ env
theorem zbx : PSs X [] (RS E sNx) := zvo zwk fun D σ H h => z2v h
theorem z0l {D : Ends} {σ : St} {H : Hp} (h : RS E (sSeq f g) D σ H) : tSeq (RS E f) (RS E g) D σ H := by
 obtain ⟨W, S, ρ, rp, env, p⟩ := h;refine ⟨W, S, ρ, rp, env, (Post.bind p).imp fun x W1 S1 H1 l1 r1 p1 => ?_⟩;cases x with
 | nx ρ' => exact fun σ' e' => ⟨W1, S1, ρ', r1, e', p1⟩
 | rt t => exact p1 W1 H1 (Wd.le.refl _) r1
 | bk ρ' => exact p1 W1 H1 (Wd.le.refl _) r1
 | ct ρ' => exact p1 W1 H1 (Wd.le.refl _) r1
theorem zae (h1 : PS X st (RS E f)) (h2 : PSs X rest (RS E g)) : PSs X (st :: rest) (RS E (sSeq f g)) := zvo (zke h1 h2) fun D σ H h => z0l h
theorem zak (h1 : PS X st (RS E f)) : PSs X [st] (RS E f) := zqk h1
theorem zcx (ha : PE X e (RE E fa)) : PS X (.Return (some e) pos) (RS E (sRet fa)) := zg3 (zyy ha) fun D σ H h => by
 obtain ⟨W, S, ρ, rp, env, p⟩ := h;exact ⟨W, S, ρ, rp, env, (Post.bind p).imp fun t W1 S1 H1 l1 r1 p1 v dv => p1 W1 H1 (Wd.le.refl _) r1 v dv⟩
theorem zdu (ha : PE X e (RE E fa)) (hs : swapsWith e none pos.line X.env = pure false := by rfl) : PS X (.Expr e pos) (RS E (zeu fa)) := zg3 (zql ha hs) fun D σ H h => by
 obtain ⟨W, S, ρ, rp, env, p⟩ := h;exact ⟨W, S, ρ, rp, env, (Post.bind p).imp fun t W1 S1 H1 l1 r1 p1 v dv => p1 W1 H1 (Wd.le.refl _) r1 σ (env.mono l1)⟩
theorem zr0 {i : Nat} {D : Ends} {σ : St} {H : Hp} (h : RS E (sSet i fa) D σ H) : tAsg (RE E fa) (zld i) D σ H := by
 obtain ⟨W, S, ρ, rp, env, p⟩ := h;exact ⟨W, S, ρ, rp, env, (Post.bind p).imp fun t W1 S1 H1 l1 r1 p1 v dv => p1 W1 H1 (Wd.le.refl _) r1 _ ((env.mono l1).set dv i)⟩
theorem zcc {i : Nat} {x : Str} {pos' : Pos} (hN : X.N.Nodup) (hi : X.N[i]? = some x) (hx : Loc X.env.scope x) (he : PE X e (RE E fa)) (hs : swapsWith e (some (.Name x pos')) pos.line X.env = pure false := by rfl) (hf : X.fn x = true \/ X.env.scope.names.lookup x = some .local := by first | exact .inl rfl | exact .inr rfl | assumption)
 (hkn : ∀ u : V, X.kn[i]? ≠ some (some u) := by first | assumption | exact fun u h => nomatch (show (none : Option (Option V)) = some (some u) from h) | exact fun u h => nomatch (Option.some.inj (show some (none : Option V) = some (some u) from h))) :
 PS X (.Assign [.Name x pos'] e pos) (RS E (sSet i fa)) := zg3 (zyz hN hi hx he hs hf hkn) fun D σ H h => zr0 h
theorem s_if (hc : PT X c (RT E tc)) (ha : PSs X sa (RS E f)) (hb : PSs X sb (RS E g)) : PS X (.If c sa sb pos) (RS E (sIf tc f g)) := zg3 (z12 hc ha hb) fun D σ H h => by
 obtain ⟨W, S, ρ, rp, env, p⟩ := h;refine ⟨W, S, ρ, rp, env, (Post.bind p).imp fun k W1 S1 H1 l1 r1 p1 => ?_⟩;cases k with
 | true => exact iteT ⟨W1, S1, ρ, r1, env.mono l1, p1⟩
 | false => exact iteF ⟨W1, S1, ρ, r1, env.mono l1, p1⟩
abbrev DG := T -> Ev -> Option Ev
def GT (gl : TG) (g : DG) : Prop := ∀ (W : Wd) (S : Sto) (H : Hp) (t : T) (x : V) (ρ ρ2 : Ev) (σ : St) (Q : St -> Hp -> Prop), Rep W S H -> Den W t x -> zau W ρ σ -> g t ρ = some ρ2 -> (∀ σ2, zau W ρ2 σ2 -> Q σ2 H) -> gl x σ H Q
def zat (i : Nat) : DG := fun t ρ => some (ρ.set i (some t))
theorem zco (i : Nat) : GT (zld i) (zat i) := fun W S H t x ρ ρ2 σ Q r d env e h => by
 cases e;exact h _ (env.set d i)
def z35 (i j : Nat) : DG := fun t ρ => match t with
 | .tup [a, b] => some ((ρ.set i (some a)).set j (some b))
 | _ => none
structure ItOk (W1 : Wd) (ts : List T) (st : Sto -> Prop) (J : It) : Prop where
 go : ∀ i W' S' H', W1.le W' -> Rep W' S' H' -> st S' -> i < ts.length -> J.go i H' /\ ∀ x H'', J.yld i H' x H'' -> ∃ W'' t, W'.le W'' /\ Rep W'' S' H'' /\ ts[i]? = some t /\ Den W'' t x
 stop : ∀ i W' S' H', W1.le W' -> Rep W' S' H' -> st S' -> i = ts.length -> J.stop i H'
abbrev DI := Ev -> M (List T × (Sto -> Prop))
def RI (E : XK) (it : DI) (wi : TI) : Prop := ∀ (σ : St) (H : Hp) (R : It -> Hp -> Prop), (∃ W S ρ, Rep W S H /\ zau W ρ σ /\ Post E W (fun q W1 S1 H1 => ∀ J W2 H2, W1.le W2 -> Rep W2 S1 H2 -> ItOk W2 q.1 q.2 J -> R J H2) (it ρ S)) -> wi σ H R
def iL (f : DE) : DI := fun ρ => (f ρ).bind fun t => fun S => match zav S t with
 | some ts => .ok (ts, fun S' => zav S' t = some ts) S
 | none => .bad
theorem zdt (K : PySem.W.Frag) : RI E (iL fa) (zy2 K (RE E fa)) := fun σ H R h => by
 obtain ⟨W, S, ρ, rp, env, p⟩ := h;refine ⟨W, S, ρ, rp, env, (Post.bind p).imp fun t W1 S1 H1 l1 r1 p1 v dv => ?_⟩;cases e : zav S1 t with
 | none => simp only [e] at p1; exact p1.elim
 | some ts =>
   simp only [e] at p1;obtain ⟨a, vs, rfl, h1, h2⟩ := r1.list dv e;refine ⟨a, rfl, ⟨vs, .inl h1⟩, p1 W1 H1 (Wd.le.refl _) r1 _ W1 H1 (Wd.le.refl _) r1 ⟨fun i W' S' H' l r' st hi => ?_, fun i W' S' H' l r' st hi => ?_⟩⟩
   ·obtain ⟨a', us, ea, g1, g2⟩ := r'.list (Den.mono l _ _ dv) st
    cases ea;have hi' : i < us.length := g2.length ▸ hi;refine ⟨⟨us, us[i], .inl g1, List.getElem?_eq_getElem hi'⟩, fun x H'' y => ?_⟩;obtain ⟨rfl, y⟩ := y;have ex := y us (.inl g1);obtain ⟨t', e1, d1⟩ := g2.get' ex;exact ⟨W', t', Wd.le.refl _, r', e1, d1⟩
   ·obtain ⟨a', us, ea, g1, g2⟩ := r'.list (Den.mono l _ _ dv) st
    cases ea;exact ⟨us, .inl g1, by rw [<- g2.length]; exact Nat.le_of_eq hi.symm⟩
def zfh (lo : Int) (n : Nat) : List T := (List.range n).map fun (k : Nat) => T.int (lo + k)
theorem zel (lo : Int) (n : Nat) : (zfh lo n).length = n := by simp [zfh]
theorem zon {lo : Int} {n i : Nat} (h : i < n) : (zfh lo n)[i]? = some (.int (lo + i)) := by simp [zfh, h]
def iR1 (f : DA) : DI := fun ρ => (f ρ).bind fun ts => fun S => match ts with
 | [.int j] => if -1000000 <= j /\ j <= 1000000 then .ok (zfh 0 j.toNat, fun _ => True) S else .bad
 | _ => .bad
theorem zuc (W : Wd) (lo : Int) (n : Nat) : ItOk W (zfh lo n) (fun _ => True) (Itr lo n) := ⟨fun i W' S' H' l r' _ hi => by
 rw [zel] at hi;refine ⟨hi, fun x H'' y => ?_⟩;obtain ⟨rfl, rfl⟩ := y;exact ⟨W', _, Wd.le.refl _, r', zon hi, zap.mpr rfl⟩, fun i W' S' H' l r' _ hi => by
 rw [zel] at hi;exact Nat.le_of_eq hi.symm⟩
theorem zgl : RI E (iR1 fr) (zy3 (RA E fr)) := fun σ H R h => by
 obtain ⟨W, S, ρ, rp, env, p⟩ := h;refine ⟨W, S, ρ, rp, env, (Post.bind p).imp fun ts W1 S1 H1 l1 r1 p1 vs dv => ?_⟩
 split at p1
 ·rename_i j
  split at p1
  ·rename_i hj
   obtain ⟨v, rfl, d1⟩ := zh1 dv;exact ⟨j, by rw [zap.mp d1], by omega, by omega, p1 W1 H1 (Wd.le.refl _) r1 _ W1 H1 (Wd.le.refl _) r1 (zuc W1 0 _)⟩
  ·exact p1.elim
 ·exact p1.elim
def iK (f : DE) : DI := fun ρ => (f ρ).bind fun t => fun S => match t with
 | .dic kvs => .ok (kvs.map fun p => kT p.1, fun _ => True) S
 | _ => .bad
def Wd.zed (W : Wd) (a : Addr) (o : Obj × HO) : Wd := ⟨W.HS, W.μ, W.n, fun b => if b = a then some o else W.Z b, W.P⟩
end
open Classical in
def zbt (st : Sto -> Prop) (g : DG) (body : DS) : List T -> Ev -> M Fl
 | [], ρ => fun S => if st S then .ok (.nx ρ) S else .bad
 | t :: ts, ρ => fun S => if st S then (match g t ρ with
   | some ρ1 => (body ρ1).bind (fun x => match x with
     | .nx ρ2 => zbt st g body ts ρ2
     | .ct ρ2 => zbt st g body ts ρ2
     | .bk ρ2 => M.pure (.nx ρ2)
     | .rt t => M.pure (.rt t)) S
   | none => .bad) else .bad
def sFor (it : DI) (g : DG) (body : DS) : DS := fun ρ => (it ρ).bind fun q => zbt q.2 g body q.1 ρ
section
variable {X : Cx} {E : XK} {tg iter : Expr} {body : List Stmt} {it : DI} {wi : TI} {gl : TG} {g : DG} {fb : DS} {pos : Pos}
theorem zud (hG : GT gl g) {D : Ends} {σ : St} {H2 : Hp} {W2 : Wd} {S1 : Sto} {ρ : Ev} {ts : List T} {st : Sto -> Prop} {J : It} (r2 : Rep W2 S1 H2) (env : zau W2 ρ σ) (ok : ItOk W2 ts st J) (p1 : Post E W2 (QF D) (zbt st g fb ts ρ S1)) :
  tFor (fun _ _ R => R J H2) gl (RS E fb) D σ H2 := by
 refine ⟨fun i m σ H => i <= ts.length /\ m = ts.length - i /\ ∃ W S ρ, W2.le W /\ Rep W S H /\ zau W ρ σ /\ Post E W (QF D) (zbt st g fb (ts.drop i) ρ S), ⟨_, Nat.zero_le _, rfl, W2, S1, ρ, Wd.le.refl _, r2, env, ?_⟩, ?_⟩
 ·rw [List.drop_zero]
  exact p1
 ·rintro i m σ H ⟨hi, rfl, W3, S3, ρ3, l3, r3, e3, p3⟩
  by_cases hlt : i < ts.length
  ·rw [List.drop_eq_getElem_cons hlt] at p3
   unfold zbt at p3
   split at p3
   ·rename_i hst
    obtain ⟨go, yl⟩ := ok.go i W3 S3 H l3 r3 hst hlt;refine .inr ⟨go, _, fun σ' H' n => ⟨ts.length - (i + 1), by omega, hlt, rfl, n⟩, fun x H' y => ?_⟩;obtain ⟨W4, t, l4, r4, et, dt⟩ := yl x H' y;rw [List.getElem?_eq_getElem hlt] at et;cases et;cases e : g ts[i] ρ3 with
    | none => simp only [e] at p3; exact p3.elim
    | some ρ4 =>
      simp only [e] at p3;refine hG W4 S3 H' _ x ρ3 ρ4 σ _ r4 dt (e3.mono l4) e fun σ2 e4 => ⟨W4, S3, ρ4, r4, e4, (Post.bind (zkq p3 l4)).imp fun fl W5 S5 H5 l5 r5 p5 => ?_⟩;cases fl with
      | nx ρ5 => exact fun σ5 e5 => ⟨W5, S5, ρ5, l3.trans (l4.trans l5), r5, e5, p5⟩
      | ct ρ5 => exact fun σ5 e5 => ⟨W5, S5, ρ5, l3.trans (l4.trans l5), r5, e5, p5⟩
      | bk ρ5 => exact p5 W5 H5 (Wd.le.refl _) r5
      | rt t => exact p5 W5 H5 (Wd.le.refl _) r5
   ·exact p3.elim
  ·have e : i = ts.length := by omega
   subst e;rw [List.drop_length] at p3;unfold zbt at p3
   split at p3
   ·rename_i hst
    exact .inl ⟨ok.stop _ W3 S3 H l3 r3 hst rfl, p3 W3 H (Wd.le.refl _) r3 σ e3⟩
   ·exact p3.elim
theorem zjj (hp : PassesOwn (model X.prog X.w) X.A X.env X.xe) (hc : X.calm = true) (hi : PI X tg iter wi) (hI : RI E it wi) (hg : PG X tg gl) (hG : GT gl g) (hb : PSs X body (RS E fb))
  (hs : ∀ x, foldedSetIterable iter X.env x = pure x := by intro _; rfl) : PS X (.For tg iter body [] pos) (RS E (sFor it g fb)) :=
 zg3 (zy4 hp hc hi hg hb hs) fun D σ H h => by
  obtain ⟨W, S, ρ, rp, env, p⟩ := h;exact hI σ H _ ⟨W, S, ρ, rp, env, (Post.bind p).imp fun q W1 S1 H1 l1 r1 p1 J W2 H2 l2 r2 ok => zud hG r2 (env.mono (l1.trans l2)) ok (zkq p1 l2)⟩
end
end MF
namespace MF
open PySem L2
def zem (c : DT) (body : DS) : Nat -> Ev -> M Fl
 | 0, _ => M.bad
 | n + 1, ρ => (c ρ).bind fun b => if b = true then (body ρ).bind (fun x => match x with
     | .nx ρ2 => zem c body n ρ2
     | .ct ρ2 => zem c body n ρ2
     | .bk ρ2 => M.pure (.nx ρ2)
     | .rt t => M.pure (.rt t)) else M.pure (.nx ρ)
def zoo (c : DT) (body : DS) : DS := zem c body 1000
section
variable {X : Cx} {E : XK} {c : Expr} {body : List Stmt} {tc : DT} {fb : DS} {pos : Pos}
theorem zxt (hp : PassesOwn (model X.prog X.w) X.A X.env X.xe) (hc : PT X c (RT E tc)) (hb : PSs X body (RS E fb)) : PS X (.While c body [] pos) (RS E (zoo tc fb)) :=
 zg3 (ztl hp hc hb) fun D σ H h => by
  obtain ⟨W, S, ρ, rp, env, p⟩ := h;refine ⟨fun m σ H => ∃ W S ρ, Rep W S H /\ zau W ρ σ /\ Post E W (QF D) (zem tc fb m ρ S), ⟨1000, W, S, ρ, rp, env, p⟩, ?_⟩;rintro m σ H ⟨W1, S1, ρ1, r1, e1, p1⟩;cases m with
  | zero => exact p1.elim
  | succ n =>
    refine ⟨W1, S1, ρ1, r1, e1, (Post.bind p1).imp fun b W2 S2 H2 l2 r2 p2 => ?_⟩;cases b with
    | false => exact iteF (p2 W2 H2 (Wd.le.refl _) r2 σ (e1.mono l2))
    | true =>
      refine iteT ⟨fun σ H => ∃ W S ρ, Rep W S H /\ zau W ρ σ /\ Post E W (QF D) (zem tc fb n ρ S), fun σ' H' q => ⟨n, Nat.lt_succ_self _, q⟩, W2, S2, ρ1, r2, e1.mono l2, ?_⟩;refine (Post.bind (show Post E W2 (QF D) (M.bind (fb ρ1) _ S2) from p2)).imp fun fl W5 S5 H5 l5 r5 p5 => ?_;cases fl with
      | nx ρ5 => exact fun σ5 e5 => ⟨W5, S5, ρ5, r5, e5, p5⟩
      | ct ρ5 => exact fun σ5 e5 => ⟨W5, S5, ρ5, r5, e5, p5⟩
      | bk ρ5 => exact p5 W5 H5 (Wd.le.refl _) r5
      | rt t => exact p5 W5 H5 (Wd.le.refl _) r5
end
def noX {α : Type} (m : M α) : M α := fun S => match m S with
 | .exc _ _ _ => .bad
 | r => r
theorem zue {α : Type} {E E' : XK} {W : Wd} {Q : α -> Wd -> Sto -> Hp -> Prop} {m : M α} {S : Sto} (h : Post E W Q (noX m S)) : Post E' W Q (m S) := by
 unfold noX at h;cases e : m S with
 | ok a S1 => rw [e] at h; exact h
 | exc C fs S1 => rw [e] at h; exact h.elim
 | bad => rw [e] at h; exact h.elim
def yesD : DT := fun _ => M.pure true
open Classical in
def zim (st : Sto -> Prop) (g : DG) (tc : DT) (te : DE) : List T -> Ev -> List T -> M (List T)
 | [], _, acc => fun S => if st S then .ok acc S else .bad
 | t :: ts, ρ, acc => fun S => if st S then (match g t ρ with
   | some ρ1 => ((tc ρ1).bind fun ok => if ok = true then (te ρ1).bind fun y => if acc.length < 1000 then zim st g tc te ts ρ1 (acc ++ [y]) else M.bad else zim st g tc te ts ρ1 acc) S
   | none => .bad) else .bad
def zev (nt : Nat) (js : List Nat) (it : DI) (g : DG) (tc : DT) (te : DE) (fin : List T -> M T) : DE := fun ρ =>
 (it ρ).bind fun q => (noX (zim q.2 g tc te q.1 (List.replicate nt none ++ js.map fun j => (ρ[j]?).join) [])).bind fin
def finF (ts : List T) : M T := M.pure (.lst ts)
theorem z0m (W : Wd) (p : Addr) : (W.unp p).le W := ⟨fun _ _ e => e, fun _ _ e => e, fun a o e => by
 have e : (if a = p then none else W.P a) = some o := e;by_cases z : a = p
 ·rw [if_pos z] at e; cases e
 ·rw [if_neg z] at e; exact e, Nat.le_refl _, fun _ _ => rfl⟩
theorem zop {W W' : Wd} (l : W.le W') (p : Addr) : (W.unp p).le (W'.unp p) := ⟨l.hs, l.z, fun a o e => by
 have e : (if a = p then none else W.P a) = some o := e;show (if a = p then none else W'.P a) = some o;by_cases z : a = p
 ·rw [if_pos z] at e; cases e
 ·rw [if_neg z] at e ⊢; exact l.p a o e, l.n, l.μ⟩
theorem zoq {W : Wd} {p : Addr} {o : HO} : (W.unp p).le ((W.priv p o).unp p) := ⟨fun _ _ e => e, fun _ _ e => e, fun a u e => by
 have e : (if a = p then none else W.P a) = some u := e;show (if a = p then none else upd W.P p o a) = some u;by_cases z : a = p
 ·rw [if_pos z] at e; cases e
 ·rw [if_neg z] at e ⊢; rw [zah z]; exact e, Nat.le_refl _, fun _ _ => rfl⟩
theorem z0n {W : Wd} {p : Addr} (h : W.P p = none) : W.le (W.unp p) := ⟨fun _ _ e => e, fun _ _ e => e, fun a u e => by
 show (if a = p then none else W.P a) = some u;rw [if_neg (fun z => by rw [z, h] at e; cases e)]; exact e, Nat.le_refl _, fun _ _ => rfl⟩
theorem zau.hs {W W' : Wd} (hs : W'.HS = W.HS) (hμ : W'.μ = W.μ) (hn : W'.n = W.n) : ∀ {ρ : Ev} {σ : St}, zau W ρ σ -> zau W' ρ σ
 | [], _, h => h
 | none :: ρ, σ, ⟨s, r, e, h1, h2⟩ => ⟨s, r, e, trivial, zau.hs hs hμ hn h2⟩
 | some t :: ρ, σ, ⟨none, r, e, h1, h2⟩ => h1.elim
 | some t :: ρ, σ, ⟨some v, r, e, h1, h2⟩ => ⟨some v, r, e, Den.hs hs hμ hn t v h1, zau.hs hs hμ hn h2⟩
def zpy (E : XK) (fin : List T -> M T) : Prop := ∀ (acc : List V) (ts : List T) (W1 W3 : Wd) (S : Sto) (H : Hp) (p : Addr) (Q : VK), W1.le (W3.unp p) -> W3.P p = some (.lst acc) -> Rep W3 S H -> Dens W3 ts acc -> Post E W1 (QV Q) (fin ts S) -> Q (.ref p) H
theorem zpz {E : XK} : zpy E finF := fun acc ts W1 W3 S H p Q l hp r d h => by
 have l2 : (W3.unp p).le ((W3.unp p).frz p (.lst acc)) := Wd.frz_le (r.prv p _ hp).2.1;have d1 : Dens (W3.unp p) ts acc := Dens.hs (W := W3) (W' := W3.unp p) rfl rfl rfl ts acc d;exact h _ _ (l.trans l2) (r.privFrz hp trivial (by intro _ z; cases z)) _ (zc8.mpr ⟨p, acc, rfl, zaj, Dens.mono l2 _ _ d1⟩)
section
variable {X : Cx} {E : XK} {elt iter c tg : Expr} {it : DI} {wi : TI} {gl : TG} {g : DG} {tc : DT} {tcl : TT} {te : DE} {fin : List T -> M T} {nt : Nat} {js : List Nat}
theorem Post.bindAt {α β : Type} {E : XK} {W W2 : Wd} {Q : β -> Wd -> Sto -> Hp -> Prop} {m : M α} {f : α -> M β} {S : Sto} (h : Post E W2 Q (M.bind m f S)) (l : W2.le W) : Post E W (fun a _ S1 _ => Post E W2 Q (f a S1)) (m S) := by
 unfold M.bind at h;cases e : m S with
 | ok a S1 => rw [e] at h; exact fun _ _ _ _ => h
 | exc C fs S1 => rw [e] at h; exact fun W' H' dx l' => h W' H' dx (l.trans l')
 | bad => rw [e] at h; exact h
theorem zr1 (hG : GT gl g) (htc : ∀ σ H Q, RT E0 tc σ H Q -> tcl σ H Q) {PF : List T -> Sto -> Prop} {σ : St} {H2 : Hp} {Q : VK} {W2 : Wd} {S1 : Sto} {ρ : Ev} {ts : List T} {st : Sto -> Prop} {J : It} (r2 : Rep W2 S1 H2) (env : zau W2 ρ σ) (ok : ItOk W2 ts st J)
  (hend : ∀ (acc : List V) (us : List T) (W3 : Wd) (S3 : Sto) (H3 : Hp) (p : Addr), W3.P p = some (.lst acc) -> Rep W3 S3 H3 -> Dens W3 us acc -> W2.le (W3.unp p) -> PF us S3 -> Q (.ref p) H3)
  (p1 : Post E0 W2 (fun res _ S' _ => PF res S') (zim st g tc te ts (List.replicate nt none ++ js.map fun j => (ρ[j]?).join) [] S1)) : zpo nt js (fun _ _ R => R J H2) gl tcl (RE E0 te) σ H2 Q := by
 intro a ha;have pn : W2.P a = none := r2.prvNone ha;refine ⟨fun i m σ2 H acc => i <= ts.length /\ m = ts.length - i /\ ∃ W3 S ρ accT, W2.le (W3.unp a) /\ W3.P a = some (.lst acc) /\ Rep W3 S H /\ zau W3 ρ σ2 /\ Dens W3 accT acc /\
  Post E0 W2 (fun res _ S' _ => PF res S') (zim st g tc te (ts.drop i) ρ accT S), ⟨_, Nat.zero_le _, rfl, W2.priv a (.lst []), S1, List.replicate nt none ++ js.map fun j => (ρ[j]?).join, [], ?_, zaj, r2.privNew ha _, ?_, Dens.nil', ?_⟩, ?_⟩
 ·exact (z0n pn).trans zoq
 ·refine zau.append (zau.nones nt (List.length_replicate ..)) ?_
  exact (zau.cap env js).mono (Wd.priv_le pn)
 ·rw [List.drop_zero]; exact p1
 ·rintro i m σ2 H acc ⟨hi, rfl, W3, S3, ρ3, accT, l3, hp, r3, e3, dacc, p3⟩
  have l23 : W2.le W3 := l3.trans (z0m W3 a);refine ⟨(r3.prv a _ hp).1, ?_⟩;by_cases hlt : i < ts.length
  ·rw [List.drop_eq_getElem_cons hlt] at p3
   unfold zim at p3
   split at p3
   ·rename_i hst
    obtain ⟨go, yl⟩ := ok.go i W3 S3 H l23 r3 hst hlt;refine .inr ⟨go, _, fun σ' H' acc' n => ⟨ts.length - (i + 1), by omega, hlt, rfl, n⟩, fun x H' y => ?_⟩;obtain ⟨W4, t, l4, r4, et, dt⟩ := yl x H' y;rw [List.getElem?_eq_getElem hlt] at et;cases et;cases e : g ts[i] ρ3 with
    | none => simp only [e] at p3; exact p3.elim
    | some ρ4 =>
      simp only [e] at p3;refine hG W4 S3 H' _ x ρ3 ρ4 σ2 _ r4 dt (e3.mono l4) e fun σ4 e4 => ?_;refine htc _ _ _ ⟨W4, S3, ρ4, r4, e4, (Post.bindAt p3 (l23.trans l4)).imp fun b W5 S5 H5 l5 r5 p5 => ?_⟩;have l35 : W3.le W5 := l4.trans l5;cases b with
      | false => exact iteF ⟨W5, S5, ρ4, accT, l3.trans (zop l35 a), l35.p a _ hp, r5, e4.mono l5, Dens.mono l35 _ _ dacc, p5⟩
      | true =>
        refine iteT ⟨W5, S5, ρ4, r5, e4.mono l5, (Post.bindAt (show Post E0 W2 _ (M.bind (te ρ4) _ S5) from p5) (l23.trans l35)).imp fun ty W6 S6 H6 l6 r6 p6 y dy => ?_⟩;have l36 : W3.le W6 := l35.trans l6;have hp6 := l36.p a _ hp
        split at p6
        ·rename_i hl
         have hla : acc.length < 1000 := by rw [<- dacc.length]; exact hl
         refine ⟨(r6.prv a _ hp6).1, Nat.lt_of_lt_of_le hla (big (Nat.le_refl _)), W6.priv a (.lst (acc ++ [y])), S6, ρ4, accT ++ [ty], (l3.trans (zop l36 a)).trans zoq, zaj, r6.privSet hp6 (by intro _ z; cases z) (by intro _ _ z; cases z) _, ?_, ?_, p6⟩
         ·exact zau.hs (W := W6) (W' := W6.priv a (.lst (acc ++ [y]))) rfl rfl rfl ((e4.mono l5).mono l6)
         ·exact Dens.hs (W := W6) (W' := W6.priv a (.lst (acc ++ [y]))) rfl rfl rfl _ _ ((Dens.mono l36 _ _ dacc).append (Dens.cons' dy Dens.nil'))
        ·exact p6.elim
   ·exact p3.elim
  ·have e : i = ts.length := by omega
   subst e;rw [List.drop_length] at p3;unfold zim at p3
   split at p3
   ·rename_i hst
    exact .inl ⟨ok.stop _ W3 S3 H l23 r3 hst rfl, hend acc accT W3 S3 H a hp r3 dacc l3 (p3 (W3.unp a) H l3 (r3.unp a (by rw [hp]; intro _ z; cases z)))⟩
   ·exact p3.elim
theorem zkr (hI : RI E it wi) (hG : GT gl g) (htc : ∀ σ H Q, RT E0 tc σ H Q -> tcl σ H Q) (hf : zpy E fin) {σ : St} {H : Hp} {Q : VK} (h : RE E (zev nt js it g tc te fin) σ H Q) : zpo nt js wi gl tcl (RE E0 te) σ H Q := by
 obtain ⟨W, S, ρ, rp, env, p⟩ := h;refine hI σ H _ ⟨W, S, ρ, rp, env, (Post.bind p).imp fun q W1 S1 H1 l1 r1 p1 J W2 H2 l2 r2 ok => ?_⟩;exact zr1 (PF := fun us S3 => Post E W2 (QV Q) (fin us S3)) hG htc r2 (env.mono (l1.trans l2)) ok (fun acc us W3 S3 H3 a hp r3 dacc l3 p4 => hf acc us W2 W3 S3 H3 a Q l3 hp r3 dacc p4) (zue (E' := E0) (Post.bindAt (zkq p1 l2) (Wd.le.refl _)))
variable {scope : Scope} {cl : List (Str × Addr)} {nts xs : List Str} {pos : Pos}
theorem z0o (hc : X.calm = true) (C : zd3 X scope cl nts xs js) (hi : PI X tg iter wi) (hI : RI E it wi) (hg : ∀ fp s3 H2, PG (zaw X scope cl (nts ++ xs) fp s3 H2) tg gl) (hG : GT gl g) (he : ∀ fp s3 H2, PE (zaw X scope cl (nts ++ xs) fp s3 H2) elt (RE E0 te)) (hf : zpy E fin)
  (hs : ∀ x, foldedSetIterable iter X.env x = pure x := by intro _; rfl) : PE X (.ListComp elt [⟨tg, iter, [], 0⟩] scope pos) (RE E (zev nts.length js it g yesD te fin)) :=
 zbp (zw7 hc C hi hg he hs) fun σ H Q h => zkr hI hG (fun σ H Q h => zrt h) hf h
theorem znh (hc : X.calm = true) (C : zd3 X scope cl nts xs js) (hi : PI X tg iter wi) (hI : RI E it wi) (hg : ∀ fp s3 H2, PG (zaw X scope cl (nts ++ xs) fp s3 H2) tg gl) (hG : GT gl g) (ht : ∀ fp s3 H2, PT (zaw X scope cl (nts ++ xs) fp s3 H2) c (RT E0 tc)) (he : ∀ fp s3 H2, PE (zaw X scope cl (nts ++ xs) fp s3 H2) elt (RE E0 te)) (hf : zpy E fin)
  (hs : ∀ x, foldedSetIterable iter X.env x = pure x := by intro _; rfl) : PE X (.ListComp elt [⟨tg, iter, [c], 0⟩] scope pos) (RE E (zev nts.length js it g tc te fin)) :=
 zbp (zt1 hc C hi hg ht he hs) fun σ H Q h => zkr hI hG (fun σ H Q h => h) hf h
theorem z0p {i : Nat} {y : Str} {py spos : Pos} (hc : X.calm = true) (C : zd3 X scope cl nts xs js) (hi : PI X tg iter wi) (hI : RI E it wi) (hg : ∀ fp s3 H2, PG (zaw X scope cl (nts ++ xs) fp s3 H2) tg gl) (hG : GT gl g) (he : ∀ fp s3 H2, PE (zaw X scope cl (nts ++ xs) fp s3 H2) elt (RE E0 te)) (hf : zpy E fin)
  (hN : X.N.Nodup) (hy : X.N[i]? = some y) (hx : Loc X.env.scope y) (hkn : ∀ u : V, X.kn[i]? ≠ some (some u)) (hff : X.fn y = true \/ X.env.scope.names.lookup y = some .local := by first | exact .inl rfl | exact .inr rfl | assumption)
  (hsw : swapsWith (.ListComp elt [⟨tg, iter, [], 0⟩] scope pos) (some (.Name y py)) spos.line X.env = pure true := by rfl)
  (hs : ∀ x, foldedSetIterable iter X.env x = pure x := by intro _; rfl) : PS X (.Assign [.Name y py] (.ListComp elt [⟨tg, iter, [], 0⟩] scope pos) spos) (RS E (sSet i (zev nts.length js it g yesD te fin))) :=
 zg3 (zpp hc C hi hg he hN hy hx hkn hff hsw hs) fun D σ H h => zkr hI hG (fun σ H Q h => zrt h) hf (zr0 h)
theorem zxu {i : Nat} {y : Str} {py spos : Pos} (hc : X.calm = true) (C : zd3 X scope cl nts xs js) (hi : PI X tg iter wi) (hI : RI E it wi) (hg : ∀ fp s3 H2, PG (zaw X scope cl (nts ++ xs) fp s3 H2) tg gl) (hG : GT gl g) (ht : ∀ fp s3 H2, PT (zaw X scope cl (nts ++ xs) fp s3 H2) c (RT E0 tc)) (he : ∀ fp s3 H2, PE (zaw X scope cl (nts ++ xs) fp s3 H2) elt (RE E0 te)) (hf : zpy E fin)
  (hN : X.N.Nodup) (hy : X.N[i]? = some y) (hx : Loc X.env.scope y) (hkn : ∀ u : V, X.kn[i]? ≠ some (some u)) (hff : X.fn y = true \/ X.env.scope.names.lookup y = some .local := by first | exact .inl rfl | exact .inr rfl | assumption)
  (hsw : swapsWith (.ListComp elt [⟨tg, iter, [c], 0⟩] scope pos) (some (.Name y py)) spos.line X.env = pure true := by rfl)
  (hs : ∀ x, foldedSetIterable iter X.env x = pure x := by intro _; rfl) : PS X (.Assign [.Name y py] (.ListComp elt [⟨tg, iter, [c], 0⟩] scope pos) spos) (RS E (sSet i (zev nts.length js it g tc te fin))) :=
 zg3 (zm9 hc C hi hg ht he hN hy hx hkn hff hsw hs) fun D σ H h => zkr hI hG (fun σ H Q h => h) hf (zr0 h)
end
end MF
namespace MF
open PySem PySem.Spec PyProof.Rows L2
abbrev Fn := List T -> M T
def spM (n : Nat) (F : Fn) : Sp := fun vs H Q E => ∃ W S ts, Rep W S H /\ Dens W ts vs /\ ts.length = n /\ Post E W (QV Q) (F ts S)
def runD (n : Nat) (d : DS) : Fn := fun ts => (d (ts.map some ++ List.replicate (n - ts.length) none)).bind fun x => match x with
 | .rt t => M.pure t
 | .nx _ => M.pure .non
 | _ => M.bad
section
variable {P : Program} {w : World} {K : PySem.W.Frag} {mg : Str -> Option Value} {base : Heap}
theorem z2w {x qual : Str} {st : Stmt} {dV : Value} {f : Addr} {fd : FuncData} {N ps : List Str} {k : Nat} {d : DS} (F : FunV K x qual st dV f fd) (S : zar N ps (zac st))
  (hbody : ∀ (cdv : Value) (A : Around) (outer : List Env) (s : Shared) (H : Hp) (E : XK), Room k (A.deeper (envOfC qual (zac st) s.heap.objs.size f cdv)) ->
   PSs (cxOf (CXE P w) P w K mg base N qual (zac st) f cdv A outer s H E) (zan st) (RS E d)) : FnOk P w K mg base (CXE P w) (k + 1) f fd ps (spM ps.length (runD N.length d)) := by
 refine F.okE S (fun vs H Q E h => ?_) fun cdv A outer s H vs Q E hr h => ⟨RS E d, hbody cdv A outer s H E hr, ?_⟩
 ·obtain ⟨W, S, ts, _, d, e, _⟩ := h
  rw [<- d.length]; exact e
 ·obtain ⟨W, S0, ts, rp, dn, e, p⟩ := h
  refine ⟨W, S0, ts.map some ++ List.replicate (N.length - ts.length) none, rp, ?_, (Post.bind p).imp fun x W1 S1 H1 l1 r1 p1 => ?_⟩
  ·unfold L2.start
   rw [<- dn.length];exact zau.append (zau.ofDens dn) (zau.nones _ (List.length_replicate ..))
  ·cases x with
   | rt t => exact p1 W1 H1 (Wd.le.refl _) r1
   | nx ρ => exact fun σ' _ => p1 W1 H1 (Wd.le.refl _) r1 .non (zb7.mpr rfl)
   | bk ρ => exact p1.elim
   | ct ρ => exact p1.elim
end
mutual
def HB (n : Nat) : T -> Prop
 | .lst ts => HBs n ts
 | .tup ts => HBs n ts
 | .dic kvs => HBk n kvs
 | .obj k => k < n
 | .non => True
 | .bl _ => True
 | .int _ => True
 | .str _ => True
def HBs (n : Nat) : List T -> Prop
 | [] => True
 | t :: ts => HB n t /\ HBs n ts
def HBk (n : Nat) : List (Key × T) -> Prop
 | [] => True
 | (_, t) :: ts => HB n t /\ HBk n ts
end
def HBf (n : Nat) : List (Str × T) -> Prop
 | [] => True
 | (_, t) :: ts => HB n t /\ HBf n ts
mutual
theorem zxv {W : Wd} : ∀ (t : T) (v : V), Den W t v -> HB W.n t
 | .non, _, _ => by simp only [HB]
 | .bl _, _, _ => by simp only [HB]
 | .int _, _, _ => by simp only [HB]
 | .str _, _, _ => by simp only [HB]
 | .lst ts, v, h => by obtain ⟨a, vs, _, _, h2⟩ := zc8.mp h; simp only [HB]; exact hbs_of ts vs h2
 | .tup ts, v, h => by obtain ⟨a, vs, _, _, h2⟩ := zde.mp h; simp only [HB]; exact hbs_of ts vs h2
 | .dic ts, v, h => by obtain ⟨a, vs, _, _, h2⟩ := zfe.mp h; simp only [HB]; exact hbk_of ts vs h2
 | .obj k, v, h => by simp only [HB]; exact (zbs.mp h).2
theorem hbs_of {W : Wd} : ∀ (ts : List T) (vs : List V), Dens W ts vs -> HBs W.n ts
 | [], _, _ => by simp only [HBs]
 | t :: ts, vs, h => by obtain ⟨v, r, _, h1, h2⟩ := zas.mp h; simp only [HBs]; exact ⟨zxv t v h1, hbs_of ts r h2⟩
theorem hbk_of {W : Wd} : ∀ (ts : List (Key × T)) (vs : List (Key × V)), DenK W ts vs -> HBk W.n ts
 | [], _, _ => by simp only [HBk]
 | (k, t) :: ts, vs, h => by obtain ⟨v, r, _, h1, h2⟩ := zbv.mp h; simp only [HBk]; exact ⟨zxv t v h1, hbk_of ts r h2⟩
end
theorem zr2 {W : Wd} : ∀ {ts : List (Str × T)} {vs : List (Str × V)}, DenF W ts vs -> HBf W.n ts
 | [], _, _ => trivial
 | (k, t) :: ts, vs, ⟨v, r, _, h1, h2⟩ => ⟨zxv t v h1, zr2 h2⟩
structure Cut (W W' : Wd) (n : Nat) : Prop where
 hs : ∀ a o, W.HS a = some o -> W'.HS a = some o
 μ : ∀ k, k < n -> W'.μ k = W.μ k
 n : W'.n = n
 p : ∀ a o, W.P a = some o -> W'.P a = some o
mutual
theorem Den.cut {W W' : Wd} {n : Nat} (c : Cut W W' n) : ∀ (t : T) (v : V), HB n t -> Den W t v -> Den W' t v
 | .non, _, _, h => zb7.mpr (zb7.mp h)
 | .bl _, _, _, h => zax.mpr (zax.mp h)
 | .int _, _, _, h => zap.mpr (zap.mp h)
 | .str _, _, _, h => zaz.mpr (zaz.mp h)
 | .lst ts, v, b, h => by obtain ⟨a, vs, e, h1, h2⟩ := zc8.mp h; simp only [HB] at b; exact zc8.mpr ⟨a, vs, e, c.hs _ _ h1, Dens.cut c ts vs b h2⟩
 | .tup ts, v, b, h => by obtain ⟨a, vs, e, h1, h2⟩ := zde.mp h; simp only [HB] at b; exact zde.mpr ⟨a, vs, e, c.hs _ _ h1, Dens.cut c ts vs b h2⟩
 | .dic ts, v, b, h => by obtain ⟨a, vs, e, h1, h2⟩ := zfe.mp h; simp only [HB] at b; exact zfe.mpr ⟨a, vs, e, c.hs _ _ h1, DenK.cut c ts vs b h2⟩
 | .obj k, v, b, h => by obtain ⟨e, h1⟩ := zbs.mp h; simp only [HB] at b; exact zbs.mpr ⟨by rw [c.μ k b]; exact e, by rw [c.n]; exact b⟩
theorem Dens.cut {W W' : Wd} {n : Nat} (c : Cut W W' n) : ∀ (ts : List T) (vs : List V), HBs n ts -> Dens W ts vs -> Dens W' ts vs
 | [], vs, _, h => za6.mpr (za6.mp h)
 | t :: ts, vs, b, h => by obtain ⟨v, r, e, h1, h2⟩ := zas.mp h; simp only [HBs] at b; exact zas.mpr ⟨v, r, e, Den.cut c t v b.1 h1, Dens.cut c ts r b.2 h2⟩
theorem DenK.cut {W W' : Wd} {n : Nat} (c : Cut W W' n) : ∀ (ts : List (Key × T)) (vs : List (Key × V)), HBk n ts -> DenK W ts vs -> DenK W' ts vs
 | [], vs, _, h => zck.mpr (zck.mp h)
 | (k, t) :: ts, vs, b, h => by obtain ⟨v, r, e, h1, h2⟩ := zbv.mp h; simp only [HBk] at b; exact zbv.mpr ⟨v, r, e, Den.cut c t v b.1 h1, DenK.cut c ts r b.2 h2⟩
end
theorem DenF.cut {W W' : Wd} {n : Nat} (c : Cut W W' n) : ∀ {ts : List (Str × T)} {vs : List (Str × V)}, HBf n ts -> DenF W ts vs -> DenF W' ts vs
 | [], _, _, h => h
 | (k, t) :: ts, vs, b, ⟨v, r, e, h1, h2⟩ => ⟨v, r, e, Den.cut c t v b.1 h1, DenF.cut c b.2 h2⟩
def HBc (n : Nat) : Cell -> Prop
 | .lst ts => HBs n ts
 | .dic ts => HBk n ts
 | .ins _ fs => HBf n fs
 | .lck ts => HBk n ts
 | .exc _ none => True
 | .exc _ (some fs) => HBf n fs
theorem z0q {W : Wd} {H : Hp} {a : Addr} : ∀ {c : Cell}, zbw W H a c -> HBc W.n c
 | .lst _, ⟨_, _, h⟩ => hbs_of _ _ h
 | .dic _, ⟨_, _, h⟩ => hbk_of _ _ h
 | .ins _ _, ⟨_, _, _, h⟩ => zr2 h
 | .lck _, ⟨_, _, _, h⟩ => hbk_of _ _ h
 | .exc _ none, _ => trivial
 | .exc _ (some _), ⟨some _, _, _, _, h⟩ => zr2 h
 | .exc _ (some _), ⟨none, _, h⟩ => h.elim
theorem zbw.cut {W W' : Wd} {H : Hp} {a : Addr} {n : Nat} (c : Cut W W' n) : ∀ {q : Cell}, HBc n q -> zbw W H a q -> zbw W' H a q
 | .lst _, b, ⟨_, h1, h⟩ => ⟨_, h1, Dens.cut c _ _ b h⟩
 | .dic _, b, ⟨_, h1, h⟩ => ⟨_, h1, DenK.cut c _ _ b h⟩
 | .ins _ _, b, ⟨_, _, h1, h⟩ => ⟨_, _, h1, DenF.cut c b h⟩
 | .lck _, b, ⟨_, _, h1, h⟩ => ⟨_, _, h1, DenK.cut c _ _ b h⟩
 | .exc _ none, b, ⟨none, h1, _⟩ => ⟨none, h1, trivial⟩
 | .exc _ (Option.some _), b, ⟨Option.some _, h1, ks, h2, h⟩ => ⟨_, h1, ks, c.p _ _ h2, DenF.cut c b h⟩
 | .exc _ none, _, ⟨Option.some _, _, h⟩ => h.elim
 | .exc _ (Option.some _), _, ⟨none, _, h⟩ => h.elim
def mapO {α β : Type} (f : α -> Option β) : List α -> Option (List β)
 | [] => some []
 | a :: r => match f a, mapO f r with
   | some b, some bs => some (b :: bs)
   | _, _ => none
open Classical in
def fz (S : Sto) (n : Nat) : Nat -> T -> Option T
 | 0, t => if HB n t then some t else none
 | f + 1, t => if HB n t then some t else match t with
   | .obj k => (match S[k]? with
     | some (.lst ts) => (mapO (fz S n f) ts).map .lst
     | some (.dic kvs) => (mapO (fun p => (fz S n f p.2).map fun t => (p.1, t)) kvs).map .dic
     | _ => none)
   | .lst ts => (mapO (fz S n f) ts).map .lst
   | .tup ts => (mapO (fz S n f) ts).map .tup
   | _ => none
open Classical in
def frzF (F : Fn) : Fn := fun ts S => match F ts S with
 | .ok t S' => if S'.take S.length = S then (match fz S' S.length 6 t with
   | some t' => .ok t' S
   | none => .bad) else .bad
 | .exc C none S' => if S'.take S.length = S then .exc C none S else .bad
 | .exc C (some fs) S' => if S'.take S.length = S then (match mapO (fun p => (fz S' S.length 6 p.2).map fun t => (p.1, t)) fs with
   | some fs' => .exc C (some fs') S
   | none => .bad) else .bad
 | .bad => .bad
section
variable {W : Wd} {S : Sto} {H : Hp}
def unF : HO -> HO
 | .frz _ u => u
 | o => o
open Classical in
def Wd.cut (W : Wd) (H : Hp) (n : Nat) : Wd := ⟨fun a => if W.HS a ≠ none then W.HS a else if (∃ k, n <= k /\ k < W.n /\ W.μ k = a) then (H a).map unF else none, W.μ, n, W.Z, W.P⟩
open Classical in
theorem zor {n : Nat} {a : Addr} {o : HO} (h : W.HS a = some o) : (W.cut H n).HS a = some o := by
 show (if W.HS a ≠ none then W.HS a else _) = some o;rw [if_pos (by rw [h]; intro z; cases z)]; exact h
open Classical in
theorem zr3 {n k : Nat} (r : Rep W S H) (hk : n <= k) (hn : k < W.n) : (W.cut H n).HS (W.μ k) = (H (W.μ k)).map unF := by
 obtain ⟨c, hc⟩ := r.cellAt hn;show (if W.HS (W.μ k) ≠ none then _ else if (∃ j, n <= j /\ j < W.n /\ W.μ j = W.μ k) then (H (W.μ k)).map unF else none) = _;rw [if_neg (by rw [(r.cell k c hc).2]; exact fun z => z rfl), if_pos ⟨k, hk, hn, rfl⟩]
theorem zr4 {n : Nat} : Cut W (W.cut H n) n := ⟨fun _ _ h => zor h, fun _ _ => rfl, rfl, fun _ _ h => h⟩
theorem zr5 {W0 : Wd} {n : Nat} (l : W0.le W) (hn : W0.n = n) : W0.le (W.cut H n) := ⟨fun a o h => zor (l.hs a o h), l.z, l.p, Nat.le_of_eq hn, l.μ⟩
open Classical in
theorem Rep.cut (r : Rep W S H) {n : Nat} (hn : n <= W.n) (hb : ∀ k c, k < n -> S[k]? = some c -> HBc n c) : Rep (W.cut H n) (S.take n) H where
 sub := fun a o e => by
  have e : (if W.HS a ≠ none then W.HS a else if (∃ k, n <= k /\ k < W.n /\ W.μ k = a) then (H a).map unF else none) = some o := e
  split at e
  ·exact r.sub a o e
  ·split at e
   ·rename_i hk
    obtain ⟨k, h1, h2, rfl⟩ := hk;obtain ⟨c, hc⟩ := r.cellAt h2;have z := (r.cell k c hc).1;cases c with
    | lst ts => obtain ⟨_, h1, _⟩ := z; rw [h1] at e; cases e; exact ⟨.inl h1, trivial⟩
    | dic ts => obtain ⟨_, h1, _⟩ := z; rw [h1] at e; cases e; exact ⟨.inl h1, trivial⟩
    | ins _ ts => obtain ⟨_, _, h1, _⟩ := z; rw [h1] at e; cases e; exact ⟨.inl h1, trivial⟩
    | exc _ ts => obtain ⟨_, h1, _⟩ := z; rw [h1] at e; cases e; exact ⟨.inl h1, trivial⟩
    | lck ts => obtain ⟨q, _, h1, _⟩ := z; rw [h1] at e; cases e; exact ⟨.inr ⟨⟨q, h1⟩, by intro _ y; cases y⟩, trivial⟩
   ·cases e
 len := by rw [List.length_take, r.len]; exact Nat.min_eq_left hn
 cell := fun k c e => by
  have hk : k < n := by
   have := (List.getElem?_eq_some_iff.mp e).1;rw [List.length_take] at this;omega
  rw [List.getElem?_take_of_lt hk] at e;refine ⟨(r.cell k c e).1.cut zr4 (hb k c hk e), ?_⟩;show (if W.HS (W.μ k) ≠ none then _ else if (∃ j, n <= j /\ j < W.n /\ W.μ j = W.μ k) then _ else none) = none;rw [if_neg (by rw [(r.cell k c e).2]; exact fun z => z rfl), if_neg];rintro ⟨j, h1, h2, h3⟩;have := r.inj j k h2 (r.lt e) h3;omega
 inj := fun j k hj hk e => r.inj j k (Nat.lt_of_lt_of_le hj hn) (Nat.lt_of_lt_of_le hk hn) e
 zed := r.zed
 prv := fun a o e => by
  obtain ⟨h1, h2, h3⟩ := r.prv a o e;refine ⟨h1, ?_, fun k hk => h3 k (Nat.lt_of_lt_of_le hk hn)⟩;show (if W.HS a ≠ none then _ else if (∃ k, n <= k /\ k < W.n /\ W.μ k = a) then _ else none) = none;rw [if_neg (by rw [h2]; exact fun z => z rfl), if_neg];rintro ⟨j, _, h5, h6⟩;exact h3 j h5 h6
theorem zks {n : Nat} {g : T -> Option T} (hg : ∀ t t' v, g t = some t' -> Den W t v -> Den (W.cut H n) t' v) : ∀ {ts ts' : List T} {vs : List V}, mapO g ts = some ts' -> Dens W ts vs -> Dens (W.cut H n) ts' vs
 | [], ts', vs, e, h => by cases e; exact za6.mpr (za6.mp h)
 | t :: ts, ts', vs, e, h => by
   obtain ⟨v, r, rfl, h1, h2⟩ := zas.mp h;unfold mapO at e;cases e1 : g t with
   | none => simp [e1] at e
   | some t' =>
     cases e2 : mapO g ts with
     | none => simp [e1, e2] at e
     | some ts2 =>
       simp [e1, e2] at e;subst e;exact Dens.cons' (hg t t' v e1 h1) (zks hg e2 h2)
theorem zr6 {n : Nat} {g : T -> Option T} (hg : ∀ t t' v, g t = some t' -> Den W t v -> Den (W.cut H n) t' v) : ∀ {ts ts' : List (Key × T)} {vs : List (Key × V)}, mapO (fun p => (g p.2).map fun t => (p.1, t)) ts = some ts' -> DenK W ts vs -> DenK (W.cut H n) ts' vs
 | [], ts', vs, e, h => by cases e; exact zck.mpr (zck.mp h)
 | (k, t) :: ts, ts', vs, e, h => by
   obtain ⟨v, r, rfl, h1, h2⟩ := zbv.mp h;unfold mapO at e;cases e1 : g t with
   | none => simp [e1] at e
   | some t' =>
     cases e2 : mapO (fun p => (g p.2).map fun t => (p.1, t)) ts with
     | none => simp [e1, e2] at e
     | some ts2 =>
       simp [e1, e2] at e;subst e;exact DenK.cons' (hg t t' v e1 h1) (zr6 hg e2 h2)
theorem zr7 {n : Nat} {g : T -> Option T} (hg : ∀ t t' v, g t = some t' -> Den W t v -> Den (W.cut H n) t' v) : ∀ {ts ts' : List (Str × T)} {vs : List (Str × V)}, mapO (fun p => (g p.2).map fun t => (p.1, t)) ts = some ts' -> DenF W ts vs -> DenF (W.cut H n) ts' vs
 | [], ts', vs, e, h => by cases e; exact h
 | (k, t) :: ts, ts', vs, e, ⟨v, r, e0, h1, h2⟩ => by
   unfold mapO at e;cases e1 : g t with
   | none => simp [e1] at e
   | some t' =>
     cases e2 : mapO (fun p => (g p.2).map fun t => (p.1, t)) ts with
     | none => simp [e1, e2] at e
     | some ts2 =>
       simp [e1, e2] at e;subst e;exact ⟨v, r, e0, hg t t' v e1 h1, zr7 hg e2 h2⟩
open Classical in
theorem z0r {n : Nat} {d : Addr} {ks : List (Str × V)} (r : Rep W S H) (hd : H d = some (.xd ks)) (h0 : W.HS d = none) : (W.cut H n).HS d = none := by
 show (if W.HS d ≠ none then W.HS d else if (∃ k, n <= k /\ k < W.n /\ W.μ k = d) then (H d).map unF else none) = none;rw [if_neg (by rw [h0]; exact fun z => z rfl), if_neg];rintro ⟨k, _, hk, rfl⟩;obtain ⟨c, hc⟩ := r.cellAt hk;have z := (r.cell k c hc).1;cases c with
 | lst ts => obtain ⟨_, h1, _⟩ := z; rw [hd] at h1; cases h1
 | dic ts => obtain ⟨_, h1, _⟩ := z; rw [hd] at h1; cases h1
 | ins _ ts => obtain ⟨_, _, h1, _⟩ := z; rw [hd] at h1; cases h1
 | exc _ ts => obtain ⟨_, h1, _⟩ := z; rw [hd] at h1; cases h1
 | lck ts => obtain ⟨_, _, h1, _⟩ := z; rw [hd] at h1; cases h1
theorem zj0 (r : Rep W S H) {n : Nat} : ∀ (f : Nat) (t t' : T) (v : V), fz S n f t = some t' -> Den W t v -> Den (W.cut H n) t' v
 | 0, t, t', v, e, d => by
   unfold fz at e
   split at e
   ·rename_i h; cases e; exact Den.cut zr4 _ _ h d
   ·cases e
 | f + 1, t, t', v, e, d => by
   unfold fz at e
   split at e
   ·rename_i h; cases e; exact Den.cut zr4 _ _ h d
   ·rename_i hnb
    split at e
    ·rename_i k
     obtain ⟨rfl, hk⟩ := zbs.mp d;have hnk : n <= k := by
      simp only [HB] at hnb; omega
     split at e
     ·rename_i ts ec
      obtain ⟨ts', e1, rfl⟩ := Option.map_eq_some_iff.mp e;obtain ⟨⟨vs, h1, h2⟩, _⟩ := r.cell k _ ec;exact zc8.mpr ⟨_, vs, rfl, (zr3 r hnk hk).trans (by rw [h1]; rfl), zks (zj0 r f) e1 h2⟩
     ·rename_i kvs ec
      obtain ⟨ts', e1, rfl⟩ := Option.map_eq_some_iff.mp e;obtain ⟨⟨vs, h1, h2⟩, _⟩ := r.cell k _ ec;exact zfe.mpr ⟨_, vs, rfl, (zr3 r hnk hk).trans (by rw [h1]; rfl), zr6 (zj0 r f) e1 h2⟩
     ·cases e
    ·rename_i ts
     obtain ⟨ts', e1, rfl⟩ := Option.map_eq_some_iff.mp e;obtain ⟨a, vs, rfl, h1, h2⟩ := zc8.mp d;exact zc8.mpr ⟨a, vs, rfl, zor h1, zks (zj0 r f) e1 h2⟩
    ·rename_i ts
     obtain ⟨ts', e1, rfl⟩ := Option.map_eq_some_iff.mp e;obtain ⟨a, vs, rfl, h1, h2⟩ := zde.mp d;exact zde.mpr ⟨a, vs, rfl, zor h1, zks (zj0 r f) e1 h2⟩
    ·cases e
end
theorem zxw {n : Nat} {F : Fn} {vs : List V} {H : Hp} {Q : VK} {E : XK} (h : spM n (frzF F) vs H Q E) : spM n F vs H Q E := by
 obtain ⟨W, S, ts, rp, d, hl, p⟩ := h;refine ⟨W, S, ts, rp, d, hl, ?_⟩;have old : ∀ {S' : Sto} {W' : Wd} {H' : Hp}, S'.take S.length = S -> W.le W' -> Rep W' S' H' -> Rep (W'.cut H' W.n) S H' := fun {S' W' H'} e l r => by
  have := r.cut (n := W.n) l.n (fun k c hk ec => by
   have e2 : S[k]? = some c := by rw [<- e, List.getElem?_take_of_lt (by rw [rp.len]; exact hk)]; exact ec
   exact z0q (rp.cell k c e2).1)
  rw [<- rp.len] at this;rw [e] at this;rw [<- rp.len];exact this
 unfold frzF at p;cases e : F ts S with
 | bad => rw [e] at p; exact p.elim
 | ok t S' =>
   rw [e] at p;simp only at p
   split at p
   ·rename_i es
    cases ez : fz S' S.length 6 t with
    | none => rw [ez] at p; exact p.elim
    | some t' =>
      rw [ez] at p;intro W' H' l r v dv;refine p (W'.cut H' W.n) H' (zr5 l rfl) (old es l r) v ?_;rw [rp.len] at ez;exact zj0 r 6 t t' v ez dv
   ·exact p.elim
 | exc C fs S' =>
   rw [e] at p;cases fs with
   | some fs =>
     simp only at p
     split at p
     ·rename_i es
      split at p
      ·rename_i fs' ef
       intro W' H' dx l r x;refine p (W'.cut H' W.n) H' dx (zr5 l rfl) (old es l r) ?_;cases dx with
       | none => exact x.elim
       | some d =>
         obtain ⟨ks, x1, x2, x3⟩ := x;exact ⟨ks, x1, z0r r x1 x2, zr7 (zj0 r 6) (by rw [<- rp.len]; exact ef) x3⟩
      ·exact p.elim
     ·exact p.elim
   | none =>
     simp only at p
     split at p
     ·rename_i es
      intro W' H' dx l r x;refine p (W'.cut H' W.n) H' dx (zr5 l rfl) (old es l r) ?_;cases dx with
      | none => exact trivial
      | some _ => exact x.elim
     ·exact p.elim
theorem FnOk.frz {P : Program} {w : World} {K : PySem.W.Frag} {mg : Str -> Option Value} {base : Heap} {CX : CXT} {k : Nat} {f : Addr} {fd : FuncData} {ps : List Str} {n : Nat} {F : Fn} (h : FnOk P w K mg base CX k f fd ps (spM n F)) : FnOk P w K mg base CX k f fd ps (spM n (frzF F)) :=
 h.imp fun vs H Q E q => zxw q
end MF
namespace MF
open PySem PySem.Spec L2
structure FnAt (P : Program) (w : World) (K : PySem.W.Frag) (mg : Str -> Option Value) (base : Heap) (k : Nat) (x : Str) (ps : List Str) (F : Fn) (f : Addr) (fd : FuncData) : Prop where
 ok : FnOk P w K mg base (CXE P w) k f fd ps (spM ps.length F)
 m : mg x = some (.ref f)
 kp : PySem.W.keepIn K (.ref f) = true
 b : zeg K fd ps []
structure MeAt (P : Program) (w : World) (K : PySem.W.Frag) (mg : Str -> Option Value) (base : Heap) (k : Nat) (C : Addr) (m : Str) (ps : List Str) (F : Fn) (f : Addr) (fd : FuncData) : Prop where
 ok : FnOk P w K mg base (CXE P w) k f fd ps (spM ps.length F)
 cl : Cls K C
 me : Meth K C m f
 b : zeg K fd ps []
structure MkAt (P : Program) (w : World) (K : PySem.W.Frag) (mg : Str -> Option Value) (base : Heap) (k : Nat) (x : Str) (C : Addr) (ps : List Str) (F : Fn) (f : Addr) (fd : FuncData) : Prop where
 ok : FnOk P w K mg base (CXE P w) k f fd ps (spM ps.length F)
 m : mg x = some (.ref C)
 mk1 : Mk K C f
 b : zeg K fd ps []
def zbu (F : Fn) (ds : List T) (fr : DA) : DE := fun ρ => (fr ρ).bind fun ts => F (ts ++ ds)
def zew (C : Addr) (m : Str) (F : Fn) (ds : List T) (fo : DE) (fr : DA) : DE := fun ρ => (fo ρ).bind fun o => fun S => match ze9 S C o with
 | some (_, fs) => if (fs.lookup m).isNone = true then ((fr ρ).bind fun ts => F (o :: (ts ++ ds))) S else .bad
 | none => .bad
def zni (C : Addr) (F : Fn) (ds : List T) (fr : DA) : DE := fun ρ => (fr ρ).bind fun ts => fun S => M.bind (F (.obj S.length :: (ts ++ ds))) (fun t => match t with
 | .non => M.pure (.obj S.length)
 | _ => M.bad) (S ++ [.ins C []])
theorem z0s {P : Program} {w : World} {X : Cx} : zc7 (CXE P w) X E0 := fun pins σ H s e s' I h => by
 obtain ⟨_, _, _, _, _, _, _, _, _, _, _, _, _, _, _, _, _, _, _, z⟩ := h;exact z.elim
section
variable {X : Cx} {E : XK} {k : Nat} {f C : Addr} {fd : FuncData} {ps : List Str} {F : Fn} {x m : Str} {p pos apos : Pos} {e o : Expr} {es : List Expr} {fo : DE} {fr : DA} {ds : List T} {dvs : List V} {dus : List Value}
def lenF (n : Nat) (F : Fn) : Fn := fun ts S => if ts.length = n then F ts S else .bad
theorem zuf (hd : ∀ W, Dens W ds dvs) {σ : St} {H : Hp} {Q : VK} (h : RE E (zbu (lenF ps.length F) ds fr) σ H Q) : zzh (spM ps.length F) dvs E (RA E fr) σ H Q := by
 obtain ⟨W, S, ρ, rp, env, q⟩ := h;refine ⟨W, S, ρ, rp, env, (Post.bind q).imp fun ts W1 S1 H1 l1 r1 p1 vs dv => ?_⟩;unfold lenF at p1
 split at p1
 ·rename_i z; exact ⟨W1, S1, ts ++ ds, r1, dv.append (hd W1), z, p1⟩
 ·exact p1.elim
theorem zbq {n : Nat} (G : FnAt X.prog X.w X.K X.mg X.base k x ps F f fd) (hr : Room k X.A) (hg : Gl X x) (hx : zc7 (CXE X.prog X.w) X E) (ha : PA X (e :: es) (RA E fr))
  (hdb : (x == ("__debug__" : Str)) = false := by decide) (he : starEach (e :: es) X.env = (false, eval e X.env) :: starEach es X.env := by rfl) (hpl : (backTo pos (starEach es X.env)).any (·.1) = false := by rfl) (hn : ps.length = n := by rfl) : PE X (.Call (.Name x p) (e :: es) [] pos) (RE E (zbu (lenF n F) [] fr)) := by
 subst hn;exact zbp (zwt G.ok hr hg G.m G.kp G.b .nil hx ha hdb he hpl) fun σ H Q h => zuf (fun W => Dens.nil') h
theorem znj (hd : ∀ W, Dens W ds dvs) {σ : St} {H : Hp} {Q : VK} (h : RE E (zew C m (lenF ps.length F) ds fo fr) σ H Q) : zwr C m (spM ps.length F) dvs E (RE E fo) (RA E fr) σ H Q := by
 obtain ⟨W, S, ρ, rp, env, q⟩ := h;refine ⟨W, S, ρ, rp, env, (Post.bind q).imp fun t W1 S1 H1 l1 r1 p1 v dv => ?_⟩;cases e : ze9 S1 C t with
 | none => simp only [e] at p1; exact p1.elim
 | some q =>
   obtain ⟨j, fs⟩ := q;simp only [e] at p1
   split at p1
   ·rename_i hm
    obtain ⟨dx, ks, rfl, h0, h1, h2⟩ := r1.inst dv e;refine ⟨_, dx, ks, rfl, h1, h2.look.2 (Option.isNone_iff_eq_none.mp hm), W1, S1, ρ, r1, env.mono l1, (Post.bind p1).imp fun ts W2 S2 H2 l2 r2 p2 vs dvs => ?_⟩;unfold lenF at p2
    split at p2
    ·rename_i z; exact ⟨W2, S2, t :: (ts ++ ds), r2, Dens.cons' (Den.mono l2 _ _ dv) (dvs.append (hd W2)), z, p2⟩
    ·exact p2.elim
   ·exact p1.elim
theorem zf5 {n : Nat} {pl : Sem Bool} (G : MeAt X.prog X.w X.K X.mg X.base k C m ps F f fd) (hr : Room k X.A) (hx : zc7 (CXE X.prog X.w) X E) (ho : PE X o (RE E fo)) (ha : PA X (e :: es) (RA E fr))
  (hst : starEach (e :: es) X.env = (false, eval e X.env) :: starEach es X.env := by rfl) (hpl : (backTo pos (starEach es X.env)).any (·.1) = false := by rfl)
  (ht : eval (.Call (.Attribute o m apos) (e :: es) [] pos) X.env = (do
   let ov <- eval o X.env
   standAt apos.atName
   let (f, first) <- holding [ov] (getMethod ov m pl)
   callWith pos f first (backTo pos (starEach (e :: es) X.env)) (backToKw pos (keywordEach [] X.env))) := by rfl) (hn : ps.length = n := by rfl) : PE X (.Call (.Attribute o m apos) (e :: es) [] pos) (RE E (zew C m (lenF n F) [] fo fr)) := by
 subst hn;exact zbp (zqw ho G.cl G.me G.ok hr G.b .nil hx ha hst hpl ht) fun σ H Q h => znj (fun W => Dens.nil') h
theorem zxx {n : Nat} {pl : Sem Bool} (G : MeAt X.prog X.w X.K X.mg X.base k C m ps F f fd) (hr : Room k X.A) (hx : zc7 (CXE X.prog X.w) X E) (hb : zeg X.K fd ps dus) (hv : Vals dvs dus) (hd : ∀ W, Dens W ds dvs) (ho : PE X o (RE E fo)) (ha : PA X (e :: es) (RA E fr))
  (hst : starEach (e :: es) X.env = (false, eval e X.env) :: starEach es X.env := by rfl) (hpl : (backTo pos (starEach es X.env)).any (·.1) = false := by rfl)
  (ht : eval (.Call (.Attribute o m apos) (e :: es) [] pos) X.env = (do
   let ov <- eval o X.env
   standAt apos.atName
   let (f, first) <- holding [ov] (getMethod ov m pl)
   callWith pos f first (backTo pos (starEach (e :: es) X.env)) (backToKw pos (keywordEach [] X.env))) := by rfl) (hn : ps.length = n := by rfl) : PE X (.Call (.Attribute o m apos) (e :: es) [] pos) (RE E (zew C m (lenF n F) ds fo fr)) := by
 subst hn;exact zbp (zqw ho G.cl G.me G.ok hr hb hv hx ha hst hpl ht) fun σ H Q h => znj hd h
theorem zr8 {n : Nat} {pl : Sem Bool} (G : MeAt X.prog X.w X.K X.mg X.base k C m ps F f fd) (hr : Room k X.A) (hx : zc7 (CXE X.prog X.w) X E) (ho : PE X o (RE E fo))
  (ht : eval (.Call (.Attribute o m apos) [] [] pos) X.env = (do
   let ov <- eval o X.env
   standAt apos.atName
   let (f, first) <- holding [ov] (getMethod ov m pl)
   callWith pos f first (backTo pos (starEach [] X.env)) (backToKw pos (keywordEach [] X.env))) := by rfl) (hn : ps.length = n := by rfl) : PE X (.Call (.Attribute o m apos) [] [] pos) (RE E (zew C m (lenF n F) [] fo aNil)) := by
 subst hn;exact zbp (ztr ho G.cl G.me G.ok hr G.b .nil hx ht) fun σ H Q h => by
  have h := znj (fun W => Dens.nil') h;obtain ⟨W, S, ρ, rp, env, p⟩ := h;refine ⟨W, S, ρ, rp, env, p.imp fun t W1 S1 H1 l1 r1 p1 v dv => ?_⟩;obtain ⟨a, dx, fs, e1, e2, e3, W2, S2, ρ2, r2, env2, p2⟩ := p1 v dv;exact ⟨a, dx, fs, e1, e2, e3, p2 W2 _ (Wd.le.refl _) r2 [] Dens.nil'⟩
theorem zr9 (hd : ∀ W, Dens W ds dvs) {σ : St} {H : Hp} {Q : VK} (h : RE E (zni C (lenF ps.length F) ds fr) σ H Q) : zws C (spM ps.length F) dvs E (RA E fr) σ H Q := by
 obtain ⟨W, S, ρ, rp, env, q⟩ := h;refine ⟨W, S, ρ, rp, env, (Post.bind q).imp fun ts W1 S1 H1 l1 r1 p1 vs dv a dx ha hdx hne => ?_⟩;have keep : ∀ b u, H1 b = some u -> upd (upd H1 dx (.own a)) a (.ins C dx []) b = some u := fun b u z => by
  rw [zah (za5 z ha), zah (za5 z hdx)]; exact z
 have r2 : Rep (W1.add a) (S1 ++ [.ins C []]) (upd (upd H1 dx (.own a)) a (.ins C dx [])) := r1.cellNew' ha keep (.ins C []) ⟨dx, [], zaj, rfl⟩;have l2 : W1.le (W1.add a) := Wd.add_le;have da : Den (W1.add a) (.obj S1.length) (.ref a) := zbs.mpr ⟨by rw [r1.len, Wd.add_at], by rw [r1.len]; exact Nat.lt_succ_self _⟩;have p2 := Post.bind (zkq p1 l2);by_cases z : (T.obj S1.length :: (ts ++ ds)).length = ps.length
 ·have e : lenF ps.length F (.obj S1.length :: (ts ++ ds)) (S1 ++ [.ins C []]) = F (.obj S1.length :: (ts ++ ds)) (S1 ++ [.ins C []]) := if_pos z
  rw [e] at p2;refine ⟨W1.add a, S1 ++ [.ins C []], .obj S1.length :: (ts ++ ds), r2, Dens.cons' da ((Dens.mono l2 _ _ dv).append (hd _)), z, p2.imp fun t W3 S3 H3 l3 r3 p4 v dv3 => ?_⟩;cases t with
  | non => exact ⟨zb7.mp dv3, now p4 r3 (Den.mono l3 _ _ da)⟩
  | _ => exact p4.elim
 ·have e : lenF ps.length F (.obj S1.length :: (ts ++ ds)) (S1 ++ [.ins C []]) = .bad := if_neg z
  rw [e] at p2; exact p2.elim
theorem zvx {n : Nat} (G : MkAt X.prog X.w X.K X.mg X.base k x C ps F f fd) (hr : Room (k + 1) X.A) (hg : Gl X x) (hx : zc7 (CXE X.prog X.w) X E) (ha : PA X (e :: es) (RA E fr))
  (hdb : (x == ("__debug__" : Str)) = false := by decide) (he : starEach (e :: es) X.env = (false, eval e X.env) :: starEach es X.env := by rfl) (hpl : (backTo pos (starEach es X.env)).any (·.1) = false := by rfl) (hn : ps.length = n := by rfl) : PE X (.Call (.Name x p) (e :: es) [] pos) (RE E (zni C (lenF n F) [] fr)) := by
 subst hn;exact zbp (zwu G.mk1 G.ok hr hg G.m G.b .nil hx ha hdb he hpl) fun σ H Q h => zr9 (fun W => Dens.nil') h
theorem zxy {n : Nat} (G : MkAt X.prog X.w X.K X.mg X.base k x C ps F f fd) (hr : Room (k + 1) X.A) (hg : Gl X x) (hx : zc7 (CXE X.prog X.w) X E)
  (hdb : (x == ("__debug__" : Str)) = false := by decide) (hn : ps.length = n := by rfl) : PE X (.Call (.Name x p) [] [] pos) (RE E (zni C (lenF n F) [] aNil)) := by
 subst hn;exact zbp (zts G.mk1 G.ok hr hg G.m G.b .nil hx hdb) fun σ H Q h => by
  have h := zr9 (fun W => Dens.nil') h;obtain ⟨W, S, ρ, rp, env, p⟩ := h;exact p W H (Wd.le.refl _) rp [] Dens.nil'
theorem z0t {i : Int} {t : Tok} (hg : Gl X x) (hm : X.mg x = some (.int i t)) (hd : (x == ("__debug__" : Str)) = false := by decide) : PE X (.Name x p) (RE E (eC (.int i))) :=
 zbp (zqi (v := .int i) hg hm ⟨t, rfl⟩ hd) fun σ H Q h => re_c (fun W => zap.mpr rfl) h
def znk (t : T) : M T := fun S => match t with
 | .str y => if (reprText y).length <= 1000 then .ok (.str (reprText y)) S else .bad
 | _ => .bad
theorem zos (he : PE X e (RE E fo)) : PE X (.FormattedValue e 114 none pos) (RE E (e1 znk fo)) := zbp (zm7 he) fun σ H Q h =>
 re1 (r := fun v H1 Q => ∃ y, v = .str y /\ (reprText y).length <= sizeLine /\ Q (.str (reprText y)) H1) (fun t W S H v Q r d p => by
  unfold znk at p
  split at p
  ·split at p
   ·rename_i hl; exact ⟨_, zaz.mp d, big hl, now p r (zaz.mpr rfl)⟩
   ·exact p.elim
  ·exact p.elim) h
def jT : Str -> List DE -> DE
 | acc, [] => fun _ S => if acc.length <= 1000 then .ok (.str acc) S else .bad
 | acc, f :: fs => fun ρ => (f ρ).bind fun t => match t with
   | .str y => (fun S => if (acc ++ y).length <= 1000 then jT (acc ++ y) fs ρ S else .bad)
   | _ => M.bad
inductive PJM (X : Cx) (E : XK) : List Expr -> List DE -> Prop where
 | nil : PJM X E [] []
 | cons {e : Expr} {es : List Expr} {f : DE} {fs : List DE} : PE X e (RE E f) -> PJM X E es fs -> PJM X E (e :: es) (f :: fs)
theorem PJM.pj {es : List Expr} {fs : List DE} (h : PJM X E es fs) : PJ X es (fs.map (RE E)) := by
 induction h with
 | nil => exact .nil
 | cons h _ ih => exact .cons h ih
theorem re_j : ∀ (fs : List DE) (acc : Str) {σ : St} {H : Hp} {Q : VK}, RE E (jT acc fs) σ H Q -> tJ acc (fs.map (RE E)) σ H Q
 | [], acc, σ, H, Q, h => by
   obtain ⟨W, S, ρ, rp, env, p⟩ := h;unfold jT at p
   split at p
   ·rename_i hl; exact ⟨big hl, now p rp (zaz.mpr rfl)⟩
   ·exact p.elim
 | f :: fs, acc, σ, H, Q, h => by
   obtain ⟨W, S, ρ, rp, env, p⟩ := h;refine ⟨W, S, ρ, rp, env, (Post.bind p).imp fun t W1 S1 H1 l1 r1 p1 v dv => ?_⟩
   split at p1
   ·split at p1
    ·rename_i y hl
     exact ⟨y, zaz.mp dv, big hl, re_j fs (acc ++ y) ⟨W1, S1, ρ, r1, env.mono l1, p1⟩⟩
    ·exact p1.elim
   ·exact p1.elim
theorem zh2 {a b : Expr} {r : List Expr} {fs : List DE} (h : PJM X E (a :: b :: r) fs) : PE X (.JoinedStr (a :: b :: r) pos) (RE E (jT Str.empty fs)) := zbp (zlx h.pj) fun σ H Q h => re_j fs Str.empty h
def zfi (C : Addr) (fr : DA) : DS := fun ρ => (fr ρ).bind fun ts => fun S => if ts.length <= 1000 then .exc C none S else .bad
theorem zg5 {np cpos : Pos} (hx : zkj X E) (hc : X.calm = true) (q : PySem.W.excIn X.K C bmVE "ValueError.__new__" = true) (hg : Gl X x) (hm : X.mg x = some (.ref C)) (ha : PA X (e :: es) (RA E fr))
  (hdb : (x == ("__debug__" : Str)) = false := by decide) (he : starEach (e :: es) X.env = (false, eval e X.env) :: starEach es X.env := by rfl) (hpl : (backTo cpos (starEach es X.env)).any (·.1) = false := by rfl) :
  PS X (.Raise (some (.Call (.Name x np) (e :: es) [] cpos)) none pos) (RS E (zfi C fr)) := zg3 (zt0 hx hc q hg hm ha hdb he hpl) fun D σ H h => by
 obtain ⟨W, S, ρ, rp, env, p⟩ := h;refine ⟨W, S, ρ, rp, env, (Post.bind p).imp fun ts W1 S1 H1 l1 r1 p1 vs dv => ?_⟩
 split at p1
 ·rename_i hl; exact ⟨big (by rw [<- dv.length]; exact hl), p1 W1 H1 none (Wd.le.refl _) r1 trivial⟩
 ·exact p1.elim
def cutT (xs : List T) (lo hi : Option Int) : List T := (xs.drop (HT.sIx xs.length 0 lo)).take (HT.sIx xs.length xs.length hi - HT.sIx xs.length 0 lo)
abbrev DO := Ev -> M (Option Int)
def zxz : DO := fun _ => M.pure none
def zx0 (f : DE) : DO := fun ρ => (f ρ).bind fun t => match t with
 | .int i => M.pure (some i)
 | _ => M.bad
def eSl (f : DE) (lo hi : DO) : DE := fun ρ => (f ρ).bind fun t => (lo ρ).bind fun l => (hi ρ).bind fun h => fun S => match zav S t with
 | some ts => .ok (.lst (cutT ts l h)) S
 | none => .bad
def RO (E : XK) (f : DO) : TO := fun σ H Q => ∃ W S ρ, Rep W S H /\ zau W ρ σ /\ Post E W (fun o _ _ H' => Q o H') (f ρ S)
theorem z0u {a : Option Expr} {t t' : TO} (h : PO X a t) (w : ∀ σ H Q, t' σ H Q -> t σ H Q) : PO X a t' := fun pins s σ H Q I q => h pins s σ H Q I (w σ H Q q)
theorem z0v : PO X none (RO E zxz) := z0u zw1 fun σ H Q h => by
 obtain ⟨W, S, ρ, rp, env, p⟩ := h;exact p W H (Wd.le.refl _) rp
theorem z0w (h : PE X e (RE E fo)) : PO X (some e) (RO E (zx0 fo)) := z0u (zw2 h) fun σ H Q h => by
 obtain ⟨W, S, ρ, rp, env, p⟩ := h;refine ⟨W, S, ρ, rp, env, (Post.bind p).imp fun t W1 S1 H1 l1 r1 p1 v dv => ?_⟩;cases t with
 | int i => exact ⟨i, zap.mp dv, p1 W1 H1 (Wd.le.refl _) r1⟩
 | _ => exact p1.elim
theorem zx1 {lo hi : Option Expr} {p2 : Pos} {fl fh : DO} (he : PE X e (RE E fo)) (hl : PO X lo (RO E fl)) (hh : PO X hi (RO E fh)) : PE X (.Subscript e (.Slice lo hi none p2) pos) (RE E (eSl fo fl fh)) :=
 zbp (ztv zw5 he hl hh) fun σ H Q h => by
  obtain ⟨W, S, ρ, rp, env, p⟩ := h;refine ⟨W, S, ρ, rp, env, (Post.bind p).imp fun t W1 S1 H1 l1 r1 p1 v dv => ?_⟩;refine ⟨W1, S1, ρ, r1, env.mono l1, (Post.bind p1).imp fun l W2 S2 H2 l2 r2 p2 => ?_⟩;refine ⟨W2, S2, ρ, r2, env.mono (l1.trans l2), (Post.bind p2).imp fun u W3 S3 H3 l3 r3 p3 => ?_⟩;cases e : zav S3 t with
  | none => simp only [e] at p3; exact p3.elim
  | some ts =>
    simp only [e] at p3;obtain ⟨a, vs, rfl, h1, h2⟩ := r3.list (Den.mono (l2.trans l3) _ _ dv) e;refine ⟨a, vs, rfl, .inl h1, zl1 p3 r3 ?_⟩;unfold cutT cutV;rw [h2.length];exact (h2.drop _).take _
end
end MF
namespace MF
open PySem L2
theorem zvy {i : Nat} : ∀ u : V, ([] : St)[i]? ≠ some (some u) := fun u h => nomatch (show (none : Option (Option V)) = some (some u) from h)
theorem zsa : Vals [V.non] [Value.none] := .cons rfl .nil
theorem zsb (W : Wd) : Dens W [T.non] [V.non] := Dens.cons' (zb7.mpr rfl) Dens.nil'
structure Cl where
 hall : Addr
 place : Addr
 piece : Addr
 run : Addr
 hallError : Addr
 nameThere : Addr
 noPlace : Addr
 noPiece : Addr
 tooMany : Addr
 noAnswer : Addr
 ring : Addr
 barred : Addr
 deedFault : Addr
section
variable {X : Cx} {E : XK} {a b c e o : Expr} {es : List Expr} {fa fb fc fo : DE} {fr : DA} {pos p : Pos} {x : Str}
theorem zvz {i : Int} (hg : Gl X x) (hm : ∃ t, X.mg x = some (.int i t)) (hd : (x == ("__debug__" : Str)) = false := by decide) : PE X (.Name x p) (RE E (eC (.int i))) := by
 obtain ⟨t, hm⟩ := hm;exact z0t hg hm hd
end
end MF
namespace MF
open PySem L2
variable {S : Sto} {ρ : Ev}
@[simp] theorem zcd {α β : Type} (m : M α) (f : α -> M β) : M.bind m f S = (match m S with | .ok a S' => f a S' | .exc C fs S' => .exc C fs S' | .bad => .bad) := rfl
@[simp] theorem z0x {α : Type} (a : α) : M.pure a S = .ok a S := rfl
@[simp] theorem z36 {α : Type} : (M.bad : M α) S = .bad := rfl
@[simp] theorem zl5 (i : Nat) : eVar i ρ S = (match ρ[i]? with | some (some t) => .ok t S | _ => .bad) := by
  unfold eVar
  split <;> simp_all
@[simp] theorem x_c (t : T) : eC t ρ S = .ok t S := rfl
@[simp] theorem x_e2 (g : T -> T -> M T) (a b : DE) : e2 g a b ρ S = (a ρ).bind (fun x => (b ρ).bind fun y => g x y) S := rfl
@[simp] theorem x_e1 (g : T -> M T) (a : DE) : e1 g a ρ S = (a ρ).bind g S := rfl
@[simp] theorem z0y : aNil ρ S = .ok [] S := rfl
@[simp] theorem zx2 (a : DE) (r : DA) : zab a r ρ S = (a ρ).bind (fun t => (r ρ).bind fun ts => M.pure (t :: ts)) S := rfl
@[simp] theorem x_eA (g : List T -> M T) (f : DA) : eA g f ρ S = (f ρ).bind g S := rfl
@[simp] theorem x_gI (f : Int -> Int -> Option T) (i j : Int) : gI f (.int i) (.int j) S = (match f i j with | some t => .ok t S | none => .bad) := rfl
@[simp] theorem z3e (i j : Int) : fSub i j = some (.int (i - j)) := rfl
@[simp] theorem z37 (i j : Int) : fLt i j = some (.bl (decide (i < j))) := rfl
@[simp] theorem z38 (i j : Int) : fGt i j = some (.bl (decide (j < i))) := rfl
@[simp] theorem z39 (i j : Int) : fGe i j = some (.bl (decide (j <= i))) := rfl
@[simp] theorem z3f (i j : Int) : fMul i j = (if (-(2 ^ 64) < i /\ i < 2 ^ 64) \/ (-(2 ^ 64) < j /\ j < 2 ^ 64) then some (.int (i * j)) else none) := rfl
@[simp] theorem z3g (i j : Int) : fDiv i j = (if 0 < j /\ j < 1073741824 then some (.int (i / j)) else none) := rfl
@[simp] theorem z3h (i j : Int) : fMod i j = (if 0 < j then some (.int (i % j)) else none) := rfl
@[simp] theorem z3i (i j : Int) : fPow i j = (if 0 <= j /\ j <= 1000 /\ i.natAbs < 2 ^ 64 then some (.int (i ^ j.toNat)) else none) := rfl
@[simp] theorem z3j (i j : Int) : gAdd (.int i) (.int j) S = .ok (.int (i + j)) S := rfl
@[simp] theorem z3k (i j : Str) : gAdd (.str i) (.str j) S = (if i.length + j.length <= 1000 then .ok (.str (i ++ j)) S else .bad) := rfl
@[simp] theorem z3l (xs ys : List T) : gAdd (.lst xs) (.lst ys) S = (if xs.length + ys.length <= 1000 then .ok (.lst (xs ++ ys)) S else .bad) := rfl
@[simp] theorem z4a (i j : Int) : gEq (.int i) (.int j) S = .ok (.bl (decide (i = j))) S := by
  simp [gEq, eqS, toV, scal]
@[simp] theorem z4b (i j : Str) : gEq (.str i) (.str j) S = .ok (.bl (decide (i = j))) S := by
  simp [gEq, eqS, toV, scal]
@[simp] theorem z4c (i j : Bool) : gEq (.bl i) (.bl j) S = .ok (.bl (decide (i = j))) S := by
  simp [gEq, eqS, toV, scal]
@[simp] theorem z4d (i j : Int) : gNe (.int i) (.int j) S = .ok (.bl (!decide (i = j))) S := by
  simp [gNe, eqS, toV, scal]
@[simp] theorem z4e (i j : Str) : gNe (.str i) (.str j) S = .ok (.bl (!decide (i = j))) S := by
  simp [gNe, eqS, toV, scal]
@[simp] theorem zkt (b : Bool) : zxi (.bl b) S = .ok b S := rfl
@[simp] theorem z3m (b : Bool) : truM (.bl b) S = .ok b S := rfl
@[simp] theorem z3n (ts : List T) : truM (.lst ts) S = .ok (!ts.isEmpty) S := rfl
@[simp] theorem zug (f : DE) : tst f ρ S = (f ρ).bind zxi S := rfl
@[simp] theorem z4f (f : DE) : tru f ρ S = (f ρ).bind truM S := rfl
@[simp] theorem x_or (f g : DT) : tOrD f g ρ S = (f ρ).bind (fun c => if c = true then M.pure true else g ρ) S := rfl
@[simp] theorem z4g (f : DT) : zrq f ρ S = (f ρ).bind (fun c => M.pure (!c)) S := rfl
@[simp] theorem z3o (f : DE) : eNot f ρ S = (f ρ).bind (fun x => (truM x).bind fun b => M.pure (.bl (!b))) S := rfl
@[simp] theorem z4h (c : DT) (f g : DE) : eIf c f g ρ S = (c ρ).bind (fun b => if b = true then f ρ else g ρ) S := rfl
@[simp] theorem z3p (ts : List T) : lstF ts S = (if ts.length <= 1000 then .ok (.lst ts) S else .bad) := rfl
@[simp] theorem z3q (ts : List T) : lstC ts S = (if ts.length <= 1000 then .ok (.obj S.length) (S ++ [.lst ts]) else .bad) := rfl
@[simp] theorem z0z (ts : List T) : tupF ts S = (if ts.length <= 1000 then .ok (.tup ts) S else .bad) := rfl
@[simp] theorem z2x : zhf ρ S = .ok (.obj S.length) (S ++ [.dic []]) := rfl
@[simp] theorem x_nx : sNx ρ S = .ok (.nx ρ) S := rfl
@[simp] theorem z00 (f g : DS) : sSeq f g ρ S = (f ρ).bind (fun x => match x with | .nx ρ' => g ρ' | o => M.pure o) S := rfl
@[simp] theorem z01 (f : DE) : sRet f ρ S = (f ρ).bind (fun t => M.pure (.rt t)) S := rfl
@[simp] theorem z3r (f : DE) : zeu f ρ S = (f ρ).bind (fun _ => M.pure (.nx ρ)) S := rfl
@[simp] theorem z4i (i : Nat) (f : DE) : sSet i f ρ S = (f ρ).bind (fun t => M.pure (.nx (ρ.set i (some t)))) S := rfl
@[simp] theorem x_if (c : DT) (f g : DS) : sIf c f g ρ S = (c ρ).bind (fun b => if b = true then f ρ else g ρ) S := rfl
@[simp] theorem zv0 (n : Nat) (d : DS) (ts : List T) : runD n d ts S = (match d (ts.map some ++ List.replicate (n - ts.length) none) S with
  | .ok (.rt t) S' => .ok t S' | .ok (.nx _) S' => .ok .non S' | .ok _ _ => .bad | .exc C fs S' => .exc C fs S' | .bad => .bad) := by
  unfold runD;rw [zcd]
  split <;> simp_all
  rename_i x _ _;cases x <;> rfl
@[simp] theorem z3s (F : Fn) (ds : List T) (fr : DA) : zbu F ds fr ρ S = (fr ρ).bind (fun ts => F (ts ++ ds)) S := rfl
@[simp] theorem z4j (n : Nat) (F : Fn) (ts : List T) : lenF n F ts S = (if ts.length = n then F ts S else .bad) := rfl
@[simp] theorem z3t (ts : List T) : zcw S (.lst ts) = some ts := rfl
@[simp] theorem z3u (ts : List T) : zcw S (.tup ts) = some ts := rfl
@[simp] theorem zv1 (ts : List T) : zav S (.lst ts) = some ts := rfl
@[simp] theorem z3v (ts : List T) : gLen (.lst ts) S = .ok (.int ts.length) S := rfl
@[simp] theorem z2y (ts : List T) (i : Int) : gIx (.lst ts) (.int i) S = (match atI ts i with | some t => .ok t S | none => .bad) := rfl
@[simp] theorem z4k (ts : List T) (i : Int) : gIx (.tup ts) (.int i) S = (match atI ts i with | some t => .ok t S | none => .bad) := rfl
@[simp] theorem z4l (z : Str) (i : Int) : gIx (.str z) (.int i) S = (if z.length <= 1000 then (match atI z.cps.toList i with | some c => .ok (.str ⟨#[c]⟩) S | none => .bad) else .bad) := rfl
@[simp] theorem z4m {α : Type} (a : α) (r : List α) : atI (a :: r) 0 = some a := by
  have : (0 : Int) = ((0 : Nat) : Int) := rfl;rw [this]; exact zga rfl
@[simp] theorem z4n {α : Type} (a b : α) (r : List α) : atI (a :: b :: r) 1 = some b := by
  have : (1 : Int) = ((1 : Nat) : Int) := rfl;rw [this]; exact zga rfl
@[simp] theorem z4o {α : Type} (a b d : α) (r : List α) : atI (a :: b :: d :: r) 2 = some d := by
  have : (2 : Int) = ((2 : Nat) : Int) := rfl;rw [this]; exact zga rfl
@[simp] theorem z2z {α : Type} (a b d e : α) (r : List α) : atI (a :: b :: d :: e :: r) 3 = some e := by
  have : (3 : Int) = ((3 : Nat) : Int) := rfl;rw [this]; exact zga rfl
@[simp] theorem z4p {α : Type} (a b d e f : α) (r : List α) : atI (a :: b :: d :: e :: f :: r) 4 = some f := by
  have : (4 : Int) = ((4 : Nat) : Int) := rfl;rw [this]; exact zga rfl
theorem zv2 {α : Type} {ts : List α} {i : Int} (h0 : 0 <= i) (h1 : i < ts.length) : atI ts i = ts[i.toNat]? := by
 obtain ⟨j, rfl⟩ := Int.eq_ofNat_of_zero_le h0;have hl : j < ts.length := by omega
 have := zga (j := j) (v := ts[j]) (List.getElem?_eq_getElem hl);rw [this, Int.toNat_natCast, List.getElem?_eq_getElem hl]
end MF
namespace MF
open PySem L2
variable {S : Sto} {ρ : Ev}
@[simp] theorem z20 {α : Type} {p : Prop} [Decidable p] (m n : M α) : (if p then m else n) S = if p then m S else n S := by split <;> rfl
@[simp] theorem x_iL (f : DE) : iL f ρ S = (f ρ).bind (fun t => fun S => match zav S t with | some ts => .ok (ts, fun S' => zav S' t = some ts) S | none => .bad) S := rfl
@[simp] theorem z21 (f : DA) : iR1 f ρ S = (f ρ).bind (fun ts => fun S => match ts with | [.int j] => if -1000000 <= j /\ j <= 1000000 then .ok (zfh 0 j.toNat, fun (_ : Sto) => True) S else .bad | _ => .bad) S := rfl
theorem zot {st : Sto -> Prop} {g : DG} {body : DS} (Inv : List T -> Ev -> Sto -> Prop) : ∀ (ts pre : List T) (ρ : Ev) (S : Sto), Inv pre ρ S ->
  (∀ pre' t post ρ S, pre ++ ts = pre' ++ t :: post -> Inv pre' ρ S -> st S /\ ∃ ρ1, g t ρ = some ρ1 /\ ∃ ρ2 S2, body ρ1 S = .ok (.nx ρ2) S2 /\ Inv (pre' ++ [t]) ρ2 S2) -> (∀ ρ S, Inv (pre ++ ts) ρ S -> st S) ->
  ∃ ρ' S', zbt st g body ts ρ S = .ok (.nx ρ') S' /\ Inv (pre ++ ts) ρ' S'
 | [], pre, ρ, S, h, _, he => by
   rw [List.append_nil] at he ⊢;refine ⟨ρ, S, ?_, h⟩;unfold zbt;rw [if_pos (he ρ S h)]
 | t :: ts, pre, ρ, S, h, hs, he => by
   obtain ⟨hst, ρ1, e1, ρ2, S2, e2, h2⟩ := hs pre t ts ρ S rfl h;have e : pre ++ t :: ts = (pre ++ [t]) ++ ts := by simp
   obtain ⟨ρ', S', e3, h3⟩ := zot Inv ts (pre ++ [t]) ρ2 S2 h2 (by rw [<- e]; exact hs) (by rw [<- e]; exact he);refine ⟨ρ', S', ?_, by rw [e]; exact h3⟩;unfold zbt;rw [if_pos hst, e1];simp only [zcd, e2];exact e3
theorem zin {it : DI} {g : DG} {body : DS} {ts : List T} {st : Sto -> Prop} {S1 : Sto} (Inv : List T -> Ev -> Sto -> Prop) (hit : it ρ S = .ok (ts, st) S1) (h0 : Inv [] ρ S1)
  (hs : ∀ pre t post ρ S, ts = pre ++ t :: post -> Inv pre ρ S -> st S /\ ∃ ρ1, g t ρ = some ρ1 /\ ∃ ρ2 S2, body ρ1 S = .ok (.nx ρ2) S2 /\ Inv (pre ++ [t]) ρ2 S2) (he : ∀ ρ S, Inv ts ρ S -> st S) :
  ∃ ρ' S', sFor it g body ρ S = .ok (.nx ρ') S' /\ Inv ts ρ' S' := by
 obtain ⟨ρ', S', e, h⟩ := zot (st := st) (g := g) (body := body) Inv ts [] ρ S1 h0 hs he;refine ⟨ρ', S', ?_, h⟩;unfold sFor;simp only [zcd, hit];exact e
theorem zou {st : Sto -> Prop} {tc : DT} {te : DE} {caps : Ev} {p : T -> Bool} {f : T -> T} (hst : st S) : ∀ (ts : List T) (o : Option T) (acc : List T), acc.length + ts.length <= 1000 -> (∀ t ∈ ts, tc (some t :: caps) S = .ok (p t) S) -> (∀ t ∈ ts, p t = true -> te (some t :: caps) S = .ok (f t) S) ->
  zim st (zat 0) tc te ts (o :: caps) acc S = .ok (acc ++ (ts.filter p).map f) S
 | [], o, acc, _, _, _ => by
   unfold zim;rw [if_pos hst];simp
 | t :: ts, o, acc, hl, hc, he => by
   have ih := fun acc h => zou (tc := tc) (te := te) hst ts (some t) acc h (fun u hu => hc u (List.mem_cons_of_mem _ hu)) (fun u hu => he u (List.mem_cons_of_mem _ hu));have h1 := hc t (List.mem_cons_self ..);rw [List.length_cons] at hl;unfold zim;rw [if_pos hst];show (M.bind (tc (some t :: caps)) _) S = _;rw [zcd, h1];cases e : p t with
   | false =>
     have := ih acc (by omega);simpa [e] using this
   | true =>
     have h2 := he t (List.mem_cons_self ..) e;have := ih (acc ++ [f t]) (by rw [List.length_append, List.length_singleton]; omega);have hlt : acc.length < 1000 := by omega
     simp only [if_true, zcd, h2, z20, hlt];simpa [e, h2] using this
theorem zgm {js : List Nat} {it : DI} {tc : DT} {te : DE} {ts : List T} {st : Sto -> Prop} {p : T -> Bool} {f : T -> T} (hit : it ρ S = .ok (ts, st) S) (hst : st S) (hl : ts.length <= 1000)
  (hc : ∀ t ∈ ts, tc (some t :: js.map fun j => (ρ[j]?).join) S = .ok (p t) S) (he : ∀ t ∈ ts, p t = true -> te (some t :: js.map fun j => (ρ[j]?).join) S = .ok (f t) S) :
  zev 1 js it (zat 0) tc te finF ρ S = .ok (.lst ((ts.filter p).map f)) S := by
 unfold zev;rw [zcd, hit];show (M.bind (noX _) finF) S = _;rw [zcd];have := zou (tc := tc) (te := te) (caps := js.map fun j => (ρ[j]?).join) hst ts none [] (by simpa using hl) hc he;have e2 : noX (zim st (zat 0) tc te ts (List.replicate 1 none ++ js.map fun j => (ρ[j]?).join) []) S = .ok ((ts.filter p).map f) S := by
  unfold noX;rw [show (List.replicate 1 (none : Option T) ++ js.map fun j => (ρ[j]?).join) = none :: js.map fun j => (ρ[j]?).join from rfl, this];rfl
 simp only [e2];rfl
theorem zl6 {js : List Nat} {it : DI} {te : DE} {ts : List T} {st : Sto -> Prop} {f : T -> T} (hit : it ρ S = .ok (ts, st) S) (hst : st S) (hl : ts.length <= 1000)
  (he : ∀ t ∈ ts, te (some t :: js.map fun j => (ρ[j]?).join) S = .ok (f t) S) :
  zev 1 js it (zat 0) yesD te finF ρ S = .ok (.lst (ts.map f)) S := by
 have := zgm (tc := yesD) (p := fun _ => true) hit hst hl (fun _ _ => rfl) (fun t h _ => he t h);rwa [List.filter_eq_self.mpr (fun _ _ => rfl)] at this
theorem zsc {g : T -> Option T} : ∀ {ts : List T}, (∀ t ∈ ts, g t = some t) -> mapO g ts = some ts
 | [], _ => rfl
 | t :: ts, h => by
   unfold mapO;rw [h t (List.mem_cons_self ..), zsc fun u hu => h u (List.mem_cons_of_mem _ hu)]
theorem z02 {S : Sto} {n f : Nat} {t : T} (h : HB n t) : fz S n f t = some t := by
 cases f <;> (unfold fz; rw [if_pos h])
theorem zov {F : Fn} {ts us : List T} {S' : Sto} {k : Nat} (h : F ts S = .ok (.obj k) S') (hS : S'.take S.length = S) (hk : S.length <= k) (hc : S'[k]? = some (.lst us)) (hb : ∀ t ∈ us, HB S.length t) : frzF F ts S = .ok (.lst us) S := by
 unfold frzF;rw [h];simp only [if_pos hS];have e : fz S' S.length 6 (.obj k) = some (.lst us) := by
  unfold fz;rw [if_neg (by simp only [HB]; omega)];simp only [hc];rw [zsc fun t ht => z02 (hb t ht)];rfl
 rw [e]
theorem zl7 {F : Fn} {ts : List T} {S' : Sto} {t : T} (h : F ts S = .ok t S') (hS : S'.take S.length = S) (hb : HB S.length t) : frzF F ts S = .ok t S := by
 unfold frzF;rw [h];simp only [if_pos hS];rw [z02 hb]
theorem zx3 {F : Fn} {ts : List T} {S' : Sto} {C : Addr} (h : F ts S = .exc C none S') (hS : S'.take S.length = S) : frzF F ts S = .exc C none S := by
 unfold frzF;rw [h];simp only [if_pos hS]
@[simp] theorem x_mt (ok : Sto -> T -> Bool) (g : T -> List T -> M T) (fo : DE) (fr : DA) : eMt ok g fo fr ρ S = (fo ρ).bind (fun t => fun S => if ok S t = true then ((fr ρ).bind fun ts => g t ts) S else .bad) S := rfl
theorem z22 {k : Nat} {ts : List T} {y : T} (h : S[k]? = some (.lst ts)) (hl : ts.length < 1000) : gApp (.obj k) [y] S = .ok .non (S.set k (.lst (ts ++ [y]))) := by
 simp [gApp, cellL, h, hl]
theorem zsd {k : Nat} {ts us : List T} {y : T} (h : S[k]? = some (.lst ts)) (hy : zav S y = some us) (hl : ts.length + us.length <= 1000) : gExt (.obj k) [y] S = .ok .non (S.set k (.lst (ts ++ us))) := by
 simp [gExt, cellL, h, hy, hl]
theorem zjk {k : Nat} {ts : List T} (h : S[k]? = some (.lst ts)) : okL S (.obj k) = true := by simp [okL, zav, h]
theorem zj1 {k : Nat} {ts : List T} (h : S[k]? = some (.lst ts)) : zav S (.obj k) = some ts := by simp [zav, h]
@[simp] theorem z03 (n : Nat) (x : Str) : HB n (.str x) := by simp [HB]
@[simp] theorem z3w (n : Nat) (x : Int) : HB n (.int x) := by simp [HB]
@[simp] theorem z4q (n : Nat) (x : Bool) : HB n (.bl x) := by simp [HB]
@[simp] theorem z04 (n : Nat) : HB n .non := by simp [HB]
theorem znl {n : Nat} : ∀ {ts : List T}, (∀ t ∈ ts, HB n t) -> HBs n ts
 | [], _ => by simp only [HBs]
 | t :: ts, h => by simp only [HBs]; exact ⟨h t (List.mem_cons_self ..), znl fun u hu => h u (List.mem_cons_of_mem _ hu)⟩
theorem zv3 {n : Nat} {ts : List T} (h : ∀ t ∈ ts, HB n t) : HB n (.lst ts) := by simp only [HB]; exact znl h
theorem zj2 {n : Nat} {ts : List T} (h : ∀ t ∈ ts, HB n t) : HB n (.tup ts) := by simp only [HB]; exact znl h
def strL (l : List Str) : T := .lst (l.map .str)
theorem zse {n : Nat} (l : List Str) : HB n (strL l) := zv3 fun t ht => by
 obtain ⟨x, _, rfl⟩ := List.mem_map.mp ht;exact z03 n x
theorem zgn : ∀ (l : List Str), (l.map T.str).mapM toV = some (l.map V.str)
 | [] => rfl
 | a :: r => by
   rw [List.map_cons, List.mapM_cons, zgn r];rfl
theorem zj3 : ∀ {l : List Str}, (l.map V.str).all zg1 = true
 | [] => rfl
 | a :: r => by
   rw [List.map_cons, List.all_cons, zj3];rfl
theorem zl8 {x : Str} : ∀ {l : List Str}, inV (.str x) (l.map V.str) = l.contains x
 | [] => rfl
 | a :: r => by
   rw [List.contains_cons, <- zl8 (l := r)];show ((a == x) || _) = _;rw [BEq.comm];rfl
theorem zow (x : Str) (l : List Str) : inF (.str x) (l.map T.str) = some (l.contains x) := by
 unfold inF;rw [zgn];simp only [toV];rw [if_pos (by rw [zj3]; rfl), zl8]
theorem zx4 {x : Str} {y : T} {l : List Str} (h : zcw S y = some (l.map T.str)) : gIn (.str x) y S = .ok (.bl (l.contains x)) S := by
 simp [gIn, inS, h, zow]
theorem zox {x : Str} {y : T} {l : List Str} (h : zcw S y = some (l.map T.str)) : zik (.str x) y S = .ok (.bl (!l.contains x)) S := by
 simp [zik, inS, h, zow]
@[simp] theorem zuh (x : Str) (l : List Str) : gIn (.str x) (strL l) S = .ok (.bl (l.contains x)) S := zx4 rfl
@[simp] theorem z1v (x : Str) (l : List Str) : zik (.str x) (strL l) S = .ok (.bl (!l.contains x)) S := zox rfl
end MF
namespace MF
open PySem L2
theorem zoy {α : Type} : ∀ {K : List (Addr × α)} {a : Addr} {o : α}, K.lookup a = some o -> (a, o) ∈ K
 | [], _, _, e => by cases e
 | (b, x) :: K, a, o, e => by
   rw [List.lookup_cons] at e;cases h : a == b with
   | true =>
     rw [h] at e;cases e;rw [eq_of_beq h];exact List.mem_cons_self ..
   | false =>
     rw [h] at e;exact List.mem_cons_of_mem _ (zoy e)
def zsf (K : PySem.W.Frag) : Bool := K.all fun p => !(p.2.cls == Value.type "list")
theorem zsg {K : PySem.W.Frag} {a : Addr} {o : Obj} (h : zsf K = true) (e : K.lookup a = some o) : o.cls ≠ .type "list" := fun z => by
 have hm : (a, o) ∈ K := zoy e;have := List.all_eq_true.mp h (a, o) hm;rw [show (a, o).2.cls = Value.type "list" from z] at this;simp at this
def zui (K : PySem.W.Frag) : Sp := fun vs H Q _ => ∃ (a : Addr) (ns : List Int), vs = [.ref a] /\ SqL K H a (ns.map V.int) /\ ns.length <= 63 /\ ∀ H', Q (.bl true) H'
theorem zl9 {W : Wd} : ∀ (ns : List Int), Dens W (ns.map T.int) (ns.map V.int)
 | [] => Dens.nil'
 | n :: ns => Dens.cons' (zap.mpr rfl) (zl9 ns)
theorem z05 {P : Program} {w : World} {K : PySem.W.Frag} {mg : Str -> Option Value} {base : Heap} {k : Nat} {f : Addr} {fd : FuncData} {F : Fn} (G : FnOk P w K mg base (CXE P w) k f fd ["script"] (spM 1 F)) (nl : zsf K = true)
  (h : ∀ ns : List Int, ns.length <= 63 -> ∃ S', F [.lst (ns.map .int)] [] = .ok (.bl true) S') : FnOk P w K mg base CX0 k f fd ["script"] (zui K) := by
 refine G.calm.imp fun vs H Q E q => ?_;obtain ⟨a, ns, rfl, sq, hl, q⟩ := q;have rd : Rd H a (.lst (ns.map V.int)) := by
  rcases sq with rd | ⟨o, its, n, hk, hc, _⟩
  ·exact rd
  ·exact absurd hc (zsg nl hk)
 refine ⟨⟨fun b => if b = a then some (.lst (ns.map V.int)) else none, fun _ => 0, 0, fun _ => none, fun _ => none⟩, [], [.lst (ns.map .int)], ⟨fun b o e => ?_, rfl, (fun k c e => by simp at e), (fun j k hj => absurd hj (Nat.not_lt_zero _)), (fun b o e => nomatch e), fun b o e => nomatch e⟩, Dens.cons' (zc8.mpr ⟨a, _, rfl, if_pos rfl, zl9 ns⟩) Dens.nil', rfl, ?_⟩
 ·have e : (if b = a then some (HO.lst (ns.map V.int)) else none) = some o := e
  by_cases z : b = a
  ·rw [if_pos z] at e
   cases e;subst z;refine ⟨?_, trivial⟩;rcases rd with r | r
   ·exact .inl r
   ·exact .inr ⟨r, by intro xs z; cases z⟩
  ·rw [if_neg z] at e; cases e
 ·obtain ⟨S', e⟩ := h ns hl
  rw [e];intro W' H' _ _ v dv;rw [zax.mp dv];exact q H'
theorem walkM {l : PySem.W.OpenLaw} {q : Program} {loose : List Str} {XP : (Str -> Option Value) -> Heap -> Prop} {YP : World -> Heap -> Prop} {d : DefRec} {K : Params -> PySem.W.Frag} {k : Nat} (hk : Room k PySem.callerA) (hn : l.most = some 63) (hdf : d.params.defaults = [])
  (hY : ∀ (w : World) (h : Heap), YP w h -> (K w.params).In h)
  (F : ∀ (w : World) (mg : Str -> Option Value) (fa : Addr) (h : Heap), (K w.params).In h -> h.Ns mainGlobals mg -> mg d.name = some (.ref fa) ->
   ∃ fd : FuncData, (∀ (s : Shared) (u : Value), BindsTo s fd ⟨[u], []⟩ [("script", u)]) /\ ∀ base : Heap, (K w.params).In base -> base.Ns mainGlobals mg -> FnOk l.prog w (K w.params) mg base CX0 k fa fd ["script"] (zui (K w.params))) :
  PySem.W.WalkO q loose XP YP l.row.toRowW d [] (fun f vs => PySem.call f vs) :=
 L2.walk_of (n := 63) (k := k) (x := "script") (CX := fun _ => CX0) (sp := fun w => zui (K w.params)) hn (by decide) hdf hk hY F (fun _ _ a ns hl _ hS => ⟨a, ns, rfl, hS, hl, fun _ => rfl⟩) fun _ _ _ _ _ z => z
end MF
namespace MF
open PySem PySem.Spec L2
section
variable {W : Wd} {S : Sto} {H : Hp}
theorem Rep.privTake (r : Rep W S H) {d : Addr} {ks : List (Str × V)} (hd : H d = some (.xd ks)) (h0 : W.HS d = none) : ∃ W1 : Wd, W.le W1 /\ Rep W1 S H /\ W1.P d = some (.xd ks) /\ W1.HS = W.HS /\ W1.μ = W.μ /\ W1.n = W.n := by
 have nc : ∀ k, k < W.n -> W.μ k ≠ d := fun k hk z => by
  obtain ⟨c, hc⟩ := r.cellAt hk;have q := (r.cell k c hc).1;rw [z] at q;cases c with
  | lst ts => obtain ⟨_, h1, _⟩ := q; rw [hd] at h1; cases h1
  | dic ts => obtain ⟨_, h1, _⟩ := q; rw [hd] at h1; cases h1
  | ins _ ts => obtain ⟨_, _, h1, _⟩ := q; rw [hd] at h1; cases h1
  | exc _ ts => obtain ⟨_, h1, _⟩ := q; rw [hd] at h1; cases h1
  | lck ts => obtain ⟨_, _, h1, _⟩ := q; rw [hd] at h1; cases h1
 cases e : W.P d with
 | some o =>
   have := (r.prv d o e).1;rw [hd] at this;cases this;exact ⟨W, Wd.le.refl W, r, e, rfl, rfl, rfl⟩
 | none =>
   refine ⟨W.priv d (.xd ks), Wd.priv_le e, ?_, zaj, rfl, rfl, rfl⟩;refine r.samePriv rfl rfl rfl rfl (fun ek c => zbw.hs (W := W) (W' := W.priv d (.xd ks)) rfl rfl rfl (fun d' ks' z => ?_) c) (fun a u _ h => h) (fun a q u _ h => h) fun a u z => ?_
   ·show upd W.P d (.xd ks) d' = _
    rw [zah (fun q => by rw [q, e] at z; cases z)]; exact z
   ·have z : upd W.P d (.xd ks) a = some u := z
    by_cases q : a = d
    ·subst q; rw [zaj] at z; cases z; exact ⟨hd, h0, nc⟩
    ·rw [zah q] at z; exact r.prv a u z
theorem Rep.caught (r : Rep W S H) {ea C : Addr} {dx : Option Addr} {fs : Option (List (Str × T))} (he : H ea = none) (x : XOk W H dx fs) :
  ∃ W1 : Wd, W.le W1 /\ Rep W1 (S ++ [.exc C fs]) (upd H ea (excL ea C dx)) /\ W1.μ S.length = ea /\ S.length < W1.n := by
 have key : ∃ W1 : Wd, W.le W1 /\ Rep W1 S H /\ XP W1 dx fs /\ W1.n = W.n := by
  cases dx with
  | none =>
    cases fs with
    | none => exact ⟨W, Wd.le.refl W, r, trivial, rfl⟩
    | some _ => exact x.elim
  | some d =>
    cases fs with
    | none => exact x.elim
    | some fs =>
      obtain ⟨ks, x1, x2, x3⟩ := x;obtain ⟨W1, l, r1, p1, _, _, n1⟩ := r.privTake x1 x2;exact ⟨W1, l, r1, ⟨ks, p1, DenF.mono l x3⟩, n1⟩
 obtain ⟨W1, l, r1, x1, n1⟩ := key;refine ⟨W1.add ea, l.trans Wd.add_le, r1.cellNew he (.exc C fs) (excL ea C dx) ⟨dx, zaj, x1.mono Wd.add_le⟩, ?_, ?_⟩
 ·rw [r.len, <- n1]; exact Wd.add_at
 ·rw [r.len, <- n1]; exact Nat.lt_succ_self _
end
def msk {α : Type} (js : List Nat) (l : List (Option α)) : List (Option α) := js.foldl (fun r j => r.set j none) l
theorem zsh {α : Type} : ∀ (js : List Nat) (l : List (Option α)), (msk js l).length = l.length
 | [], _ => rfl
 | j :: js, l => by show (msk js (l.set j none)).length = _; rw [zsh js, List.length_set]
theorem znm {α : Type} : ∀ (js : List Nat) (l : List (Option α)) {i : Nat} {v : α}, (msk js l)[i]? = some (some v) -> l[i]? = some (some v)
 | [], _, _, _, h => h
 | j :: js, l, i, v, h => by
   have h := znm js (l.set j none) h;by_cases z : i = j
   ·subst z
    rw [List.getElem?_set] at h;simp at h
   ·rwa [List.getElem?_set_ne (Ne.symm z)] at h
theorem zoz {α : Type} : ∀ (js : List Nat) (l : List (Option α)) {i : Nat}, i ∈ js -> ∀ v : α, (msk js l)[i]? ≠ some (some v)
 | j :: js, l, i, hi, v => by
   intro h;have h2 := znm js (l.set j none) h;rcases List.mem_cons.mp hi with z | z
   ·subst z
    rw [List.getElem?_set] at h2;simp at h2
   ·exact zoz js (l.set j none) z v h
theorem zau.unset {W : Wd} : ∀ {ρ : Ev} {σ : St} (i : Nat), zau W ρ σ -> zau W (ρ.set i none) (σ.set i none)
 | [], σ, i, h => by rw [show σ = [] from h]; exact rfl
 | o :: ρ, σ, i, ⟨s, r, e0, h1, h2⟩ => by
   subst e0;cases i with
   | zero => exact ⟨_, _, rfl, trivial, h2⟩
   | succ i => exact ⟨_, _, rfl, h1, zau.unset i h2⟩
theorem zau.msk {W : Wd} : ∀ (js : List Nat) {ρ : Ev} {σ : St}, zau W ρ σ -> zau W (msk js ρ) (msk js σ)
 | [], _, _, h => h
 | j :: js, _, _, h => zau.msk js (zau.unset j h)
def zuj {α : Type} : R α -> R α
 | .exc _ _ _ => .bad
 | r => r
def unI (i : Nat) : R Fl -> R Fl
 | .ok (.nx ρ) S => .ok (.nx (ρ.set i none)) S
 | .ok (.bk ρ) S => .ok (.bk (ρ.set i none)) S
 | .ok (.ct ρ) S => .ok (.ct (ρ.set i none)) S
 | r => r
abbrev DH := Addr -> Option (List (Str × T)) -> DS
def dTry (fb : DS) (js : List Nat) (fh : DH) : DS := fun ρ S => match fb ρ S with
 | .ok x S' => .ok x S'
 | .exc C fs S' => fh C fs (msk js ρ) S'
 | .bad => .bad
def RH (E : XK) (fh : DH) : THd := fun cls dx _ D σ H => ∃ C fs W S ρ, cls = .ref C /\ Rep W S H /\ XOk W H dx fs /\ zau W ρ σ /\ Post E W (QF D) (fh C fs ρ S)
def zv4 : DH := fun _ _ _ _ => .bad
def z4r (sub : Addr -> Option Bool) (ds : DS) (r : DH) : DH := fun C fs ρ S => match sub C with
 | some true => zuj (ds ρ S)
 | some false => r C fs ρ S
 | none => .bad
def hdAs (sub : Addr -> Option Bool) (i : Nat) (ds : DS) (r : DH) : DH := fun C fs ρ S => match sub C with
 | some true => unI i (zuj (ds (ρ.set i (some (.obj S.length))) (S ++ [.exc C fs])))
 | some false => r C fs ρ S
 | none => .bad
def SubK (K : PySem.W.Frag) (D : Addr) (sub : Addr -> Option Bool) : Prop := ∀ C b, sub C = some b -> ∃ bm, zdc K C = some bm /\ (Value.ref C :: bm).contains (.ref D) = b
section
variable {X : Cx} {E : XK} {x n : Str} {np pos : Pos} {b₀ : Stmt} {suite body : List Stmt} {rest hs : List ExceptHandler} {h₀ : ExceptHandler} {D : Addr} {bmD : List Value} {sub : Addr -> Option Bool} {ds fb : DS} {fr fh : DH} {i : Nat} {js : List Nat}
theorem z06 : PH X [] (RH E zv4) := fun pins s σ H D ea cls a0 dx B ok car car2 fly hd h => by
 obtain ⟨_, _, _, _, _, _, _, _, _, p⟩ := h;exact p.elim
theorem z23 {t t' : THd} (h : PH X hs t) (w : ∀ cls dx ea D σ H, t' cls dx ea D σ H -> t cls dx ea D σ H) : PH X hs t' := fun pins s σ H D ea cls a0 dx B ok car car2 fly hd q => h pins s σ H D ea cls a0 dx B ok car car2 fly hd (w _ _ _ _ _ _ q)
theorem h_as (hN : X.N.Nodup) (hi : X.N[i]? = some n) (hx : X.env.scope.names.lookup n = some .local) (hg : Gl X x) (hm : X.mg x = some (.ref D)) (qD : zdc X.K D = some bmD) (sk : SubK X.K D sub) (hs : ∀ ea, PSs (X.inExc ea) (b₀ :: suite) (RS E0 ds)) (hr : PH X rest (RH E fr))
  (hk : ∀ u : V, X.kn[i]? ≠ some (some u) := by exact fun u h => nomatch (show (none : Option (Option V)) = some (some u) from h)) (hdb : (x == ("__debug__" : Str)) = false := by decide) :
  PH X (.ExceptHandler (some (.Name x np)) (some n) (b₀ :: suite) pos :: rest) (RH E (hdAs sub i ds fr)) := z23 (zt5 hg hm qD hN hi hx hk hs hr hdb) fun cls dx ea En σ H h => by
 obtain ⟨C, fs, W, S, ρ, rfl, r, xo, env, p⟩ := h;unfold hdAs at p;cases e : sub C with
 | none => rw [e] at p; exact p.elim
 | some b =>
   obtain ⟨bm, q1, q2⟩ := sk C b e;rw [e] at p;refine ⟨C, bm, rfl, q1, ?_⟩;rw [q2];cases b with
   | false => rw [if_neg (by decide)]; exact ⟨C, fs, W, S, ρ, rfl, r, xo, env, p⟩
   | true =>
     rw [if_pos rfl];intro he;obtain ⟨W1, l1, r1, m1, n1⟩ := r.caught (C := C) he xo;refine ⟨W1, _, _, r1, (env.mono l1).set (zbs.mpr ⟨by rw [m1], n1⟩) i, ?_⟩
     revert p
     cases ds (ρ.set i (some (.obj S.length))) (S ++ [.exc C fs]) with
     | bad => exact fun p => p.elim
     | exc _ _ _ => exact fun p => p.elim
     | ok y S2 =>
       cases y with
       | nx ρ2 => exact fun p W2 H2 l2 r2 σ2 e2 => p W2 H2 (l1.trans l2) r2 _ (e2.unset i)
       | bk ρ2 => exact fun p W2 H2 l2 r2 σ2 e2 => p W2 H2 (l1.trans l2) r2 _ (e2.unset i)
       | ct ρ2 => exact fun p W2 H2 l2 r2 σ2 e2 => p W2 H2 (l1.trans l2) r2 _ (e2.unset i)
       | rt t => exact fun p W2 H2 l2 r2 => p W2 H2 (l1.trans l2) r2
theorem z24 (hb : ∀ (pn : List (Addr × Obj)) (kn : St) (xe : Value -> Shared -> Prop) (R : XK), (∀ j ∈ js, ∀ u : V, kn[j]? ≠ some (some u)) -> zc7 (CXE X.prog X.w) (X.tryIn pn kn xe) R -> PassesOwn (model X.prog X.w) X.A X.env xe -> PSs (X.tryIn pn kn xe) body (RS R fb))
  (hh : PH X (h₀ :: hs) (RH E fh)) (h0 : X.kn = [] := by rfl) (hst : X.stack = X.env :: X.outer := by rfl) (hfr : X.env.frame = some X.env.locals := by rfl) :
  PS X (.Try body (h₀ :: hs) [] [] pos) (RS E (dTry fb js fh)) := zg3 (zzs hh hst hfr) fun D σ H h => by
 obtain ⟨W, S, ρ, r, env, p⟩ := h;refine ⟨msk js σ, fun cls dx H' => ∃ C fs W' S', cls = .ref C /\ W.le W' /\ Rep W' S' H' /\ XOk W' H' dx fs /\ Post E W' (QF D) (fh C fs (msk js ρ) S'), RS _ fb, zsh js σ, fun i v e => znm js σ e, fun i v e => by rw [h0] at e; simp at e,
  fun pn xe pas own => hb pn _ xe _ (fun j hj u => zoz js σ hj u) pas own, ⟨W, S, ρ, r, env, ?_⟩, fun cls dx ea H' q => ?_⟩
 ·unfold dTry at p
  revert p
  cases fb ρ S with
  | ok y S2 => exact fun p => p
  | bad => exact fun p => p.elim
  | exc C fs S2 =>
    intro p W2 H2 dx l2 r2 x2;refine ⟨C, fs, W2, S2, rfl, l2, r2, x2, ?_⟩
    revert p
    show Post E W (QF D) (fh C fs (msk js ρ) S2) -> _;cases fh C fs (msk js ρ) S2 with
    | ok y S3 => exact fun p W3 H3 l3 r3 => p W3 H3 (l2.trans l3) r3
    | exc _ _ _ => exact fun p W3 H3 dx l3 r3 => p W3 H3 dx (l2.trans l3) r3
    | bad => exact fun p => p
 ·obtain ⟨C, fs, W', S', rfl, l, r', x', p'⟩ := q
  exact ⟨C, fs, W', S', _, rfl, r', x', (env.mono l).msk js, p'⟩
end
end MF
namespace MF
open PySem PySem.Spec PyProof.Rows L2
def okV (two : Bool) (x y : V) : Prop := ∃ a, x = .str a /\ (reprText a).length <= 1000 /\ (two = true -> ∃ b, y = .str b /\ (reprText b).length <= 1000)
def spX2 (C : Addr) (f g : Str) (two : Bool) : Sp := fun vs H Q _ => ∃ e x y, vs = [.ref e, x, y] /\ H e = some (excO e C none) /\ okV two x y /\ f ≠ g /\ ∀ d, H d = none -> Q .non (upd (upd H e (excO e C (some d))) d (.xd [(f, x), (g, y)]))
section
variable {P : Program} {w : World} {K : PySem.W.Frag} {mg : Str -> Option Value} {base : Heap}
theorem zuk {qual : Str} {st : Stmt} {dV : Value} {C fI : Addr} {fd : FuncData} {p1 p2 f g : Str} {k : Nat} {two : Bool} {tm : TE} (F : FunV K "__init__" qual st dV fI fd) (S : zar ["self", p1, p2] ["self", p1, p2] (zac st))
  (hx : XCls K C) (q : zd9 K C fI = true) (nf : PySem.W.findIn K (.ref C) f = some none) (ng : PySem.W.findIn K (.ref C) g = some none)
  (hbody : ∀ (cdv : Value) (A : Around) (outer : List Env) (s : Shared) (H : Hp) (E : XK), Room k (A.deeper (envOfC qual (zac st) s.heap.objs.size fI cdv)) ->
   PSs (cxOf (CXE P w) P w K mg base ["self", p1, p2] qual (zac st) fI cdv A outer s H E) (zan st) (tSeq (zyx (zvn K (zqu (tVar 0) (zqu tm tNil)))) (tSeq (zxd K (tVar 0) (tVar 1) f) (zxd K (tVar 0) (tVar 2) g))))
  (hmsg : ∀ (e : Addr) (x y : V) (H : Hp) (Q : VK), okV two x y -> (∀ m, Q (.str m) H) -> tm [some (.ref e), some x, some y] H Q) :
  FnOk P w K mg base (CXE P w) (k + 1) fI fd ["self", p1, p2] (spX2 C f g two) := by
 refine F.okE S (fun vs H Q E h => ?_) fun cdv A outer s H vs Q E hr h => ⟨_, hbody cdv A outer s H E hr, ?_⟩
 ·obtain ⟨e, x, y, rfl, _⟩ := h; rfl
 ·obtain ⟨e, x, y, rfl, he, ok, fg, h⟩ := h
  refine ⟨.ref e, rfl, hmsg e x y H _ ok fun m => ?_⟩;refine ⟨e, .str m, C, fI, none, rfl, he, q, ?_⟩;refine ⟨x, rfl, .ref e, rfl, e, C, rfl, hx, nf, .inl ⟨he, fun d hd => ?_⟩⟩;have de : d ≠ e := fun z => by rw [z, he] at hd; cases hd
  refine ⟨y, rfl, .ref e, rfl, e, C, rfl, hx, ng, .inr ⟨d, [(f, x)], ?_, zaj, (show 1 < 1000 by decide), ?_⟩⟩
  ·rw [zah (Ne.symm de), zaj]
  ·show Q .non _
   rw [zwh, show putF g y [(f, x)] = [(f, x), (g, y)] from by unfold putF; rw [if_neg fg]; rfl];exact h d hd
end
def okW : T -> Bool
 | .str b => decide ((reprText b).length <= 1000)
 | _ => false
def okM (two : Bool) (x y : T) : Bool := okW x && (!two || okW y)
theorem zv5 {W : Wd} {x : T} {u : V} (h : okW x = true) (d : Den W x u) : ∃ a, u = .str a /\ (reprText a).length <= 1000 := by
 cases x with
 | str a => exact ⟨a, zaz.mp d, of_decide_eq_true h⟩
 | _ => cases h
def zku (C : Addr) (f g : Str) (two : Bool) (fr : DA) : DS := fun ρ => (fr ρ).bind fun ts => fun S => match ts with
 | [x, y] => if okM two x y = true then .exc C (some [(f, x), (g, y)]) S else .bad
 | _ => .bad
theorem zx5 {W : Wd} {two : Bool} {x y : T} {u v : V} (h : okM two x y = true) (dx : Den W x u) (dy : Den W y v) : okV two u v := by
 unfold okM at h;rw [Bool.and_eq_true] at h;obtain ⟨a, e1, e2⟩ := zv5 h.1 dx;refine ⟨a, e1, e2, fun t => zv5 ?_ dy⟩;have h2 := h.2;rw [t] at h2;simpa using h2
section
variable {X : Cx} {E : XK} {k : Nat} {C fI : Addr} {fd : FuncData} {ps : List Str} {f g y : Str} {two : Bool} {np cpos pos : Pos} {e : Expr} {es : List Expr} {fr : DA} {fa : DE}
theorem zul (hx : zii X E) (hc : X.calm = true) (fg : f ≠ g) (q : zd9 X.K C fI = true) (hf : PySem.W.isFn X.K (.ref fI) = true) (F : FnOk X.prog X.w X.K X.mg X.base (CXE X.prog X.w) k fI fd ps (spX2 C f g two)) (hr : Room (k + 1) X.A) (hb : zeg X.K fd ps [])
  (hg : Gl X y) (hm : X.mg y = some (.ref C)) (ha : PA X (e :: es) (RA E fr))
  (hdb : (y == ("__debug__" : Str)) = false := by decide) (he : starEach (e :: es) X.env = (false, eval e X.env) :: starEach es X.env := by rfl) (hpl : (backTo cpos (starEach es X.env)).any (·.1) = false := by rfl) :
  PS X (.Raise (some (.Call (.Name y np) (e :: es) [] cpos)) none pos) (RS E (zku C f g two fr)) := zg3 (zrl hx z0s hc q hf F hr hb hg hm ha hdb he hpl) fun D σ H h => by
 obtain ⟨W, S, ρ, rp, env, p⟩ := h;refine ⟨W, S, ρ, rp, env, (Post.bind p).imp fun ts W1 S1 H1 l1 r1 p1 vs dv => ?_⟩
 split at p1
 case h_2 => exact p1.elim
 case h_1 tx ty =>
  split at p1
  case isFalse => exact p1.elim
  case isTrue ok =>
   obtain ⟨u, r0, rfl, du, d0⟩ := zas.mp dv;obtain ⟨v, r1', rfl, dv', d1⟩ := zas.mp d0;obtain rfl := za6.mp d1;refine ⟨by show 2 <= sizeLine; rw [sizeLine_eq]; omega, fun ea hea => ⟨ea, u, v, rfl, zaj, zx5 ok du dv', fg, fun d hd => ⟨rfl, some d, ?_, ?_⟩⟩⟩
   ·have ne : ea ≠ d := fun z => by rw [z, zaj] at hd; cases hd
    rw [zah ne, zaj]
   ·have ne : d ≠ ea := fun z => by rw [z, zaj] at hd; cases hd
    have hd1 : H1 d = none := by rw [zah ne] at hd; exact hd
    have eqH : unt (upd (upd (upd H1 ea (excO ea C none)) ea (excO ea C (some d))) d (.xd [(f, u), (g, v)])) ea = upd H1 d (.xd [(f, u), (g, v)]) := by
     funext b;by_cases z : b = ea
     ·subst z
      rw [zhy, zah (Ne.symm ne)]; exact hea.symm
     ·rw [zih z]
      by_cases z2 : b = d
      ·subst z2; rw [zaj, zaj]
      ·rw [zah z2, zah z, zah z, zah z2]
    rw [eqH];exact p1 W1 _ (some d) (Wd.le.refl _) (r1.extra hd1 _) ⟨_, zaj, r1.hsNone hd1, ⟨u, _, rfl, du, ⟨v, _, rfl, dv', rfl⟩⟩⟩
def gXat (C : Addr) (f : Str) (t : T) : M T := fun S => match t with
 | .obj k => (match S[k]? with
   | some (.exc D (some fs)) => if D = C then (match fs.lookup f with
     | some t => .ok t S
     | none => .bad) else .bad
   | _ => .bad)
 | _ => .bad
theorem z07 (hX : XGet X.K C) (hn : PySem.W.findIn X.K (.ref C) f = some none) (he : PE X e (RE E fa)) (hb : attributeBase e f X.env (eval e X.env) = eval e X.env := by rfl) : PE X (.Attribute e f pos) (RE E (e1 (gXat C f) fa)) :=
 zbp (zz1 he hb) fun σ H Q h => re1 (r := fun x H1 Q => ∃ a C d fs v, x = .ref a /\ H1 a = some (excL a C (some d)) /\ XGet X.K C /\ PySem.W.findIn X.K (.ref C) f = some none /\ H1 d = some (.xd fs) /\ fs.lookup f = some v /\ Q v H1) (fun t W S H v Q r d p => by
  unfold gXat at p
  split at p
  case h_2 => exact p.elim
  case h_1 k =>
   split at p
   case h_2 => exact p.elim
   case h_1 D fs ec =>
    split at p
    case isFalse => exact p.elim
    case isTrue eD =>
     subst eD
     split at p
     case h_2 => exact p.elim
     case h_1 t el =>
      obtain ⟨rfl, hk⟩ := zbs.mp d;obtain ⟨⟨dx, h1, h2⟩, _⟩ := r.cell k _ ec;cases dx with
      | none => exact h2.elim
      | some d0 =>
        obtain ⟨ks, g1, g2⟩ := h2;obtain ⟨v, lv, dv⟩ := (DenF.look g2).1 t el;exact ⟨_, _, d0, ks, v, rfl, h1, hX, hn, (r.prv d0 _ g1).1, lv, now p r dv⟩) h
def gIsX (sub : Addr -> Option Bool) (t : T) : M T := fun S => match t with
 | .obj k => (match S[k]? with
   | some (.exc D _) => (match sub D with
     | some b => .ok (.bl b) S
     | none => .bad)
   | _ => .bad)
 | _ => .bad
def SubX (K : PySem.W.Frag) (cu : Value) (sub : Addr -> Option Bool) : Prop := ∀ C b, sub C = some b -> XKit K C /\ PySem.W.kitOne K (.ref C) cu = some b
theorem zv6 {cu : Value} {c : V} {sub : Addr -> Option Bool} (hu : ∀ u, RelV c u -> u = cu) (sk : SubX X.K cu sub) {σ : L2.St} {H : Hp} {Q : VK} (h : RE E (e1 (gIsX sub) fa) σ H Q) :
  zqu (RE E fa) (zqu (tC c) tNil) σ H (fun xs H1 => ∃ a C dx c cu b, xs = [.ref a, c] /\ (∀ u, RelV c u -> u = cu) /\ H1 a = some (excL a C dx) /\ XKit X.K C /\ PySem.W.kitOne X.K (.ref C) cu = some b /\ (∀ d, dx = some d -> ∃ fs, H1 d = some (.xd fs)) /\ Q (.bl b) H1) :=
 re1 (r := fun x H1 Q => ∃ a C dx c' cu b, [x, c] = [.ref a, c'] /\ (∀ u, RelV c' u -> u = cu) /\ H1 a = some (excL a C dx) /\ XKit X.K C /\ PySem.W.kitOne X.K (.ref C) cu = some b /\ (∀ d, dx = some d -> ∃ fs, H1 d = some (.xd fs)) /\ Q (.bl b) H1) (fun t W S H v Q r d p => by
  unfold gIsX at p
  split at p
  case h_2 => exact p.elim
  case h_1 k =>
   split at p
   case h_2 => exact p.elim
   case h_1 D fs ec =>
    split at p
    case h_2 => exact p.elim
    case h_1 b es =>
     obtain ⟨rfl, hk⟩ := zbs.mp d;obtain ⟨⟨dx, h1, h2⟩, _⟩ := r.cell k _ ec;obtain ⟨q1, q2⟩ := sk D b es;refine ⟨_, D, dx, c, cu, b, rfl, hu, h1, q1, q2, fun d0 z => ?_, now p r (zax.mpr rfl)⟩;subst z;cases fs with
     | none => exact h2.elim
     | some fs =>
       obtain ⟨ks, g1, _⟩ := h2;exact ⟨ks, (r.prv d0 _ g1).1⟩) h
theorem z08 {D : Addr} {p q : Pos} {sub : Addr -> Option Bool} (gl : Gl X "isinstance") (hm : X.mg "isinstance" = none) (ha : PE X e (RE E fa)) (gy : Gl X y) (my : X.mg y = some (.ref D)) (sk : SubX X.K (.ref D) sub) (dy : (y == ("__debug__" : Str)) = false := by decide)
  (he : starEach [e, .Name y q] X.env = (false, eval e X.env) :: starEach [.Name y q] X.env := by rfl) (he2 : starEach [.Name y q] X.env = (false, eval (.Name y q) X.env) :: starEach [] X.env := by rfl) (hpl : (backTo pos (starEach [.Name y q] X.env)).any (·.1) = false := by rfl) :
  PE X (.Call (.Name "isinstance" p) [e, .Name y q] [] pos) (RE E (e1 (gIsX sub) fa)) :=
 zbp (zhu zjz gl hm znf (zds ha (zds (zqi (v := .ref D) gy my rfl dy) zhe he2) he) (by decide) (by decide) he hpl) fun σ H Q h => zv6 (c := .ref D) (cu := .ref D) (fun u z => z) sk h
theorem zv7 {p q : Pos} {sub : Addr -> Option Bool} (gl : Gl X "isinstance") (hm : X.mg "isinstance" = none) (ha : PE X e (RE E fa)) (gy : Gl X "ValueError") (my : X.mg "ValueError" = none) (sk : SubX X.K (.type "ValueError") sub)
  (he : starEach [e, .Name "ValueError" q] X.env = (false, eval e X.env) :: starEach [.Name "ValueError" q] X.env := by rfl) (he2 : starEach [.Name "ValueError" q] X.env = (false, eval (.Name "ValueError" q) X.env) :: starEach [] X.env := by rfl) (hpl : (backTo pos (starEach [.Name "ValueError" q] X.env)).any (·.1) = false := by rfl) :
  PE X (.Call (.Name "isinstance" p) [e, .Name "ValueError" q] [] pos) (RE E (e1 (gIsX sub) fa)) :=
 zbp (zhu zjz gl hm znf (zds ha (zds (zqj (v := .ty "ValueError") gy my (by decide +kernel) rfl) zhe he2) he) (by decide) (by decide) he hpl) fun σ H Q h => zv6 (c := .ty "ValueError") (cu := .type "ValueError") (fun u z => z) sk h
end
end MF
namespace MF
open PySem L2
def subH (L : List Addr) : Addr -> Option Bool := fun C => if C ∈ L then some true else none
def subL (L : List Addr) (D : Addr) : Addr -> Option Bool := fun C => if C ∈ L then some (decide (C = D)) else none
section
variable {K : PySem.W.Frag} {h D : Addr} {L : List Addr}
theorem z09 (D : Addr) : bmVE.contains (.ref D) = false := rfl
theorem zsi (C D : Addr) : (Value.ref C == Value.ref D) = decide (C = D) := by
 by_cases e : C = D
 ·subst e; simp
 ·rw [decide_eq_false e]; exact beq_eq_false_iff_ne.mpr (fun z => e (Value.ref.inj z))
theorem z1a (m : ∀ C ∈ L, C ≠ h -> zdc K C = some (.ref h :: bmVE)) (mh : zdc K h = some bmVE) : SubK K h (subH L) := fun C b e => by
 unfold subH at e
 split at e
 case isFalse => cases e
 case isTrue hC =>
  cases e;by_cases z : C = h
  ·subst z; exact ⟨_, mh, by rw [List.contains_cons, beq_self_eq_true]; rfl⟩
  ·exact ⟨_, m C hC z, by rw [List.contains_cons, List.contains_cons, beq_self_eq_true]; simp⟩
theorem z1b (m : ∀ C ∈ L, C ≠ h -> zdc K C = some (.ref h :: bmVE)) (mh : zdc K h = some bmVE) (hD : D ≠ h) : SubK K D (subL L D) := fun C b e => by
 unfold subL at e
 split at e
 case isFalse => cases e
 case isTrue hC =>
  cases e;by_cases z : C = h
  ·subst z; exact ⟨_, mh, by rw [List.contains_cons, z09, zsi, Bool.or_false]; exact decide_eq_decide.mpr ⟨Eq.symm, Eq.symm⟩⟩
  ·refine ⟨_, m C hC z, ?_⟩
   rw [List.contains_cons, List.contains_cons, z09, zsi, zsi, Bool.or_false, decide_eq_false (show ¬ D = h from hD), Bool.or_false];exact decide_eq_decide.mpr ⟨Eq.symm, Eq.symm⟩
theorem zv8 (m : ∀ C ∈ L, XKit K C /\ PySem.W.kitOne K (.ref C) (.ref D) = some (decide (C = D))) : SubX K (.ref D) (subL L D) := fun C b e => by
 unfold subL at e
 split at e
 case isFalse => cases e
 case isTrue hC => cases e; exact m C hC
theorem zv9 (m : ∀ C ∈ L, XKit K C /\ PySem.W.kitOne K (.ref C) (.type "ValueError") = some true) : SubX K (.type "ValueError") (subH L) := fun C b e => by
 unfold subH at e
 split at e
 case isFalse => cases e
 case isTrue hC => cases e; exact m C hC
end
end MF
namespace MF
open PySem L2 PyProof.Rows
theorem zhh : ∀ (l : List Str), sortedS l = true -> l.Pairwise fun a b => a.cps.toList <= b.cps.toList := by
 have go : ∀ (l : List Str) (p : Str), risingS p l = true -> (∀ x ∈ l, p.cps.toList <= x.cps.toList) /\ l.Pairwise fun a b => a.cps.toList <= b.cps.toList := by
  intro l
  induction l with
  | nil => intro p _; exact ⟨(by intro x hx; cases hx), .nil⟩
  | cons x r ih =>
    intro p h;have h : (!PySem.Spec.ltCps x.cps.toList p.cps.toList && risingS x r) = true := h;rw [Bool.and_eq_true, ltCps_eq] at h;obtain ⟨h1, h2⟩ := h;have le : p.cps.toList <= x.cps.toList := by
     have : ¬ x.cps.toList < p.cps.toList := by simpa using h1
     exact this
    obtain ⟨a, b⟩ := ih x h2;refine ⟨fun y hy => ?_, List.pairwise_cons.mpr ⟨a, b⟩⟩;rcases List.mem_cons.mp hy with rfl | hy
    ·exact le
    ·exact List.le_trans le (a y hy)
 intro l h;cases l with
 | nil => exact .nil
 | cons x r =>
   obtain ⟨a, b⟩ := go r x h;exact List.pairwise_cons.mpr ⟨a, b⟩
theorem zp0 {a b : List Str} (p : a.Perm b) (ha : sortedS a = true) (hb : sortedS b = true) : a = b :=
 List.Perm.eq_of_pairwise (le := fun a b : Str => a.cps.toList <= b.cps.toList) (fun x y _ _ h1 h2 => by
  have := List.le_antisymm h1 h2;cases x; cases y;simpa using this) (zhh a ha) (zhh b hb) p
open Classical in
def zen (ys : List Str) : List Str := if h : ∃ zs : List Str, zs.Perm ys /\ sortedS zs = true then h.choose else ys
theorem zum {zs ys : List Str} (p : zs.Perm ys) (h : sortedS zs = true) : zen ys = zs := by
 have ex : ∃ zs : List Str, zs.Perm ys /\ sortedS zs = true := ⟨zs, p, h⟩;unfold zen;rw [dif_pos ex];exact zp0 (ex.choose_spec.1.trans p.symm) ex.choose_spec.2 h
theorem zma {W : Wd} : ∀ (l : List Str), Dens W (l.map T.str) (l.map V.str)
 | [] => Dens.nil'
 | a :: r => Dens.cons' (zaz.mpr rfl) (zma r)
end MF
namespace MF
open PySem L2 PyProof.Rows
theorem len1 {α : Type} : ∀ {l : List α}, l.length = 1 -> ∃ a0, l = [a0]
 | [a0], _ => ⟨a0, rfl⟩
theorem len2 {α : Type} : ∀ {l : List α}, l.length = 2 -> ∃ a0 a1, l = [a0, a1]
 | [a0, a1], _ => ⟨a0, a1, rfl⟩
theorem len3 {α : Type} : ∀ {l : List α}, l.length = 3 -> ∃ a0 a1 a2, l = [a0, a1, a2]
 | [a0, a1, a2], _ => ⟨a0, a1, a2, rfl⟩
theorem len4 {α : Type} : ∀ {l : List α}, l.length = 4 -> ∃ a0 a1 a2 a3, l = [a0, a1, a2, a3]
 | [a0, a1, a2, a3], _ => ⟨a0, a1, a2, a3, rfl⟩
theorem len5 {α : Type} : ∀ {l : List α}, l.length = 5 -> ∃ a0 a1 a2 a3 a4, l = [a0, a1, a2, a3, a4]
 | [a0, a1, a2, a3, a4], _ => ⟨a0, a1, a2, a3, a4, rfl⟩
theorem len6 {α : Type} : ∀ {l : List α}, l.length = 6 -> ∃ a0 a1 a2 a3 a4 a5, l = [a0, a1, a2, a3, a4, a5]
 | [a0, a1, a2, a3, a4, a5], _ => ⟨a0, a1, a2, a3, a4, a5, rfl⟩
def gNeg (t : T) : M T := fun S => match t with
 | .int i => .ok (.int (-i)) S
 | _ => .bad
def z1c (te : TE) : TE := fun σ H Q => te σ H fun v H1 => ∃ y, v = .str y /\ (reprText y).length <= sizeLine /\ Q (.str (reprText y)) H1
theorem zx6 (mid : String) (hp : (Str.ofString mid).length <= 100) : ∀ (e : Addr) (x y : V) (H : Hp) (Q : VK), okV true x y -> (∀ m, Q (.str m) H) -> tJ Str.empty [z1c (tVar 1), tC (.str mid), z1c (tVar 2)] [some (.ref e), some x, some y] H Q := by
 rintro e x y H Q ⟨a, rfl, ha, hb⟩ q;obtain ⟨b, rfl, hb⟩ := hb rfl;have e0 : Str.empty.length = 0 := rfl;have hs : sizeLine = 16777216 := sizeLine_eq;refine ⟨_, rfl, a, rfl, by omega, _, rfl, by rw [Str.length_append]; omega, _, rfl, by rw [Str.length_append, Str.length_append]; omega, _, rfl, b, rfl, by omega, _, rfl, by rw [Str.length_append, Str.length_append, Str.length_append]; omega, ?_⟩;exact ⟨by rw [Str.length_append, Str.length_append, Str.length_append]; omega, q _⟩
structure X2At (P : Program) (w : World) (K : PySem.W.Frag) (mg : Str -> Option Value) (base : Heap) (k : Nat) (C : Addr) (f g : Str) (two : Bool) (ps : List Str) (fI : Addr) (fd : FuncData) : Prop where
 ok : FnOk P w K mg base (CXE P w) k fI fd ps (spX2 C f g two)
 q : zd9 K C fI = true
 hf : PySem.W.isFn K (.ref fI) = true
 hb : zeg K fd ps []
end MF
namespace MF
open PySem L2 PyProof.Rows
theorem mfx {P : Program} {w : World} {K : PySem.W.Frag} {mg : Str -> Option Value} {base : Heap} {x qual : Str} {st : Stmt} {dV : Value} {f : Addr} {fd : FuncData} {N ps : List Str} {k : Nat} {d : DS} (F : FunV K x qual st dV f fd) (S : zar N ps (zac st))
  (h : ∀ (cdv : Value) (A : Around) (outer : List Env) (s : Shared) (H : Hp) (E : XK), Room k (A.deeper (envOfC qual (zac st) s.heap.objs.size f cdv)) -> (A.deeper (envOfC qual (zac st) s.heap.objs.size f cdv)).units + 1 < cLine -> (A.deeper (envOfC qual (zac st) s.heap.objs.size f cdv)).units + 64 < cLine ->
   PSs (cxOf (CXE P w) P w K mg base N qual (zac st) f cdv A outer s H E) (zan st) (RS E d)) : FnOk P w K mg base (CXE P w) (k + 1) f fd ps (spM ps.length (runD N.length d)) :=
 z2w F S fun cdv A outer s H E hr => h cdv A outer s H E hr (z2g hr) hr.units
variable {E : XK} {fa : DE}
end MF
namespace L2
open PySem PySem.Spec PyProof.Rows
def SetS (P : Program) (w : World) (bt : Bool) (h : Heap) (a : Addr) (zs : List Str) : Prop :=
 ∃ o es ep t, h.get? a = some o /\ o.ExactSet /\ o.data = .set es ep t /\ ElemsOf (PySem.strKind P w) es.toList /\ StrsAre (es.toList.map (·.2)) zs /\ zs.Nodup /\ t.fits es.size = true /\ (bt = false -> t.led = true) /\ (zs ≠ [] -> t.plain = false)
theorem z1d (t : SetTable) (n : Nat) : (t.orStandIn n).led = t.led := by
 unfold SetTable.orStandIn
 split <;> rfl
theorem zsj (t : SetTable) (es : Array (Int × Value)) (h : Int) (x : Value) : (layNew t es h x).2.1.led = t.led := by
 unfold layNew
 split
 ·exact (z1d _ _).trans rfl
 ·rfl
theorem zp1 {m f v : Nat} {l p : Bool} {hs : Array Int} {t : SetTable} {o : Array Nat} (e : SetTable.laid m f v l p hs = some (t, o)) : t.led = l /\ t.plain = p := by
 unfold SetTable.laid at e;cases q : SetTable.layClean m hs with
 | none => rw [q] at e; cases e
 | some ow =>
   rw [q] at e;simp only [Option.bind_eq_bind, Option.bind_some, Option.pure_def, Option.some.injEq, Prod.mk.injEq] at e;rw [<- e.1];exact ⟨rfl, rfl⟩
theorem znn (t : SetTable) (es : Array (Int × Value)) (n : Nat) : (relayAll t es n).2.1.led = t.led /\ (t.plain = false -> (relayAll t es n).2.1.plain = false) := by
 unfold relayAll;cases q : t.relaid (es.map (·.1)) n with
 | none => exact ⟨rfl, fun _ => rfl⟩
 | some p =>
   obtain ⟨t', o⟩ := p;obtain ⟨h1, h2⟩ := zp1 q;dsimp only
   split
   ·exact ⟨h1, fun e => h2.trans e⟩
   ·exact ⟨rfl, fun _ => rfl⟩
theorem zio : ∀ {us vs : List Value} {xs ys : List Str}, StrsAre us xs -> StrsAre vs ys -> StrsAre (us ++ vs) (xs ++ ys)
 | _, _, _, _, .nil, h => h
 | _, _, _, _, .cons x t g, h => .cons x t (zio g h)
theorem zfj {l m : List (Int × Value)} (p : l.Perm m) : ∀ {zs : List Str}, StrsAre (m.map (·.2)) zs -> ∃ ys, StrsAre (l.map (·.2)) ys /\ ys.Perm zs := fun {zs} hz => by
 have q := (p.map (·.2));refine ⟨(l.map (·.2)).map strOf, strsAre_map _ fun v hv => hz.all v (q.mem_iff.mp hv), ?_⟩;have := q.map strOf;rw [hz.strs] at this;exact this
section
variable {P : Program} {w : World} {A : Around} {E : Value -> Shared -> Prop} {s : Shared} {bt : Bool} {a : Addr} {zs : List Str} {x : Str} {u : Tok}
theorem zmb (x : Str) (u : Tok) : (PySem.strKind P w).is x (.str x u) = true := by
 show Value.isStrOf x (.str x u) = true;simp [Value.isStrOf]
theorem zmc {l : List (Int × Value)} (h : StrsAre (l.map (·.2)) zs) (x : Str) : (∃ e ∈ l, (PySem.strKind P w).is x e.2 = true) ↔ x ∈ zs := by
 induction l generalizing zs with
 | nil => cases h; simp
 | cons e l ih =>
   obtain ⟨i, v⟩ := e;cases h with
   | cons y t h =>
     have ih := ih h;simp only [List.mem_cons, exists_eq_or_imp, ih];have : (PySem.strKind P w).is x (.str y t) = true ↔ x = y := by
      constructor
      ·intro q; exact (PySem.strKind P w).inj _ _ _ q (zmb y t)
      ·rintro rfl; exact zmb _ _
     rw [this]
theorem zsk {h : Heap} {o : Obj} {es es' : Array (Int × Value)} {ep : Nat} {t t' : SetTable} (ho : h.get? a = some o) (hex : o.ExactSet) (hd : o.data = .set es ep t) (hel : ElemsOf (PySem.strKind P w) es'.toList) (hz : StrsAre (es'.toList.map (·.2)) zs) (nd : zs.Nodup) (hf : t'.fits es'.size = true) (hl : bt = false -> t'.led = true) (hp : zs ≠ [] -> t'.plain = false) : SetS P w bt (h.update a (Obj.putSet es' t')) a zs := by
 have e := putSet_of es' t' hd;have g := Heap.get?_update_self (Obj.putSet es' t') ho (e ▸ rfl);exact ⟨_, es', ep + 1, t', g.trans (congrArg some e), hex, rfl, hel, hz, nd, hf, hl, hp⟩
theorem z1e {g : Bool -> Sem Unit} (hg : ∀ (b : Bool) (s₁ : Shared) (Q' : Unit -> Shared -> Prop), Q' () s₁ -> wpAny (model P w) A (g b) Q' E s₁) {o : Obj} {es es1 : Array (Int × Value)} {ep : Nat} {t t2 : SetTable} (ho : s.heap.get? a = some o) (hex : o.ExactSet) (hd : o.data = .set es ep t)
  (hel : ElemsOf (PySem.strKind P w) es1.toList) (hz : StrsAre (es1.toList.map (·.2)) zs) (nd : zs.Nodup) (hb : es1.size < scanBound) (hf : t2.fits es1.size = true) (hl : bt = false -> t2.led = true) (hp : t2.plain = false) {wd : Bool} {R : Option Bool -> Shared -> Prop}
  (h : ∀ h' ys, Heap.SameBut a s.heap h' -> SetS P w bt h' a ys -> ys.Perm zs -> R (some true) { s with heap := h' }) :
  wpAny (model P w) A (storeSet a es1 t2 >>= fun _ => if (!wd && t2.tooFull) = true then (g (relayAll t2 es1 (SetTable.grown es1.size)).2.2 >>= fun _ => storeSet a (relayAll t2 es1 (SetTable.grown es1.size)).1 (relayAll t2 es1 (SetTable.grown es1.size)).2.1 >>= fun _ => pure (some true)) else pure (some true)) R E s := by
 have S1 := zsk (bt := bt) ho hex hd hel hz nd hf hl (fun _ => hp);have b1 := Heap.SameBut.update s.heap a (Obj.putSet es1 t2);refine wpAny_bind (wpAny_storeSet_of ho hd ?_ (fits_of_scanBound hb))
 split
 ·obtain ⟨o1, x1, p1, y1, h1, h2, h3, -⟩ := id S1
  have pm := relayAll_perm t2 es1 (SetTable.grown es1.size);have ft := relayAll_fits t2 es1 (SetTable.grown es1.size);obtain ⟨f1, f2⟩ := znn t2 es1 (SetTable.grown es1.size);obtain ⟨ys, k1, k2⟩ := zfj pm hz;have sz : (relayAll t2 es1 (SetTable.grown es1.size)).1.size = es1.size := by
   have := pm.length_eq;simpa using this
  refine wpAny_bind (hg _ _ _ (wpAny_bind (wpAny_storeSet_of h1 h3 (wpAny_pure (h _ ys (b1.trans (Heap.SameBut.update _ a _)) ?_ k2)) (fits_of_scanBound (by rw [sz]; exact hb)))));exact zsk h1 h2 h3 (hel.perm pm) k1 (k2.nodup_iff.mpr nd) ft (fun e => f1.trans (hl e)) fun _ => f2 hp
 ·exact wpAny_pure (h _ zs b1 S1 (List.Perm.refl _))
theorem add_str {Q : Bool -> Shared -> Prop} (hS : SetS P w bt s.heap a zs) (hroom : zs.length + 1 < 100)
  (h : ∀ b h' ys, Heap.SameBut a s.heap h' -> SetS P w bt h' a ys -> (∀ y, y ∈ ys ↔ y ∈ zs \/ y = x) -> ys.length <= zs.length + 1 -> Q b { s with heap := h' }) :
  wpAny (model P w) A (setAddHashed a (.str x u) (hashStr w x)) Q E s := by
 obtain ⟨o, es, ep, t, ho, hex, hd, hel, hz, nd, hf, hl, hp⟩ := hS;have hlen : es.size = zs.length := by
  have := congrArg List.length hz.strs;simpa using this
 have hb : es.size < scanBound := by rw [hlen]; unfold scanBound; omega
 unfold setAddHashed setAddHashedIn;refine wpAny_holding (wpAny_bind (wpAny_setState_of ho hd hf ?_));dsimp only;rw [byScan_of (knd := PySem.strKind P w) (x := .str x u) rfl hb hel];simp only [↓reduceIte];unfold setAddByScan;refine wpAny_bind (wpAny_bind (wpAny_rule (wpAny_bind (wpAny_setScan_of (knd := PySem.strKind P w) (k := x) (zmb x u) ho hd hf hel ?_))));cases hr : List.findIdx? (fun e => (PySem.strKind P w).is x e.2) es.toList with
 | some j =>
   obtain ⟨hj, hpj, _⟩ := List.findIdx?_eq_some_iff_getElem.mp hr;have hin : x ∈ zs := (zmc hz x).mp ⟨_, List.getElem_mem hj, hpj⟩;refine wpAny_pure (wpAny_pure ?_);have := h false s.heap zs (Heap.SameBut.refl a s.heap) ⟨o, es, ep, t, ho, hex, hd, hel, hz, nd, hf, hl, hp⟩ (fun y => ⟨.inl, fun q => q.elim id fun e => e ▸ hin⟩) (Nat.le_succ _);exact this
 | none =>
   have hno : x ∉ zs := fun hc => by
    obtain ⟨e, he, q⟩ := (zmc (P := P) (w := w) hz x).mpr hc;have := List.findIdx?_eq_none_iff.mp hr e he;rw [q] at this;cases this
   have gw : ∀ (b : Bool) (s₁ : Shared) (Q' : Unit -> Shared -> Prop), Q' () s₁ -> wpAny (model P w) A (match b with | true => rule "set.scan.the-table-gave-way" | false => pure ()) Q' E s₁ := fun b s₁ Q' q => by
    cases b
    ·exact wpAny_pure q
    ·exact wpAny_rule q
   have pm := layNew_perm t es (hashStr w x) (.str x u);have ft := layNew_fits t es (hashStr w x) (.str x u);have fl := zsj t es (hashStr w x) (.str x u);have hz1 : StrsAre ((es.push (hashStr w x, Value.str x u)).toList.map (·.2)) (zs ++ [x]) := by
    rw [Array.toList_push, List.map_append];exact zio hz (.cons x u .nil)
   obtain ⟨ys, k1, k2⟩ := zfj pm hz1;have el1 : ElemsOf (PySem.strKind P w) (layNew t es (hashStr w x) (.str x u)).1.toList := by
    refine ElemsOf.perm ?_ pm;rw [Array.toList_push];exact hel.push (k := x) (zmb x u) rfl
   have sz : (layNew t es (hashStr w x) (.str x u)).1.size = zs.length + 1 := by
    have := pm.length_eq;simpa [hlen] using this
   have yl : ys.length = zs.length + 1 := by rw [k2.length_eq]; simp
   have ynd : ys.Nodup := k2.nodup_iff.mpr (List.nodup_append.mpr ⟨nd, by simp, fun p hp q hq e => hno (by rw [List.mem_singleton.mp hq] at e; exact e ▸ hp)⟩);have ymem : ∀ y, y ∈ ys ↔ y ∈ zs \/ y = x := fun y => by rw [k2.mem_iff]; simp
   generalize layNew t es (hashStr w x) (.str x u) = L at pm ft fl k1 el1 sz ⊢;obtain ⟨es1, t1, wd, gave⟩ := L;dsimp only at pm ft fl k1 el1 sz ⊢;refine wpAny_bind (gw _ _ _ ?_);have fin : ∀ t2 : SetTable, t2.fits es1.size = true -> t2.led = t1.led -> t2.plain = false -> wpAny (model P w) A (storeSet a es1 t2 >>= fun _ => if (!wd && t2.tooFull) = true then ((fun b : Bool => match b with | true => rule "set.scan.the-table-gave-way" | false => pure ()) (relayAll t2 es1 (SetTable.grown es1.size)).2.2 >>= fun _ => storeSet a (relayAll t2 es1 (SetTable.grown es1.size)).1 (relayAll t2 es1 (SetTable.grown es1.size)).2.1 >>= fun _ => pure (some true)) else pure (some true)) (fun r s' => wpAny (model P w) A (match r with | some added => pure added | none => setAddHashedIn a (.str x u) (hashStr w x) 99999) Q E s') E s := fun t2 q1 q2 q3 =>
    z1e (bt := bt) gw ho hex hd el1 k1 ynd (by rw [sz]; unfold scanBound; omega) q1 (fun e => q2.trans (fl.trans (hl e))) q3 fun h' vs sb sv pv =>
     wpAny_pure (h true h' vs sb sv (fun y => by rw [pv.mem_iff]; exact ymem y) (by rw [pv.length_eq, yl]; exact Nat.le_refl _))
   by_cases pl : t1.plain = true
   ·rw [pl]
    simp only [↓reduceIte];rw [hashByValue_scannable 8 (x := .str x u) rfl];refine wpAny_bind (wpAny_pure ?_);exact fin { t1 with plain := false } (SetTable.fits_plain_off ft) rfl rfl
   ·have pl : t1.plain = false := by simpa using pl
    rw [pl];refine wpAny_bind (wpAny_pure ?_);exact fin t1 ft rfl pl
end
end L2
namespace L2
open PySem PySem.Spec PyProof.Rows
theorem SetS.move {P : Program} {w : World} {bt : Bool} {h h' : Heap} {a : Addr} {zs : List Str} (S : SetS P w bt h a zs) (k : ∀ o, h.get? a = some o -> h'.get? a = some o) : SetS P w bt h' a zs := by
 obtain ⟨o, es, ep, t, ho, r⟩ := S;exact ⟨o, es, ep, t, k o ho, r⟩
section
variable {P : Program} {w : World} {A : Around} {R : Result -> Shared -> Prop} {I : Addr} {fp wr : List Addr} {G : Array GenState -> Array GenState -> Prop} {n : Nat} {Pv : Nat -> Value -> Prop} {St : Nat -> Shared -> Prop} {bt : Bool}
theorem zx7 (W : WalksS P w A.in1 I fp wr G n Pv St) (S : Addr) (hSf : S ∉ fp) (val : Nat -> Str) (hval : ∀ i v, Pv i v -> ∃ t, v = .str (val i) t) (hb : n < 90) :
  ∀ (k i : Nat) (s : Shared) (zs : List Str), i + k = n -> St i s -> SetS P w bt s.heap S zs -> (∀ y, y ∈ zs ↔ ∃ j, j < i /\ y = val j) -> zs.length <= i ->
    (∀ s' ys, Moved (S :: wr) G s s' -> SetS P w bt s'.heap S ys -> (∀ y, y ∈ ys ↔ ∃ j, j < n /\ y = val j) -> ys.length <= n -> R (.ok (.ret .none)) s') ->
    codeAny (model P w) A (.builtin "set.update.loop" ⟨[.ref S, .ref I], []⟩) R s := by
 have out : S ∉ wr := fun z => hSf (W.sub S z);have wide : ∀ b ∈ wr, b ∈ S :: wr := fun b q => .tail _ q;intro k
 induction k with
 | zero =>
   intro i s zs hi st sz mz lz fin;obtain rfl : i = n := by omega
   refine codeAny_builtin PyProof.Rows.F.entry_set_update_loop ?_;rw [Around.under_plainId PyProof.Rows.F.plain_set_update_loop];refine wpAny_bind (W.done s _ _ st fun s' mv => wpAny_pure (fin s' zs (mv.mono wide) (sz.move fun o e => mv.heap S o out e) mz lz))
 | succ k ih =>
   intro i s zs hi st sz mz lz fin;have lt : i < n := by omega
   refine codeAny_builtin PyProof.Rows.F.entry_set_update_loop ?_;rw [Around.under_plainId PyProof.Rows.F.plain_set_update_loop];refine wpAny_bind (W.item i s _ _ lt st fun v s1 hv st1 mv => ?_);obtain ⟨t, rfl⟩ := hval i v hv;have sz1 := sz.move (h' := s1.heap) fun o e => mv.heap S o out e;show wpAny _ A.in1 (holding [Value.str (val i) t] (setAdd S (.str (val i) t)) >>= _) _ _ s1;refine wpAny_bind (wpAny_holding ?_);unfold setAdd;refine wpAny_holding (wpAny_bind ((PySem.strKind P w).pyHash (zmb (val i) t) ?_));refine add_str (s := { s1 with toks := s1.toks + 1 }) sz1 (by omega) fun b h' ys sb sy my ly => ?_;have stn := W.frame (i + 1) s1 h' (s1.toks + 1) st1 (Nat.le_succ _) fun c hc o e => by
    rw [sb.2 c fun z => hSf (z ▸ hc)]; exact e
   refine wpAny_pure ⟨plainId_quiet PyProof.Rows.F.plain_set_update_loop _, ih (i + 1) _ ys (by omega) stn sy (fun y => ?_) (by omega) fun s' vs mv' sv => fin s' vs (Moved.trans W.gtrans ((mv.mono wide).then_heap (Nat.le_succ _) fun c o hc e => ?_) mv') sv⟩
   ·rw [my y, mz y]
    constructor
    ·rintro (⟨j, h1, h2⟩ | h)
     ·exact ⟨j, by omega, h2⟩
     ·exact ⟨i, by omega, h⟩
    ·rintro ⟨j, h1, h2⟩
     by_cases e : j = i
     ·exact .inr (e ▸ h2)
     ·exact .inl ⟨j, by omega, h2⟩
   ·rw [sb.2 c fun z => hc (z ▸ .head _)]; exact e
end
end L2
namespace L2
open PySem PySem.Spec PyProof.Rows
def zeh (w : World) : Bool := w.params.followText "set-order"
def newS (w : World) : Obj := { cls := .type "set", dict := none, data := .set #[] 0 (.fresh 0 0 (!zeh w)) }
section
variable {P : Program} {w : World} {A : Around} {E : Value -> Shared -> Prop} {s : Shared}
theorem zun (v : Value) {Q : Value -> Shared -> Prop} (h : Q (.ref s.heap.objs.size) { s with heap := s.heap.push (newS w) }) :
  codeAny (model P w) A (.call (.builtin "set.__new__") ⟨[.type "set", v], []⟩) (wants Q E) s := by
 refine codeAny_of_tree ?_;show wpAny _ A.in1 (checkBuiltinCall "set.__new__" ⟨[.type "set", v], []⟩ >>= fun _ => again (.builtin "set.__new__" ⟨[.type "set", v], []⟩)) _ _ s;refine wpAny_bind (wpAny_of_eq (PySem.F.newCall_set_1 v) (wpAny_pure ⟨plainId_quiet PySem.F.plain_set_new _, codeAny_builtin PySem.F.entry_set_new ?_⟩));rw [Around.under_plainId PySem.F.plain_set_new];unfold Builtin.«set.__new__» Builtin.Frozenset.newClass;have sub0 := sub_set_self;cases s with
 | mk hp g d tk os =>
   dsimp only at h ⊢
   wp_walk
   refine wpAny_askSetting (wpAny_pure ?_);dsimp only;simp only [newObj];exact wpAny_bind (wpAny_alloc (wpAny_pure (wpAny_pure h)))
theorem zwa : ∀ {vs : List Value} {xs : List Str}, StrsAre vs xs -> ∀ (i : Nat) (v : Value), vs[i]? = some v -> ∃ t, v = .str (xs.getD i Str.empty) t
 | _, _, .nil, i, v, q => by simp at q
 | _, _, .cons x t h, 0, v, q => ⟨t, by simpa using q.symm⟩
 | _, _, .cons x t h, i + 1, v, q => by
   obtain ⟨u, e⟩ := zwa h i v (by simpa using q);exact ⟨u, by simpa using e⟩
theorem zfz {vs : List Value} {xs : List Str} (h : StrsAre vs xs) : vs.length = xs.length := by
 have := congrArg List.length h.strs;simpa using this
theorem zx8 : SetS P w (zeh w) (s.heap.push (newS w)) s.heap.objs.size [] := by
 refine ⟨newS w, #[], 0, _, Heap.get?_push_size _ rfl, ⟨rfl, rfl, rfl⟩, rfl, fun e q => absurd q List.not_mem_nil, .nil, .nil, rfl, fun q => ?_, fun q => absurd rfl q⟩;show (!zeh w) = true;rw [q]; rfl
theorem zsl {l : Addr} {vs : List Value} {xs : List Str} {Q : Value -> Shared -> Prop} (hh : A.handled = none) (hl : s.heap.IsList l vs.toArray) (hx : StrsAre vs xs) (hb : vs.length < 90)
  (h : ∀ (h' : Heap) (tk : Nat) (ys : List Str), SetS P w (zeh w) h' s.heap.objs.size ys -> (∀ y, y ∈ ys ↔ y ∈ xs) -> ys.length <= xs.length -> (∀ b o, s.heap.get? b = some o -> h'.get? b = some o) -> Q (.ref s.heap.objs.size) { s with heap := h', toks := tk }) :
  wpAny (model P w) A (call (.type "set") [.ref l]) Q E s := by
 obtain ⟨cc, rest, q1⟩ := PySem.F.called_set.mro;have q2 := PySem.F.called_set.made;have q3 := PySem.F.called_set.sub;refine wpAny_call (codeAny_of_tree (?_ : wpAny _ _ (callAny (.type "set") _) _ _ _));refine wpAny_pure ⟨Code.quiet_builtin _ (by decide +kernel), codeAny_builtin PySem.F.entry_type_call ?_⟩;rw [Around.under_plain (weight_type_call_type "set" [Value.ref l] []) rfl];have q4 := PySem.F.called_set.notType;have q5 := PySem.F.called_set.canCreate;have q6 := PySem.F.typeCall_set_1 (.ref l)
 repeat (any_goals (first | assumption | wp_step))
 refine codeAny_mono (zun (.ref l) (E := E) (Q := fun v z => v = .ref s.heap.objs.size /\ z = { s with heap := s.heap.push (newS w) }) ⟨rfl, rfl⟩) fun r z hr => ?_;cases r with
 | error e => exact hr
 | ok fl =>
   cases fl with
   | ret v =>
     obtain ⟨rfl, rfl⟩ := hr;have g0 : (s.heap.push (newS w)).get? s.heap.objs.size = some (newS w) := Heap.get?_push_size _ rfl;have ty : Shared.TypeIs { s with heap := s.heap.push (newS w) } (.ref s.heap.objs.size) "set" := ⟨_, g0, rfl⟩;have q7 := PySem.F.called_set.init.lookup;have q8 := PySem.F.called_set.init.bind (.ref s.heap.objs.size)
     repeat (any_goals (first | assumption | wp_step))
     refine codeAny_mono (codeAny_call_builtin (R := wants (fun r z => r = .none /\ ∃ h' tk ys, z = { s with heap := h', toks := tk } /\ SetS P w (zeh w) h' s.heap.objs.size ys /\ (∀ y, y ∈ ys ↔ y ∈ xs) /\ ys.length <= xs.length /\ ∀ b o, s.heap.get? b = some o -> h'.get? b = some o) E) PySem.F.called_set.init.plain PySem.F.entry_set_init (check_set_init_1 ty ?_)) fun r2 z2 hr2 => ?_
     ·obtain ⟨⟨k1, k2, k3, k4⟩, hol, e1, nl, e2⟩ := hl
      simp only at e1 e2;subst e1 e2;have hol' : (s.heap.push (newS w)).get? l = some { cls := .type "list", dict := k2, data := .seq vs.toArray nl, slots := k4 } := Heap.get?_push_of_some _ hol;have f1 := PySem.F.sub_list_set;have f2 := PySem.F.sub_list_frozenset;have f3 : (Value.type "list" == Value.type "dict") = false := by decide
      have l1 : (s.heap.push (newS w)).IsList l vs.toArray := ⟨_, hol', rfl, nl, rfl⟩;have llt : l < s.heap.objs.size := Heap.lt_size hol;unfold Builtin.«set.__init__» noKeywords Builtin.Frozenset.updateFrom;generalize hPI : pyIter = PI
      wp_walk
      subst hPI;refine wpAny_pyIter_list l1 (wpAny_bind (wpAny_runValue ?_));have hs2 : (s.heap.push (newS w)).objs.size = s.heap.objs.size + 1 := Heap.size_push ..;have ne1 : l ≠ (s.heap.push (newS w)).objs.size := by rw [hs2]; exact Nat.ne_of_lt (Nat.lt_succ_of_lt llt)
      have out : s.heap.objs.size ∉ [(s.heap.push (newS w)).objs.size, l] := by
       rw [hs2];simp only [List.mem_cons, List.not_mem_nil, or_false, not_or];exact ⟨Nat.ne_of_lt (Nat.lt_succ_self _), Nat.ne_of_gt llt⟩
      have sz0 := (zx8 (P := P) (w := w) (s := s)).move (h' := (s.heap.push (newS w)).push { cls := .type "list_iterator", data := .fields #[.ref l, .int 0 0] }) fun o e => Heap.get?_push_of_some _ e;refine zx7 (((Walks.list (by simp [hh]) _ l ne1 vs.toArray)).toS) s.heap.objs.size out (fun i => xs.getD i Str.empty) (fun i v q => zwa hx i v (by simpa using q)) (by simpa using hb) vs.toArray.size 0 _ [] (by simp) ⟨⟨_, Heap.get?_push_size _ rfl, rfl, rfl⟩, l1.push _⟩ sz0 (by simp) (Nat.le_refl _) fun s' ys mv sy my ly => ?_;cases s' with
      | mk h' g' d' tk' os' =>
        have eg : g' = s.gens := mv.gens;have ed : d' = s.drawn := mv.drawn;have eo : os' = s.os := mv.os;subst eg ed eo;refine wpAny_pure (wpAny_pure ⟨rfl, h', tk', ys, rfl, sy, fun y => ?_, by have := zfz hx; simp at ly; omega, fun b o e => ?_⟩)
        ·rw [my y]
         have hv := zfz hx;constructor
         ·rintro ⟨j, h1, h2⟩
          have h1 : j < xs.length := by simpa [hv] using h1
          rw [h2, List.getD_eq_getElem?_getD, List.getElem?_eq_getElem h1];exact List.getElem_mem h1
         ·intro q
          obtain ⟨j, h1, h2⟩ := List.getElem_of_mem q;exact ⟨j, by simpa [hv] using h1, by rw [List.getD_eq_getElem?_getD, List.getElem?_eq_getElem h1]; exact h2.symm⟩
        ·have lt := Heap.lt_size e
         refine mv.heap b o ?_ (Heap.get?_push_of_some _ (Heap.get?_push_of_some _ e));rw [hs2];simp only [List.mem_cons, List.not_mem_nil, or_false, not_or];exact ⟨Nat.ne_of_lt lt, Nat.ne_of_lt (Nat.lt_succ_of_lt lt)⟩
     ·cases r2 with
      | error e => exact hr2
      | ok f2 =>
        cases f2 with
        | ret r =>
          obtain ⟨rfl, h', tk, ys, rfl, sy, my, ly, kp⟩ := hr2
          repeat (any_goals (first | assumption | wp_step))
          exact h _ _ _ sy my ly kp
        | _ => exact hr2.elim
   | _ => exact hr.elim
end
end L2
namespace L2
open PySem PySem.Spec PyProof.Rows
theorem zuo : entryFor table "set.__iter__" = some Builtin.«frozenset.__iter__» := entryFor_alias (id' := "frozenset.__iter__") (by kernel_rfl) rfl (by decide +kernel) (by kernel_rfl)
theorem zd4 : Slot "set_iterator" "__next__" "set_iterator.__next__" := .of (owner := "set_iterator") (n := "__next__") (by rw [typeLookup_type, builtinLookup_eq_fast]; kernel_rfl) (by decide +kernel) (by decide +kernel) (by decide +kernel) (by first | exact .inl (by decide +kernel) | exact .inr (by decide +kernel)) (by rw [isSubtype_type]; kernel_rfl)
theorem zo0 : entryFor table "set_iterator.__next__" = some Builtin.«set_iterator.__next__» := entryFor_of_tree (by kernel_rfl)
theorem zsm : Slot "set_iterator" "__iter__" "set_iterator.__iter__" := .of (owner := "set_iterator") (n := "__iter__") (by rw [typeLookup_type, builtinLookup_eq_fast]; kernel_rfl) (by decide +kernel) (by decide +kernel) (by decide +kernel) (by first | exact .inl (by decide +kernel) | exact .inr (by decide +kernel)) (by rw [isSubtype_type]; kernel_rfl)
theorem zno {α : Type} : ∀ (l : List α) (i : Nat) (h : i < l.length), (l[i] :: l.eraseIdx i).Perm l
 | a :: l, 0, _ => List.Perm.refl _
 | a :: l, i + 1, h => (List.Perm.swap a _ _).trans ((zno l i (by simpa using h)).cons a)
section
variable {P : Program} {w : World} {A : Around} {E : Value -> Shared -> Prop} {s : Shared}
theorem zsn (next : Nat -> Nat) {α : Type} : ∀ (f k : Nat) (left : List α) (out : Array α), left.length = f -> ∃ r : List α, (pickOrder.go next f k left out).toList = out.toList ++ r /\ r.Perm left
 | 0, k, left, out, h => ⟨[], by simp [pickOrder.go], by rw [List.eq_nil_of_length_eq_zero h]⟩
 | f + 1, k, left, out, h => by
   have lt : next k % left.length < left.length := Nat.mod_lt _ (by omega);unfold pickOrder.go;rw [List.getElem?_eq_getElem lt];obtain ⟨r, h1, h2⟩ := zsn next f (k + 1) (left.eraseIdx (next k % left.length)) (out.push left[next k % left.length]) (by rw [List.length_eraseIdx_of_lt lt]; omega);refine ⟨left[next k % left.length] :: r, by rw [h1]; simp, ?_⟩;exact (h2.cons _).trans (zno left _ lt)
theorem ziq (next : Nat -> Nat) {α : Type} (xs : Array α) : (pickOrder next xs).toList.Perm xs.toList := by
 obtain ⟨r, h1, h2⟩ := zsn next xs.size 0 xs.toList #[] (by simp);unfold pickOrder;rw [h1];simpa using h2
theorem zkv {src : Source} {n : Nat} {Q : Nat -> Shared -> Prop} (h0 : n ≠ 0) (h : ∀ i d, i < n -> Q i { s with drawn := d }) : wpAny (model P w) A (choose src n) Q E s := fun Γ p _ => by
 unfold choose;rw [Sem.wp_choose];exact ⟨h0, h _ _ (Nat.mod_lt _ (Nat.pos_of_ne_zero h0))⟩
theorem zso {α : Type} : ∀ (n : Nat) (xs : List α) {s : Shared} {Q : List α -> Shared -> Prop}, xs.length = n -> (∀ ys d, ys.Perm xs -> Q ys { s with drawn := d }) -> wpAny (model P w) A (drawOrder n xs) Q E s
 | 0, xs, s, Q, hl, h => by
   rw [List.eq_nil_of_length_eq_zero hl] at h ⊢;exact wpAny_pure (h [] s.drawn (List.Perm.refl _))
 | n + 1, [], s, Q, hl, h => by simp at hl
 | n + 1, x :: xs, s, Q, hl, h => by
   unfold drawOrder;refine wpAny_bind (zkv (by simp) fun i d hi => ?_);rw [List.getElem?_eq_getElem hi];refine wpAny_bind (zso n ((x :: xs).eraseIdx i) (by rw [List.length_eraseIdx_of_lt hi]; simpa using hl) fun ys d' hp => wpAny_pure ?_);exact h _ d' ((hp.cons _).trans (zno (x :: xs) _ hi))
def itS (f : Value) (i : Nat) (a : Addr) (n ep : Nat) : Obj := { cls := .type "set_iterator", data := .fields #[f, .int i 0, .ref a, .int n 0, .int ep 0] }
theorem zsp {a : Addr} {o : Obj} {es : Array (Int × Value)} {ep : Nat} {t : SetTable} {Q : Value -> Shared -> Prop} (ho : s.heap.get? a = some o) (hex : o.ExactSet) (hd : o.data = .set es ep t) (hf : t.fits es.size = true) (hz : es.size < 100)
  (h1 : (zeh w = true \/ t.plain = true \/ es.size <= 1) -> Q (.ref s.heap.objs.size) { s with heap := s.heap.push (itS (.int 0 0) 0 a es.size ep) })
  (h2 : zeh w = false -> t.plain = false -> 1 < es.size -> ∀ (pl : List Nat) d, pl.Perm (List.range es.size) -> Q (.ref (s.heap.objs.size + 1)) { s with heap := (s.heap.push { cls := .type "tuple", data := .seq (pl.map fun i : Nat => Value.int i 0).toArray }).push (itS (.ref s.heap.objs.size) 0 a es.size ep), drawn := d }) :
  wpAny (model P w) A (pyIter (.ref a)) Q E s := by
 have ty : s.TypeIs (.ref a) "set" := ⟨o, ho, hex.1⟩;refine wpAny_pyIter_slot ty PySem.F.slot_set_iter (wpAny_call_entry PySem.F.slot_set_iter ty zuo ?_ (PySem.F.args_set_iter_1 _));unfold Builtin.«frozenset.__iter__»;rw [show Builtin.Frozenset.slot0 "__iter__" ⟨[Value.ref a], []⟩ = pure a from rfl];refine wpAny_bind (wpAny_pure ?_);unfold Builtin.Frozenset.sizeOf;refine wpAny_bind (wpAny_bind (wpAny_setEntries_of ho hd hf (wpAny_pure ?_)));have dr : ∀ {R : Bool -> Shared -> Prop}, R (!zeh w && (!t.plain && decide (es.size > 1))) s -> wpAny (model P w) A.in1 (setDrawn a) R E s := fun {R} q => by
  unfold setDrawn setsByText;exact wpAny_bind (wpAny_setState_of ho hd hf (wpAny_bind (wpAny_bind (wpAny_askSetting (wpAny_pure (wpAny_pure q))))))
 refine wpAny_bind (dr ?_);by_cases hc : zeh w = true \/ t.plain = true \/ es.size <= 1
 ·have e : (!zeh w && (!t.plain && decide (es.size > 1))) = false := by
   rcases hc with h | h | h
   ·simp [h]
   ·simp [h]
   ·simp; omega
  rw [e];refine wpAny_bind (wpAny_pure (wpAny_bind (wpAny_setEpoch_of ho hd hf ?_)));exact wpAny_bind (wpAny_newObj_type (wpAny_pure ⟨_, rfl, "set_iterator", _, ⟨_, Heap.get?_push_size _ rfl, rfl⟩, zd4.lookup, h1 hc⟩))
 ·simp only [not_or] at hc
  obtain ⟨c1, c2, c3⟩ := hc;have c1 : zeh w = false := by simpa using c1
  have c2 : t.plain = false := by simpa using c2
  have c3 : 1 < es.size := by omega
  rw [show (!zeh w && (!t.plain && decide (es.size > 1))) = true by simp [c1, c2, c3]];refine wpAny_bind (zso es.size (List.range es.size) (by simp) fun pl d hp => ?_);have pn : pl.length = es.size := by rw [hp.length_eq]; simp
  refine wpAny_bind (wpAny_newObj_type (hd := by simp [sizeOk, pn]; exact Nat.le_trans (Nat.le_of_lt hz) (by decide)) ?_);have ho2 : (s.heap.push { cls := .type "tuple", data := .seq (pl.map fun i : Nat => rawInt i).toArray }).get? a = some o := Heap.get?_push_of_some _ ho;refine wpAny_bind (wpAny_setEpoch_of ho2 hd hf ?_);have e1 : (s.heap.push { cls := .type "tuple", data := .seq (pl.map fun i : Nat => rawInt i).toArray }).objs.size = s.heap.objs.size + 1 := Heap.size_push ..;have q := h2 c1 c2 c3 pl d hp;rw [<- e1] at q;exact wpAny_bind (wpAny_newObj_type (wpAny_pure ⟨_, rfl, "set_iterator", _, ⟨_, Heap.get?_push_size _ rfl, rfl⟩, zd4.lookup, q⟩))
end
end L2
namespace L2
open PySem PySem.Spec PyProof.Rows
section
variable {P : Program} {w : World} {A : Around} {E : Value -> Shared -> Prop} {s : Shared}
theorem zkw (v : Value) : argsOk "set_iterator.__next__" ⟨[v], []⟩ := by
 unfold argsOk
 kernel_rfl
theorem zo1 {I a : Addr} {o : Obj} {es : Array (Int × Value)} {ep sl i nx : Nat} {t : SetTable} {v : Value} {Q : Option Value -> Shared -> Prop} (hI : s.heap.get? I = some (itS (.int sl 0) i a es.size ep)) (ho : s.heap.get? a = some o) (hd : o.data = .set es ep t) (hf : t.fits es.size = true)
  (hn : ∀ (A' : Around) (R : Option (Value × Nat) -> Shared -> Prop) (E' : Value -> Shared -> Prop), R (some (v, nx)) s -> wpAny (model P w) A' (setNext a sl i ep) R E' s)
  (h : ∀ h', h'.get? I = some (itS (.int nx 0) (i + 1) a es.size ep) -> Heap.SameBut I s.heap h' -> Q (some v) { s with heap := h' }) :
  wpAny (model P w) A (pyNext (.ref I)) Q E s := by
 have ty : s.TypeIs (.ref I) "set_iterator" := ⟨_, hI, rfl⟩;unfold pyNext;refine wpAny_bind (wpAny_attempt (wpAny_callSpecial?_slot (name := Str.ofString "__next__") ty zd4 (wpAny_call_entry zd4 ty zo0 ?_ (zkw _))));unfold Builtin.«set_iterator.__next__»;rw [show slotArgs "__next__" 0 ⟨[Value.ref I], []⟩ = pure (Value.ref I, []) from rfl];refine wpAny_bind (wpAny_pure (wpAny_bind (wpAny_fieldsOf hI rfl ?_)));refine wpAny_bind (wpAny_setEntries_of ho hd hf ?_);dsimp only;rw [if_neg (by simp)];simp only [Int.toNat_natCast];refine wpAny_bind (hn _ _ _ ?_);dsimp only;refine wpAny_bind (wpAny_setField_rec hI (by simp) fun h1 e1 b1 => ?_);refine wpAny_bind (wpAny_setField_rec (s := { s with heap := h1 }) e1 (by simp) fun h2 e2 b2 => ?_);exact wpAny_pure ⟨v, rfl, wpAny_pure (h h2 e2 (b1.trans b2))⟩
theorem zp2 {I a tp : Addr} {o : Obj} {es : Array (Int × Value)} {ep i p : Nat} {t : SetTable} {v : Value} {hs : Int} {pl : List Nat} {ot : Obj} {nt : Nat} {Q : Option Value -> Shared -> Prop} (hI : s.heap.get? I = some (itS (.ref tp) i a es.size ep)) (ho : s.heap.get? a = some o) (hd : o.data = .set es ep t) (hf : t.fits es.size = true)
  (ht : s.heap.get? tp = some ot) (hdt : ot.data = .seq (pl.map fun k : Nat => Value.int k 0).toArray nt) (hp : pl[i]? = some p) (hv : es[p]? = some (hs, v))
  (h : ∀ h', h'.get? I = some (itS (.ref tp) (i + 1) a es.size ep) -> Heap.SameBut I s.heap h' -> Q (some v) { s with heap := h' }) :
  wpAny (model P w) A (pyNext (.ref I)) Q E s := by
 have ty : s.TypeIs (.ref I) "set_iterator" := ⟨_, hI, rfl⟩;unfold pyNext;refine wpAny_bind (wpAny_attempt (wpAny_callSpecial?_slot (name := Str.ofString "__next__") ty zd4 (wpAny_call_entry zd4 ty zo0 ?_ (zkw _))));unfold Builtin.«set_iterator.__next__»;rw [show slotArgs "__next__" 0 ⟨[Value.ref I], []⟩ = pure (Value.ref I, []) from rfl];refine wpAny_bind (wpAny_pure (wpAny_bind (wpAny_fieldsOf hI rfl ?_)));refine wpAny_bind (wpAny_setEntries_of ho hd hf ?_);dsimp only;rw [if_neg (by simp)];simp only [Int.toNat_natCast];refine wpAny_bind (wpAny_seqItems ht hdt ?_);have e1 : (pl.map fun k : Nat => Value.int k 0).toArray[i]? = some (.int p 0) := by simp [hp]
 dsimp only;rw [e1];dsimp only;unfold setNextDrawn;refine wpAny_bind (wpAny_bind (wpAny_setState_of ho hd hf ?_));dsimp only;rw [if_neg (by simp)];simp only [Int.toNat_natCast, hv];refine wpAny_pure (wpAny_bind (wpAny_setField_rec hI (by simp) fun h1 e1 b1 => ?_));exact wpAny_pure ⟨v, rfl, wpAny_pure (h h1 e1 b1)⟩
theorem zj4 {β : Type} {Q1 : β -> Shared -> Prop} {E1 : Value -> Shared -> Prop} (hh : A.handled = none) (h : ∀ e h', Shared.TypeIs { s with heap := h' } e "StopIteration" -> (∀ b o, s.heap.get? b = some o -> h'.get? b = some o) -> E1 e { s with heap := h' }) :
  wpAny (model P w) A (newExc (.type "StopIteration") [] >>= fun e => (raiseNew e : Sem β)) Q1 E1 s := by
 refine wpAny_bind ?_;simp only [newExc, newTuple];refine wpAny_bind (wpAny_newObj_type (?_) (by size_fits));refine wpAny_bind (m := firstArgMember _ _) (wpAny_of_eq (a := Value.none) (by first | rfl | (simp only [firstArgMember]; rfl)) (wpAny_newObj_type ?_ (by size_fits)));simp only [raiseNew];refine wpAny_bind (wpAny_handled ?_);rw [hh];refine wpAny_bind (wpAny_pure (wpAny_throw ?_));exact h (.ref _) _ ⟨_, Heap.get?_push_size _ rfl, rfl⟩ fun b o e => Heap.get?_push_of_some _ (Heap.get?_push_of_some _ e)
theorem zhi {I a : Addr} {o : Obj} {es : Array (Int × Value)} {ep sl i : Nat} {t : SetTable} {Q : Option Value -> Shared -> Prop} (hh : A.handled = none) (hI : s.heap.get? I = some (itS (.int sl 0) i a es.size ep)) (ho : s.heap.get? a = some o) (hd : o.data = .set es ep t) (hf : t.fits es.size = true)
  (hn : ∀ (A' : Around) (R : Option (Value × Nat) -> Shared -> Prop) (E' : Value -> Shared -> Prop), R none s -> wpAny (model P w) A' (setNext a sl i ep) R E' s)
  (h : ∀ h', (∀ b o, b ≠ I -> s.heap.get? b = some o -> h'.get? b = some o) -> Q none { s with heap := h' }) :
  wpAny (model P w) A (pyNext (.ref I)) Q E s := by
 have ty : s.TypeIs (.ref I) "set_iterator" := ⟨_, hI, rfl⟩;unfold pyNext;refine wpAny_bind (wpAny_attempt (wpAny_callSpecial?_slot (name := Str.ofString "__next__") ty zd4 (wpAny_call_entry zd4 ty zo0 ?_ (zkw _))));unfold Builtin.«set_iterator.__next__»;rw [show slotArgs "__next__" 0 ⟨[Value.ref I], []⟩ = pure (Value.ref I, []) from rfl];refine wpAny_bind (wpAny_pure (wpAny_bind (wpAny_fieldsOf hI rfl ?_)));refine wpAny_bind (wpAny_setEntries_of ho hd hf ?_);dsimp only;rw [if_neg (by simp)];simp only [Int.toNat_natCast];refine wpAny_bind (hn _ _ _ ?_);dsimp only;refine wpAny_bind (wpAny_setField_rec hI (by simp) fun h1 e1 b1 => ?_);refine zj4 (s := { s with heap := h1 }) hh fun e h2 te k2 => ?_;refine wpAny_bind (wpAny_isInstance (b := true) te isSubtype_stop (wpAny_pure (h h2 fun b o hb eb => k2 b o ?_)));exact (b1.2 b hb).trans eb
theorem zjl {I a tp : Addr} {o : Obj} {es : Array (Int × Value)} {ep i : Nat} {t : SetTable} {pl : List Nat} {ot : Obj} {nt : Nat} {Q : Option Value -> Shared -> Prop} (hh : A.handled = none) (hI : s.heap.get? I = some (itS (.ref tp) i a es.size ep)) (ho : s.heap.get? a = some o) (hd : o.data = .set es ep t) (hf : t.fits es.size = true)
  (ht : s.heap.get? tp = some ot) (hdt : ot.data = .seq (pl.map fun k : Nat => Value.int k 0).toArray nt) (hp : pl[i]? = none)
  (h : ∀ h', (∀ b o, b ≠ I -> s.heap.get? b = some o -> h'.get? b = some o) -> Q none { s with heap := h' }) :
  wpAny (model P w) A (pyNext (.ref I)) Q E s := by
 have ty : s.TypeIs (.ref I) "set_iterator" := ⟨_, hI, rfl⟩;unfold pyNext;refine wpAny_bind (wpAny_attempt (wpAny_callSpecial?_slot (name := Str.ofString "__next__") ty zd4 (wpAny_call_entry zd4 ty zo0 ?_ (zkw _))));unfold Builtin.«set_iterator.__next__»;rw [show slotArgs "__next__" 0 ⟨[Value.ref I], []⟩ = pure (Value.ref I, []) from rfl];refine wpAny_bind (wpAny_pure (wpAny_bind (wpAny_fieldsOf hI rfl ?_)));refine wpAny_bind (wpAny_setEntries_of ho hd hf ?_);dsimp only;rw [if_neg (by simp)];simp only [Int.toNat_natCast];refine wpAny_bind (wpAny_seqItems ht hdt ?_);have e1 : (pl.map fun k : Nat => Value.int k 0).toArray[i]? = none := by simpa using hp
 dsimp only;rw [e1];dsimp only;refine wpAny_bind (wpAny_setField_rec hI (by simp) fun h1 e1 b1 => ?_);refine wpAny_bind (wpAny_setField_rec (s := { s with heap := h1 }) e1 (by simp) fun h2 e2 b2 => ?_);refine zj4 (s := { s with heap := h2 }) hh fun e h3 te k3 => ?_;refine wpAny_bind (wpAny_isInstance (b := true) te isSubtype_stop (wpAny_pure (h h3 fun b o hb eb => k3 b o ?_)));exact ((b1.trans b2).2 b hb).trans eb
end
end L2
namespace L2
open PySem PySem.Spec PyProof.Rows
section
variable {P : Program} {w : World} {A : Around} {E : Value -> Shared -> Prop} {s : Shared} {a : Addr} {o : Obj} {es : Array (Int × Value)} {ep sl i : Nat} {t : SetTable}
theorem z1f (p : Nat) : SetTable.below #[p] 0 = 0 := by
 simp [SetTable.below, SetTable.below.go]
theorem z1g (p : Nat) : SetTable.below #[p] (p + 1) = 1 := by
 simp [SetTable.below, SetTable.below.go]
theorem zsq {R : Option (Value × Nat) -> Shared -> Prop} (ho : s.heap.get? a = some o) (hd : o.data = .set es ep t) (hf : t.fits es.size = true) (hb : zeh w = true) (h : R (((pickOrder (w.params.setOrder a ep) es)[i]?).map fun e => (e.2, sl)) s) : wpAny (model P w) A (setNext a sl i ep) R E s := by
 unfold setNext setsByText;refine wpAny_bind (wpAny_setState_of ho hd hf (wpAny_bind (wpAny_bind (wpAny_askSetting (wpAny_pure ?_)))));rw [if_pos (by exact hb)];dsimp only;rw [if_neg (by simp)];unfold setWalk setsByText;refine wpAny_bind (wpAny_bind (wpAny_setState_of ho hd hf (wpAny_bind (wpAny_bind (wpAny_askSetting (wpAny_pure ?_))))));rw [if_pos (by exact hb)];exact wpAny_bind (wpAny_askSetting (wpAny_pure (wpAny_pure h)))
theorem zwb {R : Option (Value × Nat) -> Shared -> Prop} (ho : s.heap.get? a = some o) (hd : o.data = .set es ep t) (hf : t.fits es.size = true) (hb : zeh w = false) (h1 : es.size <= 1) (hl : t.led = true) (h : R (match es[SetTable.below t.place sl]?, t.place[SetTable.below t.place sl]? with | some (_, x), some j => some (x, j + 1) | _, _ => none) s) : wpAny (model P w) A (setNext a sl i ep) R E s := by
 unfold setNext setsByText;refine wpAny_bind (wpAny_setState_of ho hd hf (wpAny_bind (wpAny_bind (wpAny_askSetting (wpAny_pure ?_)))));rw [if_neg (by show ¬ zeh w = true; simp [hb])];dsimp only;rw [if_neg (by show ¬ ((!t.plain && decide (es.size > 1)) = true); simp; omega)];refine wpAny_bind ?_;show wpAny (model P w) A (if (!t.led && !es.isEmpty) = true then unsupported "set:maker-not-led" else pure ()) _ _ s;rw [if_neg (by simp [hl])];exact wpAny_pure (wpAny_pure h)
theorem z1h : entryFor table "set_iterator.__iter__" = some Builtin.«dict_keyiterator.__iter__» := entryFor_alias (id' := "dict_keyiterator.__iter__") (by kernel_rfl) rfl (by decide +kernel) (by kernel_rfl)
theorem zx9 (v : Value) : argsOk "set_iterator.__iter__" ⟨[v], []⟩ := by
 unfold argsOk
 kernel_rfl
theorem zsr {I : Addr} {f : Value} {n : Nat} {Q : Value -> Shared -> Prop} (hI : s.heap.get? I = some (itS f i a n ep)) (h : Q (.ref I) s) : wpAny (model P w) A (pyIter (.ref I)) Q E s := by
 have ty : s.TypeIs (.ref I) "set_iterator" := ⟨_, hI, rfl⟩;refine wpAny_pyIter_slot ty zsm (wpAny_call_entry zsm ty z1h ?_ (zx9 _));show wpAny _ _ (ret (Value.ref I)) _ _ s;exact wpAny_pure ⟨_, rfl, "set_iterator", _, ty, zd4.lookup, h⟩
theorem zp3 {I : Addr} (hne : a ≠ I) (hd : o.data = .set es ep t) (hf : t.fits es.size = true) (hb : zeh w = true) (hh : A.handled = none) :
  Walks P w A I [I, a] [I] es.size (fun i v => ((pickOrder (w.params.setOrder a ep) es).toList.map (·.2))[i]? = some v) (fun i h => h.get? I = some (itS (.int ((0 : Nat) : Int) 0) i a es.size ep) /\ h.get? a = some o) where
 sub := fun b hb => by rw [List.mem_singleton.mp hb]; exact .head _
 frame := fun i h h' st k => ⟨k I (.head _) _ st.1, k a (.tail _ (.head _)) _ st.2⟩
 item := fun i s Q E hi st hQ => by
  have pm := ziq (w.params.setOrder a ep) es;have sz : (pickOrder (w.params.setOrder a ep) es).size = es.size := by
   have := pm.length_eq;simpa using this
  have hi' : i < (pickOrder (w.params.setOrder a ep) es).size := by rw [sz]; exact hi
  refine zo1 st.1 st.2 hd hf (v := (pickOrder (w.params.setOrder a ep) es)[i].2) (nx := 0) (fun A' R E' q => zsq st.2 hd hf hb (by rw [Array.getElem?_eq_getElem hi']; exact q)) fun h' e b => ?_;refine hQ _ h' s.toks ?_ ⟨e, ?_⟩ fun c oc hc ec => ?_
  ·simp [hi']
  ·rw [b.2 a hne]; exact st.2
  ·rw [b.2 c fun z => hc (by simp [z])]; exact ec
 done := fun s Q E st hQ => by
  have pm := ziq (w.params.setOrder a ep) es;have sz : (pickOrder (w.params.setOrder a ep) es).size = es.size := by
   have := pm.length_eq;simpa using this
  refine zhi hh st.1 st.2 hd hf (fun A' R E' q => zsq st.2 hd hf hb (by rw [Array.getElem?_eq_none (by rw [sz]; exact Nat.le_refl _)]; exact q)) fun h' k => hQ h' s.toks fun c oc hc ec => k c oc (fun z => hc (by simp [z])) ec
 self := fun i s Q E st q => zsr st.1 q
end
end L2
namespace L2
open PySem PySem.Spec PyProof.Rows
section
variable {P : Program} {w : World} {A : Around} {E : Value -> Shared -> Prop} {s : Shared} {a : Addr} {o : Obj} {es : Array (Int × Value)} {ep sl i : Nat} {t : SetTable}
def ordD (es : Array (Int × Value)) (pl : List Nat) : List Value := pl.map fun k => (es[k]?.map (·.2)).getD .none
theorem znp {I tp : Addr} {ot : Obj} {nt : Nat} {pl : List Nat} (hne : a ≠ I) (hnt : tp ≠ I) (hd : o.data = .set es ep t) (hf : t.fits es.size = true) (hdt : ot.data = .seq (pl.map fun k : Nat => Value.int k 0).toArray nt) (hp : pl.Perm (List.range es.size)) (hh : A.handled = none) :
  Walks P w A I [I, a, tp] [I] es.size (fun i v => (ordD es pl)[i]? = some v) (fun i h => h.get? I = some (itS (.ref tp) i a es.size ep) /\ h.get? a = some o /\ h.get? tp = some ot) where
 sub := fun b hb => by rw [List.mem_singleton.mp hb]; exact .head _
 frame := fun i h h' st k => ⟨k I (.head _) _ st.1, k a (.tail _ (.head _)) _ st.2.1, k tp (.tail _ (.tail _ (.head _))) _ st.2.2⟩
 item := fun i s Q E hi st hQ => by
  have len : pl.length = es.size := by rw [hp.length_eq]; simp
  have hi' : i < pl.length := by rw [len]; exact hi
  have hk : pl[i] < es.size := by simpa using hp.mem_iff.mp (List.getElem_mem hi')
  refine zp2 st.1 st.2.1 hd hf st.2.2 hdt (p := pl[i]) (hs := es[pl[i]].1) (v := es[pl[i]].2) (List.getElem?_eq_getElem hi') (by simp [hk]) fun h' e b => ?_;refine hQ _ h' s.toks ?_ ⟨e, ?_, ?_⟩ fun c oc hc ec => ?_
  ·simp [ordD, hi', hk]
  ·rw [b.2 a hne]; exact st.2.1
  ·rw [b.2 tp hnt]; exact st.2.2
  ·rw [b.2 c fun z => hc (by simp [z])]; exact ec
 done := fun s Q E st hQ => by
  have len : pl.length = es.size := by rw [hp.length_eq]; simp
  exact zjl hh st.1 st.2.1 hd hf st.2.2 hdt (List.getElem?_eq_none (by omega)) fun h' k => hQ h' s.toks fun c oc hc ec => k c oc (fun z => hc (by simp [z])) ec
 self := fun i s Q E st q => zsr st.1 q
theorem zss {I : Addr} (hne : a ≠ I) (hd : o.data = .set es ep t) (hf : t.fits es.size = true) (hb : zeh w = false) (h1 : es.size <= 1) (hl : t.led = true) (hh : A.handled = none) :
  Walks P w A I [I, a] [I] es.size (fun i v => (es.toList.map (·.2))[i]? = some v) (fun i h => ∃ sl : Nat, h.get? I = some (itS (.int sl 0) i a es.size ep) /\ h.get? a = some o /\ (i = 0 -> sl = 0) /\ (i = 1 -> ∃ p, t.place = #[p] /\ sl = p + 1)) where
 sub := fun b hb => by rw [List.mem_singleton.mp hb]; exact .head _
 frame := fun i h h' st k => by
  obtain ⟨sl, e1, e2, r⟩ := st;exact ⟨sl, k I (.head _) _ e1, k a (.tail _ (.head _)) _ e2, r⟩
 item := fun i s Q E hi st hQ => by
  obtain ⟨sl, e1, e2, z, _⟩ := st;have n1 : es.size = 1 := by omega
  obtain rfl : i = 0 := by omega
  obtain rfl := z rfl;have pz : t.place.size = 1 := by
   simp only [SetTable.fits, Bool.and_eq_true, beq_iff_eq] at hf;rw [hf.1, n1]
  obtain ⟨p, hp⟩ : ∃ p, t.place = #[p] := ⟨t.place[0], by
   apply Array.ext
   ·simp [pz]
   ·intro j h1 h2
    have : j = 0 := by omega
    subst this;rfl⟩
  have h0 : 0 < es.size := by omega
  refine zo1 e1 e2 hd hf (v := es[0].2) (nx := p + 1) (fun A' R E' q => zwb e2 hd hf hb h1 hl (by rw [hp, z1f]; simp [h0]; exact q)) fun h' e b => ?_;refine hQ _ h' s.toks (by simp [h0]) ⟨p + 1, e, ?_, (fun z => absurd z (by decide)), fun _ => ⟨p, hp, rfl⟩⟩ fun c oc hc ec => ?_
  ·rw [b.2 a hne]; exact e2
  ·rw [b.2 c fun z => hc (by simp [z])]; exact ec
 done := fun s Q E st hQ => by
  obtain ⟨sl, e1, e2, _, z⟩ := st;refine zhi hh e1 e2 hd hf (fun A' R E' q => zwb e2 hd hf hb h1 hl ?_) fun h' k => hQ h' s.toks fun c oc hc ec => k c oc (fun z => hc (by simp [z])) ec;by_cases n1 : es.size = 1
  ·obtain ⟨p, hp, rfl⟩ := z n1
   rw [hp, z1g];have : es[1]? = none := Array.getElem?_eq_none (by omega);rw [this];exact q
  ·have : es[SetTable.below t.place sl]? = none := Array.getElem?_eq_none (by omega)
   rw [this];exact q
 self := fun i s Q E st q => by
  obtain ⟨sl, e1, _⟩ := st;exact zsr e1 q
end
end L2
namespace L2
open PySem PySem.Spec PyProof.Rows
section
variable {P : Program} {w : World} {A : Around} {E : Value -> Shared -> Prop} {s : Shared} {a : Addr}
theorem zya : typeLookup (.type "set") "__len__" = pure (some (.builtin "set.__len__")) := by rw [typeLookup_type, builtinLookup_eq_fast]; kernel_rfl
theorem zst {L : Addr} {xs : Array Value} {n0 : Nat} {Q : Unit -> Shared -> Prop} (eL : s.heap.get? L = some { cls := .type "list", data := .seq xs n0 })
  (h : ∀ (h2 : Heap) (c : Nat), h2.get? L = some { cls := .type "list", data := .seq xs c } -> (∀ b o, b ≠ L -> s.heap.get? b = some o -> h2.get? b = some o) -> Q () { s with heap := h2 }) (hz : xs.size < 100) : wpAny (model P w) A (Builtin.List.listTouch (.ref L)) Q E s := by
 show wpAny _ A (updateSeq L (·.push .none) >>= fun _ => updateSeq L (·.pop)) _ _ s;have g1 := Heap.get?_update_self (Obj.mapSeq (·.push Value.none)) eL rfl;have g2 := Heap.get?_update_self (Obj.mapSeq (·.pop)) g1 rfl;refine wpAny_bind (wpAny_updateSeq eL rfl (wpAny_updateSeq g1 rfl (h _ (n0 + 1 + 1) (g2.trans ?_) fun b o hb e => ?_)))
 ·simp [Obj.mapSeq]
 ·exact (Heap.get?_update_other _ _ (Ne.symm hb)).trans ((Heap.get?_update_other _ _ (Ne.symm hb)).trans e)
theorem zmd {zs : List Str} {Q : List Value -> Shared -> Prop} (S : SetS P w (zeh w) s.heap a zs) (hz : zs.length < 90) (hh : A.handled = none)
  (hQ : ∀ (s' : Shared) (vs : List Value) (ys : List Str), StrsAre vs ys -> ys.Perm zs -> (∀ b o, s.heap.get? b = some o -> s'.heap.get? b = some o) -> s'.gens = s.gens -> s'.os = s.os -> Q vs s') :
  wpAny (model P w) A (collect (.ref a)) Q E s := by
 obtain ⟨o, es, ep, t, ho, hex, hd, hel, hs, nd, hf, hl, hp⟩ := S;have hlen : es.size = zs.length := by
  have := congrArg List.length hs.strs;simpa using this
 unfold collect;refine wpAny_bind (wpAny_runValue (codeAny_builtin PySem.F.entry_proto_collect ?_));rw [Around.under_plainId PySem.F.plain_proto_collect];show wpAny _ A.in1 (newList [] >>= fun q => again (.builtin "list.__iadd__" ⟨[q, .ref a], []⟩)) _ _ s;refine wpAny_bind (wpAny_newObj_type (wpAny_pure ⟨plainId_quiet PySem.F.plain_list_iadd _, codeAny_builtin PySem.F.entry_list_iadd ?_⟩));rw [Around.under_plainId PySem.F.plain_list_iadd];show wpAny _ A.in1 (Builtin.List.listExtendWith (.ref s.heap.objs.size) (.ref a) (.ref s.heap.objs.size)) _ _ _;have alt : a < s.heap.objs.size := Heap.lt_size ho;generalize hH : s.heap.push { cls := .type "list", data := .seq ([] : List Value).toArray } = H;have ho1 : H.get? a = some o := by rw [<- hH]; exact Heap.get?_push_of_some _ ho
 have hsz : H.objs.size = s.heap.objs.size + 1 := by rw [<- hH]; exact Heap.size_push ..
 have hL : H.get? s.heap.objs.size = some { cls := .type "list", data := .seq ([] : List Value).toArray } := by rw [<- hH]; exact Heap.get?_push_size _ rfl
 have ty : Shared.TypeIs { s with heap := H } (.ref a) "set" := ⟨o, ho1, hex.1⟩;unfold Builtin.List.listExtendWith;refine wpAny_bind (wpAny_typeOf ty ?_);have f1 : Builtin.List.listSameRef (.ref s.heap.objs.size) (.ref a) = false := by
  have : s.heap.objs.size ≠ a := Nat.ne_of_gt alt;simp [Builtin.List.listSameRef, this]
 have f2 : (Value.type "set" == Value.type "list") = false := by decide
 have f3 : (Value.type "set" == Value.type "tuple") = false := by decide
 simp only [f1, f2, f3, Bool.or_false, Bool.false_eq_true, if_false];have hint : ∀ {s1 : Shared} {R : Bool -> Shared -> Prop} {E1 : Value -> Shared -> Prop}, s1.TypeIs (.ref a) "set" -> R false s1 -> wpAny (model P w) A.in1 (Builtin.List.listLengthHint (.ref a)) R E1 s1 := fun {s1 R E1} ty2 q => by
  unfold Builtin.List.listLengthHint;refine wpAny_bind (wpAny_specialOf ty2 zya ?_);dsimp only;rw [show splitId "set.__len__" = some ("set", "__len__") from by decide +kernel];dsimp only;refine wpAny_bind (wpAny_isInstance (b := true) ty2 sub_set_self ?_);rw [if_neg (by decide)];rw [if_pos (by decide +kernel)];exact wpAny_bind (wpAny_typeOf ty2 (wpAny_pure q))
 refine wpAny_bind (zsp (s := { s with heap := H }) ho1 hex hd hf (by omega) (fun hc => ?_) fun c1 c2 c3 pl d pm => ?_)
 ·have g1 : (H.push (itS (.int 0 0) 0 a es.size ep)).get? a = some o := Heap.get?_push_of_some _ ho1
  refine wpAny_bind (wpAny_holding (hint (s1 := { s with heap := H.push (itS (.int 0 0) 0 a es.size ep) }) ⟨o, g1, hex.1⟩ ?_));rw [if_pos (by decide)];have e0 : (H.push (itS (.int 0 0) 0 a es.size ep)).get? H.objs.size = some (itS (.int 0 0) 0 a es.size ep) := Heap.get?_push_size _ rfl;have eL : (H.push (itS (.int 0 0) 0 a es.size ep)).get? s.heap.objs.size = some { cls := .type "list", data := .seq #[] 0 } := Heap.get?_push_of_some _ hL;have nI : a ≠ H.objs.size := by rw [hsz]; exact Nat.ne_of_lt (Nat.lt_succ_of_lt alt)
  have nL : s.heap.objs.size ∉ [H.objs.size, a] := by
   rw [hsz];simp only [List.mem_cons, List.not_mem_nil, or_false, not_or];exact ⟨Nat.ne_of_lt (Nat.lt_succ_self _), Nat.ne_of_gt alt⟩
  refine wpAny_bind (wpAny_rule (wpAny_bind (zst (s := { s with heap := H.push (itS (.int 0 0) 0 a es.size ep) }) eL (fun h2 c eL2 k2 => ?_) (by simp))));have e02 := k2 _ _ (fun z => nL (by rw [z]; exact .head _)) e0;have g12 := k2 _ _ (fun z => nL (by rw [z]; exact .tail _ (.head _))) g1;have tail : ∀ (ord : List Value) (ys : List Str), StrsAre ord ys -> ys.Perm zs -> ∀ (s' : Shared) (acc : Array Value) (c' : Nat), Moved (s.heap.objs.size :: [H.objs.size]) (fun g g' => g' = g) { s with heap := h2 } s' -> ItemsOf (fun i v => ord[i]? = some v) acc es.size -> Q acc.toList s' := fun ord ys so py s' acc c' mv it => by
   have len : ord.length = es.size := by rw [zfz so, py.length_eq, hlen]
   have ea : acc.toList = ord := by
    apply List.ext_getElem?;intro j;by_cases hj : j < es.size
    ·have h1 : j < acc.size := by rw [it.1]; exact hj
     have := it.2 j acc[j] (Array.getElem?_eq_getElem h1);rw [this];simp [h1]
    ·rw [List.getElem?_eq_none (by rw [Array.length_toList, it.1]; omega), List.getElem?_eq_none (by omega)]
   refine hQ s' acc.toList ys (ea ▸ so) py (fun b ob eb => ?_) mv.gens mv.os;have lt := Heap.lt_size eb;refine mv.heap b ob ?_ (k2 b ob (Nat.ne_of_lt lt) (Heap.get?_push_of_some _ (by rw [<- hH]; exact Heap.get?_push_of_some _ eb)));rw [hsz];simp only [List.mem_cons, List.not_mem_nil, or_false, not_or];exact ⟨Nat.ne_of_lt lt, Nat.ne_of_lt (Nat.lt_succ_of_lt lt)⟩
  by_cases hb : zeh w = true
  ·have W := fun A' hA => zp3 (P := P) (w := w) (A := A') (I := H.objs.size) nI hd hf hb hA
   refine wpAny_pure ⟨plainId_quiet PySem.F.plain_extend_loop _, codeAny_extend_loopS (W A.in1 hh).toS (Nat.le_trans (by omega : es.size <= 90) (by decide)) _ nL _ es.size 0 _ _ _ rfl (Nat.zero_le _) ⟨e02, g12⟩ eL2 (ItemsOf.nil _) fun s' acc c' mv eS it => ?_⟩;refine wpAny_bind (wpAny_load eS ?_);obtain ⟨ys, k1, k3⟩ := zfj (ziq (w.params.setOrder a ep) es) hs;exact wpAny_pure (tail _ ys k1 k3 s' acc c' mv it)
  ·have hb : zeh w = false := by simpa using hb
   have few : es.size <= 1 := by
    rcases hc with q | q | q
    ·rw [hb] at q; cases q
    ·by_cases e : zs = []
     ·rw [hlen, e]; exact Nat.zero_le _
     ·rw [hp e] at q; cases q
    ·exact q
   have W := fun A' hA => zss (P := P) (w := w) (A := A') (I := H.objs.size) nI hd hf hb few (hl hb) hA;refine wpAny_pure ⟨plainId_quiet PySem.F.plain_extend_loop _, codeAny_extend_loopS (W A.in1 hh).toS (Nat.le_trans (by omega : es.size <= 90) (by decide)) _ nL _ es.size 0 _ _ _ rfl (Nat.zero_le _) ⟨0, e02, g12, fun _ => rfl, fun z => absurd z (by decide)⟩ eL2 (ItemsOf.nil _) fun s' acc c' mv eS it => ?_⟩;refine wpAny_bind (wpAny_load eS ?_);exact wpAny_pure (tail _ zs hs (List.Perm.refl _) s' acc c' mv it)
 ·have tpo : (H.push { cls := .type "tuple", data := .seq (pl.map fun i : Nat => Value.int i 0).toArray }).get? H.objs.size = some { cls := .type "tuple", data := .seq (pl.map fun i : Nat => Value.int i 0).toArray } := Heap.get?_push_size _ rfl
  have hs2 : (H.push { cls := .type "tuple", data := .seq (pl.map fun i : Nat => Value.int i 0).toArray }).objs.size = H.objs.size + 1 := Heap.size_push ..;have bh1 : (H.push { cls := .type "tuple", data := .seq (pl.map fun i : Nat => Value.int i 0).toArray }).get? a = some o := Heap.get?_push_of_some _ ho1;have bhL : (H.push { cls := .type "tuple", data := .seq (pl.map fun i : Nat => Value.int i 0).toArray }).get? s.heap.objs.size = some { cls := .type "list", data := .seq #[] 0 } := Heap.get?_push_of_some _ hL;have bk : ∀ b ob, s.heap.get? b = some ob -> (H.push { cls := .type "tuple", data := .seq (pl.map fun i : Nat => Value.int i 0).toArray }).get? b = some ob := fun b ob e => Heap.get?_push_of_some _ (by rw [<- hH]; exact Heap.get?_push_of_some _ e);show wpAny _ A.in1 _ _ _ { s with heap := (H.push { cls := .type "tuple", data := .seq (pl.map fun i : Nat => Value.int i 0).toArray }).push (itS (.ref H.objs.size) 0 a es.size ep), drawn := d };generalize H.push { cls := .type "tuple", data := .seq (pl.map fun i : Nat => Value.int i 0).toArray } = T at tpo hs2 bh1 bhL bk ⊢;have g1 : (T.push (itS (.ref H.objs.size) 0 a es.size ep)).get? a = some o := Heap.get?_push_of_some _ bh1;refine wpAny_bind (wpAny_holding (hint (s1 := { s with heap := T.push (itS (.ref H.objs.size) 0 a es.size ep), drawn := d }) ⟨o, g1, hex.1⟩ ?_));rw [if_pos (by decide)];have e0 : (T.push (itS (.ref H.objs.size) 0 a es.size ep)).get? (H.objs.size + 1) = some (itS (.ref H.objs.size) 0 a es.size ep) := by rw [<- hs2]; exact Heap.get?_push_size _ rfl
  have e1 : (T.push (itS (.ref H.objs.size) 0 a es.size ep)).get? H.objs.size = some { cls := .type "tuple", data := .seq (pl.map fun i : Nat => Value.int i 0).toArray } := Heap.get?_push_of_some _ tpo;have eL : (T.push (itS (.ref H.objs.size) 0 a es.size ep)).get? s.heap.objs.size = some { cls := .type "list", data := .seq #[] 0 } := Heap.get?_push_of_some _ bhL;have nI : a ≠ H.objs.size + 1 := by rw [hsz]; exact Nat.ne_of_lt (Nat.lt_succ_of_lt (Nat.lt_succ_of_lt alt))
  have nT : H.objs.size ≠ H.objs.size + 1 := Nat.ne_of_lt (Nat.lt_succ_self _);have nL : s.heap.objs.size ∉ [H.objs.size + 1, a, H.objs.size] := by
   rw [hsz];simp only [List.mem_cons, List.not_mem_nil, or_false, not_or];exact ⟨Nat.ne_of_lt (Nat.lt_succ_of_lt (Nat.lt_succ_self _)), Nat.ne_of_gt alt, Nat.ne_of_lt (Nat.lt_succ_self _)⟩
  refine wpAny_bind (wpAny_rule (wpAny_bind (zst (s := { s with heap := T.push (itS (.ref H.objs.size) 0 a es.size ep), drawn := d }) eL (fun h2 c eL2 k2 => ?_) (by simp))));have e02 := k2 _ _ (fun z => nL (by rw [z]; exact .head _)) e0;have g12 := k2 _ _ (fun z => nL (by rw [z]; exact .tail _ (.head _))) g1;have t12 := k2 _ _ (fun z => nL (by rw [z]; exact .tail _ (.tail _ (.head _)))) e1;have W := fun A' hA => znp (P := P) (w := w) (A := A') (I := H.objs.size + 1) (tp := H.objs.size) (ep := ep) nI nT hd hf (ot := { cls := .type "tuple", data := .seq (pl.map fun i : Nat => Value.int i 0).toArray }) rfl pm hA;refine wpAny_pure ⟨plainId_quiet PySem.F.plain_extend_loop _, codeAny_extend_loopS (W A.in1 hh).toS (Nat.le_trans (by omega : es.size <= 90) (by decide)) _ nL _ es.size 0 _ _ _ rfl (Nat.zero_le _) ⟨e02, g12, t12⟩ eL2 (ItemsOf.nil _) fun s' acc c' mv eS it => ?_⟩;refine wpAny_bind (wpAny_load eS (wpAny_pure ?_));have pv : (ordD es pl).Perm (es.toList.map (·.2)) := by
   have e : (List.range es.size).map (fun k => (es[k]?.map (·.2)).getD Value.none) = es.toList.map (·.2) := by
    apply List.ext_getElem?;intro j;by_cases hj : j < es.size
    ·simp [hj]
    ·simp [hj]
   rw [<- e];exact pm.map _
  obtain ⟨ys, so, py⟩ : ∃ ys, StrsAre (ordD es pl) ys /\ ys.Perm zs := by
   refine ⟨(ordD es pl).map strOf, strsAre_map _ fun v hv => hs.all v (pv.mem_iff.mp hv), ?_⟩;have := pv.map strOf;rwa [hs.strs] at this
  have len : (ordD es pl).length = es.size := by rw [zfz so, py.length_eq, hlen]
  have ea : acc.toList = ordD es pl := by
   apply List.ext_getElem?;intro j;by_cases hj : j < es.size
   ·have h1 : j < acc.size := by rw [it.1]; exact hj
    have := it.2 j acc[j] (Array.getElem?_eq_getElem h1);rw [this];simp [h1]
   ·rw [List.getElem?_eq_none (by rw [Array.length_toList, it.1]; omega), List.getElem?_eq_none (by omega)]
  refine hQ s' acc.toList ys (ea ▸ so) py (fun b ob eb => ?_) mv.gens mv.os;have lt := Heap.lt_size eb;refine mv.heap b ob ?_ (k2 b ob (Nat.ne_of_lt lt) (Heap.get?_push_of_some _ (bk b ob eb)));rw [hsz];simp only [List.mem_cons, List.not_mem_nil, or_false, not_or];exact ⟨Nat.ne_of_lt lt, Nat.ne_of_lt (Nat.lt_succ_of_lt (Nat.lt_succ_of_lt lt))⟩
end
end L2
namespace L2
open PySem PySem.Spec PyProof.Rows
section
variable {P : Program} {w : World} {A : Around} {E : Value -> Shared -> Prop} {s : Shared} {a : Addr}
theorem zsu {h : Heap} {l : Addr} {vs : List Value} {out : Array Value} {n : Nat} (hl : h.get? l = some (seqObj "list" vs.toArray n)) : (∃ c, (sortedHeap h l vs out).get? l = some (seqObj "list" out c)) /\ ∀ b o, b ≠ l -> h.get? b = some o -> (sortedHeap h l vs out).get? b = some o := by
 unfold sortedHeap;have g1 := Heap.get?_update_self (Obj.mapSeq fun _ => #[]) hl rfl;have g2 : (((h.update l (Obj.mapSeq fun _ => #[])).push (seqObj "tuple" vs.toArray 0)).push (seqObj "list" #[] 0)).get? l = some (Obj.mapSeq (fun _ => #[]) (seqObj "list" vs.toArray n)) := Heap.get?_push_of_some _ (Heap.get?_push_of_some _ g1);refine ⟨⟨_, (Heap.get?_update_self (Obj.mapSeq fun _ => out) g2 rfl).trans rfl⟩, fun b o hb e => ?_⟩
 ·refine (Heap.get?_update_other _ _ (Ne.symm hb)).trans (Heap.get?_push_of_some _ (Heap.get?_push_of_some _ ?_))
  exact (Heap.get?_update_other _ _ (Ne.symm hb)).trans e
theorem znq {zs : List Str} {Q : Value -> Shared -> Prop} (S : SetS P w (zeh w) s.heap a zs) (hz : zs.length < 64) (hh : A.handled = none)
  (hQ : ∀ (s1 : Shared) (h' : Heap) (out : Array Value) (ys : List Str) (c : Nat), StrsAre out.toList ys -> ys.Perm zs -> sortedS ys = true -> h'.get? s1.heap.objs.size = some (seqObj "list" out c) -> (∀ b o, s.heap.get? b = some o -> s1.heap.get? b = some o) -> (∀ b o, s1.heap.get? b = some o -> h'.get? b = some o) -> s1.gens = s.gens -> s1.os = s.os -> Q (.ref s1.heap.objs.size) { s1 with heap := h' }) :
  wpAny (model P w) A (call (.builtin "sorted") [.ref a]) Q E s := by
 refine Calls.call_function_entry kind_sorted plain_sorted entry_sorted (args_sorted1 _) ?_;unfold Builtin.«sorted»;refine wpAny_bind (m := checkCount "sorted" 1 1 _) (wpAny_pure ?_);refine wpAny_bind (zmd S (by omega) hh fun s1 vs ys so py kp eg eo => ?_);have vl : vs.length < 64 := by rw [zfz so, py.length_eq]; exact hz
 refine wpAny_bind (wpAny_newList (hsz := Nat.le_trans (Nat.le_of_lt vl) (by decide)) ?_);have hoL : (s1.heap.push (seqObj "list" vs.toArray 0)).get? s1.heap.objs.size = some (seqObj "list" vs.toArray 0) := Heap.get?_push_size _ rfl;refine wpAny_bind (wpAny_holding (wpAny_call_entry PyProof.Rows.slot_list_sort ⟨_, hoL, rfl⟩ PyProof.Rows.entry_list_sort (list_sort_treeK (s := { s1 with heap := s1.heap.push (seqObj "list" vs.toArray 0) }) strKind_oneLt hoL so.keysOf (fun v₁ v₂ rest e => keyKind_strs (by rw [<- e]; exact so)) vl fun st a1 a2 => ⟨_, rfl, ?_⟩) (PyProof.Rows.args_list_sort _)));obtain ⟨zs', k1, k2, k3⟩ := sorted_out_str so a1 a2;obtain ⟨⟨c, gl⟩, go⟩ := zsu (out := (arrOf st).map (·.2)) hoL;refine wpAny_pure ⟨_, rfl, hQ s1 _ _ zs' c k1 (k2.trans py) k3 gl kp (fun b o e => go b o ?_ (Heap.get?_push_of_some _ e)) eg eo⟩;exact Nat.ne_of_lt (Heap.lt_size e)
end
end L2
namespace L2
open PySem PySem.Spec PyProof.Rows
theorem Inv.draw {X : Cx} {pins : List (Addr × Obj)} {σ : St} {H : Hp} {s : Shared} (I : Inv X pins σ H s) (d : Drawn) (t : Nat) : Inv X pins σ H { s with drawn := d, toks := t } :=
 ⟨I.ok, I.os, I.bare, I.base, I.loc, I.cell, I.free, I.freeC, I.pin, I.hok, I.len, I.kn⟩
def tSS (K : PySem.W.Frag) (te : TE) : TE := fun σ H Q => te σ H fun x H1 => ∃ (a : Addr) (xs : List Str), x = .ref a /\ SqL K H1 a (xs.map V.str) /\ xs.length < 64 /\ ∀ (l : Addr) (ys : List Str), H1 l = none -> ys.Nodup -> (∀ y, y ∈ ys ↔ y ∈ xs) -> sortedS ys = true -> Q (.ref l) (upd H1 l (.lst (ys.map V.str)))
theorem zsv : ∀ {xs : List Str} {us : List Value}, Vals (xs.map V.str) us -> StrsAre us xs
 | [], _, h => by cases h; exact .nil
 | x :: xs, _, h => by
   cases h with
   | cons r t =>
     obtain ⟨u, rfl⟩ := r;exact .cons x u (zsv t)
theorem zsw : ∀ {xs : List Str} {us : List Value}, StrsAre us xs -> Vals (xs.map V.str) us
 | _, _, .nil => .nil
 | _, _, .cons x t h => .cons ⟨t, rfl⟩ (zsw h)
section
variable {X : Cx} {e : Expr} {te : TE} {p q pos pos2 : Pos}
theorem zup : bootBuiltins "set" = some (.type "set") := by decide +kernel
theorem zp4 (hc : X.calm = true) (g1 : Gl X "sorted") (m1 : X.mg "sorted" = none) (g2 : Gl X "set") (m2 : X.mg "set" = none) (he : PE X e te)
  (hs1 : starEach [.Call (.Name "set" q) [e] [] pos2] X.env = (false, eval (.Call (.Name "set" q) [e] [] pos2) X.env) :: starEach [] X.env := by rfl) (hp1 : (backTo pos (starEach [] X.env)).any (·.1) = false := by rfl)
  (hs2 : starEach [e] X.env = (false, eval e X.env) :: starEach [] X.env := by rfl) (hp2 : (backTo pos2 (starEach [] X.env)).any (·.1) = false := by rfl) :
  PE X (.Call (.Name "sorted" p) [.Call (.Name "set" q) [e] [] pos2] [] pos) (tSS X.K te) := by
 intro pins s σ H Q I h;refine wpAny_Call_Name_kw (zjs I g1 m1 boot_sorted ?_);refine PyProof.Rows.callWith_builtin1 ?_ hs1 hp1;rw [hs1];show wpAny _ _ (spliced ((false, eval (.Call (.Name "set" q) [e] [] pos2) X.env) :: backTo pos (starEach [] X.env))) _ _ s;refine Calls.spliced_cons ?_;refine wpAny_Call_Name_kw (zjs I g2 m2 zup ?_);refine PyProof.Rows.callWith_type1 ?_ hs2 hp2;refine thn ((zds he zhe hs2) pos2 pins s σ H (fun vs H1 => match vs with
  | [x] => ∃ (a : Addr) (xs : List Str), x = .ref a /\ SqL X.K H1 a (xs.map V.str) /\ xs.length < 64 /\ ∀ (l : Addr) (ys : List Str), H1 l = none -> ys.Nodup -> (∀ y, y ∈ ys ↔ y ∈ xs) -> sortedS ys = true -> Q (.ref l) (upd H1 l (.lst (ys.map V.str)))
  | _ => False) I h) fun us s1 ⟨vs, H1, I1, r1, q0⟩ => ?_
 match vs, r1, q0 with
 | [x], r1, ⟨a, xs, e2, sq, lx, q1⟩ =>
   subst e2;obtain ⟨u, rfl, rx⟩ := zph r1;cases rx;obtain ⟨its, rv, pl, hz⟩ := I1.list sq;have sx := zsv rv;have il : its.length = xs.length := zfz sx;refine zsl (I.ok.hd hc) pl.isList sx (by omega) fun h' tk ys sy my ly kp => ?_;have I2 : Inv X pins σ H1 { s1 with heap := h', toks := tk } := I1.kept (t' := tk) kp;refine Calls.spliced_nil ?_;refine znq (s := { s1 with heap := h', toks := tk }) sy (by omega) (I.ok.hd hc) fun s2 h2 out zs c so py srt gl k2 k3 eg eo => ?_;have nz : zs.Nodup := by
    obtain ⟨_, _, _, _, _, _, _, _, _, nd, _⟩ := sy;exact py.nodup_iff.mpr nd
   cases s2 with
   | mk hp2 g2' d2 t2 o2 =>
     have eg : g2' = s1.gens := eg;have eo : o2 = s1.os := eo;subst eg eo;have I3 : Inv X pins σ H1 { s1 with heap := hp2, drawn := d2, toks := t2 } := (I2.kept (t' := t2) k2).draw d2 t2;have zl : zs.length <= 64 := by
      have := py.length_eq;omega
     refine ⟨.ref hp2.objs.size, _, I3.laid (t' := t2) (o := .lst (zs.map V.str)) k3 (Nat.le_refl _) ?_, rfl, q1 hp2.objs.size zs (I3.hok.fresh (Nat.le_refl _)) nz (fun y => by rw [py.mem_iff]; exact my y) srt⟩;exact (show zcb X.prog X.w _ h2 _ (.lst (zs.map V.str)) from ⟨by rw [List.length_map]; exact Nat.le_trans zl (by decide), out.toList, c, zsw so, by simpa [seqObj] using gl⟩)
end
end L2
namespace MF
open PySem L2 PyProof.Rows
def dedS : List Str -> List Str
 | [] => []
 | x :: xs => if x ∈ xs then dedS xs else x :: dedS xs
theorem zkx (y : Str) : ∀ (l : List Str), y ∈ dedS l ↔ y ∈ l
 | [] => Iff.rfl
 | x :: xs => by
   unfold dedS;have ih := zkx y xs
   split
   ·rename_i h
    rw [ih];constructor
    ·exact fun q => .tail _ q
    ·intro q
     rcases List.mem_cons.mp q with rfl | q
     ·exact h
     ·exact q
   ·rw [List.mem_cons, List.mem_cons, ih]
theorem zir : ∀ (l : List Str), (dedS l).Nodup
 | [] => .nil
 | x :: xs => by
   unfold dedS;have ih := zir xs
   split
   ·exact ih
   ·rename_i h
    exact List.nodup_cons.mpr ⟨fun q => h ((zkx x xs).mp q), ih⟩
theorem zsx : ∀ {l m : List Str}, l.Nodup -> m.Nodup -> (∀ y, y ∈ l ↔ y ∈ m) -> l.Perm m
 | [], m, _, _, h => by
   cases m with
   | nil => exact .refl _
   | cons x m => exact absurd ((h x).mpr (.head _)) List.not_mem_nil
 | x :: l, m, h1, h2, h => by
   obtain ⟨hx, h1⟩ := List.nodup_cons.mp h1;have hm : x ∈ m := (h x).mp (.head _);have pm := List.perm_cons_erase hm;refine .trans (.cons x (zsx h1 (h2.erase x) fun y => ?_)) pm.symm;rw [h2.mem_erase_iff, <- h y, List.mem_cons];constructor
   ·exact fun q => ⟨fun e => hx (e ▸ q), .inr q⟩
   ·exact fun ⟨q1, q2⟩ => q2.resolve_left q1
def zgo (t : T) : M T := fun S => match (zav S t).bind zfg with
 | some ys => if ys.length < 64 then .ok (.lst ((zen (dedS ys)).map T.str)) S else .bad
 | none => .bad
section
variable {X : Cx} {E : XK} {e : Expr} {fa : DE} {p q pos pos2 : Pos}
theorem zsy (hc : X.calm = true) (g1 : Gl X "sorted") (m1 : X.mg "sorted" = none) (g2 : Gl X "set") (m2 : X.mg "set" = none) (ha : PE X e (RE E fa))
  (hs1 : starEach [.Call (.Name "set" q) [e] [] pos2] X.env = (false, eval (.Call (.Name "set" q) [e] [] pos2) X.env) :: starEach [] X.env := by rfl) (hp1 : (backTo pos (starEach [] X.env)).any (·.1) = false := by rfl)
  (hs2 : starEach [e] X.env = (false, eval e X.env) :: starEach [] X.env := by rfl) (hp2 : (backTo pos2 (starEach [] X.env)).any (·.1) = false := by rfl) :
  PE X (.Call (.Name "sorted" p) [.Call (.Name "set" q) [e] [] pos2] [] pos) (RE E (e1 zgo fa)) :=
 zbp (zp4 hc g1 m1 g2 m2 ha hs1 hp1 hs2 hp2) fun σ H Q h => by
  obtain ⟨W, S, ρ, rp, env, p⟩ := h;refine ⟨W, S, ρ, rp, env, (Post.bind p).imp fun t W1 S1 H1 l1 r1 p1 v dv => ?_⟩;unfold zgo at p1;cases e : (zav S1 t).bind zfg with
  | none => rw [e] at p1; exact p1.elim
  | some ys =>
    rw [e] at p1;obtain ⟨ts, e1, e2⟩ := Option.bind_eq_some_iff.mp e;obtain ⟨a, vs, rfl, h1, h2⟩ := r1.list dv e1;rw [zkp h2 e2] at h1;have p1 : Post E W1 (QV Q) (if ys.length < 64 then .ok (.lst ((zen (dedS ys)).map T.str)) S1 else .bad) := p1
    split at p1
    ·rename_i hl
     refine ⟨a, ys, rfl, .inl h1, hl, fun l zs hn nz mz srt => ?_⟩;rw [zum (zsx nz (zir ys) fun y => by rw [mz y, zkx]) srt] at p1;exact zl1 p1 r1 (zma zs) l hn
    ·exact p1.elim
end
end MF
namespace DN
open PySem L2 MF
def e8 (c : Cl) : List Addr := [c.nameThere, c.noPlace, c.noPiece, c.tooMany, c.noAnswer, c.ring, c.barred, c.deedFault]
def zhj (c : Cl) : DS := (sRet (e1 zne (e1 (gFld c.hall "pieces") (eVar 0))))
def zb1 (c : Cl) : Fn := runD 1 (zhj c)
def zdf (c : Cl) : DS := (sSeq (sIf (tst (e2 zb8 (eVar 1) (e1 (gFld c.hall "pieces") (eVar 0)))) (zfi c.noPiece (zab (jT Str.empty [(eC (.str "no piece ")), (e1 znk (eVar 1)), (eC (.str " hangs"))]) aNil)) sNx) (sRet (e2 gDix (e1 (gFld c.hall "pieces") (eVar 0)) (eVar 1))))
def zai (c : Cl) : Fn := runD 2 (zdf c)
def zis (c : Cl) : DE := (eA tupF (zab (eC (.str "needs")) (zab (eVar 1) (zab (eVar 0) aNil))))
def zit (c : Cl) : DI := (iL (e1 (gFld c.piece "needs") (eVar 4)))
def ziu (c : Cl) : DT := (tst (e2 zik (eVar 0) (eVar 2)))
def ziv (c : Cl) : DE := (eA tupF (zab (eC (.str "bars")) (zab (eVar 1) (zab (eVar 0) aNil))))
def ziw (c : Cl) : DI := (iL (e1 (gFld c.piece "bars") (eVar 4)))
def zix (c : Cl) : DT := (tst (e2 gIn (eVar 0) (eVar 2)))
def zgp (c : Cl) : DS := (sIf (tst (e2 gIn (eVar 3) (eVar 1))) (sSeq (sSet 4 (zew c.hall "find_piece" (lenF 2 (zai c)) [] (eVar 0) (zab (eVar 3) aNil))) (sSeq (zeu (eMt okL gExt (eVar 2) (zab (zev 1 [3, 1] (zit c) (zat 0) (ziu c) (zis c) finF) aNil))) (zeu (eMt okL gExt (eVar 2) (zab (zev 1 [3, 1] (ziw c) (zat 0) (zix c) (ziv c) finF) aNil))))) sNx)
def znr (c : Cl) : DS := (sSeq (sSet 2 (eA lstC aNil)) (sSeq (sFor (iL (zew c.hall "names" (lenF 1 (zb1 c)) [] (eVar 0) aNil)) (zat 3) (zgp c)) (sRet (eVar 2))))
def zky (c : Cl) : Fn := frzF (runD 5 (znr c))
def ze5 (c : Cl) : DS := (sSeq (zgd c.place "kind" (eVar 0) (eVar 1)) (zgd c.place "rule" (eVar 0) (eVar 2)))
def zb4 (c : Cl) : Fn := runD 3 (ze5 c)
def ze6 (c : Cl) : DS := (sSeq (zgd c.piece "place" (eVar 0) (eVar 1)) (sSeq (zgd c.piece "deed" (eVar 0) (eVar 2)) (sSeq (zgd c.piece "by" (eVar 0) (eVar 3)) (sSeq (zgd c.piece "on" (eVar 0) (eC (.bl true))) (sSeq (zgd c.piece "ahead" (eVar 0) (eA lstC aNil)) (sSeq (zgd c.piece "behind" (eVar 0) (eA lstC aNil)) (sSeq (zgd c.piece "needs" (eVar 0) (eA lstC aNil)) (zgd c.piece "bars" (eVar 0) (eA lstC aNil)))))))))
def zbl (c : Cl) : Fn := runD 4 (ze6 c)
def zfk (c : Cl) : DS := (sSeq (zgd c.hall "places" (eVar 0) zhf) (zgd c.hall "pieces" (eVar 0) zhf))
def zce (c : Cl) : Fn := runD 1 (zfk c)
def zeo (c : Cl) : DS := (sSeq (sIf (tst (e2 gDin (eVar 1) (e1 (gFld c.hall "places") (eVar 0)))) (zfi c.nameThere (zab (jT Str.empty [(eC (.str "there is a place ")), (e1 znk (eVar 1)), (eC (.str " already"))]) aNil)) sNx) (sSeq (sIf (tst (e2 (gI fGe) (e1 zl3 (e1 (gFld c.hall "places") (eVar 0))) (eC (.int 8)))) (zfi c.tooMany (zab (eC (.str "the hall has no room for another place")) aNil)) sNx) (zng (e1 (gFld c.hall "places") (eVar 0)) (eVar 1) (zni c.place (lenF 3 (zb4 c)) [] (zab (eVar 2) (zab (eVar 3) aNil))))))
def zbe (c : Cl) : Fn := runD 4 (zeo c)
def zep (c : Cl) : DS := (sSeq (sIf (tst (e2 zb8 (eVar 1) (e1 (gFld c.hall "places") (eVar 0)))) (zfi c.noPlace (zab (jT Str.empty [(eC (.str "there is no place ")), (e1 znk (eVar 1))]) aNil)) sNx) (sRet (e2 gDix (e1 (gFld c.hall "places") (eVar 0)) (eVar 1))))
def zby (c : Cl) : Fn := runD 2 (zep c)
def ziy (c : Cl) : DS := (sSeq (sIf (tst (e2 gDin (eVar 1) (e1 (gFld c.hall "pieces") (eVar 0)))) (zfi c.nameThere (zab (jT Str.empty [(eC (.str "a piece ")), (e1 znk (eVar 1)), (eC (.str " hangs already"))]) aNil)) sNx) (sSeq (zeu (zew c.hall "find_place" (lenF 2 (zby c)) [] (eVar 0) (zab (eVar 2) aNil))) (sSeq (sIf (tst (e2 zgk (eVar 4) (eC .non))) (zeu (zew c.hall "find_piece" (lenF 2 (zai c)) [] (eVar 0) (zab (eVar 4) aNil))) sNx) (sSeq (sIf (tst (e2 (gI fGe) (e1 zl3 (e1 (gFld c.hall "pieces") (eVar 0))) (eC (.int 24)))) (zfi c.tooMany (zab (eC (.str "the hall has no room for another piece")) aNil)) sNx) (zng (e1 (gFld c.hall "pieces") (eVar 0)) (eVar 1) (zni c.piece (lenF 4 (zbl c)) [] (zab (eVar 2) (zab (eVar 3) (zab (eVar 4) aNil)))))))))
def zd5 (c : Cl) : Fn := runD 5 (ziy c)
def zkz (c : Cl) : DS := (sRet (eIf (tst (e2 gIs (eVar 0) (eC .non))) (eA lstF aNil) (e1 zne (eVar 0))))
def zca (c : Cl) : Fn := runD 1 (zkz c)
def ziz (c : Cl) : DS := (sSeq (sSet 6 (zew c.hall "find_piece" (lenF 2 (zai c)) [] (eVar 0) (zab (eVar 1) aNil))) (sSeq (zeu (eMt okL gExt (e1 (gFld c.piece "ahead") (eVar 6)) (zab (zbu (lenF 1 (zca c)) [] (zab (eVar 2) aNil)) aNil))) (sSeq (zeu (eMt okL gExt (e1 (gFld c.piece "behind") (eVar 6)) (zab (zbu (lenF 1 (zca c)) [] (zab (eVar 3) aNil)) aNil))) (sSeq (zeu (eMt okL gExt (e1 (gFld c.piece "needs") (eVar 6)) (zab (zbu (lenF 1 (zca c)) [] (zab (eVar 4) aNil)) aNil))) (zeu (eMt okL gExt (e1 (gFld c.piece "bars") (eVar 6)) (zab (zbu (lenF 1 (zca c)) [] (zab (eVar 5) aNil)) aNil)))))))
def zd6 (c : Cl) : Fn := runD 7 (ziz c)
def zgq (c : Cl) : DS := (sSeq (sSet 3 (zew c.hall "find_piece" (lenF 2 (zai c)) [] (eVar 0) (zab (eVar 1) aNil))) (zgd c.piece "on" (eVar 3) (eVar 2)))
def zda (c : Cl) : Fn := runD 4 (zgq c)
def zex (c : Cl) : DS := (sSeq (sIf (tst (e2 (gI fLt) (eVar 1) (e1 gLen (eVar 0)))) (sRet (e2 gIx (eVar 0) (eVar 1))) sNx) (sRet (eC (.int 0))))
def zam (c : Cl) : Fn := runD 2 (zex c)
def zfl (c : Cl) : DE := (e2 gIx (eVar 1) (e2 (gI fMod) (e2 gAdd (eVar 2) (e2 (gI fMul) (eC (.int 5)) (eVar 0))) (eC (.int 26))))
def zfm (c : Cl) : DI := (iR1 (zab (e2 gAdd (eC (.int 2)) (e2 (gI fMod) (eVar 0) (eC (.int 11)))) aNil))
def zg6 (c : Cl) : DS := (sSeq (sSet 1 (eC (.str "abcdefghijklmnopqrstuvwxyz"))) (sSeq (sIf (tst (e2 gEq (e2 (gI fMod) (eVar 0) (eC (.int 3))) (eC (.int 1)))) (sRet (e2 gIx (eVar 1) (e2 (gI fMod) (eVar 0) (eC (.int 26))))) sNx) (sRet (eMt okS zpx (eC (.str "")) (zab (zev 1 [1, 0] (zfm c) (zat 0) yesD (zfl c) finF) aNil)))))
def zbf (c : Cl) : Fn := runD 2 (zg6 c)
def zj5 (c : Cl) : DS := (sSeq (sSet 1 (e2 (gI fSub) (e2 (gI fMod) (e2 (gI fDiv) (eVar 0) (eC (.int 8))) (eC (.int 2001))) (eC (.int 1000)))) (sSeq (sIf (tst (e2 gEq (e2 (gI fMod) (e2 (gI fDiv) (eVar 0) (eC (.int 8))) (eC (.int 9))) (eC (.int 4)))) (sSet 1 (e2 (gI fSub) (e2 (gI fMod) (eVar 0) (e2 (gI fPow) (eC (.int 10)) (eC (.int 25)))) (e2 (gI fPow) (eC (.int 10)) (eC (.int 24))))) sNx) (sSeq (sIf (tst (e2 gEq (e2 (gI fMod) (eVar 0) (eC (.int 8))) (eC (.int 3)))) (sRet (eA tupF (zab (eC (.str "say")) (zab (eVar 1) aNil)))) sNx) (sSeq (sIf (tst (e2 gEq (e2 (gI fMod) (eVar 0) (eC (.int 8))) (eC (.int 4)))) (sRet (eA tupF (zab (eC (.str "none")) aNil))) sNx) (sSeq (sIf (tst (e2 gEq (e2 (gI fMod) (eVar 0) (eC (.int 8))) (eC (.int 5)))) (sRet (eA tupF (zab (eC (.str "fail")) (zab (eVar 1) aNil)))) sNx) (sRet (eA tupF (zab (eC (.str "add")) (zab (eVar 1) aNil)))))))))
def zeq (c : Cl) : Fn := runD 2 (zj5 c)
def zf0 (c : Cl) : DS := (sSeq (sIf (tst (e2 (gI fGt) (e2 (gI fMod) (eVar 0) (eC (.int 4))) (eC (.int 1)))) (sRet (eA lstF aNil)) sNx) (sSeq (sIf (tst (e2 gEq (e2 (gI fMod) (eVar 0) (eC (.int 4))) (eC (.int 1)))) (sRet (eA lstF (zab (zbu (lenF 1 (zbf c)) [] (zab (e2 (gI fMod) (e2 (gI fDiv) (eVar 0) (eC (.int 4))) (eVar 1)) aNil)) (zab (zbu (lenF 1 (zbf c)) [] (zab (e2 (gI fMod) (e2 (gI fDiv) (eVar 0) (eC (.int 64))) (eVar 1)) aNil)) aNil)))) sNx) (sRet (eA lstF (zab (zbu (lenF 1 (zbf c)) [] (zab (e2 (gI fMod) (e2 (gI fDiv) (eVar 0) (eC (.int 4))) (eVar 1)) aNil)) aNil)))))
def zb5 (c : Cl) : Fn := runD 2 (zf0 c)
def zei (c : Cl) : DS := (sSeq (sSet 5 (zbu (lenF 2 (zam c)) [] (zab (eVar 0) (zab (e2 gAdd (eVar 1) (e2 (gI fMul) (eC (.int 3)) (eVar 4))) aNil)))) (sSeq (sSet 6 (zbu (lenF 2 (zam c)) [] (zab (eVar 0) (zab (e2 gAdd (e2 gAdd (eVar 1) (e2 (gI fMul) (eC (.int 3)) (eVar 4))) (eC (.int 1))) aNil)))) (sSeq (sSet 7 (zbu (lenF 2 (zam c)) [] (zab (eVar 0) (zab (e2 gAdd (e2 gAdd (eVar 1) (e2 (gI fMul) (eC (.int 3)) (eVar 4))) (eC (.int 2))) aNil)))) (sSeq (sSet 8 (e2 gIx (eA lstF (zab (eC (.str "hub")) (zab (eC (.str "hub")) (zab (eC (.str "hub")) (zab (eC (.str "side")) aNil))))) (e2 (gI fMod) (e2 (gI fDiv) (eVar 5) (eC (.int 4096))) (eC (.int 4))))) (sSeq (sSet 9 (eA lstF (zab (zbu (lenF 2 (zb5 c)) [] (zab (eVar 6) (zab (e2 gAdd (eVar 2) (eC (.int 1))) aNil))) (zab (zbu (lenF 2 (zb5 c)) [] (zab (e2 (gI fDiv) (eVar 6) (eC (.int 7))) (zab (e2 gAdd (eVar 2) (eC (.int 1))) aNil))) aNil)))) (sSeq (sSet 9 (e2 gAdd (eVar 9) (eA lstF (zab (zbu (lenF 2 (zb5 c)) [] (zab (eVar 7) (zab (e2 gAdd (eVar 2) (eC (.int 1))) aNil))) (zab (zbu (lenF 2 (zb5 c)) [] (zab (e2 (gI fDiv) (eVar 7) (eC (.int 7))) (zab (e2 gAdd (eVar 2) (eC (.int 1))) aNil))) aNil))))) (zeu (eMt okL gApp (eVar 3) (zab (eA tupF (zab (zbu (lenF 1 (zbf c)) [] (zab (eVar 4) aNil)) (zab (eVar 8) (zab (zbu (lenF 1 (zeq c)) [] (zab (eVar 5) aNil)) (zab (eVar 9) (zab (e2 gNe (e2 (gI fMod) (e2 (gI fDiv) (eVar 5) (eC (.int 64))) (eC (.int 6))) (eC (.int 1))) aNil)))))) aNil)))))))))
def zfn (c : Cl) : DS := (sSeq (sSet 3 (eA lstC aNil)) (sSeq (sFor (iR1 (zab (eVar 2) aNil)) (zat 4) (zei c)) (sRet (eVar 3))))
def zdn (c : Cl) : Fn := frzF (runD 10 (zfn c))
def zfo (c : Cl) : DS := (zeu (zew c.hall "hang" (lenF 5 (zd5 c)) [.non] (eVar 3) (zab (e2 gIx (eVar 4) (eC (.int 0))) (zab (e2 gIx (eVar 4) (eC (.int 1))) (zab (e2 gIx (eVar 4) (eC (.int 2))) aNil)))))
def zea (c : Cl) : DS := (sSeq (zeu (zew c.hall "wish" (lenF 6 (zd6 c)) [] (eVar 3) (zab (e2 gIx (eVar 4) (eC (.int 0))) (zab (e2 gIx (e2 gIx (eVar 4) (eC (.int 3))) (eC (.int 0))) (zab (e1 zok (e2 gIx (e2 gIx (eVar 4) (eC (.int 3))) (eC (.int 1)))) (zab (e2 gIx (e2 gIx (eVar 4) (eC (.int 3))) (eC (.int 2))) (zab (e2 gIx (e2 gIx (eVar 4) (eC (.int 3))) (eC (.int 3))) aNil))))))) (sIf (zrq (tru (e2 gIx (eVar 4) (eC (.int 4))))) (zeu (zew c.hall "switch" (lenF 3 (zda c)) [] (eVar 3) (zab (e2 gIx (eVar 4) (eC (.int 0))) (zab (eC (.bl false)) aNil)))) sNx))
def zj6 (c : Cl) : DS := (sSeq (sSet 3 (zni c.hall (lenF 1 (zce c)) [] aNil)) (sSeq (zeu (zew c.hall "open_place" (lenF 4 (zbe c)) [] (eVar 3) (zab (eC (.str "hub")) (zab (eVar 1) (zab (eVar 2) aNil))))) (sSeq (zeu (zew c.hall "open_place" (lenF 4 (zbe c)) [] (eVar 3) (zab (eC (.str "side")) (zab (eC (.str "all")) (zab (eC (.str "hold")) aNil))))) (sSeq (sFor (iL (eVar 0)) (zat 4) (zfo c)) (sSeq (sFor (iL (eVar 0)) (zat 4) (zea c)) (sRet (eVar 3)))))))
def zdg (c : Cl) : Fn := runD 5 (zj6 c)
def zay (c : Cl) : DS := (sSeq (sSet 4 (eMt okL gPop (eVar 3) aNil)) (sIf (tst (e2 zb8 (eVar 4) (eVar 2))) (sSeq (sSet 5 (zew c.hall "find_piece" (lenF 2 (zai c)) [] (eVar 0) (zab (eVar 4) aNil))) (sSeq (zng (eVar 2) (eVar 4) (eC (.bl true))) (zeu (eMt okL gExt (eVar 3) (zab (e1 (gFld c.piece "needs") (eVar 5)) aNil))))) sNx))
def zbm (c : Cl) : DT := (tru (eVar 3))
def zcr (c : Cl) : DS := (sSeq (sSet 2 zhf) (sSeq (sSet 3 (eA lstC (zab (eVar 1) aNil))) (sSeq (zoo (zbm c) (zay c)) (sRet (eVar 2)))))
def zcs (c : Cl) : Fn := frzF (runD 6 (zcr c))
def zdi (c : Cl) : DE := (eVar 0)
def zct (c : Cl) : DI := (iL (zew c.hall "names" (lenF 1 (zb1 c)) [] (eVar 0) aNil))
def zdj (c : Cl) : DT := (tst (e2 gDin (eVar 0) (eVar 1)))
def zeb (c : Cl) : DS := (sSeq (sSet 2 (zbu (lenF 2 (zcs c)) [] (zab (eVar 0) (zab (eVar 1) aNil)))) (sSeq (sSet 3 (zev 1 [2] (zct c) (zat 0) (zdj c) (zdi c) finF)) (sSeq (sSet 4 (zbu (lenF 2 (zky c)) [] (zab (eVar 0) (zab (eVar 3) aNil)))) (sSeq (sIf (tru (eVar 4)) (zku c.barred "one" "other" true (zab (e2 gIx (e2 gIx (eVar 4) (eC (.int 0))) (eC (.int 1))) (zab (e2 gIx (e2 gIx (eVar 4) (eC (.int 0))) (eC (.int 2))) aNil))) sNx) (sRet (eVar 3))))))
def zbc (c : Cl) : Fn := runD 5 (zeb c)
def zey (c : Cl) : DS := (sIf (tOrD (zrq (tru (e1 (gIsa .str) (e2 gIx (eVar 0) (eVar 2))))) (tst (e2 gNe (e2 gIx (eVar 0) (eVar 2)) (e2 gIx (eVar 1) (eVar 2))))) (sRet (eC (.bl false))) sNx)
def zi0 (c : Cl) : DS := (sSeq (sIf (tOrD (zrq (tru (e1 (gIsa .list) (eVar 0)))) (tst (e2 gNe (e1 gLen (eVar 0)) (e1 gLen (eVar 1))))) (sRet (eC (.bl false))) sNx) (sSeq (sFor (iR1 (zab (e1 gLen (eVar 1)) aNil)) (zat 2) (zey c)) (sRet (eC (.bl true)))))
def zcy (c : Cl) : Fn := runD 3 (zi0 c)
def zcu (c : Cl) : DS := (zng (eVar 2) (e2 gIx (eVar 3) (eC (.int 0))) (e2 gIx (e2 gIx (eVar 3) (eC (.int 3))) (eC (.int 2))))
def zbd (c : Cl) : DS := (sSeq (sIf (tst (e2 zb8 (eVar 7) (eVar 2))) (sRet (eC .non)) sNx) (zeu (eMt okL gExt (eVar 6) (zab (e2 gDix (eVar 2) (eVar 7)) aNil))))
def za1 (c : Cl) : DS := (sSeq (sSet 6 (eA lstC aNil)) (sSeq (sFor (iL (eVar 4)) (zat 7) (zbd c)) (sSet 4 (e1 zgo (e2 gAdd (eVar 4) (eVar 6))))))
def zdk (c : Cl) : DE := (e2 gIx (eVar 0) (eC (.int 0)))
def zdl (c : Cl) : DI := (iL (eVar 0))
def zdm (c : Cl) : DT := (tst (e2 gIn (e2 gIx (eVar 0) (eC (.int 0))) (eVar 1)))
def zcf (c : Cl) : DS := (sSeq (sSet 2 zhf) (sSeq (sFor (iL (eVar 0)) (zat 3) (zcu c)) (sSeq (sSet 4 (eA lstF (zab (eVar 1) aNil))) (sSeq (sFor (iR1 (zab (e2 gAdd (e1 gLen (eVar 0)) (eC (.int 1))) aNil)) (zat 5) (za1 c)) (sRet (zev 1 [4] (zdl c) (zat 0) (zdm c) (zdk c) finF))))))
def zcg (c : Cl) : Fn := frzF (runD 8 (zcf c))
def za2 (c : Cl) : DS := (sIf (tst (e2 gIn (eVar 3) (eVar 1))) (sRet (eA tupF (zab (e2 gIx (eVar 2) (eC (.int 0))) (zab (eVar 3) aNil)))) sNx)
def za3 (c : Cl) : DS := (sIf (tst (e2 gIn (e2 gIx (eVar 2) (eC (.int 0))) (eVar 1))) (sFor (iL (e2 gIx (e2 gIx (eVar 2) (eC (.int 3))) (eC (.int 3)))) (zat 3) (za2 c)) sNx)
def zfp (c : Cl) : DS := (sSeq (sFor (iL (eVar 0)) (zat 2) (za3 c)) (sRet (eC .non)))
def zb2 (c : Cl) : Fn := runD 4 (zfp c)
def zdo (c : Cl) : DS := (sSet 2 (eA tupF (zab (eC (.str "names")) (zab (zbu (lenF 2 (zbc c)) [] (zab (eVar 0) (zab (eVar 1) aNil))) aNil))))
def zfq (c : Cl) : DS := (sSet 2 (eA tupF (zab (eC (.str "piece")) (zab (eAnd (e1 (gIsX (subL [c.noPiece, c.barred] c.noPiece)) (eVar 3)) (e1 (gIsX (subH [c.noPiece, c.barred])) (eVar 3))) aNil))))
def zfr (c : Cl) : DS := (sSet 2 (eA tupF (zab (eC (.str "barred")) (zab (eA tupF (zab (e1 (gXat c.barred "one") (eVar 3)) (zab (e1 (gXat c.barred "other") (eVar 3)) aNil))) (zab (eAnd (e1 (gIsX (subH [c.noPiece, c.barred])) (eVar 3)) (eNot (e1 (gIsX (subL [c.noPiece, c.barred] c.noPiece)) (eVar 3)))) aNil)))))
def zf1 (c : Cl) : DS := (sSeq (sSet 2 (eC .non)) (sSeq (dTry (zdo c) [2] (hdAs (subL [c.noPiece, c.barred] c.barred) 3 (zfr c) (hdAs (subH [c.noPiece, c.barred]) 3 (zfq c) zv4))) (sRet (eVar 2))))
def zbz (c : Cl) : Fn := runD 4 (zf1 c)
def zd7 (c : Cl) : DE := (eA tupF (zab (e2 gIx (eVar 0) (eC (.int 0))) (zab (e2 gIx (eVar 0) (eC (.int 1))) (zab (e2 gIx (eVar 0) (eC (.int 2))) (zab (e2 gAdd (eSl (e2 gIx (eVar 0) (eC (.int 3))) zxz (zx0 (eC (.int 3)))) (eA lstF (zab (eA lstF aNil) aNil))) (zab (e2 gIx (eVar 0) (eC (.int 4))) aNil))))))
def zd8 (c : Cl) : DI := (iL (eVar 1))
def zi1 (c : Cl) : DS := (sSeq (sSet 1 (zbu (lenF 3 (zdn c)) [] (zab (eVar 0) (zab (eC (.int 2)) (zab (e2 (gI fMod) (zbu (lenF 2 (zam c)) [] (zab (eVar 0) (zab (eC (.int 0)) aNil))) (eC (.int 13))) aNil))))) (sSeq (sIf (tst (e2 (gI fGt) (e2 (gI fMod) (e2 (gI fDiv) (zbu (lenF 2 (zam c)) [] (zab (eVar 0) (zab (eC (.int 1)) aNil))) (eC (.int 16))) (eC (.int 3))) (eC (.int 0)))) (sSet 1 (zev 1 [] (zd8 c) (zat 0) yesD (zd7 c) finF)) sNx) (sSeq (sSet 2 (zbu (lenF 3 (zdg c)) [] (zab (eVar 1) (zab (eC (.str "all")) (zab (eC (.str "hold")) aNil))))) (sSeq (sSet 3 (zbu (lenF 1 (zbf c)) [] (zab (e2 (gI fMod) (zbu (lenF 2 (zam c)) [] (zab (eVar 0) (zab (eC (.int 1)) aNil))) (e2 gAdd (e1 gLen (eVar 1)) (eC (.int 1)))) aNil))) (sSeq (sSet 4 (zbu (lenF 2 (zbz c)) [] (zab (eVar 2) (zab (eVar 3) aNil)))) (sSeq (sSet 5 (zbu (lenF 2 (zcg c)) [] (zab (eVar 1) (zab (eVar 3) aNil)))) (sSeq (sIf (tst (e2 gIs (eVar 5) (eC .non))) (sRet (e2 gEq (eVar 4) (eA tupF (zab (eC (.str "piece")) (zab (eC (.bl true)) aNil))))) sNx) (sSeq (sSet 6 (zbu (lenF 2 (zb2 c)) [] (zab (eVar 1) (zab (eVar 5) aNil)))) (sSeq (sIf (tst (e2 zgk (eVar 6) (eC .non))) (sRet (e2 gEq (eVar 4) (eA tupF (zab (eC (.str "barred")) (zab (eVar 6) (zab (eC (.bl true)) aNil)))))) sNx) (sRet (eAnd (e2 gEq (e2 gIx (eVar 4) (eC (.int 0))) (eC (.str "names"))) (zbu (lenF 2 (zcy c)) [] (zab (e2 gIx (eVar 4) (eC (.int 1))) (zab (eVar 5) aNil))))))))))))))
def zme (c : Cl) : Fn := runD 7 (zi1 c)
def ze7 (c : Cl) : DS := (sSeq (sIf (tst (e2 gEq (eVar 6) (eVar 1))) (sRet (eVar 5)) sNx) (sIf (tst (e2 zb8 (eVar 6) (eVar 3))) (sSeq (zng (eVar 3) (eVar 6) (eC (.bl true))) (zeu (eMt okL gApp (eVar 4) (zab (e2 gAdd (eVar 5) (eA lstF (zab (eVar 6) aNil))) aNil)))) sNx))
def ze8 (c : Cl) : DS := (sFor (iK (e2 gDix (eVar 0) (e2 gIx (eVar 5) (e1 gNeg (eC (.int 1)))))) (zat 6) (ze7 c))
def zho (c : Cl) : DS := (sSeq (sSet 4 (eA lstC aNil)) (sSeq (sFor (iL (eVar 2)) (zat 5) (ze8 c)) (sSet 2 (eVar 4))))
def zhp (c : Cl) : DT := (tru (eVar 2))
end DN
namespace K10
open PySem L2 MF DN
def top (i : Nat) : Stmt := PySem.Challenge.pw_hookhall_k10_a_piece_with_its_needs.main.body.getD i (.Pass ⟨0, 0, 0, 0⟩)
structure Tx (K : PySem.W.Frag) (mg : Str -> Option Value) (c : Cl) : Prop where
 mh : zdc K c.hallError = some bmVE
 mro : ∀ C ∈ [c.noPiece, c.barred], C ≠ c.hallError -> zdc K C = some (.ref c.hallError :: bmVE)
 n_ValueError : mg "ValueError" = none
 c_MOST_PIECES : ∃ t, mg "MOST_PIECES" = some (.int 24 t)
 c_MOST_PLACES : ∃ t, mg "MOST_PLACES" = some (.int 8 t)
 cl_hall : Cls K c.hall
 a_hall_pieces : zcq K c.hall "pieces"
 a_hall_places : zcq K c.hall "places"
 cl_piece : Cls K c.piece
 a_piece_ahead : zcq K c.piece "ahead"
 a_piece_bars : zcq K c.piece "bars"
 a_piece_behind : zcq K c.piece "behind"
 a_piece_by : zcq K c.piece "by"
 a_piece_deed : zcq K c.piece "deed"
 a_piece_needs : zcq K c.piece "needs"
 a_piece_on : zcq K c.piece "on"
 a_piece_place : zcq K c.piece "place"
 cl_place : Cls K c.place
 a_place_kind : zcq K c.place "kind"
 a_place_rule : zcq K c.place "rule"
 g_barred : XGet K c.barred
 xa_barred_one : PySem.W.findIn K (.ref c.barred) "one" = some none
 xa_barred_other : PySem.W.findIn K (.ref c.barred) "other" = some none
 b_1 : PySem.W.specialIn K (.ref c.hallError) "__getattribute__" = some (some (.builtin "type.__getattribute__"))
 b_2 : PySem.W.readsIn K c.hallError (.type "type") = true
 b_3 : PySem.W.findCls K (.ref c.hallError) (.type "type") "__init__" = some (.val (.builtin "ValueError.__init__"))
 xc_barred : XCls K c.barred
 nf_barred_one : PySem.W.findIn K (.ref c.barred) "one" = some none
 nf_barred_other : PySem.W.findIn K (.ref c.barred) "other" = some none
 n_isinstance : mg "isinstance" = none
 k_noPiece : ∀ C ∈ [c.noPiece, c.barred], XKit K C /\ PySem.W.kitOne K (.ref C) (.ref c.noPiece) = some (decide (C = c.noPiece))
 kv : ∀ C ∈ [c.noPiece, c.barred], XKit K C /\ PySem.W.kitOne K (.ref C) (.type "ValueError") = some true
 n_len : mg "len" = none
 n_list : mg "list" = none
 m_barred : mg "Barred" = some (.ref c.barred)
 m_hallError : mg "HallError" = some (.ref c.hallError)
 m_nameThere : mg "NameThere" = some (.ref c.nameThere)
 m_noPiece : mg "NoPiece" = some (.ref c.noPiece)
 m_noPlace : mg "NoPlace" = some (.ref c.noPlace)
 m_tooMany : mg "TooMany" = some (.ref c.tooMany)
 d_barred : c.barred ≠ c.hallError
 qd_barred : zdc K c.barred = some (.ref c.hallError :: bmVE)
 n_range : mg "range" = none
 n_set : mg "set" = none
 n_sorted : mg "sorted" = none
 n_str : mg "str" = none
 n_tuple : mg "tuple" = none
 x_nameThere : PySem.W.excIn K c.nameThere bmVE "ValueError.__new__" = true
 x_noPiece : PySem.W.excIn K c.noPiece bmVE "ValueError.__new__" = true
 x_noPlace : PySem.W.excIn K c.noPlace bmVE "ValueError.__new__" = true
 x_tooMany : PySem.W.excIn K c.tooMany bmVE "ValueError.__new__" = true
local macro_rules | `(tactic| walk_at "s") => `(tactic| exact ⟨rfl, rfl, rfl, by decide +kernel, rfl, by decide +kernel, by decide +kernel⟩)
abbrev zcl : Stmt := top 20
theorem zjm : zar ["script", "k"] ["script", "k"] (zac zcl) := by walk_at "s"
abbrev zdx : Stmt := top 21
theorem zi2 : zar ["k", "letters"] ["k"] (zac zdx) := by walk_at "s"
abbrev zdy : Stmt := top 23
theorem zns : zar ["cell", "many"] ["cell", "many"] (zac zdy) := by walk_at "s"
abbrev zdz : Stmt := top 22
theorem zge : zar ["cell", "number"] ["cell"] (zac zdz) := by walk_at "s"
abbrev zc1 : Stmt := top 24
theorem za9 : zar ["script", "start", "many", "pieces", "k", "one", "two", "three", "place", "wishes"] ["script", "start", "many"] (zac zc1) := by walk_at "s"
abbrev zb0 : Stmt := zd2 (top 17) 0
theorem zhq : zar ["self"] ["self"] (zac zb0) := by walk_at "s"
abbrev zbn : Stmt := zd2 (top 15) 0
theorem zg7 : zar ["self", "kind", "rule"] ["self", "kind", "rule"] (zac zbn) := by walk_at "s"
abbrev zbg : Stmt := zd2 (top 17) 1
theorem zgr : zar ["self", "name", "kind", "rule"] ["self", "name", "kind", "rule"] (zac zbg) := by walk_at "s"
abbrev zbh : Stmt := zd2 (top 17) 9
theorem zgs : zar ["self", "name"] ["self", "name"] (zac zbh) := by walk_at "s"
abbrev zbi : Stmt := zd2 (top 17) 10
theorem zgt : zar ["self", "name"] ["self", "name"] (zac zbi) := by walk_at "s"
abbrev zbo : Stmt := zd2 (top 16) 0
theorem zg8 : zar ["self", "place", "deed", "by"] ["self", "place", "deed", "by"] (zac zbo) := by walk_at "s"
abbrev za7 : Stmt := zd2 (top 17) 2
theorem zmf : zar ["self", "name", "place", "deed", "by"] ["self", "name", "place", "deed", "by"] (zac za7) := by walk_at "s"
abbrev zf2 : Stmt := top 18
theorem zsz : zar ["names"] ["names"] (zac zf2) := by walk_at "s"
abbrev zb3 : Stmt := zd2 (top 17) 3
theorem zhk : zar ["self", "name", "ahead", "behind", "needs", "bars", "piece"] ["self", "name", "ahead", "behind", "needs", "bars"] (zac zb3) := by walk_at "s"
abbrev zcm : Stmt := zd2 (top 17) 7
theorem zf6 : zar ["self", "name", "on", "piece"] ["self", "name", "on"] (zac zcm) := by walk_at "s"
abbrev zd0 : Stmt := top 25
theorem zez : zar ["pieces", "kind", "rule", "hall", "piece"] ["pieces", "kind", "rule"] (zac zd0) := by walk_at "s"
abbrev zb6 : Stmt := top 11
theorem zch : zar ["hall", "name", "gathered", "left", "one", "piece"] ["hall", "name"] (zac zb6) := by walk_at "s"
abbrev zc2 : Stmt := zd2 (top 17) 5
theorem zk0 : zar ["self"] ["self"] (zac zc2) := by walk_at "s"
abbrev zg9 : Stmt := top 9
theorem zh3 : zar ["hall", "names", "told", "one", "piece"] ["hall", "names"] (zac zg9) := by walk_at "s"
abbrev zbj : Stmt := zd2 (top 7) 0
theorem zgu : zar ["self", "one", "other"] ["self", "one", "other"] (zac zbj) := by walk_at "s"
abbrev zc3 : Stmt := top 10
theorem zdw : zar ["hall", "name", "gathered", "names", "told"] ["hall", "name"] (zac zc3) := by walk_at "s"
abbrev zd1 : Stmt := top 29
theorem zcz : zar ["hall", "name", "found", "e"] ["hall", "name"] (zac zd1) := by walk_at "s"
abbrev zc4 : Stmt := top 27
theorem zbr : zar ["pieces", "name", "needs", "piece", "found", "k", "more", "one"] ["pieces", "name"] (zac zc4) := by walk_at "s"
abbrev zc5 : Stmt := top 28
theorem ze0 : zar ["pieces", "names", "piece", "other"] ["pieces", "names"] (zac zc5) := by walk_at "s"
abbrev zdh : Stmt := top 26
theorem zhl : zar ["found", "due", "k"] ["found", "due"] (zac zdh) := by walk_at "s"
abbrev zk1 : Stmt := top 30
theorem zhm : zar ["script", "pieces", "hall", "name", "found", "names", "pair"] ["script"] (zac zk1) := by walk_at "s"
section
variable (P : Program) (w : World) {K : PySem.W.Frag} {mg : Str -> Option Value} (base : Heap) {c : Cl} (T : Tx K mg c) {f : Addr} {fd : FuncData} {dV : Value}
include T
set_option autoImplicit true
local macro_rules | `(tactic| walk_at "o") => `(tactic| first | exact Or.inl rfl | exact Or.inr rfl)
local macro_rules | `(tactic| walk_at "c") => `(tactic| exact ⟨rfl, (by first | exact Or.inr (Or.inl rfl) | exact Or.inr (Or.inr rfl)), (by walk_at "o"), (by walk_at "o"), rfl⟩)
theorem zjn (F : FunV K "_law_cell_at" "_law_cell_at" zcl dV f fd)  : FnOk P w K mg base (CXE P w) 1 f fd ["script", "k"] (spM 2 (zam c)) :=
 mfx F zjm fun _ _ _ _ _ _ hr hu1 hu6 => by exact (zae (s_if (t_lt (ev 1) (zpv (by rfl) T.n_len (ev 0))) (zak (zcx (e_ix (ev 0) (ev 1)))) zbx) (zak (zcx zag)))
theorem znt (F : FunV K "_law_name" "_law_name" zdx dV f fd)  : FnOk P w K mg base (CXE P w) 1 f fd ["k"] (spM 1 (zbf c)) :=
 mfx F zi2 fun _ _ _ _ _ _ hr hu1 hu6 => by exact (zae (zcc (i := 1) zi2.nd (by rfl) (by walk_at "o") za8) (zae (s_if (t_eq hu6 (zek (ev 0) zag) zag) (zak (zcx (e_ix (ev 1) (zek (ev 0) zag)))) zbx) (zak (zcx (z0k za8 (zaa (z0o (xs := ["letters", "k"]) (js := [1, 0]) (nts := ["j"]) (by rfl) ⟨rfl, by decide +kernel, rfl, by decide +kernel, (fun p hp => by rcases List.mem_cons.mp hp with rfl | hp; (· rfl); rcases List.mem_singleton.mp hp with rfl; rfl), rfl, ⟨(by walk_at "c"), ⟨(by walk_at "c"), trivial⟩⟩⟩ (zgg (by rfl) T.n_range (zaa (zf3 zag (zek (ev 0) zag)) zaf)) zgl (fun _ _ _ => (zcn (i := 0) (show (["j", "letters", "k"] : List Str).Nodup by decide +kernel) (by rfl) (by walk_at "o"))) (zco _) (fun _ _ _ => (e_ix (ev 1) (zek (zf3 (ev 2) (zt7 zag (ev 0))) zag))) zpz) zaf))))))
theorem znu (F : FunV K "_law_some" "_law_some" zdy dV f fd) (G0 : FnAt P w K mg base 1 "_law_name" ["k"] (zbf c) f0 g0) : FnOk P w K mg base (CXE P w) 2 f fd ["cell", "many"] (spM 2 (zb5 c)) :=
 mfx F zns fun _ _ _ _ _ _ hr hu1 hu6 => by exact (zae (s_if (t_gt (zek (ev 0) zag) zag) (zak (zcx (zjh zaf))) zbx) (zae (s_if (t_eq hu6 (zek (ev 0) zag) zag) (zak (zcx (zjh (zaa (zbq G0 hr (by rfl) zal (zaa (zek (zjg (ev 0) zag) (ev 1)) zaf)) (zaa (zbq G0 hr (by rfl) zal (zaa (zek (zjg (ev 0) zag) (ev 1)) zaf)) zaf))))) zbx) (zak (zcx (zjh (zaa (zbq G0 hr (by rfl) zal (zaa (zek (zjg (ev 0) zag) (ev 1)) zaf)) zaf))))))
theorem znv (F : FunV K "_law_deed" "_law_deed" zdz dV f fd)  : FnOk P w K mg base (CXE P w) 1 f fd ["cell"] (spM 1 (zeq c)) :=
 mfx F zge fun _ _ _ _ _ _ hr hu1 hu6 => by exact (zae (zcc (i := 1) zge.nd (by rfl) (by walk_at "o") (zz5 (zek (zjg (ev 0) zag) zag) zag)) (zae (s_if (t_eq hu6 (zek (zjg (ev 0) zag) zag) zag) (zak (zcc (i := 1) zge.nd (by rfl) (by walk_at "o") (zz5 (zek (ev 0) (zz6 zag zag)) (zz6 zag zag)))) zbx) (zae (s_if (t_eq hu6 (zek (ev 0) zag) zag) (zak (zcx (zgc (zaa za8 (zaa (ev 1) zaf))))) zbx) (zae (s_if (t_eq hu6 (zek (ev 0) zag) zag) (zak (zcx (zgc (zaa za8 zaf)))) zbx) (zae (s_if (t_eq hu6 (zek (ev 0) zag) zag) (zak (zcx (zgc (zaa za8 (zaa (ev 1) zaf))))) zbx) (zak (zcx (zgc (zaa za8 (zaa (ev 1) zaf))))))))))
theorem zk2 (F : FunV K "_law_pieces" "_law_pieces" zc1 dV f fd) (G0 : FnAt P w K mg base 2 "_law_cell_at" ["script", "k"] (zam c) f0 g0) (G1 : FnAt P w K mg base 2 "_law_some" ["cell", "many"] (zb5 c) f1 g1) (G2 : FnAt P w K mg base 2 "_law_deed" ["cell"] (zeq c) f2 g2) (G3 : FnAt P w K mg base 2 "_law_name" ["k"] (zbf c) f3 g3) : FnOk P w K mg base (CXE P w) 3 f fd ["script", "start", "many"] (spM 3 (zdn c)) :=
 FnOk.frz (mfx F za9 fun _ _ _ _ _ _ hr hu1 hu6 => by exact (zae (zcc (i := 3) za9.nd (by rfl) (by walk_at "o") (zhg zaf)) (zae (zjj PassesOwn.leaving (by rfl) (zgg (by rfl) T.n_range (zaa (ev 2) zaf)) zgl (zcn (i := 4) za9.nd (by rfl) (by walk_at "o")) (zco _) (zae (zcc (i := 5) za9.nd (by rfl) (by walk_at "o") (zbq G0 hr (by rfl) zal (zaa (ev 0) (zaa (zf3 (ev 1) (zt7 zag (ev 4))) zaf)))) (zae (zcc (i := 6) za9.nd (by rfl) (by walk_at "o") (zbq G0 hr (by rfl) zal (zaa (ev 0) (zaa (zf3 (zf3 (ev 1) (zt7 zag (ev 4))) zag) zaf)))) (zae (zcc (i := 7) za9.nd (by rfl) (by walk_at "o") (zbq G0 hr (by rfl) zal (zaa (ev 0) (zaa (zf3 (zf3 (ev 1) (zt7 zag (ev 4))) zag) zaf)))) (zae (zcc (i := 8) za9.nd (by rfl) (by walk_at "o") (e_ix (zjh (zaa za8 (zaa za8 (zaa za8 (zaa za8 zaf))))) (zek (zjg (ev 5) zag) zag))) (zae (zcc (i := 9) za9.nd (by rfl) (by walk_at "o") (zjh (zaa (zbq G1 hr (by rfl) zal (zaa (ev 6) (zaa (zf3 (ev 2) zag) zaf))) (zaa (zbq G1 hr (by rfl) zal (zaa (zjg (ev 6) zag) (zaa (zf3 (ev 2) zag) zaf))) zaf)))) (zae (zcc (i := 9) za9.nd (by rfl) (by walk_at "o") (zf3 (ev 9) (zjh (zaa (zbq G1 hr (by rfl) zal (zaa (ev 7) (zaa (zf3 (ev 2) zag) zaf))) (zaa (zbq G1 hr (by rfl) zal (zaa (zjg (ev 7) zag) (zaa (zf3 (ev 2) zag) zaf))) zaf))))) (zak (zdu (z2t (ev 3) (zaa (zgc (zaa (zbq G3 hr (by rfl) zal (zaa (ev 4) zaf)) (zaa (ev 8) (zaa (zbq G2 hr (by rfl) zal (zaa (ev 5) zaf)) (zaa (ev 9) (zaa (e_ne hu6 (zek (zjg (ev 5) zag) zag) zag) zaf)))))) zaf))))))))))) (zak (zcx (ev 3))))))
theorem zhr (F : FunV K "__init__" "Hall.__init__" zb0 dV f fd)  : FnOk P w K mg base (CXE P w) 1 f fd ["self"] (spM 1 (zce c)) :=
 mfx F zhq fun _ _ _ _ _ _ hr hu1 hu6 => by exact (zae (zg4 T.cl_hall T.a_hall_places (ev 0) zko) (zak (zg4 T.cl_hall T.a_hall_pieces (ev 0) zko)))
theorem zha (F : FunV K "__init__" "Place.__init__" zbn dV f fd)  : FnOk P w K mg base (CXE P w) 1 f fd ["self", "kind", "rule"] (spM 3 (zb4 c)) :=
 mfx F zg7 fun _ _ _ _ _ _ hr hu1 hu6 => by exact (zae (zg4 T.cl_place T.a_place_kind (ev 0) (ev 1)) (zak (zg4 T.cl_place T.a_place_rule (ev 0) (ev 2))))
theorem zgv (F : FunV K "open_place" "Hall.open_place" zbg dV f fd) (G0 : MkAt P w K mg base 1 "Place" c.place ["self", "kind", "rule"] (zb4 c) f0 g0) : FnOk P w K mg base (CXE P w) 3 f fd ["self", "name", "kind", "rule"] (spM 4 (zbe c)) :=
 mfx F zgr fun _ _ _ _ _ _ hr hu1 hu6 => by exact (zae (s_if (zxq hu1 (ev 1) (zfa T.cl_hall T.a_hall_places (ev 0))) (zak (zg5 zej (by rfl) T.x_nameThere (by rfl) T.m_nameThere (zaa (zh2 (.cons za8 (.cons (zos (ev 1)) (.cons za8 .nil)))) zaf))) zbx) (zae (s_if (t_ge (zvv (by rfl) T.n_len (zfa T.cl_hall T.a_hall_places (ev 0))) (zvz (by rfl) T.c_MOST_PLACES)) (zak (zg5 zej (by rfl) T.x_tooMany (by rfl) T.m_tooMany (zaa za8 zaf))) zbx) (zak (zol hu1 (zfa T.cl_hall T.a_hall_places (ev 0)) (ev 1) (zvx G0 hr (by rfl) zal (zaa (ev 2) (zaa (ev 3) zaf)))))))
theorem zgw (F : FunV K "find_place" "Hall.find_place" zbh dV f fd)  : FnOk P w K mg base (CXE P w) 1 f fd ["self", "name"] (spM 2 (zby c)) :=
 mfx F zgs fun _ _ _ _ _ _ hr hu1 hu6 => by exact (zae (s_if (zh0 hu1 (ev 1) (zfa T.cl_hall T.a_hall_places (ev 0))) (zak (zg5 zej (by rfl) T.x_noPlace (by rfl) T.m_noPlace (zaa (zh2 (.cons za8 (.cons (zos (ev 1)) .nil))) zaf))) zbx) (zak (zcx (zxp hu1 (zfa T.cl_hall T.a_hall_places (ev 0)) (ev 1)))))
theorem zgx (F : FunV K "find_piece" "Hall.find_piece" zbi dV f fd)  : FnOk P w K mg base (CXE P w) 1 f fd ["self", "name"] (spM 2 (zai c)) :=
 mfx F zgt fun _ _ _ _ _ _ hr hu1 hu6 => by exact (zae (s_if (zh0 hu1 (ev 1) (zfa T.cl_hall T.a_hall_pieces (ev 0))) (zak (zg5 zej (by rfl) T.x_noPiece (by rfl) T.m_noPiece (zaa (zh2 (.cons za8 (.cons (zos (ev 1)) (.cons za8 .nil)))) zaf))) zbx) (zak (zcx (zxp hu1 (zfa T.cl_hall T.a_hall_pieces (ev 0)) (ev 1)))))
theorem zhb (F : FunV K "__init__" "Piece.__init__" zbo dV f fd)  : FnOk P w K mg base (CXE P w) 1 f fd ["self", "place", "deed", "by"] (spM 4 (zbl c)) :=
 mfx F zg8 fun _ _ _ _ _ _ hr hu1 hu6 => by exact (zae (zg4 T.cl_piece T.a_piece_place (ev 0) (ev 1)) (zae (zg4 T.cl_piece T.a_piece_deed (ev 0) (ev 2)) (zae (zg4 T.cl_piece T.a_piece_by (ev 0) (ev 3)) (zae (zg4 T.cl_piece T.a_piece_on (ev 0) zl0) (zae (zg4 T.cl_piece T.a_piece_ahead (ev 0) (zhg zaf)) (zae (zg4 T.cl_piece T.a_piece_behind (ev 0) (zhg zaf)) (zae (zg4 T.cl_piece T.a_piece_needs (ev 0) (zhg zaf)) (zak (zg4 T.cl_piece T.a_piece_bars (ev 0) (zhg zaf))))))))))
theorem zmg (F : FunV K "hang" "Hall.hang" za7 dV f fd) (G0 : MeAt P w K mg base 2 c.hall "find_place" ["self", "name"] (zby c) f0 g0) (G1 : MeAt P w K mg base 2 c.hall "find_piece" ["self", "name"] (zai c) f1 g1) (G2 : MkAt P w K mg base 1 "Piece" c.piece ["self", "place", "deed", "by"] (zbl c) f2 g2) : FnOk P w K mg base (CXE P w) 3 f fd ["self", "name", "place", "deed", "by"] (spM 5 (zd5 c)) :=
 mfx F zmf fun _ _ _ _ _ _ hr hu1 hu6 => by exact (zae (s_if (zxq hu1 (ev 1) (zfa T.cl_hall T.a_hall_pieces (ev 0))) (zak (zg5 zej (by rfl) T.x_nameThere (by rfl) T.m_nameThere (zaa (zh2 (.cons za8 (.cons (zos (ev 1)) (.cons za8 .nil)))) zaf))) zbx) (zae (zdu (zf5 G0 hr zal (ev 0) (zaa (ev 2) zaf))) (zae (s_if (zrv (ev 4) zij) (zak (zdu (zf5 G1 hr zal (ev 0) (zaa (ev 4) zaf)))) zbx) (zae (s_if (t_ge (zvv (by rfl) T.n_len (zfa T.cl_hall T.a_hall_pieces (ev 0))) (zvz (by rfl) T.c_MOST_PIECES)) (zak (zg5 zej (by rfl) T.x_tooMany (by rfl) T.m_tooMany (zaa za8 zaf))) zbx) (zak (zol hu1 (zfa T.cl_hall T.a_hall_pieces (ev 0)) (ev 1) (zvx G2 hr (by rfl) zal (zaa (ev 2) (zaa (ev 3) (zaa (ev 4) zaf))))))))))
theorem zs0 (F : FunV K "wished" "wished" zf2 dV f fd)  : FnOk P w K mg base (CXE P w) 1 f fd ["names"] (spM 1 (zca c)) :=
 mfx F zsz fun _ _ _ _ _ _ hr hu1 hu6 => by exact (zak (zcx (zxo (t_is (ev 0) zij) (zjh zaf) (zvw (by rfl) (by rfl) T.n_list (ev 0)))))
theorem zmh (F : FunV K "wish" "Hall.wish" zb3 dV f fd) (G0 : MeAt P w K mg base 1 c.hall "find_piece" ["self", "name"] (zai c) f0 g0) (G1 : FnAt P w K mg base 1 "wished" ["names"] (zca c) f1 g1) : FnOk P w K mg base (CXE P w) 2 f fd ["self", "name", "ahead", "behind", "needs", "bars"] (spM 6 (zd6 c)) :=
 mfx F zhk fun _ _ _ _ _ _ hr hu1 hu6 => by exact (zae (zcc (i := 6) zhk.nd (by rfl) (by walk_at "o") (zf5 G0 hr zal (ev 0) (zaa (ev 1) zaf))) (zae (zdu (zl4 (zfa T.cl_piece T.a_piece_ahead (ev 6)) (zaa (zbq G1 hr (by rfl) zal (zaa (ev 2) zaf)) zaf))) (zae (zdu (zl4 (zfa T.cl_piece T.a_piece_behind (ev 6)) (zaa (zbq G1 hr (by rfl) zal (zaa (ev 3) zaf)) zaf))) (zae (zdu (zl4 (zfa T.cl_piece T.a_piece_needs (ev 6)) (zaa (zbq G1 hr (by rfl) zal (zaa (ev 4) zaf)) zaf))) (zak (zdu (zl4 (zfa T.cl_piece T.a_piece_bars (ev 6)) (zaa (zbq G1 hr (by rfl) zal (zaa (ev 5) zaf)) zaf))))))))
theorem zjo (F : FunV K "switch" "Hall.switch" zcm dV f fd) (G0 : MeAt P w K mg base 1 c.hall "find_piece" ["self", "name"] (zai c) f0 g0) : FnOk P w K mg base (CXE P w) 2 f fd ["self", "name", "on"] (spM 3 (zda c)) :=
 mfx F zf6 fun _ _ _ _ _ _ hr hu1 hu6 => by exact (zae (zcc (i := 3) zf6.nd (by rfl) (by walk_at "o") (zf5 G0 hr zal (ev 0) (zaa (ev 1) zaf))) (zak (zg4 T.cl_piece T.a_piece_on (ev 3) (ev 2))))
theorem znw (F : FunV K "_law_hall" "_law_hall" zd0 dV f fd) (G0 : MkAt P w K mg base 2 "Hall" c.hall ["self"] (zce c) f0 g0) (G1 : MeAt P w K mg base 3 c.hall "open_place" ["self", "name", "kind", "rule"] (zbe c) f1 g1) (G2 : MeAt P w K mg base 3 c.hall "hang" ["self", "name", "place", "deed", "by"] (zd5 c) f2 g2) (B21 : zeg K g2 ["self", "name", "place", "deed", "by"] [.none]) (G3 : MeAt P w K mg base 3 c.hall "wish" ["self", "name", "ahead", "behind", "needs", "bars"] (zd6 c) f3 g3) (G4 : MeAt P w K mg base 3 c.hall "switch" ["self", "name", "on"] (zda c) f4 g4) : FnOk P w K mg base (CXE P w) 4 f fd ["pieces", "kind", "rule"] (spM 3 (zdg c)) :=
 mfx F zez fun _ _ _ _ _ _ hr hu1 hu6 => by exact (zae (zcc (i := 3) zez.nd (by rfl) (by walk_at "o") (zxy G0 hr (by rfl) zal)) (zae (zdu (zf5 G1 hr zal (ev 3) (zaa za8 (zaa (ev 1) (zaa (ev 2) zaf))))) (zae (zdu (zf5 G1 hr zal (ev 3) (zaa za8 (zaa za8 (zaa za8 zaf))))) (zae (zjj PassesOwn.leaving (by rfl) (zdr (ev 0)) (zdt _) (zcn (i := 4) zez.nd (by rfl) (by walk_at "o")) (zco _) (zak (zdu (zxx G2 hr zal B21 zsa zsb (ev 3) (zaa (e_ix (ev 4) zag) (zaa (e_ix (ev 4) zag) (zaa (e_ix (ev 4) zag) zaf))))))) (zae (zjj PassesOwn.leaving (by rfl) (zdr (ev 0)) (zdt _) (zcn (i := 4) zez.nd (by rfl) (by walk_at "o")) (zco _) (zae (zdu (zf5 G3 hr zal (ev 3) (zaa (e_ix (ev 4) zag) (zaa (e_ix (e_ix (ev 4) zag) zag) (zaa (zxr (by rfl) T.n_tuple (e_ix (e_ix (ev 4) zag) zag)) (zaa (e_ix (e_ix (ev 4) zag) zag) (zaa (e_ix (e_ix (ev 4) zag) zag) zaf))))))) (zak (s_if (zxk (zrs (e_ix (ev 4) zag))) (zak (zdu (zf5 G4 hr zal (ev 3) (zaa (e_ix (ev 4) zag) (zaa zl0 zaf))))) zbx)))) (zak (zcx (ev 3))))))))
theorem zi3 (F : FunV K "gather_needs" "gather_needs" zb6 dV f fd) (G0 : MeAt P w K mg base 1 c.hall "find_piece" ["self", "name"] (zai c) f0 g0) : FnOk P w K mg base (CXE P w) 2 f fd ["hall", "name"] (spM 2 (zcs c)) :=
 FnOk.frz (mfx F zch fun _ _ _ _ _ _ hr hu1 hu6 => by exact (zae (zcc (i := 2) zch.nd (by rfl) (by walk_at "o") zko) (zae (zcc (i := 3) zch.nd (by rfl) (by walk_at "o") (zhg (zaa (ev 1) zaf))) (zae (zxt PassesOwn.leaving (zrs (ev 3)) (zae (zcc (i := 4) zch.nd (by rfl) (by walk_at "o") (z2u (ev 3))) (zak (s_if (zh0 hu1 (ev 4) (ev 2)) (zae (zcc (i := 5) zch.nd (by rfl) (by walk_at "o") (zf5 G0 hr zal (ev 0) (zaa (ev 4) zaf))) (zae (zol hu1 (ev 2) (ev 4) zl0) (zak (zdu (zl4 (ev 3) (zaa (zfa T.cl_piece T.a_piece_needs (ev 5)) zaf)))))) zbx)))) (zak (zcx (ev 2)))))))
theorem zk3 (F : FunV K "names" "Hall.names" zc2 dV f fd)  : FnOk P w K mg base (CXE P w) 1 f fd ["self"] (spM 1 (zb1 c)) :=
 mfx F zk0 fun _ _ _ _ _ _ hr hu1 hu6 => by exact (zak (zcx (zvw (by rfl) (by rfl) T.n_list (zfa T.cl_hall T.a_hall_pieces (ev 0)))))
theorem zuq (F : FunV K "lacks" "lacks" zg9 dV f fd) (G0 : MeAt P w K mg base 1 c.hall "names" ["self"] (zb1 c) f0 g0) (G1 : MeAt P w K mg base 1 c.hall "find_piece" ["self", "name"] (zai c) f1 g1) : FnOk P w K mg base (CXE P w) 2 f fd ["hall", "names"] (spM 2 (zky c)) :=
 FnOk.frz (mfx F zh3 fun _ _ _ _ _ _ hr hu1 hu6 => by exact (zae (zcc (i := 2) zh3.nd (by rfl) (by walk_at "o") (zhg zaf)) (zae (zjj PassesOwn.leaving (by rfl) (zdr (zr8 G0 hr zal (ev 0))) (zdt _) (zcn (i := 3) zh3.nd (by rfl) (by walk_at "o")) (zco _) (zak (s_if (t_in hu6 (ev 3) (ev 1)) (zae (zcc (i := 4) zh3.nd (by rfl) (by walk_at "o") (zf5 G1 hr zal (ev 0) (zaa (ev 3) zaf))) (zae (zdu (zl4 (ev 2) (zaa (znh (xs := ["one", "names"]) (js := [3, 1]) (nts := ["other"]) (by rfl) ⟨rfl, by decide +kernel, rfl, by decide +kernel, (fun p hp => by rcases List.mem_cons.mp hp with rfl | hp; (· rfl); rcases List.mem_singleton.mp hp with rfl; rfl), rfl, ⟨(by walk_at "c"), ⟨(by walk_at "c"), trivial⟩⟩⟩ (zdr (zfa T.cl_piece T.a_piece_needs (ev 4))) (zdt _) (fun _ _ _ => (zcn (i := 0) (show (["other", "one", "names"] : List Str).Nodup by decide +kernel) (by rfl) (by walk_at "o"))) (zco _) (fun _ _ _ => (zxj hu6 (ev 0) (ev 2))) (fun _ _ _ => (zgc (zaa za8 (zaa (ev 1) (zaa (ev 0) zaf))))) zpz) zaf))) (zak (zdu (zl4 (ev 2) (zaa (znh (xs := ["one", "names"]) (js := [3, 1]) (nts := ["other"]) (by rfl) ⟨rfl, by decide +kernel, rfl, by decide +kernel, (fun p hp => by rcases List.mem_cons.mp hp with rfl | hp; (· rfl); rcases List.mem_singleton.mp hp with rfl; rfl), rfl, ⟨(by walk_at "c"), ⟨(by walk_at "c"), trivial⟩⟩⟩ (zdr (zfa T.cl_piece T.a_piece_bars (ev 4))) (zdt _) (fun _ _ _ => (zcn (i := 0) (show (["other", "one", "names"] : List Str).Nodup by decide +kernel) (by rfl) (by walk_at "o"))) (zco _) (fun _ _ _ => (t_in hu6 (ev 0) (ev 2))) (fun _ _ _ => (zgc (zaa za8 (zaa (ev 1) (zaa (ev 0) zaf))))) zpz) zaf)))))) zbx))) (zak (zcx (ev 2))))))
theorem zgy (F : FunV K "__init__" "Barred.__init__" zbj dV f fd) (q : zd9 K c.barred f = true) : FnOk P w K mg base (CXE P w) 1 f fd ["self", "one", "other"] (spX2 c.barred "one" "other" true) :=
 zuk F zgu T.xc_barred q T.nf_barred_one T.nf_barred_other (fun cdv A outer s H E hr => zke (zql (zt3 (by rfl) T.m_hallError T.b_1 T.b_2 T.b_3 (zds (zhd (i := 0) (by rfl) (by first | exact Or.inl rfl | exact Or.inr (Or.inl rfl) | exact Or.inr (Or.inr rfl))) (zds (zlx (.cons (zm7 (zhd (i := 1) (by rfl) (by first | exact Or.inl rfl | exact Or.inr (Or.inl rfl) | exact Or.inr (Or.inr rfl)))) (.cons zvd (.cons (zm7 (zhd (i := 2) (by rfl) (by first | exact Or.inl rfl | exact Or.inr (Or.inl rfl) | exact Or.inr (Or.inr rfl)))) .nil)))) zhe)))) (zke (zrk (zhd (i := 0) (by rfl) (by first | exact Or.inl rfl | exact Or.inr (Or.inl rfl) | exact Or.inr (Or.inr rfl))) (zhd (i := 1) (by rfl) (by first | exact Or.inl rfl | exact Or.inr (Or.inl rfl) | exact Or.inr (Or.inr rfl))) (by rfl)) (zqk (zrk (zhd (i := 0) (by rfl) (by first | exact Or.inl rfl | exact Or.inr (Or.inl rfl) | exact Or.inr (Or.inr rfl))) (zhd (i := 2) (by rfl) (by first | exact Or.inl rfl | exact Or.inr (Or.inl rfl) | exact Or.inr (Or.inr rfl))) (by rfl))))) (zx6 " bars " (by decide))
theorem zk4 (F : FunV K "with_needs" "with_needs" zc3 dV f fd) (G0 : FnAt P w K mg base 2 "gather_needs" ["hall", "name"] (zcs c) f0 g0) (G1 : MeAt P w K mg base 2 c.hall "names" ["self"] (zb1 c) f1 g1) (G2 : FnAt P w K mg base 2 "lacks" ["hall", "names"] (zky c) f2 g2) (G3 : X2At P w K mg base 1 c.barred "one" "other" true ["self", "one", "other"] f3 g3) : FnOk P w K mg base (CXE P w) 3 f fd ["hall", "name"] (spM 2 (zbc c)) :=
 mfx F zdw fun _ _ _ _ _ _ hr hu1 hu6 => by exact (zae (zcc (i := 2) zdw.nd (by rfl) (by walk_at "o") (zbq G0 hr (by rfl) zal (zaa (ev 0) (zaa (ev 1) zaf)))) (zae (zxu (i := 3) (xs := ["gathered"]) (js := [2]) (nts := ["one"]) (by rfl) ⟨rfl, by decide +kernel, rfl, by decide +kernel, (fun p hp => by rcases List.mem_singleton.mp hp with rfl; rfl), rfl, ⟨(by walk_at "c"), trivial⟩⟩ (zdr (zr8 G1 hr zal (ev 0))) (zdt _) (fun _ _ _ => (zcn (i := 0) (show (["one", "gathered"] : List Str).Nodup by decide +kernel) (by rfl) (by walk_at "o"))) (zco _) (fun _ _ _ => (zxq hu1 (ev 0) (ev 1))) (fun _ _ _ => (ev 0)) zpz zdw.nd (by rfl) (by walk_at "o") zvy) (zae (zcc (i := 4) zdw.nd (by rfl) (by walk_at "o") (zbq G2 hr (by rfl) zal (zaa (ev 0) (zaa (ev 3) zaf)))) (zae (s_if (zrs (ev 4)) (zak (zul zpt (by rfl) (by decide) G3.q G3.hf G3.ok hr G3.hb (by rfl) T.m_barred (zaa (e_ix (e_ix (ev 4) zag) zag) (zaa (e_ix (e_ix (ev 4) zag) zag) zaf)))) zbx) (zak (zcx (ev 3)))))))
theorem znx (F : FunV K "_law_told" "_law_told" zd1 dV f fd) (G0 : FnAt P w K mg base 3 "with_needs" ["hall", "name"] (zbc c) f0 g0) : FnOk P w K mg base (CXE P w) 4 f fd ["hall", "name"] (spM 2 (zbz c)) :=
 mfx F zcz fun _ _ _ _ _ _ hr hu1 hu6 => by exact (zae (zcc (i := 2) zcz.nd (by rfl) (by walk_at "o") zij) (zae (z24 (js := [2]) (fb := (zdo c)) (fun pn kn xe R hk pas own => (zak (zcc (i := 2) zcz.nd (by rfl) (by walk_at "o") (zgc (zaa za8 (zaa (zbq G0 hr (by rfl) pas (zaa (ev 0) (zaa (ev 1) zaf))) zaf))) (hkn := fun u => hk 2 (by decide) u)))) (h_as (i := 3) zcz.nd (by rfl) (by rfl) (by rfl) T.m_barred T.qd_barred (z1b T.mro T.mh T.d_barred) (fun _ => (zak (zcc (i := 2) zcz.nd (by rfl) (by walk_at "o") (zgc (zaa za8 (zaa (zgc (zaa (z07 T.g_barred T.xa_barred_one (ev 3)) (zaa (z07 T.g_barred T.xa_barred_other (ev 3)) zaf))) (zaa (zxm (zv7 (by rfl) T.n_isinstance (ev 3) (by rfl) T.n_ValueError (zv9 T.kv)) (zxl (z2m (z08 (by rfl) T.n_isinstance (ev 3) (by rfl) T.m_noPiece (zv8 T.k_noPiece))))) zaf))))))) (h_as (i := 3) zcz.nd (by rfl) (by rfl) (by rfl) T.m_hallError T.mh (z1a T.mro T.mh) (fun _ => (zak (zcc (i := 2) zcz.nd (by rfl) (by walk_at "o") (zgc (zaa za8 (zaa (zxm (z08 (by rfl) T.n_isinstance (ev 3) (by rfl) T.m_noPiece (zv8 T.k_noPiece)) (zxl (zv7 (by rfl) T.n_isinstance (ev 3) (by rfl) T.n_ValueError (zv9 T.kv)))) zaf)))))) z06))) (zak (zcx (ev 2)))))
theorem zk5 (F : FunV K "_law_closed" "_law_closed" zc4 dV f fd)  : FnOk P w K mg base (CXE P w) 1 f fd ["pieces", "name"] (spM 2 (zcg c)) :=
 FnOk.frz (mfx F zbr fun _ _ _ _ _ _ hr hu1 hu6 => by exact (zae (zcc (i := 2) zbr.nd (by rfl) (by walk_at "o") zko) (zae (zjj PassesOwn.leaving (by rfl) (zdr (ev 0)) (zdt _) (zcn (i := 3) zbr.nd (by rfl) (by walk_at "o")) (zco _) (zak (zol hu1 (ev 2) (e_ix (ev 3) zag) (e_ix (e_ix (ev 3) zag) zag)))) (zae (zcc (i := 4) zbr.nd (by rfl) (by walk_at "o") (zjh (zaa (ev 1) zaf))) (zae (zjj PassesOwn.leaving (by rfl) (zgg (by rfl) T.n_range (zaa (zf3 (zpv (by rfl) T.n_len (ev 0)) zag) zaf)) zgl (zcn (i := 5) zbr.nd (by rfl) (by walk_at "o")) (zco _) (zae (zcc (i := 6) zbr.nd (by rfl) (by walk_at "o") (zhg zaf)) (zae (zjj PassesOwn.leaving (by rfl) (zdr (ev 4)) (zdt _) (zcn (i := 7) zbr.nd (by rfl) (by walk_at "o")) (zco _) (zae (s_if (zh0 hu1 (ev 7) (ev 2)) (zak (zcx zij)) zbx) (zak (zdu (zl4 (ev 6) (zaa (zxp hu1 (ev 2) (ev 7)) zaf)))))) (zak (zcc (i := 4) zbr.nd (by rfl) (by walk_at "o") (zsy (by rfl) (by rfl) T.n_sorted (by rfl) T.n_set (zf3 (ev 4) (ev 6)))))))) (zak (zcx (znh (xs := ["found"]) (js := [4]) (nts := ["piece"]) (by rfl) ⟨rfl, by decide +kernel, rfl, by decide +kernel, (fun p hp => by rcases List.mem_singleton.mp hp with rfl; rfl), rfl, ⟨(by walk_at "c"), trivial⟩⟩ (zdr (ev 0)) (zdt _) (fun _ _ _ => (zcn (i := 0) (show (["piece", "found"] : List Str).Nodup by decide +kernel) (by rfl) (by walk_at "o"))) (zco _) (fun _ _ _ => (t_in hu6 (e_ix (ev 0) zag) (ev 1))) (fun _ _ _ => (e_ix (ev 0) zag)) zpz))))))))
theorem zk6 (F : FunV K "_law_barred" "_law_barred" zc5 dV f fd)  : FnOk P w K mg base (CXE P w) 1 f fd ["pieces", "names"] (spM 2 (zb2 c)) :=
 mfx F ze0 fun _ _ _ _ _ _ hr hu1 hu6 => by exact (zae (zjj PassesOwn.leaving (by rfl) (zdr (ev 0)) (zdt _) (zcn (i := 2) ze0.nd (by rfl) (by walk_at "o")) (zco _) (zak (s_if (t_in hu6 (e_ix (ev 2) zag) (ev 1)) (zak (zjj PassesOwn.leaving (by rfl) (zdr (e_ix (e_ix (ev 2) zag) zag)) (zdt _) (zcn (i := 3) ze0.nd (by rfl) (by walk_at "o")) (zco _) (zak (s_if (t_in hu6 (ev 3) (ev 1)) (zak (zcx (zgc (zaa (e_ix (ev 2) zag) (zaa (ev 3) zaf))))) zbx)))) zbx))) (zak (zcx zij)))
theorem zmi (F : FunV K "_law_texts" "_law_texts" zdh dV f fd)  : FnOk P w K mg base (CXE P w) 1 f fd ["found", "due"] (spM 2 (zcy c)) :=
 mfx F zhl fun _ _ _ _ _ _ hr hu1 hu6 => by exact (zae (s_if ((t_or (zxk (zrs (z0f .list (by rfl) T.n_isinstance (ev 0) (by rfl) T.n_list (by decide +kernel)))) (z0b (t_ne hu6 (zpv (by rfl) T.n_len (ev 0)) (zpv (by rfl) T.n_len (ev 1)))))).pt (zak (zcx zl0)) zbx) (zae (zjj PassesOwn.leaving (by rfl) (zgg (by rfl) T.n_range (zaa (zpv (by rfl) T.n_len (ev 1)) zaf)) zgl (zcn (i := 2) zhl.nd (by rfl) (by walk_at "o")) (zco _) (zak (s_if ((t_or (zxk (zrs (z0f .str (by rfl) T.n_isinstance (e_ix (ev 0) (ev 2)) (by rfl) T.n_str (by decide +kernel)))) (z0b (t_ne hu6 (e_ix (ev 0) (ev 2)) (e_ix (ev 1) (ev 2)))))).pt (zak (zcx zl0)) zbx))) (zak (zcx zl0))))
theorem z1i (F : FunV K "law" "law" zk1 dV f fd) (G0 : FnAt P w K mg base 4 "_law_pieces" ["script", "start", "many"] (zdn c) f0 g0) (G1 : FnAt P w K mg base 4 "_law_cell_at" ["script", "k"] (zam c) f1 g1) (G2 : FnAt P w K mg base 4 "_law_hall" ["pieces", "kind", "rule"] (zdg c) f2 g2) (G3 : FnAt P w K mg base 4 "_law_name" ["k"] (zbf c) f3 g3) (G4 : FnAt P w K mg base 4 "_law_told" ["hall", "name"] (zbz c) f4 g4) (G5 : FnAt P w K mg base 4 "_law_closed" ["pieces", "name"] (zcg c) f5 g5) (G6 : FnAt P w K mg base 4 "_law_barred" ["pieces", "names"] (zb2 c) f6 g6) (G7 : FnAt P w K mg base 4 "_law_texts" ["found", "due"] (zcy c) f7 g7) : FnOk P w K mg base (CXE P w) 5 f fd ["script"] (spM 1 (zme c)) :=
 mfx F zhm fun _ _ _ _ _ _ hr hu1 hu6 => by exact (zae (zcc (i := 1) zhm.nd (by rfl) (by walk_at "o") (zbq G0 hr (by rfl) zal (zaa (ev 0) (zaa zag (zaa (zek (zbq G1 hr (by rfl) zal (zaa (ev 0) (zaa zag zaf))) zag) zaf))))) (zae (s_if (t_gt (zek (zjg (zbq G1 hr (by rfl) zal (zaa (ev 0) (zaa zag zaf))) zag) zag) zag) (zak (z0p (i := 1) (xs := []) (js := []) (nts := ["piece"]) (by rfl) ⟨rfl, by decide +kernel, rfl, by decide +kernel, (fun p hp => absurd hp List.not_mem_nil), rfl, trivial⟩ (zdr (ev 1)) (zdt _) (fun _ _ _ => (zcn (i := 0) (show (["piece"] : List Str).Nodup by decide +kernel) (by rfl) (by walk_at "o"))) (zco _) (fun _ _ _ => (zgc (zaa (e_ix (ev 0) zag) (zaa (e_ix (ev 0) zag) (zaa (e_ix (ev 0) zag) (zaa (zf3 (zx1 (e_ix (ev 0) zag) z0v (z0w zag)) (zjh (zaa (zjh zaf) zaf))) (zaa (e_ix (ev 0) zag) zaf))))))) zpz zhm.nd (by rfl) (by walk_at "o") zvy)) zbx) (zae (zcc (i := 2) zhm.nd (by rfl) (by walk_at "o") (zbq G2 hr (by rfl) zal (zaa (ev 1) (zaa za8 (zaa za8 zaf))))) (zae (zcc (i := 3) zhm.nd (by rfl) (by walk_at "o") (zbq G3 hr (by rfl) zal (zaa (zek (zbq G1 hr (by rfl) zal (zaa (ev 0) (zaa zag zaf))) (zf3 (zpv (by rfl) T.n_len (ev 1)) zag)) zaf))) (zae (zcc (i := 4) zhm.nd (by rfl) (by walk_at "o") (zbq G4 hr (by rfl) zal (zaa (ev 2) (zaa (ev 3) zaf)))) (zae (zcc (i := 5) zhm.nd (by rfl) (by walk_at "o") (zbq G5 hr (by rfl) zal (zaa (ev 1) (zaa (ev 3) zaf)))) (zae (s_if (t_is (ev 5) zij) (zak (zcx (e_eq hu6 (ev 4) (zgc (zaa za8 (zaa zl0 zaf)))))) zbx) (zae (zcc (i := 6) zhm.nd (by rfl) (by walk_at "o") (zbq G6 hr (by rfl) zal (zaa (ev 1) (zaa (ev 5) zaf)))) (zae (s_if (zrv (ev 6) zij) (zak (zcx (e_eq hu6 (ev 4) (zgc (zaa za8 (zaa (ev 6) (zaa zl0 zaf))))))) zbx) (zak (zcx (zxm (e_eq hu6 (e_ix (ev 4) zag) za8) (zxl (zbq G7 hr (by rfl) zal (zaa (e_ix (ev 4) zag) (zaa (ev 5) zaf))))))))))))))))
end
end K10
namespace DN
open PySem L2 MF
variable {c : Cl} {S : Sto}
def cellAt (ns : List Int) (k : Int) : Int := if k < ns.length then ns.getD k.toNat 0 else 0
theorem zo2 (ns : List Int) (k : Int) (hk : 0 <= k) : zam c [.lst (ns.map .int), .int k] S = .ok (.int (cellAt ns k)) S := by
 unfold cellAt;by_cases h : k < ns.length
 ·have hh : k.toNat < ns.length := by omega
  simp [zam, zex, h, zv2 hk, hh]
 ·simp [zam, zex, h]
def ze1 : Str := "abcdefghijklmnopqrstuvwxyz"
def zer (i : Int) : Str := ⟨#[ze1.cps[i.toNat]?.getD 0]⟩
theorem zp5 : ze1.cps.toList.length = 26 := by decide +kernel
theorem zi4 : ze1.length <= 1000 := by decide +kernel
theorem zmj {i : Int} (h0 : 0 <= i) (h1 : i < 26) : atI ze1.cps.toList i = some (ze1.cps[i.toNat]?.getD 0) := by
 have hl := zp5;rw [zv2 h0 (by omega), Array.getElem?_toList];have : i.toNat < ze1.cps.size := by rw [<- Array.length_toList]; omega
 rw [Array.getElem?_eq_getElem this];rfl
def zci (k : Int) : Str := if k % 3 = 1 then zer (k % 26) else Txt.join Str.empty ((List.range (2 + k % 11).toNat).map fun (j : Nat) => zer ((k + 5 * (j : Int)) % 26))
theorem zhc : ∀ (l : List Str), zfg (l.map T.str) = some l
 | [] => rfl
 | a :: r => by
   rw [List.map_cons];unfold zfg;rw [zhc r];rfl
theorem zp6 (i : Int) : (zer i).length = 1 := rfl
theorem zi5 (k : Int) : ∀ l : List Nat, ((l.map fun (j : Nat) => zer ((k + 5 * (j : Int)) % 26)).map (·.length)).sum = l.length
 | [] => rfl
 | a :: r => by
   have := zi5 k r;simp only [List.map_cons, List.sum_cons, List.length_cons, zp6] at this ⊢;omega
theorem zo3 (k : Int) : zbf c [.int k] S = .ok (.str (zci k)) S := by
 have h26 := Int.emod_nonneg k (show (26 : Int) ≠ 0 by decide);have h26' := Int.emod_lt_of_pos k (show (0 : Int) < 26 by decide);have hL : (Str.ofString "abcdefghijklmnopqrstuvwxyz") = ze1 := rfl;unfold zci;by_cases h : k % 3 = 1
 ·have ha := zmj h26 h26'
  simp [zbf, zg6, h, hL, zi4, ha, zer]
 ·have h11 := Int.emod_nonneg k (show (11 : Int) ≠ 0 by decide)
  have h11' := Int.emod_lt_of_pos k (show (0 : Int) < 11 by decide);have hb : -1000000 <= 2 + k % 11 /\ 2 + k % 11 <= 1000000 := by omega
  have hm : ∀ t ∈ zfh 0 (2 + k % 11).toNat, zfl c [some t, some (.str ze1), some (.int k)] S = .ok ((fun t => match t with | .int j => T.str (zer ((k + 5 * j) % 26)) | _ => .non) t) S := by
   intro t ht;obtain ⟨j, hj, rfl⟩ := List.mem_map.mp ht;have m1 := Int.emod_nonneg (k + 5 * (0 + (j : Int))) (show (26 : Int) ≠ 0 by decide);have m2 := Int.emod_lt_of_pos (k + 5 * (0 + (j : Int))) (show (0 : Int) < 26 by decide);have ha := zmj m1 m2;rw [Int.zero_add] at ha;simp [zfl, zi4, ha, zer]
  have hc := zl6 (ρ := [some (.int k), some (.str ze1)]) (S := S) (js := [1, 0]) (it := zfm c) (ts := zfh 0 (2 + k % 11).toNat) (st := fun _ => True) (by simp [zfm, hb]) trivial (by rw [zel]; omega) hm;have hsum := zi5 k (List.range (2 + k % 11).toNat);rw [List.length_range] at hsum;have e3 : (zfh 0 (2 + k % 11).toNat).map (fun t => match t with | .int j => T.str (zer ((k + 5 * j) % 26)) | _ => .non) = ((List.range (2 + k % 11).toNat).map fun (j : Nat) => zer ((k + 5 * (j : Int)) % 26)).map T.str := by
   unfold zfh;rw [List.map_map, List.map_map];refine List.map_congr_left fun j _ => ?_;show T.str (zer ((k + 5 * (0 + (j : Int))) % 26)) = T.str (zer ((k + 5 * (j : Int)) % 26));rw [Int.zero_add]
  rw [e3] at hc;have hlen : ((List.range (2 + k % 11).toNat).map fun (j : Nat) => zer ((k + 5 * (j : Int)) % 26)).length <= 13 := by simp; omega
  generalize ((List.range (2 + k % 11).toNat).map fun (j : Nat) => zer ((k + 5 * (j : Int)) % 26)) = l at hc hsum hlen ⊢;have hbig : (l.map (·.length)).sum + l.length * Str.empty.length <= 100000 := by
   rw [hsum, show Str.empty.length = 0 from rfl];omega
  have hj : zpx (.str Str.empty) [.lst (l.map T.str)] S = .ok (.str (Txt.join Str.empty l)) S := by
   unfold zpx;simp only [zv1, Option.bind_some, zhc, if_pos hbig]
  have he : Str.ofString "" = Str.empty := rfl;simp [zbf, zg6, h, hL, hc, he, okS, hj]
def numT (x : Int) : Int := if x / 8 % 9 = 4 then x % 10 ^ 25 - 10 ^ 24 else x / 8 % 2001 - 1000
def zp7 (x : Int) : T := if x % 8 = 3 then .tup [.str "say", .int (numT x)] else if x % 8 = 4 then .tup [.str "none"] else if x % 8 = 5 then .tup [.str "fail", .int (numT x)] else .tup [.str "add", .int (numT x)]
theorem z1j (x : Int) : zeq c [.int x] S = .ok (zp7 x) S := by
 unfold zp7 numT;by_cases h1 : x / 8 % 9 = 4 <;> by_cases h2 : x % 8 = 3 <;> by_cases h3 : x % 8 = 4 <;> by_cases h4 : x % 8 = 5 <;> first
  | omega
  | simp [zeq, zj5, h1, h2, h3, h4]
def zf4 (x many : Int) : List Str := if x % 4 > 1 then [] else if x % 4 = 1 then [zci (x / 4 % many), zci (x / 64 % many)] else [zci (x / 4 % many)]
theorem z1k (x many : Int) (hm : 0 < many) : zb5 c [.int x, .int many] S = .ok (strL (zf4 x many)) S := by
 unfold zf4 strL;by_cases h1 : 1 < x % 4
 ·simp [zb5, zf0, h1]
 ·by_cases h2 : x % 4 = 1
  ·simp [zb5, zf0, h1, h2, hm, zo3]
  ·simp [zb5, zf0, h1, h2, hm, zo3]
structure Pc where
 nm : Str
 pl : Str
 dd : T
 w0 : List Str
 w1 : List Str
 w2 : List Str
 w3 : List Str
 on : Bool
def Pc.t (p : Pc) : T := .tup [.str p.nm, .str p.pl, p.dd, .lst [strL p.w0, strL p.w1, strL p.w2, strL p.w3], .bl p.on]
def zfs (x : Int) : Str := if x / 4096 % 4 = 3 then "side" else "hub"
def pcAt (ns : List Int) (start many : Int) (k : Nat) : Pc :=
 { nm := zci k, pl := zfs (cellAt ns (start + 3 * k)), dd := zp7 (cellAt ns (start + 3 * k)),
   w0 := zf4 (cellAt ns (start + 3 * k + 1)) (many + 1), w1 := zf4 (cellAt ns (start + 3 * k + 1) / 7) (many + 1),
   w2 := zf4 (cellAt ns (start + 3 * k + 2)) (many + 1), w3 := zf4 (cellAt ns (start + 3 * k + 2) / 7) (many + 1), on := !decide (cellAt ns (start + 3 * k) / 64 % 6 = 1) }
def pcs (ns : List Int) (start many : Int) : List Pc := (List.range many.toNat).map (pcAt ns start many)
theorem zp8 (x : Int) : atI [T.str "hub", T.str "hub", T.str "hub", T.str "side"] (x / 4096 % 4) = some (.str (zfs x)) := by
 have h1 := Int.emod_nonneg (x / 4096) (show (4 : Int) ≠ 0 by decide);have h2 := Int.emod_lt_of_pos (x / 4096) (show (0 : Int) < 4 by decide);unfold zfs;have : x / 4096 % 4 = 0 \/ x / 4096 % 4 = 1 \/ x / 4096 % 4 = 2 \/ x / 4096 % 4 = 3 := by omega
 rcases this with h | h | h | h <;> rw [h] <;> rfl
theorem zyb (n : Nat) (x : Int) : HB n (zp7 x) := by
 unfold zp7
 split
 ·exact zj2 (by simp)
 ·split
  ·exact zj2 (by simp)
  ·split
   ·exact zj2 (by simp)
   ·exact zj2 (by simp)
theorem z25 (n : Nat) (p : Pc) (h : HB n p.dd) : HB n p.t := zj2 (by
 intro t ht;simp only [List.mem_cons, List.not_mem_nil, or_false] at ht;rcases ht with rfl | rfl | rfl | rfl | rfl
 ·simp
 ·simp
 ·exact h
 ·exact zv3 (by
   intro t ht;simp only [List.mem_cons, List.not_mem_nil, or_false] at ht;rcases ht with rfl | rfl | rfl | rfl <;> exact zse _)
 ·simp)
theorem zi6 {n : Nat} {pre : List T} {t : T} {post : List T} (h : zfh 0 n = pre ++ t :: post) : pre.length < n /\ t = .int pre.length := by
 have hl : pre.length < (zfh 0 n).length := by rw [h]; simp
 rw [zel] at hl;have e := zon (lo := 0) hl;rw [h, List.getElem?_append_right (Nat.le_refl _), Nat.sub_self] at e;simp at e;exact ⟨hl, e⟩
theorem zk7 {S : Sto} {x y : Cell} : (S ++ [x]).set S.length y = S ++ [y] := by
 rw [List.set_append_right _ _ (Nat.le_refl _), Nat.sub_self];rfl
theorem zec {S : Sto} {x : Cell} : (S ++ [x])[S.length]? = some x := by simp
theorem zur (ns : List Int) (start many : Int) (hs : 0 <= start) (hm0 : 0 <= many) (hm : many <= 100) :
  zdn c [.lst (ns.map .int), .int start, .int many] S = .ok (.lst ((pcs ns start many).map Pc.t)) S := by
 have run : runD 10 (zfn c) [.lst (ns.map .int), .int start, .int many] S = .ok (.obj S.length) (S ++ [.lst ((pcs ns start many).map Pc.t)]) := by
  have hb : -1000000 <= many /\ many <= 1000000 := by omega
  obtain ⟨ρ', S', e, q⟩ := zin (ρ := [some (.lst (ns.map .int)), some (.int start), some (.int many), some (.obj S.length), none, none, none, none, none, none]) (S := S ++ [.lst []])
   (it := iR1 (zab (eVar 2) aNil)) (g := zat 4) (ts := zfh 0 many.toNat) (st := fun _ => True) (S1 := S ++ [.lst []]) (body := zei c)
   (fun pre ρ S1 => (∃ a1 a2 a3 a4 a5 a6, ρ = [some (.lst (ns.map .int)), some (.int start), some (.int many), some (.obj S.length), a1, a2, a3, a4, a5, a6]) /\ S1 = S ++ [.lst (((List.range pre.length).map (pcAt ns start many)).map Pc.t)])
   (by simp [hb]) ⟨⟨_, _, _, _, _, _, rfl⟩, rfl⟩ (fun pre t post ρ S1 hsplit ⟨⟨a1, a2, a3, a4, a5, a6, hρ⟩, hS⟩ => by
    obtain ⟨hlt, rfl⟩ := zi6 hsplit;subst hρ hS;refine ⟨trivial, _, rfl, ?_⟩;have c1 : 0 <= start + 3 * (pre.length : Int) := by omega
    have c2 : 0 <= start + 3 * (pre.length : Int) + 1 := by omega
    have c3 : 0 <= start + 3 * (pre.length : Int) + 2 := by omega
    have hmm : 0 < many + 1 := by omega
    have hlen : (((List.range pre.length).map (pcAt ns start many)).map Pc.t).length < 1000 := by simp; omega
    have hmap : (((List.range (pre ++ [T.int pre.length]).length).map (pcAt ns start many)).map Pc.t) = (((List.range pre.length).map (pcAt ns start many)).map Pc.t) ++ [(pcAt ns start many pre.length).t] := by
     rw [List.length_append, List.length_singleton, List.range_succ, List.map_append, List.map_append];rfl
    rw [hmap];generalize (((List.range pre.length).map (pcAt ns start many)).map Pc.t) = acc at hlen ⊢;have happ := z22 (S := S ++ [.lst acc]) (k := S.length) (y := (pcAt ns start many pre.length).t) zec hlen;rw [zk7] at happ;have hok := zjk (S := S ++ [.lst acc]) (k := S.length) zec;refine ⟨[some (.lst (ns.map .int)), some (.int start), some (.int many), some (.obj S.length), some (.int pre.length), some (.int (cellAt ns (start + 3 * pre.length))), some (.int (cellAt ns (start + 3 * pre.length + 1))), some (.int (cellAt ns (start + 3 * pre.length + 2))), some (.str (zfs (cellAt ns (start + 3 * pre.length)))),
     some (.lst [strL (pcAt ns start many pre.length).w0, strL (pcAt ns start many pre.length).w1, strL (pcAt ns start many pre.length).w2, strL (pcAt ns start many pre.length).w3])], S ++ [.lst (acc ++ [(pcAt ns start many pre.length).t])], ?_, ⟨_, _, _, _, _, _, rfl⟩, rfl⟩
    have hT : (pcAt ns start many pre.length).t = T.tup [T.str (zci pre.length), T.str (zfs (cellAt ns (start + 3 * pre.length))), zp7 (cellAt ns (start + 3 * pre.length)), T.lst [strL (zf4 (cellAt ns (start + 3 * pre.length + 1)) (many + 1)), strL (zf4 (cellAt ns (start + 3 * pre.length + 1) / 7) (many + 1)), strL (zf4 (cellAt ns (start + 3 * pre.length + 2)) (many + 1)), strL (zf4 (cellAt ns (start + 3 * pre.length + 2) / 7) (many + 1))], T.bl (!decide (cellAt ns (start + 3 * pre.length) / 64 % 6 = 1))] := rfl;rw [hT] at happ ⊢;simp [zei, zo2, zo3, z1j, z1k, c1, c2, c3, hmm, zp8, hok, happ, pcAt]) (fun _ _ _ => trivial)
  obtain ⟨⟨a1, a2, a3, a4, a5, a6, rfl⟩, rfl⟩ := q;rw [zel] at e;simp [zfn, e, pcs]
 refine zov run (by simp) (Nat.le_refl _) zec fun t ht => ?_;obtain ⟨p, hp, rfl⟩ := List.mem_map.mp ht;obtain ⟨k, _, rfl⟩ := List.mem_map.mp hp;exact z25 _ _ (zyb _ _)
end DN
namespace DN
open PySem L2 MF
variable {c : Cl} {S : Sto}
structure PlM where
 nm : Str
 kind : Str
 rule : Str
 i : Nat
structure HP where
 nm : Str
 pl : Str
 dd : T
 br : Option Str
 on : Bool
 w0 : List Str
 w1 : List Str
 w2 : List Str
 w3 : List Str
 i : Nat
def byT : Option Str -> T
 | none => .non
 | some x => .str x
def HP.fs (p : HP) : List (Str × T) := [("place", .str p.pl), ("deed", p.dd), ("by", byT p.br), ("on", .bl p.on), ("ahead", .obj (p.i + 1)), ("behind", .obj (p.i + 2)), ("needs", .obj (p.i + 3)), ("bars", .obj (p.i + 4))]
def HP.block (c : Cl) (p : HP) : List Cell := [.ins c.piece p.fs, .lst (p.w0.map .str), .lst (p.w1.map .str), .lst (p.w2.map .str), .lst (p.w3.map .str)]
structure za4 (c : Cl) (S : Sto) (p : HP) : Prop where
 o : S[p.i]? = some (.ins c.piece p.fs)
 a0 : S[p.i + 1]? = some (.lst (p.w0.map .str))
 a1 : S[p.i + 2]? = some (.lst (p.w1.map .str))
 a2 : S[p.i + 3]? = some (.lst (p.w2.map .str))
 a3 : S[p.i + 4]? = some (.lst (p.w3.map .str))
def plD (pl : List PlM) : List (Key × T) := pl.map fun q => (.inr q.nm, .obj q.i)
def psD (ps : List HP) : List (Key × T) := ps.map fun p => (.inr p.nm, .obj p.i)
def zdp (h : Nat) : List (Str × T) := [("places", .obj (h + 1)), ("pieces", .obj (h + 2))]
structure zaq (c : Cl) (S : Sto) (h : Nat) (pl : List PlM) (ps : List HP) : Prop where
 hall : S[h]? = some (.ins c.hall (zdp h))
 places : S[h + 1]? = some (.dic (plD pl))
 pieces : S[h + 2]? = some (.dic (psD ps))
 place : ∀ q ∈ pl, S[q.i]? = some (.ins c.place [("kind", .str q.kind), ("rule", .str q.rule)])
 piece : ∀ p ∈ ps, za4 c S p
 far : ∀ p ∈ ps, h + 3 <= p.i
 pw : ps.Pairwise fun p q => p.i + 5 <= q.i
 nd : (ps.map (·.nm)).Nodup
theorem zk8 (x : Str) : ∀ (ps : List HP), valT (psD ps) (.inr x) = (ps.find? fun p => decide (p.nm = x)).map fun p => T.obj p.i
 | [] => rfl
 | p :: ps => by
   have ih := zk8 x ps;by_cases h : p.nm = x
   ·have : valT (psD (p :: ps)) (.inr x) = some (.obj p.i) := by simp [valT, psD, h]
    rw [this];simp [h]
   ·have e : valT (psD (p :: ps)) (.inr x) = valT (psD ps) (.inr x) := by
     simp [valT, psD, List.find?_cons, h]
    rw [e, ih];simp [h]
theorem zny (x : Str) : ∀ (pl : List PlM), valT (plD pl) (.inr x) = (pl.find? fun p => decide (p.nm = x)).map fun p => T.obj p.i
 | [] => rfl
 | p :: ps => by
   have ih := zny x ps;by_cases h : p.nm = x
   ·have : valT (plD (p :: ps)) (.inr x) = some (.obj p.i) := by simp [valT, plD, h]
    rw [this];simp [h]
   ·have e : valT (plD (p :: ps)) (.inr x) = valT (plD ps) (.inr x) := by
     simp [valT, plD, List.find?_cons, h]
    rw [e, ih];simp [h]
@[simp] theorem z4s (C : Addr) (f : Str) (k : Nat) : gFld C f (.obj k) S = (match ze9 S C (.obj k) with | some (_, fs) => (match fs.lookup f with | some u => .ok u S | none => .bad) | none => .bad) := rfl
theorem zft {C : Addr} {k : Nat} {fs : List (Str × T)} (h : S[k]? = some (.ins C fs)) : ze9 S C (.obj k) = some (k, fs) := by simp [ze9, h]
@[simp] theorem z3x (C : Addr) (m : Str) (F : Fn) (ds : List T) (fo : DE) (fr : DA) {ρ : Ev} : zew C m F ds fo fr ρ S = (fo ρ).bind (fun o => fun S => match ze9 S C o with
  | some (_, fs) => if (fs.lookup m).isNone = true then ((fr ρ).bind fun ts => F (o :: (ts ++ ds))) S else .bad
  | none => .bad) S := rfl
theorem zwc {k : Nat} {kvs : List (Key × T)} (h : S[k]? = some (.dic kvs)) : zdv S (.obj k) = some kvs := by simp [zdv, h]
theorem zaq.ins {h : Nat} {pl : List PlM} {ps : List HP} (A : zaq c S h pl ps) : ze9 S c.hall (.obj h) = some (h, zdp h) := zft A.hall
theorem zaq.dPieces {h : Nat} {pl : List PlM} {ps : List HP} (A : zaq c S h pl ps) : zdv S (.obj (h + 2)) = some (psD ps) := zwc A.pieces
theorem zaq.dPlaces {h : Nat} {pl : List PlM} {ps : List HP} (A : zaq c S h pl ps) : zdv S (.obj (h + 1)) = some (plD pl) := zwc A.places
theorem zi7 (h : Nat) : List.lookup (Str.ofString "places") (zdp h) = some (.obj (h + 1)) := by
 unfold zdp; rw [List.lookup_cons]; rw [show (Str.ofString "places" == Str.ofString "places") = true by decide +kernel]
theorem ze2 (h : Nat) : List.lookup (Str.ofString "pieces") (zdp h) = some (.obj (h + 2)) := by
 unfold zdp;rw [List.lookup_cons, show (Str.ofString "pieces" == Str.ofString "places") = false by decide +kernel];simp only;rw [List.lookup_cons, show (Str.ofString "pieces" == Str.ofString "pieces") = true by decide +kernel]
theorem zfu {m : Str} (h : Nat) (h1 : (m == Str.ofString "places") = false) (h2 : (m == Str.ofString "pieces") = false) : List.lookup m (zdp h) = none := by
 unfold zdp;rw [List.lookup_cons, h1];simp only;rw [List.lookup_cons, h2];rfl
theorem zs1 {h : Nat} {pl : List PlM} {ps : List HP} (A : zaq c S h pl ps) : zb1 c [.obj h] S = .ok (strL (ps.map (·.nm))) S := by
 have e : zff S (.obj (h + 2)) = some ((ps.map (·.nm)).map T.str) := by
  unfold zff;have : zcw S (.obj (h + 2)) = none := by simp [zcw, zav, A.pieces]
  rw [this, A.dPieces];simp [psD, kT]
 simp [zb1, zhj, A.ins, ze2, zne, e, strL]
theorem zee {h : Nat} {pl : List PlM} {ps : List HP} (A : zaq c S h pl ps) {x : Str} {p : HP} (hp : ps.find? (fun p => decide (p.nm = x)) = some p) : zai c [.obj h, .str x] S = .ok (.obj p.i) S := by
 have e := zk8 x ps;rw [hp] at e;simp [zai, zdf, A.ins, ze2, zb8, gDix, A.dPieces, keyT, e]
theorem zmk {h : Nat} {pl : List PlM} {ps : List HP} (A : zaq c S h pl ps) {x : Str} {p : PlM} (hp : pl.find? (fun p => decide (p.nm = x)) = some p) : zby c [.obj h, .str x] S = .ok (.obj p.i) S := by
 have e := zny x pl;rw [hp] at e;simp [zby, zep, A.ins, zi7, zb8, gDix, A.dPlaces, keyT, e]
theorem zgz {ps : List HP} (nd : (ps.map (·.nm)).Nodup) {p : HP} (hp : p ∈ ps) : ps.find? (fun q => decide (q.nm = p.nm)) = some p := by
 induction ps with
 | nil => cases hp
 | cons q ps ih =>
   rw [List.map_cons, List.nodup_cons] at nd;rcases List.mem_cons.mp hp with rfl | hp
   ·simp
   ·have : q.nm ≠ p.nm := fun e => nd.1 (List.mem_map.mpr ⟨p, hp, e.symm⟩)
    rw [List.find?_cons];simp [this, ih nd.2 hp]
end DN
namespace DN
open PySem L2 MF
variable {c : Cl} {S : Sto} {ρ : Ev}
@[simp] theorem zml (a b : String) : (Str.ofString a = Str.ofString b) = (a = b) := by
  apply propext;constructor
  ·intro h
   rw [Str.ofString_eq_toList, Str.ofString_eq_toList] at h;have h1 : a.toList.map Char.toNat = b.toList.map Char.toNat := by simpa using h
   have inj : ∀ (x y : List Char), x.map Char.toNat = y.map Char.toNat -> x = y := by
    intro x
    induction x with
    | nil => intro y h; cases y with | nil => rfl | cons _ _ => simp at h
    | cons p x ih =>
      intro y h;cases y with
      | nil => simp at h
      | cons q y =>
        simp only [List.map_cons, List.cons.injEq] at h;rw [ih y h.2];have : p = q := by
         have := h.1;apply Char.ext;exact UInt32.toNat_inj.mp this
        rw [this]
   exact String.toList_inj.mp (inj _ _ h1)
  ·rintro rfl; rfl
@[simp] theorem zwd (a b : String) : (Str.ofString a == Str.ofString b) = (a == b) := by
  rw [Bool.eq_iff_iff, beq_iff_eq, beq_iff_eq, zml]
@[simp] theorem z3y (C : Addr) (F : Fn) (ds : List T) (fr : DA) : zni C F ds fr ρ S = (fr ρ).bind (fun ts => fun S => M.bind (F (.obj S.length :: (ts ++ ds))) (fun t => match t with
  | .non => M.pure (.obj S.length)
  | _ => M.bad) (S ++ [.ins C []])) S := rfl
@[simp] theorem z3z (C : Addr) (f : Str) (fo fv : DE) : zgd C f fo fv ρ S = (fv ρ).bind (fun t => (fo ρ).bind fun o => fun S => match ze9 S C o with
  | some (k, fs) => if fs.length < 900 then .ok (.nx ρ) (S.set k (.ins C (zji f t fs))) else .bad
  | none => .bad) S := rfl
@[simp] theorem z30 (fd fk fv : DE) : zng fd fk fv ρ S = (fv ρ).bind (fun t => (fd ρ).bind fun d => (fk ρ).bind fun k => fun S => match d, keyT k with
  | .obj j, some key => (match S[j]? with
    | some (.dic kvs) => if kvs.length <= 900 then .ok (.nx ρ) (S.set j (.dic (putT kvs key t))) else .bad
    | _ => .bad)
  | _, _ => .bad) S := rfl
@[simp] theorem z1w (f : Str) (v : T) : zji f v [] = [(f, v)] := rfl
@[simp] theorem z1l (f g : Str) (v x : T) (r : List (Str × T)) : zji f v ((g, x) :: r) = if g = f then (g, v) :: r else (g, x) :: zji f v r := rfl
theorem getR (L : List Cell) (j : Nat) : (S ++ L)[S.length + j]? = L[j]? := by rw [List.getElem?_append_right (by omega)]; congr 1; omega
theorem setR (L : List Cell) (j : Nat) (v : Cell) : (S ++ L).set (S.length + j) v = S ++ L.set j v := by rw [List.set_append_right _ _ (by omega)]; congr 2; omega
theorem zus (L : List Cell) : (S ++ L)[S.length]? = L[0]? := getR L 0
theorem zyc (L : List Cell) (v : Cell) : (S ++ L).set S.length v = S ++ L.set 0 v := setR L 0 v
@[simp] theorem z31 (C : Addr) (fs : List (Str × T)) (L : List Cell) : ze9 (S ++ Cell.ins C fs :: L) C (.obj S.length) = some (S.length, fs) := by
  exact zft (by rw [zus]; rfl)
theorem znz : zce c [.obj S.length] (S ++ [.ins c.hall []]) = .ok .non (S ++ [.ins c.hall (zdp S.length), .dic [], .dic []]) := by
 simp [zce, zfk, zyc, zdp]
theorem zmm (k r : Str) : zb4 c [.obj S.length, .str k, .str r] (S ++ [.ins c.place []]) = .ok .non (S ++ [.ins c.place [("kind", .str k), ("rule", .str r)]]) := by
 simp [zb4, ze5, zyc]
def newP (nm pl : Str) (dd : T) (br : Option Str) (i : Nat) : HP := { nm := nm, pl := pl, dd := dd, br := br, on := true, w0 := [], w1 := [], w2 := [], w3 := [], i := i }
theorem zmn (nm pl : Str) (dd : T) (br : Option Str) : zbl c [.obj S.length, .str pl, dd, byT br] (S ++ [.ins c.piece []]) = .ok .non (S ++ (newP nm pl dd br S.length).block c) := by
 simp [zbl, ze6, zyc, HP.block, newP, HP.fs]
theorem zad {k j : Nat} {v : Cell} (h : k ≠ j) : (S.set k v)[j]? = S[j]? := List.getElem?_set_ne h
theorem zdb {k : Nat} {v : Cell} {u : Cell} (h : S[k]? = some u) : (S.set k v)[k]? = some v := by
 have := (List.getElem?_eq_some_iff.mp h).1;simp [List.getElem?_set, this]
theorem zba {L : Sto} {k : Nat} {u : Cell} (h : S[k]? = some u) : (S ++ L)[k]? = some u := by
 rw [List.getElem?_append_left (List.getElem?_eq_some_iff.mp h).1]; exact h
theorem za4.app {L : Sto} {p : HP} (A : za4 c S p) : za4 c (S ++ L) p := ⟨zba A.o, zba A.a0, zba A.a1, zba A.a2, zba A.a3⟩
theorem zaq.app {L : Sto} {h : Nat} {pl : List PlM} {ps : List HP} (A : zaq c S h pl ps) : zaq c (S ++ L) h pl ps :=
 ⟨zba A.hall, zba A.places, zba A.pieces, fun q hq => zba (A.place q hq), fun p hp => (A.piece p hp).app, A.far, A.pw, A.nd⟩
theorem zfv {k j : Nat} {u v : Cell} (h : S[k]? = some u) (g : S[j]? = some v) (d : u ≠ v) : k ≠ j := fun e => by subst e; rw [h] at g; exact d (Option.some.inj g)
theorem za4.set {k : Nat} {v : Cell} {p : HP} (A : za4 c S p) (h : ∀ j, j < 5 -> k ≠ p.i + j) : za4 c (S.set k v) p :=
 ⟨by rw [zad (show k ≠ p.i from h 0 (by decide))]; exact A.o, by rw [zad (h 1 (by decide))]; exact A.a0, by rw [zad (h 2 (by decide))]; exact A.a1, by rw [zad (h 3 (by decide))]; exact A.a2, by rw [zad (h 4 (by decide))]; exact A.a3⟩
theorem zaq.lt {h : Nat} {pl : List PlM} {ps : List HP} (A : zaq c S h pl ps) : h + 2 < S.length := (List.getElem?_eq_some_iff.mp A.pieces).1
theorem za4.lt {p : HP} (A : za4 c S p) : p.i + 4 < S.length := (List.getElem?_eq_some_iff.mp A.a3).1
theorem zaq.hang {h : Nat} {pl : List PlM} {ps : List HP} (A : zaq c S h pl ps) {nm q : Str} {dd : T} {br : Option Str} (hn : nm ∉ ps.map (·.nm)) :
  zaq c (S.set (h + 2) (.dic (psD (ps ++ [newP nm q dd br S.length]))) ++ (newP nm q dd br S.length).block c) h pl (ps ++ [newP nm q dd br S.length]) := by
 have hl := A.lt;have len : (S.set (h + 2) (.dic (psD (ps ++ [newP nm q dd br S.length])))).length = S.length := by simp
 have nb : ∀ j, (S.set (h + 2) (.dic (psD (ps ++ [newP nm q dd br S.length]))) ++ (newP nm q dd br S.length).block c)[S.length + j]? = ((newP nm q dd br S.length).block c)[j]? := fun j => by
  have := getR (S := S.set (h + 2) (.dic (psD (ps ++ [newP nm q dd br S.length])))) ((newP nm q dd br S.length).block c) j;rw [len] at this;exact this
 have hpc : ∀ p ∈ ps, za4 c (S.set (h + 2) (.dic (psD (ps ++ [newP nm q dd br S.length]))) ++ (newP nm q dd br S.length).block c) p := fun p hp => ((A.piece p hp).set (fun j hj => by have := A.far p hp; omega)).app;refine ⟨zba (by rw [zad (by omega)]; exact A.hall), zba (by rw [zad (by omega)]; exact A.places), zba (zdb A.pieces), fun p hp => zba ?_, fun p hp => ?_, fun p hp => ?_, ?_, ?_⟩
 ·rw [zad (zfv A.pieces (A.place p hp) (by intro z; cases z))]; exact A.place p hp
 ·rcases List.mem_append.mp hp with hp | hp
  ·exact hpc p hp
  ·rw [List.mem_singleton.mp hp]
   exact ⟨nb 0, nb 1, nb 2, nb 3, nb 4⟩
 ·rcases List.mem_append.mp hp with hp | hp
  ·exact A.far p hp
  ·rw [List.mem_singleton.mp hp]; show h + 3 <= S.length; omega
 ·rw [List.pairwise_append]
  refine ⟨A.pw, by simp, fun p hp r hr => ?_⟩;rw [List.mem_singleton.mp hr];show p.i + 5 <= S.length;have := (A.piece p hp).lt;omega
 ·rw [List.map_append]
  refine List.nodup_append.mpr ⟨A.nd, by simp, fun x hx y hy e => ?_⟩;simp only [List.map_cons, List.map_nil, List.mem_singleton] at hy;subst e;rw [hy] at hx;exact hn hx
theorem zaq.block {S' : Sto} {h : Nat} {pl : List PlM} {ps : List HP} (A : zaq c S h pl ps) {p p' : HP} (hp : p ∈ ps) (hnm : p'.nm = p.nm) (hi : p'.i = p.i) (hout : ∀ k, (k < p.i \/ p.i + 5 <= k) -> S'[k]? = S[k]?)
  (hA : za4 c S' p') : zaq c S' h pl (ps.map fun q => if q.nm = p.nm then p' else q) := by
 have hf := A.far p hp;have P := A.piece p hp;have eqp : ∀ q ∈ ps, q.nm = p.nm -> q = p := fun q hq e => by
  have h1 := zgz A.nd hq;have h2 := zgz A.nd hp;rw [e, h2] at h1;exact (Option.some.inj h1).symm
 have far : ∀ q ∈ ps, q.nm ≠ p.nm -> p.i + 5 <= q.i \/ q.i + 5 <= p.i := fun q hq ne => by
  have hne : q ≠ p := fun e => ne (by rw [e]);have pw := A.pw;have : ∀ l : List HP, l.Pairwise (fun p q => p.i + 5 <= q.i) -> p ∈ l -> q ∈ l -> p.i + 5 <= q.i \/ q.i + 5 <= p.i := by
   intro l
   induction l with
   | nil => intro _ h; cases h
   | cons a l ih =>
     intro pw h1 h2;rw [List.pairwise_cons] at pw;rcases List.mem_cons.mp h1 with e1 | g1
     ·rcases List.mem_cons.mp h2 with e2 | g2
      ·exact absurd (e2.trans e1.symm) hne
      ·rw [e1]; exact .inl (pw.1 q g2)
     ·rcases List.mem_cons.mp h2 with e2 | g2
      ·rw [e2]; exact .inr (pw.1 p g1)
      ·exact ih pw.2 g1 g2
  exact this ps pw hp hq
 have mapI : ∀ q : HP, (if q.nm = p.nm then p' else q).nm = q.nm := fun q => by split <;> simp_all
 have mapD : psD (ps.map fun q => if q.nm = p.nm then p' else q) = psD ps := by
  unfold psD;rw [List.map_map];refine List.map_congr_left fun q hq => ?_;show (Sum.inr (if q.nm = p.nm then p' else q).nm, T.obj (if q.nm = p.nm then p' else q).i) = _;rw [mapI];by_cases e : q.nm = p.nm
  ·rw [if_pos e, hi, eqp q hq e]
  ·rw [if_neg e]
 refine ⟨by rw [hout _ (by omega)]; exact A.hall, by rw [hout _ (by omega)]; exact A.places, by rw [hout _ (by omega), mapD]; exact A.pieces, fun q hq => ?_, fun q hq => ?_, fun q hq => ?_, ?_, ?_⟩
 ·have Q := A.place q hq
  have n0 := zfv P.o Q (by intro z; injection z with _ z2; simp [HP.fs] at z2);have n1 := zfv P.a0 Q (by intro z; cases z);have n2 := zfv P.a1 Q (by intro z; cases z);have n3 := zfv P.a2 Q (by intro z; cases z);have n4 := zfv P.a3 Q (by intro z; cases z);rw [hout _ (by omega)];exact Q
 ·obtain ⟨r, hr, rfl⟩ := List.mem_map.mp hq
  by_cases e : r.nm = p.nm
  ·rw [if_pos e]; exact hA
  ·rw [if_neg e]
   have R := A.piece r hr;have fr := far r hr e;exact ⟨by rw [hout _ (by omega)]; exact R.o, by rw [hout _ (by omega)]; exact R.a0, by rw [hout _ (by omega)]; exact R.a1, by rw [hout _ (by omega)]; exact R.a2, by rw [hout _ (by omega)]; exact R.a3⟩
 ·obtain ⟨r, hr, rfl⟩ := List.mem_map.mp hq
  by_cases e : r.nm = p.nm
  ·rw [if_pos e, hi]; exact hf
  ·rw [if_neg e]; exact A.far r hr
 ·rw [List.pairwise_map]
  refine A.pw.imp_of_mem fun {a b} ha hb hab => ?_;have ia : (if a.nm = p.nm then p' else a).i = a.i := by
   by_cases e : a.nm = p.nm
   ·rw [if_pos e, hi, eqp a ha e]
   ·rw [if_neg e]
  have ib : (if b.nm = p.nm then p' else b).i = b.i := by
   by_cases e : b.nm = p.nm
   ·rw [if_pos e, hi, eqp b hb e]
   ·rw [if_neg e]
  rw [ia, ib]; exact hab
 ·rw [List.map_map]
  rw [show ((fun x : HP => x.nm) ∘ fun q => if q.nm = p.nm then p' else q) = fun q : HP => q.nm from funext fun q => mapI q];exact A.nd
theorem za4.w0 {p : HP} (A : za4 c S p) (l : List Str) : za4 c (S.set (p.i + 1) (.lst (l.map .str))) { p with w0 := l } :=
 ⟨by rw [zad (show p.i + 1 ≠ p.i by omega)]; exact A.o, zdb A.a0, by rw [zad (show p.i + 1 ≠ p.i + 2 by omega)]; exact A.a1, by rw [zad (show p.i + 1 ≠ p.i + 3 by omega)]; exact A.a2, by rw [zad (show p.i + 1 ≠ p.i + 4 by omega)]; exact A.a3⟩
theorem za4.w1 {p : HP} (A : za4 c S p) (l : List Str) : za4 c (S.set (p.i + 2) (.lst (l.map .str))) { p with w1 := l } :=
 ⟨by rw [zad (show p.i + 2 ≠ p.i by omega)]; exact A.o, by rw [zad (show p.i + 2 ≠ p.i + 1 by omega)]; exact A.a0, zdb A.a1, by rw [zad (show p.i + 2 ≠ p.i + 3 by omega)]; exact A.a2, by rw [zad (show p.i + 2 ≠ p.i + 4 by omega)]; exact A.a3⟩
theorem za4.w2 {p : HP} (A : za4 c S p) (l : List Str) : za4 c (S.set (p.i + 3) (.lst (l.map .str))) { p with w2 := l } :=
 ⟨by rw [zad (show p.i + 3 ≠ p.i by omega)]; exact A.o, by rw [zad (show p.i + 3 ≠ p.i + 1 by omega)]; exact A.a0, by rw [zad (show p.i + 3 ≠ p.i + 2 by omega)]; exact A.a1, zdb A.a2, by rw [zad (show p.i + 3 ≠ p.i + 4 by omega)]; exact A.a3⟩
theorem za4.w3 {p : HP} (A : za4 c S p) (l : List Str) : za4 c (S.set (p.i + 4) (.lst (l.map .str))) { p with w3 := l } :=
 ⟨by rw [zad (show p.i + 4 ≠ p.i by omega)]; exact A.o, by rw [zad (show p.i + 4 ≠ p.i + 1 by omega)]; exact A.a0, by rw [zad (show p.i + 4 ≠ p.i + 2 by omega)]; exact A.a1, by rw [zad (show p.i + 4 ≠ p.i + 3 by omega)]; exact A.a2, zdb A.a3⟩
theorem za4.turn {p : HP} (A : za4 c S p) (b : Bool) : za4 c (S.set p.i (.ins c.piece { p with on := b }.fs)) { p with on := b } :=
 ⟨zdb A.o, by rw [zad (show p.i ≠ p.i + 1 by omega)]; exact A.a0, by rw [zad (show p.i ≠ p.i + 2 by omega)]; exact A.a1, by rw [zad (show p.i ≠ p.i + 3 by omega)]; exact A.a2, by rw [zad (show p.i ≠ p.i + 4 by omega)]; exact A.a3⟩
end DN
namespace DN
open PySem L2 MF
variable {c : Cl} {S : Sto} {ρ : Ev}
theorem zfw (l : List Str) : zca c [strL l] S = .ok (strL l) S := by simp [zca, zkz, gIs, zil, strL, zne, zff]
theorem zmo (l : List Str) : zca c [.tup (l.map T.str)] S = .ok (strL l) S := by simp [zca, zkz, gIs, zil, strL, zne, zff]
theorem zh4 {kvs : List (Key × T)} {k : Key} {v : T} (h : valT kvs k = none) : putT kvs k v = kvs ++ [(k, v)] := by
 unfold putT;rw [if_neg];intro z;obtain ⟨p, hp, e⟩ := List.any_eq_true.mp z;unfold valT at h;rw [Option.map_eq_none_iff, List.find?_eq_none] at h;exact h p hp e
theorem zmp {ps : List HP} {x : Str} (h : x ∉ ps.map (·.nm)) : ps.find? (fun p => decide (p.nm = x)) = none := by
 rw [List.find?_eq_none];intro p hp e;exact h (List.mem_map.mpr ⟨p, hp, by simpa using e⟩)
theorem z1m {h : Nat} {pl : List PlM} {ps : List HP} (A : zaq c S h pl ps) {nm q : Str} {dd : T} {pm : PlM} (hn : nm ∉ ps.map (·.nm)) (hq : pl.find? (fun p => decide (p.nm = q)) = some pm) (hl : ps.length < 24) :
  zd5 c [.obj h, .str nm, .str q, dd, .non] S = .ok .non (S.set (h + 2) (.dic (psD (ps ++ [newP nm q dd none S.length]))) ++ (newP nm q dd none S.length).block c) := by
 have e1 : valT (psD ps) (.inr nm) = none := by rw [zk8, zmp hn]; rfl
 have hm := zfu (m := Str.ofString "find_place") h (by simp) (by simp);have e2 := zmk A hq;have hlen : ¬ (24 : Int) <= (psD ps).length := by simp [psD]; omega
 have e3 := zmn (c := c) (S := S) nm q dd none;have len := A.lt;have e4 : (S ++ (newP nm q dd none S.length).block c)[h + 2]? = some (.dic (psD ps)) := zba A.pieces;have e5 : (S ++ (newP nm q dd none S.length).block c).set (h + 2) (.dic (putT (psD ps) (.inr nm) (.obj S.length))) = S.set (h + 2) (.dic (psD (ps ++ [newP nm q dd none S.length]))) ++ (newP nm q dd none S.length).block c := by
  rw [List.set_append_left _ _ (by omega), zh4 e1];simp [psD, newP]
 have e6 : (psD ps).length <= 900 := by simp [psD]; omega
 have A2 : ze9 (S ++ (newP nm q dd none S.length).block c) c.hall (.obj h) = some (h, zdp h) := zft (zba A.hall);have e7 : zl3 (.obj (h + 2)) S = .ok (.int (psD ps).length) S := by simp [zl3, A.pieces]
 have e3' : zbl c [.obj S.length, .str q, dd, .non] (S ++ [.ins c.piece []]) = .ok .non (S ++ (newP nm q dd none S.length).block c) := e3;simp [zd5, ziy, A.ins, ze2, gDin, A.dPieces, keyT, e1, hm, e2, zgk, zil, e7, hlen, e3', A2, e4, e6, e5]
theorem zwe {h : Nat} {pl : List PlM} {ps : List HP} (A : zaq c S h pl ps) {nm k r : Str} (hn : pl.find? (fun p => decide (p.nm = nm)) = none) (hl : pl.length < 8) :
  zbe c [.obj h, .str nm, .str k, .str r] S = .ok .non (S.set (h + 1) (.dic (plD (pl ++ [⟨nm, k, r, S.length⟩]))) ++ [.ins c.place [("kind", .str k), ("rule", .str r)]]) := by
 have e1 : valT (plD pl) (.inr nm) = none := by rw [zny, hn]; rfl
 have hlen : ¬ (8 : Int) <= (plD pl).length := by simp [plD]; omega
 have e3 := zmm (c := c) (S := S) k r;have len := A.lt;have e4 : (S ++ [Cell.ins c.place [("kind", .str k), ("rule", .str r)]])[h + 1]? = some (.dic (plD pl)) := zba A.places;have e5 : (S ++ [Cell.ins c.place [("kind", .str k), ("rule", .str r)]]).set (h + 1) (.dic (putT (plD pl) (.inr nm) (.obj S.length))) = S.set (h + 1) (.dic (plD (pl ++ [⟨nm, k, r, S.length⟩]))) ++ [.ins c.place [("kind", .str k), ("rule", .str r)]] := by
  rw [List.set_append_left _ _ (by omega), zh4 e1];simp [plD]
 have e6 : (plD pl).length <= 900 := by simp [plD]; omega
 have A2 : ze9 (S ++ [Cell.ins c.place [("kind", .str k), ("rule", .str r)]]) c.hall (.obj h) = some (h, zdp h) := zft (zba A.hall);have e7 : zl3 (.obj (h + 1)) S = .ok (.int (plD pl).length) S := by simp [zl3, A.places]
 generalize hN : (S ++ [Cell.ins c.place [("kind", .str k), ("rule", .str r)]]) = N at e3 e4 e5 A2;simp [zbe, zeo, A.ins, zi7, gDin, A.dPlaces, keyT, e1, e7, hlen, e3, A2, e4, e6, e5]
theorem zaq.open_ {h : Nat} {pl : List PlM} {ps : List HP} (A : zaq c S h pl ps) {nm k r : Str} :
  zaq c (S.set (h + 1) (.dic (plD (pl ++ [⟨nm, k, r, S.length⟩]))) ++ [.ins c.place [("kind", .str k), ("rule", .str r)]]) h (pl ++ [⟨nm, k, r, S.length⟩]) ps := by
 have len := A.lt;refine ⟨zba (by rw [zad (by omega)]; exact A.hall), zba (zdb A.places), zba (by rw [zad (by omega)]; exact A.pieces), fun q hq => ?_, fun p hp => ((A.piece p hp).set (fun j hj => by have := A.far p hp; omega)).app, A.far, A.pw, A.nd⟩;rcases List.mem_append.mp hq with hq | hq
 ·exact zba (by rw [zad (zfv A.places (A.place q hq) (by intro z; cases z))]; exact A.place q hq)
 ·rw [List.mem_singleton.mp hq]
  have := zus (S := S.set (h + 1) (.dic (plD (pl ++ [⟨nm, k, r, S.length⟩])))) [Cell.ins c.place [("kind", .str k), ("rule", .str r)]];rw [List.length_set] at this;exact this
theorem zut (p : HP) : List.lookup (Str.ofString "ahead") p.fs = some (.obj (p.i + 1)) := by simp [HP.fs, List.lookup_cons]
theorem zs2 (p : HP) : List.lookup (Str.ofString "behind") p.fs = some (.obj (p.i + 2)) := by simp [HP.fs, List.lookup_cons]
theorem zo4 (p : HP) : List.lookup (Str.ofString "needs") p.fs = some (.obj (p.i + 3)) := by simp [HP.fs, List.lookup_cons]
theorem zs3 (p : HP) : List.lookup (Str.ofString "bars") p.fs = some (.obj (p.i + 4)) := by simp [HP.fs, List.lookup_cons]
def ze3 (p : HP) (l0 l1 l2 l3 : List Str) : HP := { p with w0 := p.w0 ++ l0, w1 := p.w1 ++ l1, w2 := p.w2 ++ l2, w3 := p.w3 ++ l3 }
theorem zo5 {k : Nat} {w l : List Str} (h : S[k]? = some (.lst (w.map .str))) (hl : w.length + l.length <= 1000) : gExt (.obj k) [strL l] S = .ok .non (S.set k (.lst ((w ++ l).map .str))) := by
 have := zsd (y := strL l) h rfl (by simpa using hl);rw [this, List.map_append]
theorem z1n {h : Nat} {pl : List PlM} {ps : List HP} (A : zaq c S h pl ps) {p : HP} (hp : p ∈ ps) {t0 t1 t2 t3 : T} {l0 l1 l2 l3 : List Str}
  (e0 : ∀ S, zca c [t0] S = .ok (strL l0) S) (e1 : ∀ S, zca c [t1] S = .ok (strL l1) S) (e2 : ∀ S, zca c [t2] S = .ok (strL l2) S) (e3 : ∀ S, zca c [t3] S = .ok (strL l3) S)
  (b0 : p.w0.length + l0.length <= 1000) (b1 : p.w1.length + l1.length <= 1000) (b2 : p.w2.length + l2.length <= 1000) (b3 : p.w3.length + l3.length <= 1000) :
  ∃ S', zd6 c [.obj h, .str p.nm, t0, t1, t2, t3] S = .ok .non S' /\ zaq c S' h pl (ps.map fun q => if q.nm = p.nm then ze3 p l0 l1 l2 l3 else q) /\ S'.length = S.length /\ ∀ k, (k < p.i \/ p.i + 5 <= k) -> S'[k]? = S[k]? := by
 have P0 := A.piece p hp;have P1 := P0.w0 (p.w0 ++ l0);have P2 := P1.w1 (p.w1 ++ l1);have P3 := P2.w2 (p.w2 ++ l2);have P4 := P3.w3 (p.w3 ++ l3);have hm := zfu (m := Str.ofString "find_piece") h (by simp) (by simp);have ef := zee A (zgz A.nd hp);have x0 := zo5 P0.a0 b0;have x1 := zo5 P1.a1 b1;have x2 := zo5 P2.a2 b2;have x3 := zo5 P3.a3 b3;have i0 := zft P0.o;have i1 := zft P1.o;have i2 := zft P2.o;have i3 := zft P3.o;have k0 := zjk P0.a0;have k1 := zjk P1.a1;have k2 := zjk P2.a2;have k3 := zjk P3.a3;have q1 : ({ p with w0 := p.w0 ++ l0 } : HP).fs = p.fs := rfl;have q2 : ({ p with w0 := p.w0 ++ l0, w1 := p.w1 ++ l1 } : HP).fs = p.fs := rfl;have q3 : ({ p with w0 := p.w0 ++ l0, w1 := p.w1 ++ l1, w2 := p.w2 ++ l2 } : HP).fs = p.fs := rfl;simp only at x0 x1 x2 x3 i0 i1 i2 i3 k0 k1 k2 k3;rw [q1] at i1;rw [q2] at i2;rw [q3] at i3;have out : ∀ k, (k < p.i \/ p.i + 5 <= k) -> ((((S.set (p.i + 1) (.lst ((p.w0 ++ l0).map .str))).set (p.i + 2) (.lst ((p.w1 ++ l1).map .str))).set (p.i + 3) (.lst ((p.w2 ++ l2).map .str))).set (p.i + 4) (.lst ((p.w3 ++ l3).map .str)))[k]? = S[k]? := fun k hk => by
  rw [zad (by omega), zad (by omega), zad (by omega), zad (by omega)]
 refine ⟨_, ?_, A.block hp (p' := ze3 p l0 l1 l2 l3) rfl rfl out P4, by simp, out⟩;generalize hS1 : S.set (p.i + 1) (.lst ((p.w0 ++ l0).map .str)) = S1 at *;generalize hS2 : S1.set (p.i + 2) (.lst ((p.w1 ++ l1).map .str)) = S2 at *;generalize hS3 : S2.set (p.i + 3) (.lst ((p.w2 ++ l2).map .str)) = S3 at *;generalize hS4 : S3.set (p.i + 4) (.lst ((p.w3 ++ l3).map .str)) = S4 at *;simp [zd6, ziz, A.ins, hm, ef, i0, i1, i2, i3, zut, zs2, zo4, zs3, k0, k1, k2, k3, e0, e1, e2, e3, x0, x1, x2, x3]
theorem zuu {h : Nat} {pl : List PlM} {ps : List HP} (A : zaq c S h pl ps) {p : HP} (hp : p ∈ ps) (b : Bool) :
  ∃ S', zda c [.obj h, .str p.nm, .bl b] S = .ok .non S' /\ zaq c S' h pl (ps.map fun q => if q.nm = p.nm then { p with on := b } else q) /\ S'.length = S.length /\ ∀ k, (k < p.i \/ p.i + 5 <= k) -> S'[k]? = S[k]? := by
 have P0 := A.piece p hp;have hm := zfu (m := Str.ofString "find_piece") h (by simp) (by simp);have ef := zee A (zgz A.nd hp);have out : ∀ k, (k < p.i \/ p.i + 5 <= k) -> (S.set p.i (.ins c.piece ({ p with on := b } : HP).fs))[k]? = S[k]? := fun k hk => by rw [zad (by omega)]
 have i0 := zft P0.o;have hfs : zji (Str.ofString "on") (.bl b) p.fs = ({ p with on := b } : HP).fs := by simp [HP.fs]
 have hlen : p.fs.length < 900 := by simp [HP.fs]
 refine ⟨_, ?_, A.block hp (p' := { p with on := b }) rfl rfl out (P0.turn b), by simp, out⟩;simp [zda, zgq, A.ins, hm, ef, i0, hfs, hlen]
end DN
namespace DN
open PySem L2 MF
variable {c : Cl} {S : Sto} {ρ : Ev}
structure Rw where
 nm : Str
 pl : Str
 br : Option Str
 on : Bool
def ByOk : List Str -> List Rw -> Prop
 | _, [] => True
 | seen, x :: r => (∀ b, x.br = some b -> b ∈ seen) /\ ByOk (seen ++ [x.nm]) r
theorem ByOk.filter {G : List Str} : ∀ (L : List Rw) {seen : List Str}, ByOk seen L -> (∀ x ∈ L, ∀ b, x.br = some b -> b ∈ G -> x.nm ∈ G) -> ByOk (seen.filter fun y => !G.contains y) (L.filter fun x => !G.contains x.nm)
 | [], _, _, _ => trivial
 | x :: L, seen, h, hc => by
   have ih := ByOk.filter L h.2 fun y hy => hc y (List.mem_cons_of_mem _ hy);rw [List.filter_append] at ih;by_cases z : x.nm ∈ G
   ·rw [List.filter_cons_of_neg (by simp [z])]
    rw [show [x.nm].filter (fun y => !G.contains y) = [] by simp [z], List.append_nil] at ih;exact ih
   ·rw [List.filter_cons_of_pos (by simp [z])]
    rw [show [x.nm].filter (fun y => !G.contains y) = [x.nm] by simp [z]] at ih;refine ⟨fun b hb => List.mem_filter.mpr ⟨h.1 b hb, ?_⟩, ih⟩;have : b ∉ G := fun hm => z (hc x (List.mem_cons_self ..) b hb hm);simp [this]
theorem ByOk.map {f : Rw -> Rw} (h1 : ∀ x, (f x).nm = x.nm) (h2 : ∀ x, (f x).br = x.br) : ∀ (L : List Rw) {seen : List Str}, ByOk seen L -> ByOk seen (L.map f)
 | [], _, _ => trivial
 | x :: L, seen, h => ⟨by rw [h2]; exact h.1, by rw [h1]; exact ByOk.map h1 h2 L h.2⟩
theorem zgf : ∀ (l m : List Str), l.Nodup -> (∀ x ∈ l, x ∈ m) -> l.length <= m.length
 | [], _, _, _ => Nat.zero_le _
 | x :: l, m, nd, h => by
   rw [List.nodup_cons] at nd;have := zgf l (m.erase x) nd.2 fun y hy => (List.mem_erase_of_ne (fun e => nd.1 (by rw [<- e]; exact hy))).mpr (h y (List.mem_cons_of_mem _ hy));rw [List.length_erase_of_mem (h x (List.mem_cons_self ..))] at this;have := List.length_pos_of_mem (h x (List.mem_cons_self ..));rw [List.length_cons];omega
def HP.rw (p : HP) : Rw := ⟨p.nm, p.pl, p.br, p.on⟩
def zcp (g : List Str) : List (Key × T) := g.map fun x => (.inr x, .bl true)
theorem zes (x : Str) : ∀ (g : List Str), valT (zcp g) (.inr x) = if x ∈ g then some (.bl true) else none
 | [] => by simp [valT, zcp]
 | y :: g => by
   have ih := zes x g;by_cases h : y = x
   ·simp [valT, zcp, h]
   ·have e : valT (zcp (y :: g)) (.inr x) = valT (zcp g) (.inr x) := by simp [valT, zcp, List.find?_cons, h]
    rw [e, ih];simp [Ne.symm h]
theorem zaq.sub {S' : Sto} {h : Nat} {pl : List PlM} {ps : List HP} (A : zaq c S h pl ps) (q : HP -> Bool) (same : ∀ j, j < S.length -> j ≠ h + 2 -> S'[j]? = S[j]?) (hd : S'[h + 2]? = some (.dic (psD (ps.filter q)))) : zaq c S' h pl (ps.filter q) := by
 have get : ∀ {j : Nat} {u : Cell}, S[j]? = some u -> j ≠ h + 2 -> S'[j]? = some u := fun {j u} e ne => by rw [same j (List.getElem?_eq_some_iff.mp e).1 ne]; exact e
 refine ⟨get A.hall (by omega), get A.places (by omega), hd, fun p hp => get (A.place p hp) (Ne.symm (zfv A.pieces (A.place p hp) (by intro z; cases z))), fun p hp => ?_, fun p hp => A.far p (List.mem_filter.mp hp).1, A.pw.filter _, ?_⟩
 ·have P := A.piece p (List.mem_filter.mp hp).1
  have f := A.far p (List.mem_filter.mp hp).1;exact ⟨get P.o (by omega), get P.a0 (by omega), get P.a1 (by omega), get P.a2 (by omega), get P.a3 (by omega)⟩
 ·exact A.nd.sublist (List.Sublist.map _ List.filter_sublist)
end DN
namespace DN
open PySem L2 MF
variable {sec : Str -> List Str}
structure ReOk (names re : List Str) : Prop where
 nd : re.Nodup
 sub : ∀ x ∈ re, x ∈ names
end DN
namespace DN
open PySem L2 MF
variable {c : Cl} {S : Sto} {ρ : Ev}
@[simp] theorem z32 (acc : Str) : jT acc [] ρ S = (if acc.length <= 1000 then .ok (.str acc) S else .bad) := rfl
@[simp] theorem z26 (acc : Str) (f : DE) (fs : List DE) : jT acc (f :: fs) ρ S = (f ρ).bind (fun t => match t with
 | .str y => (fun S => if (acc ++ y).length <= 1000 then jT (acc ++ y) fs ρ S else .bad)
 | _ => M.bad) S := rfl
@[simp] theorem z33 (y : Str) : znk (.str y) S = (if (reprText y).length <= 1000 then .ok (.str (reprText y)) S else .bad) := rfl
@[simp] theorem z27 (C : Addr) (fr : DA) : zfi C fr ρ S = (fr ρ).bind (fun ts => fun S => if ts.length <= 1000 then .exc C none S else .bad) S := rfl
@[simp] theorem z4t (fb : DS) (js : List Nat) (fh : DH) : dTry fb js fh ρ S = (match fb ρ S with
  | .ok x S' => .ok x S'
  | .exc C fs S' => fh C fs (msk js ρ) S'
  | .bad => .bad) := by unfold dTry; split <;> simp_all
def Sm (x : Str) : Prop := (reprText x).length <= 100
theorem lenS (a : String) : (Str.ofString a).length = a.length := by
 simp [Str.length, Str.ofString_eq_toList]
 try rfl
theorem len3 (a b : String) {x : Str} (h : Sm x) (ha : a.length <= 100) (hb : b.length <= 100) : (reprText x).length <= 1000 /\ (Str.empty ++ Str.ofString a).length <= 1000 /\ (Str.empty ++ Str.ofString a ++ reprText x).length <= 1000 /\ (Str.empty ++ Str.ofString a ++ reprText x ++ Str.ofString b).length <= 1000 := by
 unfold Sm at h;have e0 : Str.empty.length = 0 := rfl;simp only [Str.length_append, lenS, e0];omega
theorem zi8 {h : Nat} {pl : List PlM} {ps : List HP} (A : zaq c S h pl ps) {x : Str} (hp : x ∉ ps.map (·.nm)) (sm : Sm x) : zai c [.obj h, .str x] S = .exc c.noPiece none S := by
 have e := zk8 x ps;rw [zmp hp] at e;obtain ⟨l1, l2, l3, l4⟩ := len3 "no piece " " hangs" sm (by decide) (by decide);simp [zai, zdf, A.ins, ze2, zb8, A.dPieces, keyT, e, l1, l2, l3, l4]
theorem zuv {t : T} (l : List Str) (hl : l.length <= 1000) (ht : zcw S t = some (l.map T.str)) : zcy c [strL l, t] S = .ok (.bl true) S := by
 have hlen : gLen t S = .ok (.int l.length) S := by simp [gLen, ht]
 obtain ⟨ρ', S', e, ⟨x, rfl⟩, rfl⟩ := zin (ρ := [some (strL l), some t, none]) (S := S) (it := iR1 (zab (e1 gLen (eVar 1)) aNil)) (g := zat 2) (ts := zfh 0 l.length) (st := fun _ => True) (S1 := S) (body := zey c)
  (fun _ ρ S1 => (∃ x, ρ = [some (strL l), some t, x]) /\ S1 = S)
  (by have : -1000000 <= (l.length : Int) /\ (l.length : Int) <= 1000000 := by omega
      simp [hlen, this]) ⟨⟨_, rfl⟩, rfl⟩ (fun pre u post ρ S1 hsp ⟨⟨x, hρ⟩, hS⟩ => by
   obtain ⟨hlt, rfl⟩ := zi6 hsp;subst hρ hS;have hat : atI (l.map T.str) (pre.length : Int) = some (.str l[pre.length]) := by rw [zga]; simp [hlt]
   have hix : gIx t (.int pre.length) S1 = .ok (.str l[pre.length]) S1 := by simp [gIx, ht, hat]
   refine ⟨trivial, _, rfl, [some (strL l), some t, some (.int pre.length)], S1, ?_, ⟨_, rfl⟩, rfl⟩
   ·simp [zey, strL, hat, hix, gIsa, isaS]) (fun _ _ _ => trivial)
 have h1 : gIsa .list (strL l) S' = .ok (.bl true) S' := rfl;have h2 : gLen (strL l) S' = .ok (.int l.length) S' := by simp [strL]
 simp [zcy, zi0, h1, h2, hlen, e]
theorem zyd (l : List Str) (hl : l.length <= 1000) : zcy c [strL l, strL l] S = .ok (.bl true) S := zuv l hl rfl
end DN
namespace DN
open PySem L2 MF
variable {c : Cl} {S : Sto} {ρ : Ev} {sec : Str -> List Str} {names : List Str}
theorem zuw (b : Str) (l : List Str) : gDin (.str b) (.dic (zcp l)) S = .ok (.bl (decide (b ∈ l))) S := by
 by_cases z : b ∈ l
 ·simp [gDin, zdv, keyT, zes, z]
 ·simp [gDin, zdv, keyT, zes, z]
end DN
namespace DN
open PySem L2 MF
variable {c : Cl} {S : Sto} {ρ : Ev} {sec : Str -> List Str} {names : List Str}
theorem zo6 {α β γ : Type} {f : β -> Option γ} {g : α -> β} {k : α -> γ} : ∀ {l : List α}, (∀ x ∈ l, f (g x) = some (k x)) -> mapO f (l.map g) = some (l.map k)
 | [], _ => rfl
 | a :: r, h => by
   rw [List.map_cons];unfold mapO;rw [h a (List.mem_cons_self ..), zo6 fun x hx => h x (List.mem_cons_of_mem _ hx)];rfl
end DN
namespace DN
open PySem L2 MF
variable {c : Cl} {S : Sto} {ρ : Ev} {sec : Str -> List Str} {names : List Str}
structure z28 (names : List Str) (sec : Str -> List Str) : Prop where
 sub : ∀ a ∈ names, ∀ b ∈ sec a, b ∈ names
 len : ∀ a ∈ names, (sec a).length <= 200
 few : names.length <= 100
theorem ReOk.few {re : List Str} (h : ReOk names re) (k : z28 names sec) : re.length <= 100 := Nat.le_trans (zgf re names h.nd h.sub) k.few
theorem zye {t : T} {ts : List T} (h : zav S t = some ts) : truM t S = .ok (!ts.isEmpty) S := by
 cases t with
 | lst us => cases h; rfl
 | obj k =>
   have : zcw S (.obj k) = some ts := h;unfold truM;simp [this]
 | _ => simp [zav] at h
end DN
namespace DN
open PySem L2 MF
variable {c : Cl} {S : Sto} {ρ : Ev}
theorem zk9 {α : Type} (A B : List α) (p : α) : (A ++ p :: B).take (A.length + 1) = A ++ [p] := by
 rw [show A ++ p :: B = (A ++ [p]) ++ B by simp];exact List.take_left' (by simp)
theorem zux {α : Type} (A B : List α) (p : α) : (A ++ p :: B).drop (A.length + 1) = B := by
 rw [show A ++ p :: B = (A ++ [p]) ++ B by simp];exact List.drop_left' (by simp)
abbrev Core := Str × Str × T × Option Str × Bool × List Str × List Str × List Str × List Str
def HP.core (p : HP) : Core := (p.nm, p.pl, p.dd, p.br, p.on, p.w0, p.w1, p.w2, p.w3)
def Pc.fresh (p : Pc) : Core := (p.nm, p.pl, p.dd, none, true, [], [], [], [])
def Pc.full (p : Pc) : Core := (p.nm, p.pl, p.dd, none, p.on, p.w0, p.w1, p.w2, p.w3)
theorem zp9 {l : List HP} {m : List Core} (h : l.map HP.core = m) : l.map (·.nm) = m.map (·.1) := by
 rw [<- h, List.map_map];rfl
theorem zs4 {h1 h2 : List HP} {p x : HP} (nd : ((h1 ++ p :: h2).map (·.nm)).Nodup) : (h1 ++ p :: h2).map (fun q => if q.nm = p.nm then x else q) = h1 ++ x :: h2 := by
 rw [List.map_append, List.map_cons, if_pos rfl];rw [List.map_append, List.map_cons, List.nodup_append] at nd;obtain ⟨_, n2, n3⟩ := nd;rw [List.nodup_cons] at n2;congr 1
 ·refine (List.map_congr_left fun q hq => ?_).trans (List.map_id _)
  rw [if_neg fun e => n3 q.nm (List.mem_map.mpr ⟨q, hq, rfl⟩) p.nm (List.mem_cons_self ..) e];rfl
 ·congr 1
  refine (List.map_congr_left fun q hq => ?_).trans (List.map_id _);rw [if_neg fun e => n2.1 (List.mem_map.mpr ⟨q, hq, e⟩)];rfl
theorem zqa {l : List HP} {A B : List Core} {x : Core} (h : l.map HP.core = A ++ x :: B) : ∃ h1 p h2, l = h1 ++ p :: h2 /\ h1.map HP.core = A /\ p.core = x /\ h2.map HP.core = B := by
 obtain ⟨h1, r, rfl, e1, e2⟩ := List.map_eq_append_iff.mp h;obtain ⟨p, h2, rfl, e3, e4⟩ := List.map_eq_cons_iff.mp e2;exact ⟨h1, p, h2, rfl, e1, e3, e4⟩
def ze4 (kind rule : Str) (n : Nat) : List PlM := [⟨"hub", kind, rule, n + 3⟩, ⟨"side", "all", "hold", n + 4⟩]
theorem zs5 (l : List Str) : zok (strL l) S = .ok (.tup (l.map T.str)) S := rfl
theorem z29 : zaq c (S ++ [.ins c.hall (zdp S.length), .dic [], .dic []]) S.length [] [] :=
 ⟨by rw [zus]; rfl, by rw [getR]; rfl, by rw [getR]; rfl, (by intro q hq; cases hq), (by intro q hq; cases hq), (by intro q hq; cases hq), .nil, .nil⟩
def Sees (S : Sto) (t : T) (ts : List T) : Prop := ∀ S', (∀ k, k < S.length -> S'[k]? = S[k]?) -> zav S' t = some ts
theorem zs6 {ts : List T} : Sees S (.lst ts) ts := fun _ _ => rfl
theorem zn0 {ps : List Pc} {tv : T} {kind rule : Str} (hv : Sees S tv (ps.map Pc.t)) (nd : (ps.map (·.nm)).Nodup) (hl : ps.length <= 24) (hpl : ∀ p ∈ ps, p.pl = "hub" \/ p.pl = "side") (hw : ∀ p ∈ ps, p.w0.length <= 900 /\ p.w1.length <= 900 /\ p.w2.length <= 900 /\ p.w3.length <= 900) :
  ∃ S' hps, zdg c [tv, .str kind, .str rule] S = .ok (.obj S.length) S' /\ zaq c S' S.length (ze4 kind rule S.length) hps /\ hps.map HP.core = ps.map Pc.full /\ ∀ k, k < S.length -> S'[k]? = S[k]? := by
 have H0 := z29 (c := c) (S := S);have o1 := zwe H0 (nm := "hub") (k := kind) (r := rule) rfl (by decide);have H1 := H0.open_ (nm := "hub") (k := kind) (r := rule);have o2 := zwe H1 (nm := "side") (k := "all") (r := "hold") (by simp) (by simp);have H2 := H1.open_ (nm := "side") (k := "all") (r := "hold");generalize eS1 : ((S ++ [Cell.ins c.hall (zdp S.length), .dic [], .dic []]).set (S.length + 1) (.dic (plD ([] ++ [⟨"hub", kind, rule, (S ++ [Cell.ins c.hall (zdp S.length), .dic [], .dic []]).length⟩]))) ++ [.ins c.place [("kind", .str kind), ("rule", .str rule)]]) = S1 at o1 H1 o2 H2;have len1 : S1.length = S.length + 4 := by rw [<- eS1]; simp
 generalize eS2 : (S1.set (S.length + 1) (.dic (plD ([] ++ [⟨"hub", kind, rule, (S ++ [Cell.ins c.hall (zdp S.length), .dic [], .dic []]).length⟩] ++ [⟨"side", "all", "hold", S1.length⟩]))) ++ [.ins c.place [("kind", .str "all"), ("rule", .str "hold")]]) = S2 at o2 H2;have ep : ([] ++ [⟨"hub", kind, rule, (S ++ [Cell.ins c.hall (zdp S.length), .dic [], .dic []]).length⟩] ++ [⟨"side", "all", "hold", S1.length⟩] : List PlM) = ze4 kind rule S.length := by
  rw [len1]; simp [ze4]
 rw [ep] at H2;have len2 : S2.length = S.length + 5 := by rw [<- eS2]; simp [len1]
 have keep2 : ∀ k, k < S.length -> S2[k]? = S[k]? := fun k hk => by
  have a1 : S1[k]? = S[k]? := by
   rw [<- eS1, List.getElem?_append_left (by simp; omega), zad (by omega), List.getElem?_append_left hk]
  rw [<- eS2, List.getElem?_append_left (by simp; omega), zad (by omega), a1]
 have hm1 := zfu (m := Str.ofString "open_place") S.length (by simp) (by simp);have hm2 := zfu (m := Str.ofString "hang") S.length (by simp) (by simp);have hm3 := zfu (m := Str.ofString "wish") S.length (by simp) (by simp);have hm4 := zfu (m := Str.ofString "switch") S.length (by simp) (by simp);obtain ⟨ρ3, S3, f3, ⟨x3, rfl⟩, hps3, H3, c3, k3⟩ := zin (ρ := [some tv, some (.str kind), some (.str rule), some (.obj S.length), none]) (S := S2) (it := iL (eVar 0)) (g := zat 4) (body := zfo c) (ts := ps.map Pc.t) (st := fun S' => zav S' tv = some (ps.map Pc.t)) (S1 := S2)
  (fun pre ρ S' => (∃ x, ρ = [some tv, some (.str kind), some (.str rule), some (.obj S.length), x]) /\ ∃ hps, zaq c S' S.length (ze4 kind rule S.length) hps /\ hps.map HP.core = (ps.take pre.length).map Pc.fresh /\ ∀ k, k < S.length -> S'[k]? = S[k]?)
  (by simp [hv _ keep2]) ⟨⟨_, rfl⟩, [], H2, rfl, keep2⟩ (fun pre t post ρ S' hsp ⟨⟨x, hρ⟩, hps, H, hc, hk⟩ => by
   subst hρ;obtain ⟨A, B, rfl, hA, hB⟩ := List.map_eq_append_iff.mp hsp;obtain ⟨p, B, rfl, rfl, hB⟩ := List.map_eq_cons_iff.mp hB;have hlen : pre.length = A.length := by rw [<- hA]; simp
   have e1 : (A ++ p :: B).take pre.length = A := by rw [hlen]; simp
   have e2 : (A ++ p :: B).take (pre ++ [p.t]).length = A ++ [p] := by
    rw [List.length_append, List.length_singleton, hlen];exact zk9 ..
   rw [e1] at hc;have hn : p.nm ∉ hps.map (·.nm) := by
    rw [zp9 hc, List.map_map];rw [List.map_append, List.map_cons, List.nodup_append] at nd;intro hm;obtain ⟨q, hq, e⟩ := List.mem_map.mp hm;exact nd.2.2 q.nm (List.mem_map.mpr ⟨q, hq, rfl⟩) p.nm (List.mem_cons_self ..) e
   have hL : hps.length < 24 := by
    have : hps.length = A.length := by have := congrArg List.length hc; simpa using this
    rw [List.length_append, List.length_cons] at hl;omega
   obtain ⟨pm, hpm⟩ : ∃ pm, (ze4 kind rule S.length).find? (fun q => decide (q.nm = p.pl)) = some pm := by
    rcases hpl p (by simp) with e | e
    ·exact ⟨⟨"hub", kind, rule, S.length + 3⟩, by rw [e]; simp [ze4]⟩
    ·exact ⟨⟨"side", "all", "hold", S.length + 4⟩, by rw [e]; simp [ze4]⟩
   have hh := z1m H (dd := p.dd) hn hpm hL;refine ⟨hv _ hk, _, rfl, [some tv, some (.str kind), some (.str rule), some (.obj S.length), some p.t], _, ?_, ⟨_, rfl⟩, _, H.hang (dd := p.dd) (br := none) (q := p.pl) hn, ?_, fun k hk2 => ?_⟩
   ·simp [zfo, Pc.t, H.ins, hm2, hh]
   ·rw [e2, List.map_append, List.map_append, hc]
    rfl
   ·have := H.lt
    rw [List.getElem?_append_left (by simp; omega), zad (by omega)];exact hk k hk2) (fun _ S' ⟨_, _, _, _, hk⟩ => hv S' hk)
 rw [List.length_map, List.take_length] at c3;obtain ⟨ρ4, S4, f4, ⟨x4, rfl⟩, hps4, H4, c4, k4⟩ := zin (ρ := [some tv, some (.str kind), some (.str rule), some (.obj S.length), x3]) (S := S3) (it := iL (eVar 0)) (g := zat 4) (body := zea c) (ts := ps.map Pc.t) (st := fun S' => zav S' tv = some (ps.map Pc.t)) (S1 := S3)
  (fun pre ρ S' => (∃ x, ρ = [some tv, some (.str kind), some (.str rule), some (.obj S.length), x]) /\ ∃ hps, zaq c S' S.length (ze4 kind rule S.length) hps /\ hps.map HP.core = (ps.take pre.length).map Pc.full ++ (ps.drop pre.length).map Pc.fresh /\ ∀ k, k < S.length -> S'[k]? = S[k]?)
  (by simp [hv _ k3]) ⟨⟨_, rfl⟩, hps3, H3, by simpa using c3, k3⟩ (fun pre t post ρ S' hsp ⟨⟨x, hρ⟩, hps, H, hc, hk⟩ => by
   subst hρ;obtain ⟨A, B, rfl, hA, hB⟩ := List.map_eq_append_iff.mp hsp;obtain ⟨p, B, rfl, rfl, hB⟩ := List.map_eq_cons_iff.mp hB;have hlen : pre.length = A.length := by rw [<- hA]; simp
   have e1 : (A ++ p :: B).take pre.length = A := by rw [hlen]; simp
   have e1' : (A ++ p :: B).drop pre.length = p :: B := by rw [hlen]; simp
   have e2 : (A ++ p :: B).take (pre ++ [p.t]).length = A ++ [p] := by
    rw [List.length_append, List.length_singleton, hlen];exact zk9 ..
   have e2' : (A ++ p :: B).drop (pre ++ [p.t]).length = B := by
    rw [List.length_append, List.length_singleton, hlen];exact zux ..
   rw [e1, e1', List.map_cons] at hc;rw [e2, e2'];obtain ⟨h1, hp, h2, rfl, g1, g2, g3⟩ := zqa hc;have hmem : hp ∈ h1 ++ hp :: h2 := by simp
   have w := hw p (by simp);obtain ⟨b1, b2, b3, b4, b5, b6, b7, b8, b9⟩ : hp.nm = p.nm /\ hp.pl = p.pl /\ hp.dd = p.dd /\ hp.br = none /\ hp.on = true /\ hp.w0 = [] /\ hp.w1 = [] /\ hp.w2 = [] /\ hp.w3 = [] := by
    have := g2;simp only [HP.core, Pc.fresh, Prod.mk.injEq] at this;exact this
   obtain ⟨S5, w1, w2, w3, w4⟩ := z1n H hmem (t0 := strL p.w0) (t1 := .tup (p.w1.map T.str)) (t2 := strL p.w2) (t3 := strL p.w3) (fun S => zfw _) (fun S => zmo _) (fun S => zfw _) (fun S => zfw _)
    (by rw [b6]; simp; omega) (by rw [b7]; simp; omega) (by rw [b8]; simp; omega) (by rw [b9]; simp; omega)
   rw [zs4 H.nd] at w2;rw [b1] at w1;have far := H.far hp hmem;have k5 : ∀ k, k < S.length -> S5[k]? = S[k]? := fun k hk2 => by rw [w4 k (by omega)]; exact hk k hk2
   have c5 : (ze3 hp p.w0 p.w1 p.w2 p.w3).core = (p.nm, p.pl, p.dd, none, true, p.w0, p.w1, p.w2, p.w3) := by
    simp [ze3, HP.core, b1, b2, b3, b4, b5, b6, b7, b8, b9]
   refine ⟨hv _ hk, _, rfl, [some tv, some (.str kind), some (.str rule), some (.obj S.length), some p.t], ?_⟩;by_cases hon : p.on = true
   ·refine ⟨S5, ?_, ⟨_, rfl⟩, _, w2, ?_, k5⟩
    ·simp [zea, Pc.t, H.ins, w2.ins, hm3, zs5, w1, hon]
    ·rw [List.map_append, List.map_cons, g1, g3, c5, List.map_append]
     simp [Pc.full, hon]
   ·have hon : p.on = false := by simpa using hon
    have hmem2 : ze3 hp p.w0 p.w1 p.w2 p.w3 ∈ h1 ++ ze3 hp p.w0 p.w1 p.w2 p.w3 :: h2 := by simp
    obtain ⟨S6, s1, s2, s3, s4⟩ := zuu w2 hmem2 false;rw [zs4 w2.nd] at s2;have n6 : (ze3 hp p.w0 p.w1 p.w2 p.w3).nm = p.nm := b1;have i6 : (ze3 hp p.w0 p.w1 p.w2 p.w3).i = hp.i := rfl;rw [n6] at s1;refine ⟨S6, ?_, ⟨_, rfl⟩, _, s2, ?_, fun k hk2 => ?_⟩
    ·simp [zea, Pc.t, H.ins, w2.ins, hm3, hm4, zs5, w1, hon, s1]
    ·rw [List.map_append, List.map_cons, g1, g3, List.map_append]
     simp [Pc.full, hon, HP.core, ze3, b1, b2, b3, b4, b5, b6, b7, b8, b9]
    ·rw [s4 k (by rw [i6]; omega)]; exact k5 k hk2) (fun _ S' ⟨_, _, _, _, hk⟩ => hv S' hk)
 rw [List.length_map, List.take_length, List.drop_length, List.map_nil, List.append_nil] at c4;refine ⟨S4, hps4, ?_, H4, c4, k4⟩;have i0 := H0.ins;have i1 := H1.ins;simp [zdg, zj6, znz, i0, i1, hm1, o1, o2, f3, f4]
theorem zqb {ps : List Pc} {kind rule : Str} (nd : (ps.map (·.nm)).Nodup) (hl : ps.length <= 24) (hpl : ∀ p ∈ ps, p.pl = "hub" \/ p.pl = "side") (hw : ∀ p ∈ ps, p.w0.length <= 900 /\ p.w1.length <= 900 /\ p.w2.length <= 900 /\ p.w3.length <= 900) :
 ∃ S' hps, zdg c [.lst (ps.map Pc.t), .str kind, .str rule] S = .ok (.obj S.length) S' /\ zaq c S' S.length (ze4 kind rule S.length) hps /\ hps.map HP.core = ps.map Pc.full /\ ∀ k, k < S.length -> S'[k]? = S[k]? := zn0 zs6 nd hl hpl hw
end DN
namespace DN
open PySem L2 MF
variable {c : Cl} {S : Sto} {ρ : Ev}
def okN (x : Str) : Prop := PyData.strOk x = true
theorem zuy : ∀ (l : List Str), pds (l.map T.str) = some (l.map PyData.str)
 | [] => by simp [pds]
 | a :: r => by simp [pds, pd, zuy r]
theorem zo7 {x y : T} {a b : PyData} (hx : toV x = none \/ toV y = none) (ha : pdS S x = some a) (hb : pdS S y = some b) (ca : a.canLay0 = true) (cb : b.canLay0 = true) (da : a.depth <= 50) : eqS S x y = some (PyData.eqv a b) := by
 unfold eqS;rcases hx with h | h
 ·rw [h]; simp [ha, hb, ca, cb, da]
 ·rw [h]
  cases toV x <;> simp [ha, hb, ca, cb, da]
structure Lk where
 w : Str
 a : Str
 b : Str
def Lk.t (k : Lk) : T := .tup [.str k.w, .str k.a, .str k.b]
def Lk.d (k : Lk) : PyData := .tuple [.str k.w, .str k.a, .str k.b]
def Lk.ok (k : Lk) : Prop := okN k.w /\ okN k.a /\ okN k.b
def zhn (names : List Str) (nm : Str) (needs bars : List Str) : List Lk :=
 ((needs.filter fun o => !names.contains o).map fun o => ⟨"needs", nm, o⟩) ++ ((bars.filter fun o => names.contains o).map fun o => ⟨"bars", nm, o⟩)
abbrev W3 := Str × List Str × List Str
def zcv (names : List Str) (l : List W3) : List Lk := l.flatMap fun p => if names.contains p.1 then zhn names p.1 p.2.1 p.2.2 else []
def Pc.w (p : Pc) : W3 := (p.nm, p.w2, p.w3)
def HP.w (p : HP) : W3 := (p.nm, p.w2, p.w3)
theorem zi9 {t : T} {ts : List T} {L : Sto} (h : zav S t = some ts) : zav (S ++ L) t = some ts := by
 cases t with
 | lst us => exact h
 | obj k => exact zj1 (zba (zlz h))
 | _ => simp [zav] at h
theorem zja {t : T} {ts : List T} (h : zav S t = some ts) : zcw S t = some ts := by
 cases t <;> first | exact h | simp [zav] at h
theorem zuz (names : List Str) (nm : Str) (n b : List Str) : (zhn names nm n b).length <= n.length + b.length := by
 unfold zhn;rw [List.length_append, List.length_map, List.length_map];have h1 := List.length_filter_le (fun o => !names.contains o) n;have h2 := List.length_filter_le (fun o => names.contains o) b;omega
theorem zf7 (p : Str -> Bool) : ∀ (l : List Str), ((l.map T.str).filter fun t => match t with | .str x => p x | _ => false) = (l.filter p).map T.str
 | [] => rfl
 | a :: r => by
   rw [List.map_cons, List.filter_cons, List.filter_cons, zf7 p r];cases h : p a <;> simp [h]
theorem zj7 {nm : Str} {l : List Str} {S : Sto} (wd : Str) (q : Str -> Bool) (hl : l.length <= 1000) {it : DI} {st : Sto -> Prop} {tc : DT} {te : DE} {js : List Nat} {ρ : Ev} (hit : it ρ S = .ok (l.map T.str, st) S) (hst : st S)
  (htc : ∀ o : Str, tc (some (.str o) :: js.map fun j => (ρ[j]?).join) S = .ok (q o) S) (hte : ∀ o : Str, te (some (.str o) :: js.map fun j => (ρ[j]?).join) S = .ok (Lk.t ⟨wd, nm, o⟩) S) :
  zev 1 js it (zat 0) tc te finF ρ S = .ok (.lst (((l.filter q).map fun o => Lk.mk wd nm o).map Lk.t)) S := by
 have := zgm (S := S) (ρ := ρ) (js := js) (it := it) (tc := tc) (te := te) (ts := l.map T.str) (st := st) (p := fun t => match t with | .str x => q x | _ => false) (f := fun t => match t with | .str x => Lk.t ⟨wd, nm, x⟩ | _ => .non) hit hst (by simpa using hl)
  (fun t ht => by obtain ⟨o, _, rfl⟩ := List.mem_map.mp ht; exact htc o) (fun t ht _ => by obtain ⟨o, _, rfl⟩ := List.mem_map.mp ht; exact hte o)
 rw [this, zf7, List.map_map, List.map_map];rfl
end DN
namespace DN
open PySem L2 MF
variable {c : Cl} {S : Sto} {ρ : Ev}
theorem zu0 {A B : List HP} {p : HP} (nd : ((A ++ p :: B).map (·.nm)).Nodup) : (A ++ p :: B).find? (fun q => decide (q.nm = p.nm)) = some p := zgz nd (by simp)
theorem zyf {h : Nat} {pl : List PlM} {ps : List HP} {names : List Str} {tn : T} (H : zaq c S h pl ps) (hn : zav S tn = some (names.map T.str)) (hw : ∀ p ∈ ps, p.w2.length <= 10 /\ p.w3.length <= 10) (hl : ps.length <= 24) :
  zky c [.obj h, tn] S = .ok (.lst ((zcv names (ps.map HP.w)).map Lk.t)) S := by
 have hm1 := zfu (m := Str.ofString "names") h (by simp) (by simp);have hm2 := zfu (m := Str.ofString "find_piece") h (by simp) (by simp);have run : runD 5 (znr c) [.obj h, tn] S = .ok (.obj S.length) (S ++ [.lst ((zcv names (ps.map HP.w)).map Lk.t)]) := by
  have hnm := zs1 (H.app (L := [.lst []]));have i0 := (H.app (L := [.lst []])).ins;have hit : iL (zew c.hall "names" (lenF 1 (zb1 c)) [] (eVar 0) aNil) [some (.obj h), some tn, some (.obj S.length), none, none] (S ++ [.lst []]) = .ok ((ps.map (·.nm)).map T.str, fun S' => zav S' (strL (ps.map (·.nm))) = some ((ps.map (·.nm)).map T.str)) (S ++ [.lst []]) := by
   generalize S ++ [Cell.lst []] = Z at hnm i0 ⊢;generalize hN : ps.map (·.nm) = N at hnm ⊢;simp [i0, hm1, hnm, strL]
  obtain ⟨ρ', S', e, ⟨x, y, rfl⟩, hS, _⟩ := zin (ρ := [some (.obj h), some tn, some (.obj S.length), none, none]) (S := S ++ [.lst []]) (g := zat 3) (body := zgp c) (S1 := S ++ [.lst []])
   (fun pre ρ S' => (∃ x y, ρ = [some (.obj h), some tn, some (.obj S.length), x, y]) /\ S' = S ++ [.lst ((zcv names ((ps.take pre.length).map HP.w)).map Lk.t)] /\ (zcv names ((ps.take pre.length).map HP.w)).length <= 20 * pre.length)
   hit ⟨⟨_, _, rfl⟩, rfl, by simp [zcv]⟩ (fun pre t post ρ S' hsp ⟨⟨x, y, hρ⟩, hS, hb⟩ => by
    subst hρ;rw [List.map_map] at hsp;obtain ⟨A, B, rfl, hA, hB⟩ := List.map_eq_append_iff.mp hsp;obtain ⟨p, B, rfl, rfl, hB⟩ := List.map_eq_cons_iff.mp hB;have hlen : pre.length = A.length := by rw [<- hA]; simp
    have e1 : (A ++ p :: B).take pre.length = A := by rw [hlen]; simp
    have e2 : ∀ t : T, (A ++ p :: B).take (pre ++ [t]).length = A ++ [p] := fun t => by
     rw [List.length_append, List.length_singleton, hlen];exact zk9 ..
    rw [e1] at hS hb;rw [e2];have hl' : A.length < 24 := by rw [List.length_append, List.length_cons] at hl; omega
    have w := hw p (by simp);have el : zcv names ((A ++ [p]).map HP.w) = zcv names (A.map HP.w) ++ (if names.contains p.nm then zhn names p.nm p.w2 p.w3 else []) := by
     unfold zcv;rw [List.map_append, List.flatMap_append];simp [HP.w]
    rw [el];generalize zcv names (A.map HP.w) = acc at hS hb ⊢;subst hS;have hb2 : acc.length <= 480 := by omega
    refine ⟨rfl, _, rfl, ?_⟩;have hin : ∀ (L : Sto), gIn (.str p.nm) tn (S ++ L) = .ok (.bl (names.contains p.nm)) (S ++ L) := fun L => zx4 (zja (zi9 hn));have P := H.piece p (by simp);by_cases hc : names.contains p.nm = true
    ·have HA := fun L : Sto => H.app (L := L)
     have g1 := fun L : Sto => zft (P.app (L := L)).o;have g2 := fun L : Sto => zj1 (P.app (L := L)).a2;have g3 := fun L : Sto => zj1 (P.app (L := L)).a3;have c1 := zj7 (S := S ++ [.lst (acc.map Lk.t)]) (ρ := [some (.obj h), some tn, some (.obj S.length), some (.str p.nm), some (.obj p.i)]) (js := [3, 1]) (nm := p.nm) "needs" (fun o => !names.contains o) (l := p.w2) (by omega) (it := zit c) (st := fun S' => zav S' (.obj (p.i + 3)) = some (p.w2.map T.str)) (tc := ziu c) (te := zis c)
      (by simp [zit, g1, zo4, g2]) (g2 _) (fun o => by simp [ziu, zox (zja (zi9 hn))]) (fun o => by simp [zis, Lk.t])
     have c2 := fun acc2 : List Lk => zj7 (S := S ++ [.lst (acc2.map Lk.t)]) (ρ := [some (.obj h), some tn, some (.obj S.length), some (.str p.nm), some (.obj p.i)]) (js := [3, 1]) (nm := p.nm) "bars" (fun o => names.contains o) (l := p.w3) (by omega) (it := ziw c) (st := fun S' => zav S' (.obj (p.i + 4)) = some (p.w3.map T.str)) (tc := zix c) (te := ziv c)
      (by simp [ziw, g1, zs3, g3]) (g3 _) (fun o => by simp [zix, zx4 (zja (zi9 hn))]) (fun o => by simp [ziv, Lk.t])
     have ll := zuz names p.nm p.w2 p.w3;rw [if_pos hc];unfold zhn at ll ⊢;rw [List.length_append] at ll;generalize ((p.w2.filter fun o => !names.contains o).map fun o => Lk.mk "needs" p.nm o) = n1 at c1 ll ⊢;generalize ((p.w3.filter fun o => names.contains o).map fun o => Lk.mk "bars" p.nm o) = n2 at c2 ll ⊢;have x1 := zsd (S := S ++ [.lst (acc.map Lk.t)]) (k := S.length) (y := .lst (n1.map Lk.t)) zec rfl (by simp only [List.length_map]; omega);rw [zk7, <- List.map_append] at x1;have x2 := zsd (S := S ++ [.lst ((acc ++ n1).map Lk.t)]) (k := S.length) (y := .lst (n2.map Lk.t)) zec rfl (by simp only [List.length_map, List.length_append]; omega);rw [zk7, <- List.map_append] at x2;have k1 := zjk (S := S ++ [.lst (acc.map Lk.t)]) (k := S.length) zec;have k2 := zjk (S := S ++ [.lst ((acc ++ n1).map Lk.t)]) (k := S.length) zec;have c2 := c2 (acc ++ n1);have hin' := hin [.lst (acc.map Lk.t)];rw [hc] at hin';have hf := zee (HA [.lst (acc.map Lk.t)]) (zu0 H.nd);have hi := (HA [.lst (acc.map Lk.t)]).ins;refine ⟨[some (.obj h), some tn, some (.obj S.length), some (.str p.nm), some (.obj p.i)], S ++ [.lst ((acc ++ n1 ++ n2).map Lk.t)], ?_, ⟨_, _, rfl⟩, by rw [List.append_assoc], ?_⟩
     ·generalize S ++ [Cell.lst ((acc ++ n1 ++ n2).map Lk.t)] = Z2 at x2 ⊢
      generalize S ++ [Cell.lst ((acc ++ n1).map Lk.t)] = Z1 at x1 x2 k2 c2;generalize S ++ [Cell.lst (acc.map Lk.t)] = Z0 at c1 x1 k1 hin' hf hi ⊢;simp [zgp, hin', hi, hm2, hf, k1, c1, x1, k2, c2, x2]
     ·simp only [List.length_append, List.length_singleton]
      omega
    ·have hc : names.contains p.nm = false := by simpa using hc
     refine ⟨[some (.obj h), some tn, some (.obj S.length), some (.str p.nm), y], S ++ [.lst (acc.map Lk.t)], ?_, ⟨_, _, rfl⟩, by rw [if_neg (by rw [hc]; decide), List.append_nil], ?_⟩
     ·have hin' := hin [.lst (acc.map Lk.t)]
      rw [hc] at hin';simp [zgp, hin']
     ·rw [if_neg (by rw [hc]; decide), List.append_nil, List.length_append, List.length_singleton]; omega) (fun _ _ _ => rfl)
  rw [List.length_map, List.length_map, List.take_length] at hS;subst hS;simp [znr, e]
 refine zov run (by simp) (Nat.le_refl _) zec fun t ht => ?_;obtain ⟨k, _, rfl⟩ := List.mem_map.mp ht;exact zj2 (by simp)
end DN
namespace DN
open PySem L2 MF
variable {c : Cl} {S : Sto}
section
variable {w : DT} {b : DS} {n : Nat} {ρ ρ2 : Ev} {C : Addr} {fs : Option (List (Str × T))} {t : T} {S1 S2 : Sto}
theorem zo8 (h : w ρ S = .ok true S1) (e : b ρ S1 = .ok (.nx ρ2) S2) : zem w b (n + 1) ρ S = zem w b n ρ2 S2 := by
 simp [zem, h, e]
theorem zyg (h : w ρ S = .ok true S1) (e : b ρ S1 = .exc C fs S2) : zem w b (n + 1) ρ S = .exc C fs S2 := by
 simp [zem, h, e]
end
def secT (la lb : List Str) : T := .dic [(.inr "a", .dic (zcp la)), (.inr "b", .dic (zcp lb))]
local macro_rules | `(tactic| walk_at "r") => `(tactic| simp [zho, ze8, ze7, zhp, sFor, zbt, iK, zat, gDix, gNeg, zdv, keyT, secT, zcp, valT, zb8, atI, ixN, putT, gApp, cellL, okL, zav, kT, truM, zcw])
end DN
namespace DN
open PySem L2 MF
variable {c : Cl} {S : Sto} {sec : Str -> List Str} {names : List Str}
section
variable {h : Nat} {pl : List PlM} {ps qs : List HP} (A : zaq c S h pl ps) (hq : qs.map (·.nm) = (["a", "b"] : List Str)) (hs : ∀ q ∈ qs, q ∈ ps /\ q.w0.length + q.w1.length <= 20)
include A hq hs
end
end DN
namespace DN
open PySem L2 MF
variable {c : Cl} {S : Sto} {ρ : Ev}
theorem zu1 : ((List.range 26).map fun (k : Nat) => zci k).Nodup := by decide +kernel
theorem zs7 : ∀ k : Nat, k < 26 -> okN (zci k) := by unfold okN; decide +kernel
theorem zo9 {k m : Int} (h0 : 0 < m) (h1 : m <= 26) : okN (zci (k % m)) := by
 have a := Int.emod_nonneg k (show m ≠ 0 by omega);have b := Int.emod_lt_of_pos k h0;have := zs7 (k % m).toNat (by omega);rwa [Int.toNat_of_nonneg a] at this
theorem zyh {x many : Int} (h0 : 0 < many) (h1 : many <= 26) : ∀ z ∈ zf4 x many, okN z := by
 intro z hz;unfold zf4 at hz
 split at hz
 ·cases hz
 ·split at hz
  ·simp only [List.mem_cons, List.not_mem_nil, or_false] at hz
   rcases hz with rfl | rfl <;> exact zo9 h0 h1
  ·simp only [List.mem_singleton] at hz
   subst hz;exact zo9 h0 h1
theorem zh5 (x many : Int) : (zf4 x many).length <= 2 := by
 unfold zf4
 split
 ·simp
 ·split <;> simp
structure Drawn (ps : List Pc) : Prop where
 nd : (ps.map (·.nm)).Nodup
 len : ps.length <= 13
 pl : ∀ p ∈ ps, p.pl = "hub" \/ p.pl = "side"
 w : ∀ p ∈ ps, p.w0.length <= 2 /\ p.w1.length <= 2 /\ p.w2.length <= 2 /\ p.w3.length <= 2
 okn : ∀ p ∈ ps, okN p.nm
 okw : ∀ p ∈ ps, ∀ x, x ∈ p.w0 \/ x ∈ p.w1 \/ x ∈ p.w2 \/ x ∈ p.w3 -> okN x
theorem drawn (ns : List Int) (start many : Int) (h0 : 0 <= many) (h1 : many <= 13) : Drawn (pcs ns start many) := by
 have mem : ∀ p ∈ pcs ns start many, ∃ k : Nat, k < many.toNat /\ p = pcAt ns start many k := fun p hp => by
  obtain ⟨k, hk, rfl⟩ := List.mem_map.mp hp;exact ⟨k, List.mem_range.mp hk, rfl⟩
 refine ⟨?_, by simp [pcs]; omega, fun p hp => ?_, fun p hp => ?_, fun p hp => ?_, fun p hp x hx => ?_⟩
 ·have e : (pcs ns start many).map (·.nm) = (List.range many.toNat).map fun (k : Nat) => zci k := by
   unfold pcs;rw [List.map_map];rfl
  rw [e];have hs : ((List.range many.toNat).map fun (k : Nat) => zci k).Sublist ((List.range 26).map fun (k : Nat) => zci k) := by
   refine List.Sublist.map _ ?_;rw [show (26 : Nat) = many.toNat + (26 - many.toNat) by omega, List.range_add];exact List.sublist_append_left ..
  exact zu1.sublist hs
 ·obtain ⟨k, _, rfl⟩ := mem p hp
  show zfs _ = _ \/ zfs _ = _;unfold zfs
  split
  ·exact .inr rfl
  ·exact .inl rfl
 ·obtain ⟨k, _, rfl⟩ := mem p hp
  exact ⟨zh5 _ _, zh5 _ _, zh5 _ _, zh5 _ _⟩
 ·obtain ⟨k, hk, rfl⟩ := mem p hp
  exact zs7 k (by omega)
 ·obtain ⟨k, _, rfl⟩ := mem p hp
  have q : (0 : Int) < many + 1 := by omega
  have q' : many + 1 <= 26 := by omega
  rcases hx with h | h | h | h <;> exact zyh q q' x h
theorem zwf {hps : List HP} {ps : List Pc} (h : hps.map HP.core = ps.map Pc.full) : hps.map HP.w = ps.map Pc.w := by
 have := congrArg (List.map fun q : Core => ((q.1, q.2.2.2.2.2.2.2.1, q.2.2.2.2.2.2.2.2) : W3)) h;rw [List.map_map, List.map_map] at this;exact this
theorem zu2 {hps : List HP} {ps : List Pc} (h : hps.map HP.core = ps.map Pc.full) : hps.length = ps.length := by
 have := congrArg List.length h;simpa using this
theorem zpa {hps : List HP} {ps : List Pc} (h : hps.map HP.core = ps.map Pc.full) {p : HP} (hp : p ∈ hps) : ∃ q ∈ ps, p.core = q.full := by
 have : p.core ∈ hps.map HP.core := List.mem_map.mpr ⟨p, hp, rfl⟩;rw [h] at this;obtain ⟨q, hq, e⟩ := List.mem_map.mp this;exact ⟨q, hq, e.symm⟩
theorem zu3 : okN "needs" := by unfold okN; decide +kernel
theorem zyi : okN "bars" := by unfold okN; decide +kernel
theorem zu4 {ps : List Pc} (D : Drawn ps) (names : List Str) : ∀ k ∈ zcv names (ps.map Pc.w), k.ok := by
 intro k hk;unfold zcv at hk;obtain ⟨q, hq, hk⟩ := List.mem_flatMap.mp hk;obtain ⟨p, hp, rfl⟩ := List.mem_map.mp hq
 split at hk
 ·rcases List.mem_append.mp hk with hk | hk
  ·obtain ⟨o, ho, rfl⟩ := List.mem_map.mp hk
   exact ⟨zu3, D.okn p hp, D.okw p hp o (.inr (.inr (.inl (List.mem_filter.mp ho).1)))⟩
  ·obtain ⟨o, ho, rfl⟩ := List.mem_map.mp hk
   exact ⟨zyi, D.okn p hp, D.okw p hp o (.inr (.inr (.inr (List.mem_filter.mp ho).1)))⟩
 ·cases hk
end DN
namespace DN
open PySem L2 MF
variable {c : Cl} {S : Sto} {ρ : Ev} {sec : Str -> List Str} {names : List Str}
theorem zu5 {hps : List HP} {ps : List Pc} (h : hps.map HP.core = ps.map Pc.full) : hps.map (·.nm) = ps.map (·.nm) := by
 have := congrArg (List.map fun q : Core => q.1) h;rw [List.map_map, List.map_map] at this;exact this
theorem z1o {ps : List Pc} (nd : (ps.map (·.nm)).Nodup) : ∀ p ∈ ps, ∀ q ∈ ps, p.nm = q.nm -> p = q := by
 induction ps with
 | nil => intro p hp; cases hp
 | cons a r ih =>
   rw [List.map_cons, List.nodup_cons] at nd;intro p hp q hq e;rcases List.mem_cons.mp hp with h1 | h1
   ·rcases List.mem_cons.mp hq with h2 | h2
    ·rw [h1, h2]
    ·exact absurd (List.mem_map.mpr ⟨q, h2, by rw [<- e, h1]⟩) nd.1
   ·rcases List.mem_cons.mp hq with h2 | h2
    ·exact absurd (List.mem_map.mpr ⟨p, h1, by rw [e, h2]⟩) nd.1
    ·exact ih nd.2 p h1 q h2 e
theorem zn1 : ∀ k : Nat, k < 26 -> (reprText (zci k)).length <= 30 := by decide +kernel
theorem zu6 (ns : List Int) (start many : Int) (h0 : 0 <= many) (h1 : many <= 13) : ∀ p ∈ pcs ns start many, (reprText p.nm).length <= 30 := fun p hp => by
 obtain ⟨k, hk, rfl⟩ := List.mem_map.mp hp;have := List.mem_range.mp hk;exact zn1 k (by omega)
theorem zaq.keep {h : Nat} {pl : List PlM} {ps : List HP} {S' : Sto} (A : zaq c S h pl ps) (hk : ∀ j, j < S.length -> S'[j]? = S[j]?) : zaq c S' h pl ps := by
 have lk : ∀ {i : Nat} {v : Cell}, S[i]? = some v -> S'[i]? = some v := fun {i v} e => by
  rw [hk i (by
   by_cases z : i < S.length
   ·exact z
   ·rw [List.getElem?_eq_none (by omega)] at e; cases e)]
  exact e
 exact ⟨lk A.hall, lk A.places, lk A.pieces, fun q hq => lk (A.place q hq), fun p hp => ⟨lk (A.piece p hp).o, lk (A.piece p hp).a0, lk (A.piece p hp).a1, lk (A.piece p hp).a2, lk (A.piece p hp).a3⟩, A.far, A.pw, A.nd⟩
end DN
namespace DN
open PySem L2 MF
variable {c : Cl} {S : Sto}
structure Rn where
 kind : Str
 rule : Str
 num : T
 deeds : List T
 held : List T
 brk : Bool
 prs : List T
 fnd : T
 ard : List T
end DN
namespace DN
open PySem L2 MF
variable {c : Cl} {S : Sto}
def zfb (nd : Str -> Option (List Str)) : Nat -> List Str -> List Str -> Option (Option (List Str))
 | 0, _, _ => none
 | f + 1, g, l => match l.getLast? with
   | none => some (some g)
   | some x => if x ∈ g then zfb nd f g l.dropLast else match nd x with
     | none => some none
     | some ws => zfb nd f (g ++ [x]) (l.dropLast ++ ws)
def zdq (ps : List HP) (x : Str) : Option (List Str) := (ps.find? fun p => decide (p.nm = x)).map (·.w2)
section
variable {S0 : Sto} {h kg kl : Nat} {pl : List PlM} {ps : List HP}
theorem zu7 {k : Nat} {l : List Str} {x : Str} (e : S[k]? = some (.lst ((l ++ [x]).map .str))) : gPop (.obj k) [] S = .ok (.str x) (S.set k (.lst (l.map .str))) := by
 simp [gPop, cellL, e]
theorem zfx (A0 : zaq c S0 h pl ps) (hg : S0.length <= kg) (hl : S0.length <= kl) (ne : kg ≠ kl) (h24 : ps.length <= 24) (hw : ∀ p ∈ ps, p.w2.length <= 10) (sm : ∀ x, zdq ps x = none -> ∀ p ∈ ps, x ∈ p.w2 -> Sm x) {t1 : Option T} :
  ∀ (f : Nat) (g l : List Str) (m : Nat) {x4 x5 : Option T} {S : Sto} {res : Option (List Str)}, f <= m -> g.Nodup -> (∀ x ∈ g, x ∈ ps.map (·.nm)) -> l.length <= 1 + 10 * g.length -> (∀ x ∈ l, zdq ps x = none -> Sm x) ->
    S[kg]? = some (.dic (zcp g)) -> S[kl]? = some (.lst (l.map .str)) -> (∀ j, j < S0.length -> S[j]? = S0[j]?) -> zfb (zdq ps) f g l = some res ->
    match res with
    | some G => ∃ S' x4' x5', zem (zbm c) (zay c) m [some (.obj h), t1, some (.obj kg), some (.obj kl), x4, x5] S = .ok (.nx [some (.obj h), t1, some (.obj kg), some (.obj kl), x4', x5']) S' /\ S'[kg]? = some (.dic (zcp G)) /\ (∀ j, j < S0.length -> S'[j]? = S0[j]?)
    | none => ∃ S', zem (zbm c) (zay c) m [some (.obj h), t1, some (.obj kg), some (.obj kl), x4, x5] S = .exc c.noPiece none S' /\ (∀ j, j < S0.length -> S'[j]? = S0[j]?)
 | 0, _, _, _, _, _, _, _, _, _, _, _, _, _, _, _, e => by simp [zfb] at e
 | f + 1, g, l, 0, _, _, _, _, hm, _, _, _, _, _, _, _, _ => by omega
 | f + 1, g, l, m + 1, x4, x5, S, res, hm, nd, sub, ll, sml, eg, el, kp, e => by
   have tr := zye (zj1 el);cases hx : l.getLast? with
   | none =>
     have hn : l = [] := List.getLast?_eq_none_iff.mp hx;subst hn;simp only [zfb, hx, Option.some.injEq] at e;subst e;have tr : truM (.obj kl) S = .ok false S := tr;exact ⟨S, x4, x5, by simp [zem, zbm, tr], eg, kp⟩
   | some x =>
     obtain ⟨q, rfl⟩ := List.getLast?_eq_some_iff.mp hx;have tr : truM (.obj kl) S = .ok true S := by rw [tr]; simp
     have wt : zbm c [some (.obj h), t1, some (.obj kg), some (.obj kl), x4, x5] S = .ok true S := by simp [zbm, tr]
     have ok := zjk el;have pp := zu7 el;have k1 : ∀ j, j < S0.length -> (S.set kl (.lst (q.map .str)))[j]? = S0[j]? := fun j hj => by rw [zad (by omega)]; exact kp j hj
     have g1 : (S.set kl (.lst (q.map .str)))[kg]? = some (.dic (zcp g)) := by rw [zad (Ne.symm ne)]; exact eg
     have l1 : (S.set kl (.lst (q.map .str)))[kl]? = some (.lst (q.map .str)) := zdb el;simp only [zfb, hx, List.dropLast_concat] at e;generalize S.set kl (.lst (q.map .str)) = S1 at pp k1 g1 l1;have glen : g.length <= 24 := by
      have := zgf g (ps.map (·.nm)) nd sub;simp at this;omega
     by_cases hxg : x ∈ g
     ·rw [if_pos hxg] at e
      have dn : zb8 (.str x) (.obj kg) S1 = .ok (.bl false) S1 := by simp [zb8, zdv, g1, keyT, zes, hxg]
      have ih := zfx A0 hg hl ne h24 hw sm (t1 := t1) f g q m (x4 := some (.str x)) (x5 := x5) (S := S1) (by omega) nd sub (by simp at ll; omega) (fun y hy => sml y (by simp [hy])) g1 l1 k1 e;have bd : zay c [some (.obj h), t1, some (.obj kg), some (.obj kl), x4, x5] S = .ok (.nx [some (.obj h), t1, some (.obj kg), some (.obj kl), some (.str x), x5]) S1 := by
       simp [zay, ok, pp, dn]
      cases res with
      | none =>
        obtain ⟨S', w1, w2⟩ := ih;exact ⟨S', (zo8 wt bd).trans w1, w2⟩
      | some G =>
        obtain ⟨S', x4', x5', w1, w2, w3⟩ := ih;exact ⟨S', x4', x5', (zo8 wt bd).trans w1, w2, w3⟩
     ·rw [if_neg hxg] at e
      have A1 := A0.keep k1;have dn : zb8 (.str x) (.obj kg) S1 = .ok (.bl true) S1 := by simp [zb8, zdv, g1, keyT, zes, hxg]
      have hm2 := zfu (m := Str.ofString "find_piece") h (by simp) (by simp);cases hp : ps.find? (fun p => decide (p.nm = x)) with
      | none =>
        have hn : zdq ps x = none := by simp [zdq, hp]
        simp only [hn, Option.some.injEq] at e;subst e;have hnot : x ∉ ps.map (·.nm) := fun hc => by
         obtain ⟨p, h1, h2⟩ := List.mem_map.mp hc;have := List.find?_eq_none.mp hp p h1;simp [h2] at this
        have fp := zi8 A1 hnot (sml x (by simp) hn);refine ⟨S1, zyg wt ?_, k1⟩;simp [zay, ok, pp, dn, A1.ins, hm2, fp]
      | some p =>
        have pm : p ∈ ps := List.mem_of_find?_eq_some hp;have pn : p.nm = x := by simpa using List.find?_some hp
        have hn : zdq ps x = some p.w2 := by simp [zdq, hp]
        simp only [hn] at e;have fp := zee A1 hp;have e1 : valT (zcp g) (.inr x) = none := by simp [zes, hxg]
        have P2 := (A1.piece p pm);have pf := A0.far p pm;have plt : p.i + 4 < S0.length := by
         have := (A0.piece p pm).a3;exact (List.getElem?_eq_some_iff.mp this).1
        have pu : putT (zcp g) (.inr x) (.bl true) = zcp (g ++ [x]) := by rw [zh4 e1]; simp [zcp]
        have gl : (zcp g).length <= 900 := by simp [zcp]; omega
        have k2 : ∀ j, j < S0.length -> (S1.set kg (.dic (zcp (g ++ [x]))))[j]? = S0[j]? := fun j hj => by rw [zad (by omega)]; exact k1 j hj
        have g2 : (S1.set kg (.dic (zcp (g ++ [x]))))[kg]? = some (.dic (zcp (g ++ [x]))) := zdb g1;have l2 : (S1.set kg (.dic (zcp (g ++ [x]))))[kl]? = some (.lst (q.map .str)) := by rw [zad ne]; exact l1
        generalize hS2 : S1.set kg (.dic (zcp (g ++ [x]))) = S2 at k2 g2 l2;have A2 := A0.keep k2;have Po := zft (A2.piece p pm).o;have lk : p.fs.lookup (Str.ofString "needs") = some (.obj (p.i + 3)) := by simp [HP.fs, List.lookup_cons]
        have w := hw p pm;have ex := zsd (k := kl) (y := .obj (p.i + 3)) l2 (zj1 (A2.piece p pm).a2) (by simp at ll ⊢; omega);have k3 : ∀ j, j < S0.length -> (S2.set kl (.lst (q.map .str ++ p.w2.map .str)))[j]? = S0[j]? := fun j hj => by rw [zad (by omega)]; exact k2 j hj
        have g3 : (S2.set kl (.lst (q.map .str ++ p.w2.map .str)))[kg]? = some (.dic (zcp (g ++ [x]))) := by rw [zad (Ne.symm ne)]; exact g2
        have l3 : (S2.set kl (.lst (q.map .str ++ p.w2.map .str)))[kl]? = some (.lst ((q ++ p.w2).map .str)) := by rw [zdb l2]; simp
        generalize S2.set kl (.lst (q.map .str ++ p.w2.map .str)) = S3 at ex k3 g3 l3;have ih := zfx A0 hg hl ne h24 hw sm (t1 := t1) f (g ++ [x]) (q ++ p.w2) m (x4 := some (.str x)) (x5 := some (.obj p.i)) (S := S3) (by omega)
         (List.nodup_append.mpr ⟨nd, by simp, fun a ha b hb e => hxg (by rw [List.mem_singleton.mp hb] at e; exact e ▸ ha)⟩)
         (fun y hy => by
          rcases List.mem_append.mp hy with hy | hy
          ·exact sub y hy
          ·rw [List.mem_singleton.mp hy, <- pn]; exact List.mem_map_of_mem pm)
         (by simp at ll ⊢; omega) (fun y hy hn => by
          rcases List.mem_append.mp hy with hy | hy
          ·exact sml y (by simp [hy]) hn
          ·exact sm y hn p pm hy) g3 l3 k3 e
        have bd : zay c [some (.obj h), t1, some (.obj kg), some (.obj kl), x4, x5] S = .ok (.nx [some (.obj h), t1, some (.obj kg), some (.obj kl), some (.str x), some (.obj p.i)]) S3 := by
         simp [zay, ok, pp, dn, A1.ins, hm2, fp, keyT, g1, gl, pu, hS2, Po, lk, zjk l2, ex]
        cases res with
        | none =>
          obtain ⟨S', w1, w2⟩ := ih;exact ⟨S', (zo8 wt bd).trans w1, w2⟩
        | some G =>
          obtain ⟨S', x4', x5', w1, w2, w3⟩ := ih;exact ⟨S', x4', x5', (zo8 wt bd).trans w1, w2, w3⟩
theorem zjb {S S' : Sto} (h : ∀ j, j < S.length -> S'[j]? = S[j]?) : S'.take S.length = S := by
 refine List.ext_getElem? fun j => ?_;by_cases hj : j < S.length
 ·rw [List.getElem?_take_of_lt hj, h j hj]
 ·rw [List.getElem?_eq_none (by simp; omega), List.getElem?_eq_none (by omega)]
theorem zyj {S S' : Sto} {k : Nat} {g : List Str} (hk : S.length <= k) (e : S'[k]? = some (.dic (zcp g))) : fz S' S.length 6 (.obj k) = some (.dic (zcp g)) := by
 unfold fz;rw [if_neg (by simp only [HB]; omega)];simp only [e];unfold zcp;rw [zo6 (k := fun x => ((Sum.inr x : Key), T.bl true)) fun x _ => ?_]
 ·rfl
 ·unfold fz
  rw [if_pos (by simp only [HB])];rfl
theorem zu8 (A : zaq c S h pl ps) (h24 : ps.length <= 24) (hw : ∀ p ∈ ps, p.w2.length <= 10) (sm : ∀ x, zdq ps x = none -> ∀ p ∈ ps, x ∈ p.w2 -> Sm x) {nm : Str} (smn : zdq ps nm = none -> Sm nm) {f : Nat} (hf : f <= 1000) {res : Option (List Str)} (e : zfb (zdq ps) f [] [nm] = some res) :
  zcs c [.obj h, .str nm] S = match res with
   | some G => .ok (.dic (zcp G)) S
   | none => .exc c.noPiece none S := by
 have kp : ∀ j, j < S.length -> (S ++ [Cell.dic []] ++ [.lst [.str nm]])[j]? = S[j]? := fun j hj => by rw [List.append_assoc, List.getElem?_append_left hj]
 have g0 : (S ++ [Cell.dic []] ++ [.lst [.str nm]])[S.length]? = some (.dic (zcp [])) := by rw [List.append_assoc, zus]; rfl
 have l0 : (S ++ [Cell.dic []] ++ [.lst [.str nm]])[S.length + 1]? = some (.lst (([nm]).map .str)) := by rw [List.append_assoc, getR]; rfl
 have W := zfx A (Nat.le_refl _) (Nat.le_succ _) (by omega) h24 hw sm (kg := S.length) (kl := S.length + 1) (t1 := some (.str nm)) f [] [nm] 1000 (x4 := none) (x5 := none) hf .nil (by simp) (by simp) (fun x hx => by rw [List.mem_singleton.mp hx]; exact smn) g0 l0 kp e;have hlen : (S ++ [Cell.dic []]).length = S.length + 1 := by simp
 cases res with
 | none =>
   obtain ⟨S', w1, w2⟩ := W;have run : runD 6 (zcr c) [.obj h, .str nm] S = .exc c.noPiece none S' := by
    simp [zcr, zoo] at w1 ⊢;simp [w1]
   exact zx3 run (zjb w2)
 | some G =>
   obtain ⟨S', x4, x5, w1, w2, w3⟩ := W;have run : runD 6 (zcr c) [.obj h, .str nm] S = .ok (.obj S.length) S' := by
    simp [zcr, zoo] at w1 ⊢;simp [w1]
   unfold zcs frzF;rw [run];simp only [if_pos (zjb w3), zyj (Nat.le_refl _) w2]
def zhs (ps : List HP) (G : List Str) : List Str := (ps.map (·.nm)).filter fun x => decide (x ∈ G)
theorem z1p (A : zaq c S h pl ps) (h24 : ps.length <= 24) (hw : ∀ p ∈ ps, p.w2.length <= 10 /\ p.w3.length <= 10) (sm : ∀ x, zdq ps x = none -> ∀ p ∈ ps, x ∈ p.w2 -> Sm x) {nm : Str} (smn : zdq ps nm = none -> Sm nm) {f : Nat} (hf : f <= 1000) {res : Option (List Str)} (e : zfb (zdq ps) f [] [nm] = some res)
  (smk : ∀ G, res = some G -> ∀ k ∈ zcv (zhs ps G) (ps.map HP.w), (reprText k.a).length <= 1000 /\ (reprText k.b).length <= 1000) :
  zbc c [.obj h, .str nm] S = match res with
   | some G => (match zcv (zhs ps G) (ps.map HP.w) with
     | [] => .ok (strL (zhs ps G)) S
     | k :: _ => .exc c.barred (some [("one", .str k.a), ("other", .str k.b)]) S)
   | none => .exc c.noPiece none S := by
 have eg := zu8 A h24 (fun p hp => (hw p hp).1) sm smn hf e;cases res with
 | none => simp [zbc, zeb, eg]
 | some G =>
   simp only at eg ⊢;have hm1 := zfu (m := Str.ofString "names") h (by simp) (by simp);have en := zs1 A;have it1 : zct c [some (.obj h), some (.str nm), some (.dic (zcp G)), none, none] S = .ok ((ps.map (·.nm)).map .str, fun S' => zav S' (strL (ps.map (·.nm))) = some ((ps.map (·.nm)).map .str)) S := by
    generalize ps.map (·.nm) = N at en ⊢;simp [zct, A.ins, hm1, en, strL]
   have cc := zgm (ρ := [some (.obj h), some (.str nm), some (.dic (zcp G)), none, none]) (S := S) (js := [2]) (it := zct c) (tc := zdj c) (te := zdi c) (ts := (ps.map (·.nm)).map .str) (st := fun S' => zav S' (strL (ps.map (·.nm))) = some ((ps.map (·.nm)).map .str))
    (p := fun t => match t with | .str x => decide (x ∈ G) | _ => false) (f := id)
    it1 rfl (by simp; omega) (fun t ht => by
     obtain ⟨x, _, rfl⟩ := List.mem_map.mp ht;simp [zdj, zuw]) (fun t ht _ => by simp [zdi])
   have ef : (((ps.map (·.nm)).map T.str).filter (fun t => match t with | .str x => decide (x ∈ G) | _ => false)).map id = (zhs ps G).map .str := by
    rw [List.filter_map]; simp [zhs]; rfl
   rw [ef] at cc;have cc : zev 1 [2] (zct c) (zat 0) (zdj c) (zdi c) finF [some (.obj h), some (.str nm), some (.dic (zcp G)), none, none] S = .ok (strL (zhs ps G)) S := cc;have el := zyf A (tn := strL (zhs ps G)) (names := zhs ps G) rfl hw h24;have sk := smk G rfl;generalize zhs ps G = N at cc el sk ⊢;generalize zcv N (ps.map HP.w) = L at el sk ⊢;generalize strL N = NT at cc el ⊢;cases L with
   | nil => simp [zbc, zeb, eg, cc, el]
   | cons k ks =>
     obtain ⟨s1, s2⟩ := sk k (by simp);have ok : okM true (.str k.a) (.str k.b) = true := by simp [okM, okW, s1, s2]
     simp [zbc, zeb, eg, cc, el, Lk.t, zku, ok]
end
end DN
namespace DN
open PySem L2 MF
section
variable {nd : Str -> Option (List Str)} {C : Str -> Prop} {x : Str}
def Cld (nd : Str -> Option (List Str)) (C : Str -> Prop) : Prop := ∀ y, C y -> ∃ ws, nd y = some ws /\ ∀ z ∈ ws, C z
theorem zla (hC : Cld nd C) : ∀ (f : Nat) (g l : List Str) {res : Option (List Str)}, (∀ y ∈ g, C y) -> (∀ y ∈ l, C y) -> zfb nd f g l = some res -> ∃ G, res = some G /\ ∀ y ∈ G, C y
 | 0, g, l, res, _, _, e => by simp [zfb] at e
 | f + 1, g, l, res, hg, hl, e => by
   unfold zfb at e;cases hx : l.getLast? with
   | none =>
     simp only [hx, Option.some.injEq] at e;exact ⟨g, e.symm, hg⟩
   | some x =>
     obtain ⟨q, rfl⟩ := List.getLast?_eq_some_iff.mp hx;simp only [hx, List.dropLast_concat] at e;have cx := hl x (by simp);have hq : ∀ y ∈ q, C y := fun y hy => hl y (by simp [hy]);by_cases hxg : x ∈ g
     ·rw [if_pos hxg] at e
      exact zla hC f g q hg hq e
     ·rw [if_neg hxg] at e
      obtain ⟨ws, e1, e2⟩ := hC x cx;simp only [e1] at e;refine zla hC f (g ++ [x]) (q ++ ws) (fun y hy => ?_) (fun y hy => ?_) e
      ·rcases List.mem_append.mp hy with hy | hy
       ·exact hg y hy
       ·rw [List.mem_singleton.mp hy]; exact cx
      ·rcases List.mem_append.mp hy with hy | hy
       ·exact hq y hy
       ·exact e2 y hy
theorem zlb : ∀ (f : Nat) (g l : List Str) {G : List Str}, (∀ y ∈ g, ∃ ws, nd y = some ws /\ ∀ z ∈ ws, z ∈ g \/ z ∈ l) -> zfb nd f g l = some (some G) -> (∀ y ∈ g, y ∈ G) /\ (∀ y ∈ l, y ∈ G) /\ ∀ y ∈ G, ∃ ws, nd y = some ws /\ ∀ z ∈ ws, z ∈ G
 | 0, g, l, G, _, e => by simp [zfb] at e
 | f + 1, g, l, G, h, e => by
   unfold zfb at e;cases hx : l.getLast? with
   | none =>
     simp only [hx, Option.some.injEq] at e;subst e;have hn : l = [] := List.getLast?_eq_none_iff.mp hx;subst hn;refine ⟨fun y hy => hy, fun y hy => absurd hy List.not_mem_nil, fun y hy => ?_⟩;obtain ⟨ws, e1, e2⟩ := h y hy;exact ⟨ws, e1, fun z hz => (e2 z hz).elim id fun q => absurd q List.not_mem_nil⟩
   | some x =>
     obtain ⟨q, rfl⟩ := List.getLast?_eq_some_iff.mp hx;simp only [hx, List.dropLast_concat] at e;by_cases hxg : x ∈ g
     ·rw [if_pos hxg] at e
      obtain ⟨k1, k2, k3⟩ := zlb f g q (fun y hy => by
       obtain ⟨ws, e1, e2⟩ := h y hy;refine ⟨ws, e1, fun z hz => ?_⟩;rcases e2 z hz with q1 | q1
       ·exact .inl q1
       ·rcases List.mem_append.mp q1 with q1 | q1
        ·exact .inr q1
        ·rw [List.mem_singleton.mp q1]; exact .inl hxg) e
      refine ⟨k1, fun y hy => ?_, k3⟩;rcases List.mem_append.mp hy with hy | hy
      ·exact k2 y hy
      ·rw [List.mem_singleton.mp hy]; exact k1 x hxg
     ·rw [if_neg hxg] at e
      cases e1 : nd x with
      | none => simp [e1] at e
      | some ws =>
        simp only [e1] at e;obtain ⟨k1, k2, k3⟩ := zlb f (g ++ [x]) (q ++ ws) (fun y hy => by
         rcases List.mem_append.mp hy with hy | hy
         ·obtain ⟨us, e2, e3⟩ := h y hy
          refine ⟨us, e2, fun z hz => ?_⟩;rcases e3 z hz with q1 | q1
          ·exact .inl (by simp [q1])
          ·rcases List.mem_append.mp q1 with q1 | q1
           ·exact .inr (by simp [q1])
           ·exact .inl (by simp at q1; simp [q1])
         ·rw [List.mem_singleton.mp hy]
          exact ⟨ws, e1, fun z hz => .inr (by simp [hz])⟩) e
        refine ⟨fun y hy => k1 y (by simp [hy]), fun y hy => ?_, k3⟩;rcases List.mem_append.mp hy with hy | hy
        ·exact k2 y (by simp [hy])
        ·rw [List.mem_singleton.mp hy]; exact k1 x (by simp)
def zc6 (nd : Str -> Option (List Str)) : List Str -> Option (List Str)
 | [] => some []
 | x :: xs => match nd x with
   | none => none
   | some ws => (zc6 nd xs).map (ws ++ ·)
def clos (nd : Str -> Option (List Str)) : Nat -> List Str -> Option (List Str)
 | 0, found => some found
 | k + 1, found => match zc6 nd found with
   | none => none
   | some more => clos nd k (zen (dedS (found ++ more)))
theorem zmq : ∀ {l : List Str}, zc6 nd l = none -> ∃ y ∈ l, nd y = none
 | [], h => by cases h
 | x :: xs, h => by
   unfold zc6 at h;cases e : nd x with
   | none => exact ⟨x, .head _, e⟩
   | some ws =>
     simp only [e, Option.map_eq_none_iff] at h;obtain ⟨y, h1, h2⟩ := zmq h;exact ⟨y, .tail _ h1, h2⟩
theorem zet : ∀ {l more : List Str}, zc6 nd l = some more -> (∀ y ∈ l, ∃ ws, nd y = some ws /\ ∀ z ∈ ws, z ∈ more) /\ ∀ z ∈ more, ∃ y ∈ l, ∃ ws, nd y = some ws /\ z ∈ ws
 | [], more, h => by
   cases h;exact ⟨fun y hy => absurd hy List.not_mem_nil, fun z hz => absurd hz List.not_mem_nil⟩
 | x :: xs, more, h => by
   unfold zc6 at h;cases e : nd x with
   | none => simp [e] at h
   | some ws =>
     simp only [e, Option.map_eq_some_iff] at h;obtain ⟨m, h1, rfl⟩ := h;obtain ⟨k1, k2⟩ := zet h1;refine ⟨fun y hy => ?_, fun z hz => ?_⟩
     ·rcases List.mem_cons.mp hy with rfl | hy
      ·exact ⟨ws, e, fun z hz => by simp [hz]⟩
      ·obtain ⟨us, e1, e2⟩ := k1 y hy
       exact ⟨us, e1, fun z hz => by simp [e2 z hz]⟩
     ·rcases List.mem_append.mp hz with hz | hz
      ·exact ⟨x, .head _, ws, e, hz⟩
      ·obtain ⟨y, hy, us, e1, e2⟩ := k2 z hz
       exact ⟨y, .tail _ hy, us, e1, e2⟩
end
end DN
namespace DN
open PySem L2 MF
section
variable {nd : Str -> Option (List Str)} {C : Str -> Prop} {x : Str} {N : List Str}
theorem zn2 (l : List Str) : (zen l).Perm l := by
 unfold zen
 split
 ·rename_i h; exact h.choose_spec.1
 ·exact List.Perm.refl _
theorem zef (found more : List Str) (y : Str) : y ∈ zen (dedS (found ++ more)) ↔ y ∈ found \/ y ∈ more := by
 rw [(zn2 _).mem_iff, zkx, List.mem_append]
theorem zj8 (l : List Str) : (zen (dedS l)).Nodup := (zn2 _).nodup_iff.mpr (zir l)
theorem zs8 (hC : Cld nd C) : ∀ (k : Nat) (found : List Str), (∀ y ∈ found, C y) -> ∃ F, clos nd k found = some F /\ (∀ y ∈ F, C y) /\ ∀ y ∈ found, y ∈ F
 | 0, found, h => ⟨found, rfl, h, fun y hy => hy⟩
 | k + 1, found, h => by
   unfold clos;cases e : zc6 nd found with
   | none =>
     obtain ⟨y, h1, h2⟩ := zmq e;obtain ⟨ws, e1, _⟩ := hC y (h y h1);rw [h2] at e1; cases e1
   | some more =>
     obtain ⟨k1, k2⟩ := zet e;obtain ⟨F, e1, e2, e3⟩ := zs8 hC k (zen (dedS (found ++ more))) fun y hy => by
      rcases (zef found more y).mp hy with hy | hy
      ·exact h y hy
      ·obtain ⟨z, hz, ws, e4, e5⟩ := k2 y hy
       obtain ⟨us, e6, e7⟩ := hC z (h z hz);rw [e4] at e6;cases e6;exact e7 y e5
     exact ⟨F, e1, e2, fun y hy => e3 y ((zef found more y).mpr (.inl hy))⟩
theorem zs9 (hN : ∀ y ws, nd y = some ws -> y ∈ N) : ∀ (k j : Nat) (found : List Str) {F : List Str}, found.Nodup -> (Cld nd (· ∈ found) \/ j < found.length) -> N.length <= j + k -> clos nd (k + 1) found = some F -> Cld nd (· ∈ F) /\ ∀ y ∈ found, y ∈ F := by
 have step : ∀ (found more : List Str), zc6 nd found = some more -> Cld nd (· ∈ found) -> Cld nd (· ∈ zen (dedS (found ++ more))) := fun found more e h y hy => by
  obtain ⟨k1, k2⟩ := zet e;have hy' : y ∈ found := by
   rcases (zef found more y).mp hy with hy | hy
   ·exact hy
   ·obtain ⟨z, hz, ws, e4, e5⟩ := k2 y hy
    obtain ⟨us, e6, e7⟩ := h z hz;rw [e4] at e6;cases e6;exact e7 y e5
  obtain ⟨ws, e1, e2⟩ := h y hy';exact ⟨ws, e1, fun z hz => (zef found more z).mpr (.inl (e2 z hz))⟩
 intro k
 induction k with
 | zero =>
   intro j found F nf hv hl e;unfold clos at e;cases em : zc6 nd found with
   | none => simp [em] at e
   | some more =>
     simp only [em, clos, Option.some.injEq] at e;subst e;have cl : Cld nd (· ∈ found) := by
      refine hv.resolve_right fun h => ?_;have := zgf found N nf fun y hy => by
       obtain ⟨ws, e1, _⟩ := (zet em).1 y hy;exact hN y ws e1
      omega
     exact ⟨step found more em cl, fun y hy => (zef found more y).mpr (.inl hy)⟩
 | succ k ih =>
   intro j found F nf hv hl e;rw [clos] at e;cases em : zc6 nd found with
   | none => simp [em] at e
   | some more =>
     simp only [em] at e;obtain ⟨k1, k2⟩ := zet em;have hv' : Cld nd (· ∈ zen (dedS (found ++ more))) \/ j + 1 < (zen (dedS (found ++ more))).length := by
      by_cases cl : Cld nd (· ∈ found)
      ·exact .inl (step found more em cl)
      ·have hj := hv.resolve_left cl
       right;have : ∃ z ∈ more, z ∉ found := Classical.byContradiction fun hn => cl fun y hy => by
        obtain ⟨ws, e1, e2⟩ := k1 y hy;exact ⟨ws, e1, fun z hz => Classical.byContradiction fun hz2 => hn ⟨z, e2 z hz, hz2⟩⟩
       obtain ⟨z, hz, hz2⟩ := this;have := zgf (z :: found) (zen (dedS (found ++ more))) (List.nodup_cons.mpr ⟨hz2, nf⟩) fun y hy => by
        rcases List.mem_cons.mp hy with rfl | hy
        ·exact (zef found more _).mpr (.inr hz)
        ·exact (zef found more y).mpr (.inl hy)
       simp at this;omega
     obtain ⟨r1, r2⟩ := ih (j + 1) (zen (dedS (found ++ more))) (zj8 _) hv' (by omega) e;exact ⟨r1, fun y hy => r2 y ((zef found more y).mpr (.inl hy))⟩
theorem both (hN : ∀ y ws, nd y = some ws -> y ∈ N) {f : Nat} {res : Option (List Str)} (hg : zfb nd f [] [x] = some res) :
  match res with
  | none => clos nd (N.length + 1) [x] = none
  | some G => ∃ F, clos nd (N.length + 1) [x] = some F /\ ∀ y, y ∈ F ↔ y ∈ G := by
 cases res with
 | none =>
   show clos nd (N.length + 1) [x] = none;cases e : clos nd (N.length + 1) [x] with
   | none => rfl
   | some F =>
     obtain ⟨r1, r2⟩ := zs9 hN N.length 0 [x] (by simp) (.inr (by simp)) (by omega) e;obtain ⟨G, h1, _⟩ := zla r1 f [] [x] (fun y hy => absurd hy List.not_mem_nil) (fun y hy => r2 y hy) hg;cases h1
 | some G =>
   obtain ⟨_, g2, g3⟩ := zlb f [] [x] (fun y hy => absurd hy List.not_mem_nil) hg;have cG : Cld nd (· ∈ G) := g3;obtain ⟨F, e1, e2, e3⟩ := zs8 cG (N.length + 1) [x] fun y hy => g2 y hy;refine ⟨F, e1, fun y => ⟨e2 y, fun hy => ?_⟩⟩;obtain ⟨r1, r2⟩ := zs9 hN N.length 0 [x] (by simp) (.inr (by simp)) (by omega) e1;obtain ⟨G', h1, h2⟩ := zla r1 f [] [x] (fun y hy => absurd hy List.not_mem_nil) (fun y hy => r2 y hy) hg;cases h1;exact h2 y hy
end
end DN
namespace DN
open PySem L2 MF
section
variable {nd : Str -> Option (List Str)} {N : List Str}
theorem zjc (hN : ∀ y ws, nd y = some ws -> y ∈ N /\ ws.length <= 10) : ∀ (f : Nat) (g l : List Str), g.Nodup -> (∀ y ∈ g, y ∈ N) -> l.length + 11 * (N.length - g.length) + 1 <= f -> ∃ res, zfb nd f g l = some res
 | 0, g, l, _, _, h => by omega
 | f + 1, g, l, ng, hg, h => by
   unfold zfb;cases hx : l.getLast? with
   | none => exact ⟨_, rfl⟩
   | some x =>
     obtain ⟨q, rfl⟩ := List.getLast?_eq_some_iff.mp hx;simp only [List.dropLast_concat];simp only [List.length_append, List.length_singleton] at h;by_cases hxg : x ∈ g
     ·rw [if_pos hxg]
      exact zjc hN f g q ng hg (by omega)
     ·rw [if_neg hxg]
      cases e : nd x with
      | none => exact ⟨_, rfl⟩
      | some ws =>
        obtain ⟨h1, h2⟩ := hN x ws e;have lt := zgf (x :: g) N (List.nodup_cons.mpr ⟨hxg, ng⟩) fun y hy => by
         rcases List.mem_cons.mp hy with rfl | hy
         ·exact h1
         ·exact hg y hy
        simp only [List.length_cons] at lt;refine zjc hN f (g ++ [x]) (q ++ ws) (List.nodup_append.mpr ⟨ng, by simp, fun a ha b hb e => hxg (by rw [List.mem_singleton.mp hb] at e; exact e ▸ ha)⟩) (fun y hy => ?_) (by simp; omega);rcases List.mem_append.mp hy with hy | hy
        ·exact hg y hy
        ·rw [List.mem_singleton.mp hy]; exact h1
end
end DN
namespace DN
open PySem L2 MF
variable {c : Cl} {S : Sto}
def zcj (ps : List Pc) : List (Key × T) := ps.map fun p => (.inr p.nm, strL p.w2)
theorem zj9 {x : Str} : ∀ {ps : List Pc}, x ∉ ps.map (·.nm) -> valT (zcj ps) (.inr x) = none
 | [], _ => rfl
 | p :: ps, h => by
   have h1 : p.nm ≠ x := fun e => h (by simp [e]);have ih := zj9 (x := x) (ps := ps) fun q => h (by simp at q ⊢; exact .inr q);simp only [zcj, valT, List.map_cons, List.find?_cons] at ih ⊢;simp [h1] at ih ⊢;exact ih
theorem zmr {t0 t1 : Option T} {k : Nat} {st : Sto -> Prop} (hst : ∀ S, st S) : ∀ (qs acc : List Pc) {x3 : Option T} {S : Sto}, S[k]? = some (.dic (zcj acc)) -> ((acc ++ qs).map (·.nm)).Nodup -> (acc ++ qs).length <= 100 ->
  ∃ x3', zbt st (zat 3) (zcu c) (qs.map Pc.t) [t0, t1, some (.obj k), x3, none, none, none, none] S = .ok (.nx [t0, t1, some (.obj k), x3', none, none, none, none]) (S.set k (.dic (zcj (acc ++ qs))))
 | [], acc, x3, S, hk, _, _ => by
   refine ⟨x3, ?_⟩;have e : S.set k (.dic (zcj acc)) = S := by
    apply List.ext_getElem?;intro j;by_cases h : j = k
    ·subst h; rw [zdb hk, hk]
    ·rw [zad (Ne.symm h)]
   simp [zbt, hst, e]
 | q :: qs, acc, x3, S, hk, hn, hl => by
   have hq : q.nm ∉ acc.map (·.nm) := fun h => by
    rw [List.map_append, List.nodup_append] at hn;exact hn.2.2 q.nm h q.nm (by simp) rfl
   have e1 := zj9 hq;have pu : putT (zcj acc) (.inr q.nm) (strL q.w2) = zcj (acc ++ [q]) := by rw [zh4 e1]; simp [zcj]
   have gl : (zcj acc).length <= 900 := by simp [zcj]; simp at hl; omega
   have hb : zcu c [t0, t1, some (.obj k), some q.t, none, none, none, none] S = .ok (.nx [t0, t1, some (.obj k), some q.t, none, none, none, none]) (S.set k (.dic (zcj (acc ++ [q])))) := by
    simp [zcu, Pc.t, keyT, hk, gl, pu]
   obtain ⟨x3', w⟩ := zmr hst qs (acc ++ [q]) (x3 := some q.t) (S := S.set k (.dic (zcj (acc ++ [q])))) (zdb hk) (by simpa using hn) (by simpa using hl);refine ⟨x3', ?_⟩;rw [List.set_set, List.append_assoc] at w;simp only [List.singleton_append] at w;simp [zbt, hst, zat, hb];exact w
end DN
namespace DN
open PySem L2 MF
variable {c : Cl} {S : Sto}
def ndP (ps : List Pc) (x : Str) : Option (List Str) := (ps.find? fun p => decide (p.nm = x)).map (·.w2)
theorem zms (x : Str) : ∀ (ps : List Pc), valT (zcj ps) (.inr x) = (ndP ps x).map strL
 | [] => rfl
 | p :: ps => by
   have ih := zms x ps;by_cases h : p.nm = x
   ·simp [zcj, valT, ndP, List.find?_cons, h]
   ·simp only [zcj, valT, ndP, List.map_cons, List.find?_cons] at ih ⊢
    simp [h] at ih ⊢;exact ih
theorem zmt {t0 t1 x3 t4 x5 : Option T} {k m : Nat} {ps : List Pc} {st : Sto -> Prop} (hst : ∀ S, st S) (ne : k ≠ m) (hw : ∀ p ∈ ps, p.w2.length <= 2) : ∀ (l acc : List Str) {x7 : Option T} {S : Sto}, S[k]? = some (.dic (zcj ps)) -> S[m]? = some (.lst (acc.map .str)) -> acc.length + 2 * l.length <= 900 ->
  match zc6 (ndP ps) l with
  | some more => ∃ x7', zbt st (zat 7) (zbd c) (l.map .str) [t0, t1, some (.obj k), x3, t4, x5, some (.obj m), x7] S = .ok (.nx [t0, t1, some (.obj k), x3, t4, x5, some (.obj m), x7']) (S.set m (.lst ((acc ++ more).map .str))) /\ more.length <= 2 * l.length
  | none => ∃ S', zbt st (zat 7) (zbd c) (l.map .str) [t0, t1, some (.obj k), x3, t4, x5, some (.obj m), x7] S = .ok (.rt .non) S' /\ ∀ j, j ≠ m -> S'[j]? = S[j]?
 | [], acc, x7, S, hk, hm, hl => by
   refine ⟨x7, ?_, by simp⟩;have e : S.set m (.lst (acc.map .str)) = S := by
    apply List.ext_getElem?;intro j;by_cases h : j = m
    ·subst h; rw [zdb hm, hm]
    ·rw [zad (Ne.symm h)]
   simp [zbt, hst, e]
 | y :: l, acc, x7, S, hk, hm, hl => by
   have v := zms y ps;unfold zc6;cases e : ndP ps y with
   | none =>
     rw [e] at v;refine ⟨S, ?_, fun _ _ => rfl⟩;simp [zbt, hst, zat, zbd, zb8, zdv, hk, keyT, v]
   | some ws =>
     rw [e] at v;have wl : ws.length <= 2 := by
      unfold ndP at e;obtain ⟨p, h1, h2⟩ := Option.map_eq_some_iff.mp e;rw [<- h2];exact hw p (List.mem_of_find?_eq_some h1)
     have ex := zsd (k := m) (y := strL ws) (us := ws.map .str) hm rfl (by simp at hl ⊢; omega);have hb : zbd c [t0, t1, some (.obj k), x3, t4, x5, some (.obj m), some (.str y)] S = .ok (.nx [t0, t1, some (.obj k), x3, t4, x5, some (.obj m), some (.str y)]) (S.set m (.lst (acc.map .str ++ ws.map .str))) := by
      simp [zbd, zb8, gDix, zdv, hk, keyT, v, zjk hm, ex]
     have e2 : (acc.map T.str ++ ws.map T.str) = (acc ++ ws).map .str := by simp
     rw [e2] at hb;have ih := zmt (t0 := t0) (t1 := t1) (x3 := x3) (t4 := t4) (x5 := x5) hst ne hw l (acc ++ ws) (x7 := some (.str y)) (S := S.set m (.lst ((acc ++ ws).map .str))) (by rw [zad (Ne.symm ne)]; exact hk) (zdb hm) (by simp at hl ⊢; omega);cases em : zc6 (ndP ps) l with
     | none =>
       rw [em] at ih;obtain ⟨S', w1, w2⟩ := ih;refine ⟨S', ?_, fun j hj => by rw [w2 j hj, zad (Ne.symm hj)]⟩;simp [zbt, hst, zat, hb];simpa using w1
     | some more =>
       rw [em] at ih;obtain ⟨x7', w1, w2⟩ := ih;refine ⟨x7', ?_, by simp; omega⟩;rw [List.set_set, List.append_assoc] at w1;simp [zbt, hst, zat, hb];simpa using w1
end DN
namespace DN
open PySem L2 MF
variable {c : Cl} {S : Sto}
theorem zta {t0 t1 x3 x5 x6 x7 : Option T} {k : Nat} {ps : List Pc} {found : List Str} (hw : ∀ p ∈ ps, p.w2.length <= 2) (hk : S[k]? = some (.dic (zcj ps))) (hf : ∀ more, zc6 (ndP ps) found = some more -> found.length <= 20) (hl : found.length <= 100) :
  match zc6 (ndP ps) found with
  | some more => ∃ x7', za1 c [t0, t1, some (.obj k), x3, some (strL found), x5, x6, x7] S = .ok (.nx [t0, t1, some (.obj k), x3, some (strL (zen (dedS (found ++ more)))), x5, some (.obj S.length), x7']) (S ++ [.lst (more.map .str)])
  | none => ∃ S', za1 c [t0, t1, some (.obj k), x3, some (strL found), x5, x6, x7] S = .ok (.rt .non) S' /\ ∀ j, j < S.length -> S'[j]? = S[j]? := by
 have klt : k < S.length := (List.getElem?_eq_some_iff.mp hk).1;have hk1 : (S ++ [Cell.lst []])[k]? = some (.dic (zcj ps)) := zba hk;have hm1 : (S ++ [Cell.lst []])[S.length]? = some (.lst (([] : List Str).map .str)) := by simp
 have L := zmt (c := c) (t0 := t0) (t1 := t1) (x3 := x3) (t4 := some (strL found)) (x5 := x5) (x7 := x7) (st := fun S' => zav S' (strL found) = some (found.map .str)) (fun _ => rfl) (Nat.ne_of_lt klt) hw found [] hk1 hm1 (by simp; omega);cases em : zc6 (ndP ps) found with
 | none =>
   rw [em] at L;obtain ⟨S', w1, w2⟩ := L;refine ⟨S', ?_, fun j hj => by rw [w2 j (Nat.ne_of_lt hj), List.getElem?_append_left hj]⟩;have f1 : sFor (iL (eVar 4)) (zat 7) (zbd c) [t0, t1, some (.obj k), x3, some (strL found), x5, some (.obj S.length), x7] (S ++ [.lst []]) = .ok (.rt .non) S' := by
    unfold sFor;simp only [zcd, x_iL, zl5, List.getElem?_cons_succ, List.getElem?_cons_zero];exact w1
   simp [za1, f1]
 | some more =>
   rw [em] at L;obtain ⟨x7', w1, w2⟩ := L;have fl := hf more em;refine ⟨x7', ?_⟩;have e1 : (S ++ [Cell.lst []]).set S.length (.lst (([] ++ more).map .str)) = S ++ [.lst (more.map .str)] := by simp
   rw [e1] at w1;have f1 : sFor (iL (eVar 4)) (zat 7) (zbd c) [t0, t1, some (.obj k), x3, some (strL found), x5, some (.obj S.length), x7] (S ++ [.lst []]) = .ok (.nx [t0, t1, some (.obj k), x3, some (strL found), x5, some (.obj S.length), x7']) (S ++ [.lst (more.map .str)]) := by
    unfold sFor;simp only [zcd, x_iL, zl5, List.getElem?_cons_succ, List.getElem?_cons_zero];exact w1
   have g1 : (S ++ [Cell.lst (more.map .str)])[S.length]? = some (.lst (more.map .str)) := by simp
   have ga : gAdd (strL found) (.obj S.length) (S ++ [.lst (more.map .str)]) = .ok (strL (found ++ more)) (S ++ [.lst (more.map .str)]) := by
    have e2 := zj1 g1;simp only [gAdd, strL, zv1, e2];rw [if_pos (by simp; omega)];simp
   have gs : ∀ S', zgo (strL (found ++ more)) S' = .ok (strL (zen (dedS (found ++ more)))) S' := fun S' => by
    have e3 : (zav S' (strL (found ++ more))).bind zfg = some (found ++ more) := zhc (found ++ more);unfold zgo;rw [e3];show (if (found ++ more).length < 64 then _ else _) = _;rw [if_pos (by simp; omega)];rfl
   generalize strL found = FT at f1 ga ⊢;generalize S ++ [Cell.lst (more.map .str)] = S2 at f1 ga ⊢;generalize strL (found ++ more) = AT at ga gs;simp [za1, f1, ga, gs]
end DN
namespace DN
open PySem L2 MF
variable {c : Cl} {S : Sto}
theorem zn3 {ps : List Pc} {y : Str} {ws : List Str} (h : ndP ps y = some ws) : y ∈ ps.map (·.nm) := by
 unfold ndP at h;obtain ⟨p, h1, _⟩ := Option.map_eq_some_iff.mp h;have : p.nm = y := by simpa using List.find?_some h1
 exact this ▸ List.mem_map_of_mem (List.mem_of_find?_eq_some h1)
theorem zpb {ps : List Pc} (hw : ∀ p ∈ ps, p.w2.length <= 2) : ∀ {l more : List Str}, zc6 (ndP ps) l = some more -> more.length <= 2 * l.length
 | [], more, h => by cases h; simp
 | y :: l, more, h => by
   unfold zc6 at h;cases e : ndP ps y with
   | none => simp [e] at h
   | some ws =>
     simp only [e, Option.map_eq_some_iff] at h;obtain ⟨m, h1, rfl⟩ := h;have ih := zpb hw h1;have wl : ws.length <= 2 := by
      unfold ndP at e;obtain ⟨p, h3, h4⟩ := Option.map_eq_some_iff.mp e;rw [<- h4];exact hw p (List.mem_of_find?_eq_some h3)
     simp;omega
theorem ztb : ∀ (l : List Str), (dedS l).length <= l.length
 | [] => Nat.le_refl _
 | x :: l => by
   unfold dedS;have := ztb l
   split
   ·simp; omega
   ·simp; omega
theorem zka {t0 t1 x3 : Option T} {k : Nat} {ps : List Pc} {st : Sto -> Prop} (hst : ∀ S, st S) (hw : ∀ p ∈ ps, p.w2.length <= 2) (hp : ps.length <= 20) : ∀ (ts : List T) (found : List Str) {x5 x6 x7 : Option T} {S : Sto}, S[k]? = some (.dic (zcj ps)) -> found.Nodup -> found.length <= 100 ->
  match clos (ndP ps) ts.length found with
  | some F => ∃ S' x5' x6' x7', zbt st (zat 5) (za1 c) ts [t0, t1, some (.obj k), x3, some (strL found), x5, x6, x7] S = .ok (.nx [t0, t1, some (.obj k), x3, some (strL F), x5', x6', x7']) S' /\ ∀ j, j < S.length -> S'[j]? = S[j]?
  | none => ∃ S', zbt st (zat 5) (za1 c) ts [t0, t1, some (.obj k), x3, some (strL found), x5, x6, x7] S = .ok (.rt .non) S' /\ ∀ j, j < S.length -> S'[j]? = S[j]?
 | [], found, x5, x6, x7, S, hk, nf, hl => ⟨S, x5, x6, x7, by simp [zbt, hst], fun _ _ => rfl⟩
 | t :: ts, found, x5, x6, x7, S, hk, nf, hl => by
   have klt : k < S.length := (List.getElem?_eq_some_iff.mp hk).1;have hf : ∀ more, zc6 (ndP ps) found = some more -> found.length <= 20 := fun more e => by
    have := zgf found (ps.map (·.nm)) nf fun y hy => by
     obtain ⟨ws, e1, _⟩ := (zet e).1 y hy;exact zn3 e1
    simp at this;omega
   have R := zta (c := c) (t0 := t0) (t1 := t1) (x3 := x3) (x5 := some t) (x6 := x6) (x7 := x7) hw hk hf hl;rw [List.length_cons, clos];cases em : zc6 (ndP ps) found with
   | none =>
     rw [em] at R;obtain ⟨S', w1, w2⟩ := R;exact ⟨S', by simp [zbt, hst, zat, w1], w2⟩
   | some more =>
     rw [em] at R;obtain ⟨x7', w1⟩ := R;have l1 := hf more em;have l2 := zpb hw em;have l3 : (zen (dedS (found ++ more))).length <= 100 := by
      rw [(zn2 _).length_eq];have := ztb (found ++ more);simp at this;omega
     have ih := zka (t0 := t0) (t1 := t1) (x3 := x3) hst hw hp ts (zen (dedS (found ++ more))) (x5 := some t) (x6 := some (.obj S.length)) (x7 := x7') (S := S ++ [.lst (more.map .str)]) (zba hk) (zj8 _) l3;have keep : ∀ {S' : Sto}, (∀ j, j < (S ++ [Cell.lst (more.map .str)]).length -> S'[j]? = (S ++ [Cell.lst (more.map .str)])[j]?) -> ∀ j, j < S.length -> S'[j]? = S[j]? := fun h j hj => by
      rw [h j (by simp; omega), List.getElem?_append_left hj]
     dsimp only;cases ec : clos (ndP ps) ts.length (zen (dedS (found ++ more))) with
     | none =>
       rw [ec] at ih;obtain ⟨S', w3, w4⟩ := ih;refine ⟨S', ?_, keep w4⟩;simp [zbt, hst, zat, w1];exact w3
     | some F =>
       rw [ec] at ih;obtain ⟨S', a, b, d, w3, w4⟩ := ih;refine ⟨S', a, b, d, ?_, keep w4⟩;simp [zbt, hst, zat, w1];exact w3
end DN
namespace DN
open PySem L2 MF
variable {c : Cl} {S : Sto}
theorem zn4 {f g : DS} {ρ r : Ev} {S S1 : Sto} (h : f ρ S = .ok (.nx r) S1) : sSeq f g ρ S = g r S1 := by rw [z00, zcd, h]
theorem z3a {f g : DS} {ρ : Ev} {t : T} {S S1 : Sto} (h : f ρ S = .ok (.rt t) S1) : sSeq f g ρ S = .ok (.rt t) S1 := by rw [z00, zcd, h]; rfl
theorem zmu {it : DI} {g : DG} {body : DS} {ts : List T} {st : Sto -> Prop} {ρ : Ev} {S S1 : Sto} (hit : it ρ S = .ok (ts, st) S1) : sFor it g body ρ S = zbt st g body ts ρ S1 := by
 unfold sFor;rw [zcd, hit]
theorem z1q {ps : List Pc} {t1 : Option T} (nd : (ps.map (·.nm)).Nodup) (hp : ps.length <= 13) :
  ∃ x3, sFor (iL (eVar 0)) (zat 3) (zcu c) [some (.lst (ps.map Pc.t)), t1, some (.obj S.length), none, none, none, none, none] (S ++ [.dic []]) = .ok (.nx [some (.lst (ps.map Pc.t)), t1, some (.obj S.length), x3, none, none, none, none]) (S ++ [.dic (zcj ps)]) := by
 have g0 : (S ++ [Cell.dic []])[S.length]? = some (.dic (zcj [])) := by simp [zcj]
 obtain ⟨x3, L1⟩ := zmr (c := c) (t0 := some (.lst (ps.map Pc.t))) (t1 := t1) (st := fun S' => zav S' (.lst (ps.map Pc.t)) = some (ps.map Pc.t)) (fun _ => rfl) ps [] (x3 := none) g0 (by simpa using nd) (by simp; omega);have eS : (S ++ [Cell.dic []]).set S.length (.dic (zcj ([] ++ ps))) = S ++ [.dic (zcj ps)] := by simp
 rw [eS] at L1;refine ⟨x3, ?_⟩;unfold sFor;simp only [zcd, x_iL, zl5, List.getElem?_cons_succ, List.getElem?_cons_zero];exact L1
theorem z1r {PL : List T} {n : Nat} (hl : PL.length = n) (hp : n <= 13) {t1 t2 t3 t4 t5 t6 t7 : Option T} {S : Sto} :
  iR1 (zab (e2 gAdd (e1 gLen (eVar 0)) (eC (.int 1))) aNil) [some (.lst PL), t1, t2, t3, t4, t5, t6, t7] S = .ok (zfh 0 (n + 1), fun _ => True) S := by
 have ha : zab (e2 gAdd (e1 gLen (eVar 0)) (eC (.int 1))) aNil [some (.lst PL), t1, t2, t3, t4, t5, t6, t7] S = .ok [.int ((PL.length : Int) + 1)] S := by simp
 obtain ⟨m, hm⟩ : ∃ m : Int, m = (PL.length : Int) + 1 := ⟨_, rfl⟩;rw [<- hm] at ha;have h1 : m.toNat = n + 1 := by omega
 have h2 : -1000000 <= m /\ m <= 1000000 := by omega
 rw [z21, zcd, ha];simp only [if_pos h2, h1]
theorem z1s {ps : List Pc} {t1 x3 : Option T} {nm : Str} (hp : ps.length <= 13) (hw : ∀ p ∈ ps, p.w2.length <= 2) :
  match clos (ndP ps) (ps.length + 1) [nm] with
  | some F => ∃ S' a b d, sFor (iR1 (zab (e2 gAdd (e1 gLen (eVar 0)) (eC (.int 1))) aNil)) (zat 5) (za1 c) [some (.lst (ps.map Pc.t)), t1, some (.obj S.length), x3, some (strL [nm]), none, none, none] (S ++ [.dic (zcj ps)]) = .ok (.nx [some (.lst (ps.map Pc.t)), t1, some (.obj S.length), x3, some (strL F), a, b, d]) S' /\ S'.take S.length = S
  | none => ∃ S', sFor (iR1 (zab (e2 gAdd (e1 gLen (eVar 0)) (eC (.int 1))) aNil)) (zat 5) (za1 c) [some (.lst (ps.map Pc.t)), t1, some (.obj S.length), x3, some (strL [nm]), none, none, none] (S ++ [.dic (zcj ps)]) = .ok (.rt .non) S' /\ S'.take S.length = S := by
 have g1 : (S ++ [Cell.dic (zcj ps)])[S.length]? = some (.dic (zcj ps)) := by simp
 have L2 := zka (c := c) (t0 := some (.lst (ps.map Pc.t))) (t1 := t1) (x3 := x3) (k := S.length) (st := fun _ => True) (fun _ => trivial) hw (by omega) (zfh 0 (ps.length + 1)) [nm] (x5 := none) (x6 := none) (x7 := none) g1 (by simp) (by simp);rw [zel] at L2;have kp : ∀ {S' : Sto}, (∀ j, j < (S ++ [Cell.dic (zcj ps)]).length -> S'[j]? = (S ++ [Cell.dic (zcj ps)])[j]?) -> S'.take S.length = S := fun h => zjb fun j hj => by rw [h j (by simp; omega), List.getElem?_append_left hj]
 have rg := z1r (PL := ps.map Pc.t) (n := ps.length) (by simp) hp (t1 := t1) (t2 := some (.obj S.length)) (t3 := x3) (t4 := some (strL [nm])) (t5 := none) (t6 := none) (t7 := none) (S := S ++ [.dic (zcj ps)]);cases ec : clos (ndP ps) (ps.length + 1) [nm] with
 | none =>
   rw [ec] at L2;obtain ⟨S', w1, w2⟩ := L2;refine ⟨S', ?_, kp w2⟩;exact (zmu rg).trans w1
 | some F =>
   rw [ec] at L2;obtain ⟨S', a, b, d, w1, w2⟩ := L2;refine ⟨S', a, b, d, ?_, kp w2⟩;exact (zmu rg).trans w1
theorem z1t {ps : List Pc} {t1 t2 x3 a b d : Option T} {F : List Str} (hp : ps.length <= 13) :
  zev 1 [4] (zdl c) (zat 0) (zdm c) (zdk c) finF [some (.lst (ps.map Pc.t)), t1, t2, x3, some (strL F), a, b, d] S = .ok (strL ((ps.map (·.nm)).filter fun y => decide (y ∈ F))) S := by
 have cc := zgm (ρ := [some (.lst (ps.map Pc.t)), t1, t2, x3, some (strL F), a, b, d]) (S := S) (js := [4]) (it := zdl c) (tc := zdm c) (te := zdk c) (ts := ps.map Pc.t) (st := fun S' => zav S' (.lst (ps.map Pc.t)) = some (ps.map Pc.t))
  (p := fun t => match t with | .tup (.str x :: _) => decide (x ∈ F) | _ => false) (f := fun t => match t with | .tup (.str x :: _) => .str x | _ => .non)
  (by simp [zdl]) rfl (by simp; omega) (fun t ht => by
   obtain ⟨p, _, rfl⟩ := List.mem_map.mp ht;simp [zdm, Pc.t]) (fun t ht _ => by
   obtain ⟨p, _, rfl⟩ := List.mem_map.mp ht;simp [zdk, Pc.t])
 have ef : ((ps.map Pc.t).filter (fun t => match t with | .tup (.str x :: _) => decide (x ∈ F) | _ => false)).map (fun t => match t with | .tup (.str x :: _) => T.str x | _ => .non) = ((ps.map (·.nm)).filter fun y => decide (y ∈ F)).map .str := by
  rw [List.filter_map, List.filter_map, List.map_map, List.map_map];rfl
 rw [ef] at cc;exact cc
theorem zu9 {ps : List Pc} {nm : Str} (nd : (ps.map (·.nm)).Nodup) (hp : ps.length <= 13) (hw : ∀ p ∈ ps, p.w2.length <= 2) :
  zcg c [.lst (ps.map Pc.t), .str nm] S = match clos (ndP ps) (ps.length + 1) [nm] with
   | some F => .ok (strL ((ps.map (·.nm)).filter fun y => decide (y ∈ F))) S
   | none => .ok .non S := by
 obtain ⟨x3, f1⟩ := z1q (c := c) (S := S) (t1 := some (.str nm)) nd hp;have f2 := z1s (c := c) (S := S) (t1 := some (.str nm)) (x3 := x3) (nm := nm) hp hw;cases ec : clos (ndP ps) (ps.length + 1) [nm] with
 | none =>
   rw [ec] at f2;obtain ⟨S', f2, tk⟩ := f2;refine zl7 (S' := S') (t := .non) ?_ tk (z04 _);generalize ps.map Pc.t = PL at f1 f2;have h1 : sSet 4 (eA lstF (zab (eVar 1) aNil)) [some (.lst PL), some (.str nm), some (.obj S.length), x3, none, none, none, none] (S ++ [.dic (zcj ps)]) = .ok (.nx [some (.lst PL), some (.str nm), some (.obj S.length), x3, some (strL [nm]), none, none, none]) (S ++ [.dic (zcj ps)]) := by simp [strL]
   have h0 : sSet 2 zhf [some (.lst PL), some (.str nm), none, none, none, none, none, none] S = .ok (.nx [some (.lst PL), some (.str nm), some (.obj S.length), none, none, none, none, none]) (S ++ [.dic []]) := by simp
   have e : zcf c [some (.lst PL), some (.str nm), none, none, none, none, none, none] S = .ok (.rt .non) S' := by
    unfold zcf;rw [zn4 h0, zn4 f1, zn4 h1, z3a f2]
   rw [zv0];show (match zcf c [some (.lst PL), some (.str nm), none, none, none, none, none, none] S with | .ok (.rt t) S' => R.ok t S' | .ok (.nx _) S' => .ok .non S' | .ok _ _ => .bad | .exc C fs S' => .exc C fs S' | .bad => .bad) = _;rw [e]
 | some F =>
   rw [ec] at f2;obtain ⟨S', a, b, d, f2, tk⟩ := f2;have cc := z1t (c := c) (S := S') (t1 := some (.str nm)) (t2 := some (.obj S.length)) (x3 := x3) (a := a) (b := b) (d := d) (F := F) hp;refine zl7 (S' := S') (t := strL ((ps.map (·.nm)).filter fun y => decide (y ∈ F))) ?_ tk (zse _);generalize strL ((ps.map (·.nm)).filter fun y => decide (y ∈ F)) = RT at cc;generalize ps.map Pc.t = PL at f1 f2 cc;have h1 : sSet 4 (eA lstF (zab (eVar 1) aNil)) [some (.lst PL), some (.str nm), some (.obj S.length), x3, none, none, none, none] (S ++ [.dic (zcj ps)]) = .ok (.nx [some (.lst PL), some (.str nm), some (.obj S.length), x3, some (strL [nm]), none, none, none]) (S ++ [.dic (zcj ps)]) := by simp [strL]
   have h0 : sSet 2 zhf [some (.lst PL), some (.str nm), none, none, none, none, none, none] S = .ok (.nx [some (.lst PL), some (.str nm), some (.obj S.length), none, none, none, none, none]) (S ++ [.dic []]) := by simp
   have e : zcf c [some (.lst PL), some (.str nm), none, none, none, none, none, none] S = .ok (.rt RT) S' := by
    unfold zcf;rw [zn4 h0, zn4 f1, zn4 h1, zn4 f2, z01, zcd, cc];rfl
   rw [zv0];show (match zcf c [some (.lst PL), some (.str nm), none, none, none, none, none, none] S with | .ok (.rt t) S' => R.ok t S' | .ok (.nx _) S' => .ok .non S' | .ok _ _ => .bad | .exc C fs S' => .exc C fs S' | .bad => .bad) = _;rw [e]
end DN
namespace DN
open PySem L2 MF
variable {c : Cl} {S : Sto}
def barP (names : List Str) (p : Pc) : Option Str := if names.contains p.nm then p.w3.find? (fun o => names.contains o) else none
def barL (names : List Str) : List Pc -> Option (Str × Str)
 | [] => none
 | p :: ps => match barP names p with
   | some b => some (p.nm, b)
   | none => barL names ps
theorem zwg {t0 : Option T} {names : List Str} {p : Pc} {st : Sto -> Prop} (hst : st S) : ∀ (l : List Str) {x3 : Option T},
  match l.find? (fun o => names.contains o) with
  | some b => zbt st (zat 3) (za2 c) (l.map .str) [t0, some (strL names), some p.t, x3] S = .ok (.rt (.tup [.str p.nm, .str b])) S
  | none => ∃ x3', zbt st (zat 3) (za2 c) (l.map .str) [t0, some (strL names), some p.t, x3] S = .ok (.nx [t0, some (strL names), some p.t, x3']) S
 | [], x3 => ⟨x3, by simp [zbt, hst]⟩
 | y :: l, x3 => by
   have i0 : ∀ S, gIx p.t (.int 0) S = .ok (.str p.nm) S := fun S => by simp [Pc.t]
   rw [List.find?_cons];by_cases h : names.contains y = true
   ·have hb : za2 c [t0, some (strL names), some p.t, some (.str y)] S = .ok (.rt (.tup [.str p.nm, .str y])) S := by
     generalize p.t = PT at i0;simp only [za2, x_if, zug, zcd, x_e2, zl5, List.getElem?_cons_succ, List.getElem?_cons_zero, zuh, h, zkt, if_true, z01, x_eA, zx2, i0, x_c, z0y, z0x, z0z];simp
    simp only [h];simp [zbt, hst, zat, hb]
   ·have h' : names.contains y = false := by simpa using h
    have hb : za2 c [t0, some (strL names), some p.t, some (.str y)] S = .ok (.nx [t0, some (strL names), some p.t, some (.str y)]) S := by
     simp only [za2, x_if, zug, zcd, x_e2, zl5, List.getElem?_cons_succ, List.getElem?_cons_zero, zuh, h', zkt, if_false, x_nx];rfl
    have ih := zwg (t0 := t0) (names := names) (p := p) hst l (x3 := some (.str y));simp only [h'];cases e : l.find? (fun o => names.contains o) with
    | some b =>
      rw [e] at ih;simp [zbt, hst, zat, hb];exact ih
    | none =>
      rw [e] at ih;obtain ⟨x3', w⟩ := ih;refine ⟨x3', ?_⟩;simp [zbt, hst, zat, hb];exact w
theorem ztc {t0 : Option T} {names : List Str} {st : Sto -> Prop} (hst : st S) : ∀ (ps : List Pc) {x2 x3 : Option T},
  match barL names ps with
  | some (a, b) => zbt st (zat 2) (za3 c) (ps.map Pc.t) [t0, some (strL names), x2, x3] S = .ok (.rt (.tup [.str a, .str b])) S
  | none => ∃ x2' x3', zbt st (zat 2) (za3 c) (ps.map Pc.t) [t0, some (strL names), x2, x3] S = .ok (.nx [t0, some (strL names), x2', x3']) S
 | [], x2, x3 => ⟨x2, x3, by simp [zbt, hst]⟩
 | p :: ps, x2, x3 => by
   have i0 : ∀ S, gIx p.t (.int 0) S = .ok (.str p.nm) S := fun S => by simp [Pc.t]
   have i3 : ∀ S, gIx p.t (.int 3) S = .ok (.lst [strL p.w0, strL p.w1, strL p.w2, strL p.w3]) S := fun S => by simp [Pc.t]
   have ih := fun x3 => ztc (t0 := t0) (names := names) hst ps (x2 := some p.t) (x3 := x3);have goOn : ∀ {x3' : Option T}, za3 c [t0, some (strL names), some p.t, x3] S = .ok (.nx [t0, some (strL names), some p.t, x3']) S -> barP names p = none ->
    match barL names (p :: ps) with
    | some (a, b) => zbt st (zat 2) (za3 c) ((p :: ps).map Pc.t) [t0, some (strL names), x2, x3] S = .ok (.rt (.tup [.str a, .str b])) S
    | none => ∃ x2' x3', zbt st (zat 2) (za3 c) ((p :: ps).map Pc.t) [t0, some (strL names), x2, x3] S = .ok (.nx [t0, some (strL names), x2', x3']) S := fun {x3'} hb hn => by
    have ih := ih x3';simp only [barL, hn];cases e : barL names ps with
    | some q =>
      obtain ⟨a, b⟩ := q;rw [e] at ih;simp only [List.map_cons, zbt, hst, if_true, zat, List.set_cons_succ, List.set_cons_zero, zcd, hb];exact ih
    | none =>
      rw [e] at ih;obtain ⟨a, b, w⟩ := ih;refine ⟨a, b, ?_⟩;simp only [List.map_cons, zbt, hst, if_true, zat, List.set_cons_succ, List.set_cons_zero, zcd, hb];exact w
   by_cases h : names.contains p.nm = true
   ·have il : iL (e2 gIx (e2 gIx (eVar 2) (eC (.int 3))) (eC (.int 3))) [t0, some (strL names), some p.t, x3] S = .ok (p.w3.map .str, fun S' => zav S' (strL p.w3) = some (p.w3.map .str)) S := by
     simp only [x_iL, zcd, x_e2, zl5, List.getElem?_cons_succ, List.getElem?_cons_zero, x_c, i3, z2y, z2z];rfl
    have bi := zwg (c := c) (S := S) (t0 := t0) (names := names) (p := p) (st := fun S' => zav S' (strL p.w3) = some (p.w3.map .str)) rfl p.w3 (x3 := x3);have hb0 : za3 c [t0, some (strL names), some p.t, x3] S = zbt (fun S' => zav S' (strL p.w3) = some (p.w3.map .str)) (zat 3) (za2 c) (p.w3.map .str) [t0, some (strL names), some p.t, x3] S := by
     simp only [za3, x_if, zug, zcd, x_e2, zl5, List.getElem?_cons_succ, List.getElem?_cons_zero, x_c, i0, zuh, h, zkt, if_true];exact zmu il
    cases e : p.w3.find? (fun o => names.contains o) with
    | some b =>
      rw [e] at bi;have bi : zbt (fun S' => zav S' (strL p.w3) = some (p.w3.map .str)) (zat 3) (za2 c) (p.w3.map .str) [t0, some (strL names), some p.t, x3] S = .ok (.rt (.tup [.str p.nm, .str b])) S := bi;rw [bi] at hb0;have hp : barP names p = some b := by simp only [barP, h, if_true, e]
      simp only [barL, hp];simp only [List.map_cons, zbt, hst, if_true, zat, List.set_cons_succ, List.set_cons_zero, zcd, hb0];rfl
    | none =>
      rw [e] at bi;obtain ⟨x3', bi⟩ := bi;rw [bi] at hb0;exact goOn hb0 (by simp only [barP, h, if_true, e])
   ·have h' : names.contains p.nm = false := by simpa using h
    exact goOn (x3' := x3) (by
     simp only [za3, x_if, zug, zcd, x_e2, zl5, List.getElem?_cons_succ, List.getElem?_cons_zero, x_c, i0, zuh, h', zkt];rfl) (by unfold barP; rw [if_neg h])
theorem zva {ps : List Pc} {names : List Str} : zb2 c [.lst (ps.map Pc.t), strL names] S = .ok (match barL names ps with | some (a, b) => .tup [.str a, .str b] | none => .non) S := by
 have b := ztc (c := c) (S := S) (t0 := some (.lst (ps.map Pc.t))) (names := names) (st := fun S' => zav S' (.lst (ps.map Pc.t)) = some (ps.map Pc.t)) rfl ps (x2 := none) (x3 := none);have il : iL (eVar 0) [some (.lst (ps.map Pc.t)), some (strL names), none, none] S = .ok (ps.map Pc.t, fun S' => zav S' (.lst (ps.map Pc.t)) = some (ps.map Pc.t)) S := by simp
 cases e : barL names ps with
 | some q =>
   obtain ⟨x, y⟩ := q;rw [e] at b;have b := (zmu il).trans b;generalize strL names = NT at b ⊢;generalize ps.map Pc.t = PL at b ⊢;simp [zb2, zfp, b]
 | none =>
   rw [e] at b;obtain ⟨x, y, b⟩ := b;have b := (zmu il).trans b;generalize strL names = NT at b ⊢;generalize ps.map Pc.t = PL at b ⊢;simp [zb2, zfp, b]
theorem zmv {α : Type} {q : α -> Bool} : ∀ (l : List α), (l.filter q).head? = l.find? q
 | [] => rfl
 | a :: l => by
   rw [List.filter_cons, List.find?_cons];by_cases h : q a = true
   ·simp [h]
   ·have h' : q a = false := by simpa using h
    simp [h', zmv l]
theorem zkb {names : List Str} : ∀ {ps : List Pc}, (∀ p ∈ ps, p.nm ∈ names -> ∀ z ∈ p.w2, z ∈ names) -> (zcv names (ps.map Pc.w)).head? = (barL names ps).map fun q => ⟨"bars", q.1, q.2⟩
 | [], _ => rfl
 | p :: ps, h => by
   have ih := zkb (names := names) (ps := ps) fun q hq => h q (.tail _ hq);have e1 : zcv names ((p :: ps).map Pc.w) = (if names.contains p.nm then zhn names p.nm p.w2 p.w3 else []) ++ zcv names (ps.map Pc.w) := by
    simp [zcv, Pc.w]
   rw [e1, List.head?_append, ih];by_cases hc : names.contains p.nm = true
   ·have hn : p.w2.filter (fun o => !names.contains o) = [] := by
     rw [List.filter_eq_nil_iff];intro z hz;have := h p (.head _) (by simpa using hc) z hz;simp [this]
    have e2 : (zhn names p.nm p.w2 p.w3).head? = (p.w3.find? fun o => names.contains o).map fun o => ⟨"bars", p.nm, o⟩ := by
     unfold zhn;rw [hn, List.map_nil, List.nil_append, List.head?_map, zmv]
    rw [if_pos hc, e2];have e3 : barP names p = p.w3.find? (fun o => names.contains o) := by simp only [barP, hc, if_true]
    simp only [barL, e3];cases p.w3.find? (fun o => names.contains o) <;> simp
   ·rw [if_neg hc]
    have e3 : barP names p = none := by
     unfold barP;rw [if_neg hc]
    simp only [barL, e3];simp
end DN
namespace DN
open PySem L2 MF
variable {c : Cl} {S : Sto}
theorem zqc {h : Nat} {nm : Str} {N : List Str} (e : zbc c [.obj h, .str nm] S = .ok (strL N) S) : zbz c [.obj h, .str nm] S = .ok (.tup [.str "names", strL N]) S := by
 generalize strL N = NT at e;simp [zbz, zf1, zdo, e, dTry]
theorem zqd {h : Nat} {nm : Str} (nd : [c.noPiece, c.barred].Nodup) (e : zbc c [.obj h, .str nm] S = .exc c.noPiece none S) : zbz c [.obj h, .str nm] S = .ok (.tup [.str "piece", .bl true]) (S ++ [.exc c.noPiece none]) := by
 have ne : c.noPiece ≠ c.barred := by simpa using nd
 have e1 : subL [c.noPiece, c.barred] c.barred c.noPiece = some false := by simp [subL, ne]
 have e2 : subH [c.noPiece, c.barred] c.noPiece = some true := by simp [subH]
 have e3 : subL [c.noPiece, c.barred] c.noPiece c.noPiece = some true := by simp [subL]
 have g : (S ++ [Cell.exc c.noPiece none])[S.length]? = some (.exc c.noPiece none) := by simp
 have b2 : zfq c [some (.obj h), some (.str nm), none, some (.obj S.length)] (S ++ [.exc c.noPiece none]) = .ok (.nx [some (.obj h), some (.str nm), some (.tup [.str "piece", .bl true]), some (.obj S.length)]) (S ++ [.exc c.noPiece none]) := by
  simp [zfq, gIsX, g, e2, e3, eAnd]
 simp [zbz, zf1, zdo, e, hdAs, e1, e2, msk, b2, zuj, MF.unI]
theorem zn5 {h : Nat} {nm a b : Str} (nd : [c.noPiece, c.barred].Nodup) (e : zbc c [.obj h, .str nm] S = .exc c.barred (some [("one", .str a), ("other", .str b)]) S) : zbz c [.obj h, .str nm] S = .ok (.tup [.str "barred", .tup [.str a, .str b], .bl true]) (S ++ [.exc c.barred (some [("one", .str a), ("other", .str b)])]) := by
 have ne : c.barred ≠ c.noPiece := fun q => by simp [q] at nd
 have e1 : subL [c.noPiece, c.barred] c.barred c.barred = some true := by simp [subL]
 have e2 : subH [c.noPiece, c.barred] c.barred = some true := by simp [subH]
 have e3 : subL [c.noPiece, c.barred] c.noPiece c.barred = some false := by simp [subL, ne]
 have g : (S ++ [Cell.exc c.barred (some [("one", .str a), ("other", .str b)])])[S.length]? = some (.exc c.barred (some [("one", .str a), ("other", .str b)])) := by simp
 have b2 : zfr c [some (.obj h), some (.str nm), none, some (.obj S.length)] (S ++ [.exc c.barred (some [("one", .str a), ("other", .str b)])]) = .ok (.nx [some (.obj h), some (.str nm), some (.tup [.str "barred", .tup [.str a, .str b], .bl true]), some (.obj S.length)]) (S ++ [.exc c.barred (some [("one", .str a), ("other", .str b)])]) := by
  simp [zfr, gIsX, gXat, g, e2, e3, eAnd, List.lookup_cons]
 simp [zbz, zf1, zdo, e, hdAs, e1, e2, msk, b2, zuj, MF.unI]
theorem ztd {hps : List HP} {ps : List Pc} (h : hps.map HP.core = ps.map Pc.full) : zdq hps = ndP ps := by
 funext x;have e1 : zdq hps x = ((hps.map HP.core).find? (fun q : Core => decide (q.1 = x))).map (fun q => q.2.2.2.2.2.2.2.1) := by
  rw [List.find?_map, Option.map_map]; rfl
 have e2 : ndP ps x = ((ps.map Pc.full).find? (fun q : Core => decide (q.1 = x))).map (fun q => q.2.2.2.2.2.2.2.1) := by
  rw [List.find?_map, Option.map_map]; rfl
 rw [e1, e2, h]
theorem zvb : PyData.strOk (Str.ofString "piece") = true := by decide +kernel
theorem zte : PyData.strOk (Str.ofString "barred") = true := by decide +kernel
theorem zvc : gEq (.tup [.str "piece", .bl true]) (.tup [.str "piece", .bl true]) S = .ok (.bl true) S := by
 have e : pdS S (.tup [.str "piece", .bl true]) = some (.tuple [.str "piece", .bool true]) := by simp [pdS, pd, pds]
 have t : toV (.tup [.str "piece", .bl true]) = none := rfl;have k : PyData.canLay0 (.tuple [.str "piece", .bool true]) = true := by
  have := zvb;simp [PyData.canLay0, PyData.canLayAll0, this]
 have := zo7 (.inl t) e e k k (by decide);simp [gEq, this, PyData.eqv, PyData.eqvAll]
theorem ztf {a b : Str} (ha : okN a) (hb : okN b) : gEq (.tup [.str "barred", .tup [.str a, .str b], .bl true]) (.tup [.str "barred", .tup [.str a, .str b], .bl true]) S = .ok (.bl true) S := by
 have e : pdS S (.tup [.str "barred", .tup [.str a, .str b], .bl true]) = some (.tuple [.str "barred", .tuple [.str a, .str b], .bool true]) := by simp [pdS, pd, pds]
 have t : toV (.tup [.str "barred", .tup [.str a, .str b], .bl true]) = none := rfl;have k : PyData.canLay0 (.tuple [.str "barred", .tuple [.str a, .str b], .bool true]) = true := by
  have := zte;unfold okN at ha hb;simp [PyData.canLay0, PyData.canLayAll0, this, ha, hb]
 have := zo7 (.inl t) e e k k (by simp [PyData.depth, PyData.depthAll]);simp [gEq, this, PyData.eqv, PyData.eqvAll]
end DN
namespace DN
open PySem L2 MF
variable {c : Cl} {S : Sto}
structure zmw (ps : List Pc) : Prop where
 n : ∀ p ∈ ps, (reprText p.nm).length <= 30
 w : ∀ p ∈ ps, ∀ x, x ∈ p.w2 \/ x ∈ p.w3 -> (reprText x).length <= 30
theorem zyk {x many : Int} (h0 : 0 < many) (h1 : many <= 26) : ∀ z ∈ zf4 x many, (reprText z).length <= 30 := by
 have q : ∀ k : Int, (reprText (zci (k % many))).length <= 30 := fun k => by
  have a := Int.emod_nonneg k (show many ≠ 0 by omega);have b := Int.emod_lt_of_pos k h0;have := zn1 (k % many).toNat (by omega);rwa [Int.toNat_of_nonneg a] at this
 intro z hz;unfold zf4 at hz
 split at hz
 ·cases hz
 ·split at hz
  ·simp only [List.mem_cons, List.not_mem_nil, or_false] at hz
   rcases hz with rfl | rfl <;> exact q _
  ·simp only [List.mem_singleton] at hz
   subst hz;exact q _
theorem z1u (ns : List Int) (start many : Int) (h0 : 0 <= many) (h1 : many <= 13) : zmw (pcs ns start many) := by
 refine ⟨zu6 ns start many h0 h1, fun p hp x hx => ?_⟩;obtain ⟨k, hk, rfl⟩ := List.mem_map.mp hp;rcases hx with h | h <;> exact zyk (by omega) (by omega) x h
def Pc.clr (p : Pc) : Pc := { p with w3 := [] }
theorem ztg {ps : List Pc} (D : Drawn ps) : Drawn (ps.map Pc.clr) := by
 refine ⟨?_, by rw [List.length_map]; exact D.len, fun p hp => ?_, fun p hp => ?_, fun p hp => ?_, fun p hp x hx => ?_⟩
 ·rw [List.map_map]; exact D.nd
 all_goals obtain ⟨q, hq, rfl⟩ := List.mem_map.mp hp
 ·exact D.pl q hq
 ·have := D.w q hq
  exact ⟨this.1, this.2.1, this.2.2.1, by simp [Pc.clr]⟩
 ·exact D.okn q hq
 ·rcases hx with h | h | h | h
  ·exact D.okw q hq x (.inl h)
  ·exact D.okw q hq x (.inr (.inl h))
  ·exact D.okw q hq x (.inr (.inr (.inl h)))
  ·simp [Pc.clr] at h
theorem zqe {ps : List Pc} (D : zmw ps) : zmw (ps.map Pc.clr) := by
 refine ⟨fun p hp => ?_, fun p hp x hx => ?_⟩
 all_goals obtain ⟨q, hq, rfl⟩ := List.mem_map.mp hp
 ·exact D.n q hq
 ·rcases hx with h | h
  ·exact D.w q hq x (.inl h)
  ·simp [Pc.clr] at h
theorem z3b {ps : List Pc} (hl : ps.length <= 13) {t0 t2 t3 t4 t5 t6 : Option T} : zev 1 [] (zd8 c) (zat 0) yesD (zd7 c) finF [t0, some (.lst (ps.map Pc.t)), t2, t3, t4, t5, t6] S = .ok (.lst ((ps.map Pc.clr).map Pc.t)) S := by
 have cc := zl6 (ρ := [t0, some (.lst (ps.map Pc.t)), t2, t3, t4, t5, t6]) (S := S) (js := []) (it := zd8 c) (te := zd7 c) (ts := ps.map Pc.t) (st := fun S' => zav S' (.lst (ps.map Pc.t)) = some (ps.map Pc.t))
  (f := fun t => match t with | .tup [a, b, d, .lst [e, f, g, _], h] => .tup [a, b, d, .lst [e, f, g, .lst []], h] | _ => .non)
  (by simp [zd8]) rfl (by simp; omega) (fun t ht => by
   obtain ⟨p, _, rfl⟩ := List.mem_map.mp ht;have cut : ∀ a b d e : T, cutT [a, b, d, e] none (some 3) = [a, b, d] := fun a b d e => rfl;simp [zd7, Pc.t, eSl, zxz, zx0, cut])
 rw [cc];simp only [List.map_map];rfl
def zmx (c : Cl) : DS := (sSeq (sIf (tst (e2 gIs (eVar 5) (eC .non))) (sRet (e2 gEq (eVar 4) (eA tupF (zab (eC (.str "piece")) (zab (eC (.bl true)) aNil))))) sNx) (sSeq (sSet 6 (zbu (lenF 2 (zb2 c)) [] (zab (eVar 1) (zab (eVar 5) aNil)))) (sSeq (sIf (tst (e2 zgk (eVar 6) (eC .non))) (sRet (e2 gEq (eVar 4) (eA tupF (zab (eC (.str "barred")) (zab (eVar 6) (zab (eC (.bl true)) aNil)))))) sNx) (sRet (eAnd (e2 gEq (e2 gIx (eVar 4) (eC (.int 0))) (eC (.str "names"))) (zbu (lenF 2 (zcy c)) [] (zab (e2 gIx (eVar 4) (eC (.int 1))) (zab (eVar 5) aNil))))))))
def zyl (c : Cl) : DS := (sSeq (sSet 2 (zbu (lenF 3 (zdg c)) [] (zab (eVar 1) (zab (eC (.str "all")) (zab (eC (.str "hold")) aNil))))) (sSeq (sSet 3 (zbu (lenF 1 (zbf c)) [] (zab (e2 (gI fMod) (zbu (lenF 2 (zam c)) [] (zab (eVar 0) (zab (eC (.int 1)) aNil))) (e2 gAdd (e1 gLen (eVar 1)) (eC (.int 1)))) aNil))) (sSeq (sSet 4 (zbu (lenF 2 (zbz c)) [] (zab (eVar 2) (zab (eVar 3) aNil)))) (sSeq (sSet 5 (zbu (lenF 2 (zcg c)) [] (zab (eVar 1) (zab (eVar 3) aNil)))) (zmx c)))))
def zym (c : Cl) : DS := (sSeq (sSet 1 (zbu (lenF 3 (zdn c)) [] (zab (eVar 0) (zab (eC (.int 2)) (zab (e2 (gI fMod) (zbu (lenF 2 (zam c)) [] (zab (eVar 0) (zab (eC (.int 0)) aNil))) (eC (.int 13))) aNil))))) (sSeq (sIf (tst (e2 (gI fGt) (e2 (gI fMod) (e2 (gI fDiv) (zbu (lenF 2 (zam c)) [] (zab (eVar 0) (zab (eC (.int 1)) aNil))) (eC (.int 16))) (eC (.int 3))) (eC (.int 0)))) (sSet 1 (zev 1 [] (zd8 c) (zat 0) yesD (zd7 c) finF)) sNx) (zyl c)))
theorem zkc : zi1 c = zym c := rfl
theorem zth {t0 t3 : Option T} {ps : List Pc} {nm : Str} {hps : List HP} {pl : List PlM} (nd : [c.noPiece, c.barred].Nodup) (H : zaq c S 0 pl hps) (hcore : hps.map HP.core = ps.map Pc.full) (D : Drawn ps) (DS : zmw ps) (smn : (reprText nm).length <= 30) :
  ∃ S' x4 x5, zbz c [.obj 0, .str nm] S = .ok x4 S' /\ zcg c [.lst (ps.map Pc.t), .str nm] S' = .ok x5 S' /\ zmx c [t0, some (.lst (ps.map Pc.t)), some (.obj 0), t3, some x4, some x5, none] S' = .ok (.rt (.bl true)) S' := by
 have hl := zu2 hcore;have dl := D.len;have en := ztd hcore;have enm := zu5 hcore;have hw : ∀ p ∈ hps, p.w2.length <= 10 /\ p.w3.length <= 10 := fun p hp => by
  obtain ⟨q, hq, e⟩ := zpa hcore hp;have w := D.w q hq;simp only [HP.core, Pc.full, Prod.mk.injEq] at e;obtain ⟨_, _, _, _, _, _, _, e2, e3⟩ := e;rw [e2, e3];omega
 have sm : ∀ x, zdq hps x = none -> ∀ p ∈ hps, x ∈ p.w2 -> Sm x := fun x _ p hp hx => by
  obtain ⟨q, hq, e⟩ := zpa hcore hp;simp only [HP.core, Pc.full, Prod.mk.injEq] at e;obtain ⟨_, _, _, _, _, _, _, e2, e3⟩ := e;rw [e2] at hx;have := DS.w q hq x (.inl hx);unfold Sm;omega
 have hN : ∀ y ws, ndP ps y = some ws -> y ∈ ps.map (·.nm) /\ ws.length <= 10 := fun y ws e => by
  refine ⟨zn3 e, ?_⟩;unfold ndP at e;obtain ⟨p, h3, h4⟩ := Option.map_eq_some_iff.mp e;rw [<- h4];have := (D.w p (List.mem_of_find?_eq_some h3)).2.2.1;omega
 obtain ⟨res, hg⟩ := zjc hN 200 [] [nm] .nil (fun y hy => absurd hy List.not_mem_nil) (by simp; omega);have bo := both (fun y ws e => (hN y ws e).1) hg;rw [List.length_map] at bo;have hg' : zfb (zdq hps) 200 [] [nm] = some res := by rw [en]; exact hg
 have smk : ∀ G, res = some G -> ∀ k ∈ zcv (zhs hps G) (hps.map HP.w), (reprText k.a).length <= 1000 /\ (reprText k.b).length <= 1000 := fun G _ k hk => by
  rw [zwf hcore] at hk;unfold zcv at hk;obtain ⟨q, hq, hk⟩ := List.mem_flatMap.mp hk;obtain ⟨p, hp, rfl⟩ := List.mem_map.mp hq;have n1 := DS.n p hp
  split at hk
  ·rcases List.mem_append.mp hk with hk | hk
   ·obtain ⟨o, ho, rfl⟩ := List.mem_map.mp hk
    have n2 := DS.w p hp o (.inl (List.mem_filter.mp ho).1);exact ⟨Nat.le_trans n1 (by decide), Nat.le_trans n2 (by decide)⟩
   ·obtain ⟨o, ho, rfl⟩ := List.mem_map.mp hk
    have n2 := DS.w p hp o (.inr (List.mem_filter.mp ho).1);exact ⟨Nat.le_trans n1 (by decide), Nat.le_trans n2 (by decide)⟩
  ·cases hk
 have ew := z1p H (by omega) hw sm (nm := nm) (fun _ => by unfold Sm; omega) (f := 200) (by omega) hg' smk;have ec := fun Z : Sto => zu9 (c := c) (S := Z) (nm := nm) D.nd dl (fun p hp => (D.w p hp).2.2.1);cases res with
 | none =>
   simp only at bo ew;rw [bo] at ec;have et := zqd nd ew;have eq := zvc (S := S ++ [.exc c.noPiece none]);refine ⟨_, _, _, et, ec _, ?_⟩;generalize ps.map Pc.t = PL;generalize S ++ [Cell.exc c.noPiece none] = S2 at eq ⊢;simp [zmx, gIs, zil, eq]
 | some G =>
   simp only at bo ew;obtain ⟨F, b1, b2⟩ := bo;rw [b1] at ec;have ec : ∀ Z : Sto, zcg c [.lst (ps.map Pc.t), .str nm] Z = .ok (strL ((ps.map (·.nm)).filter fun y => decide (y ∈ F))) Z := ec;have eN : zhs hps G = (ps.map (·.nm)).filter fun y => decide (y ∈ F) := by
    unfold zhs;rw [enm];refine List.filter_congr fun y _ => ?_;rw [decide_eq_decide];exact (b2 y).symm
   rw [eN, zwf hcore] at ew;generalize hnames : (ps.map (·.nm)).filter (fun y => decide (y ∈ F)) = names at ew ec;have hcl : ∀ p ∈ ps, p.nm ∈ names -> ∀ z ∈ p.w2, z ∈ names := fun p hp hn z hz => by
    obtain ⟨_, _, g3⟩ := zlb 200 [] [nm] (fun y hy => absurd hy List.not_mem_nil) hg;rw [<- hnames] at hn ⊢;have hnF : p.nm ∈ F := by simpa using (List.mem_filter.mp hn).2
    obtain ⟨ws, e1, e2⟩ := g3 p.nm ((b2 _).mp hnF);have e3 : ndP ps p.nm = some p.w2 := by
     unfold ndP;have : ps.find? (fun q => decide (q.nm = p.nm)) = some p := by
      cases ef : ps.find? (fun q => decide (q.nm = p.nm)) with
      | none =>
        have := List.find?_eq_none.mp ef p hp;simp at this
      | some q =>
        have q1 := List.mem_of_find?_eq_some ef;have q2 : q.nm = p.nm := by simpa using List.find?_some ef
        rw [z1o D.nd q q1 p hp q2]
     rw [this]; rfl
    rw [e3] at e1;cases e1;have zG := e2 z hz;obtain ⟨us, e4, _⟩ := g3 z zG;exact List.mem_filter.mpr ⟨zn3 e4, by simpa using (b2 z).mpr zG⟩
   have lh := zkb hcl;have eb := fun Z : Sto => zva (c := c) (S := Z) (ps := ps) (names := names);have lok := zu4 D names;cases eL : zcv names (ps.map Pc.w) with
   | nil =>
     rw [eL] at ew lh;have et := zqc ew;cases ebl : barL names ps with
     | some q => rw [ebl] at lh; simp at lh
     | none =>
       rw [ebl] at eb;have nl : names.length <= 1000 := by
        rw [<- hnames];have := List.length_filter_le (fun y => decide (y ∈ F)) (ps.map (·.nm));rw [List.length_map] at this;omega
       have tx := zyd (c := c) (S := S) names nl;refine ⟨_, _, _, et, ec _, ?_⟩;have ne : gIs (strL names) .non S = .ok (.bl false) S := by simp [gIs, zil, strL]
       have eb := eb S;generalize strL names = NT at tx eb ne ⊢;generalize ps.map Pc.t = PL at eb ⊢;simp [zmx, ne, eb, zgk, zil, tx, eAnd]
   | cons k ks =>
     have lk := lok k (by rw [eL]; simp);rw [eL] at ew lh;cases ebl : barL names ps with
     | none => rw [ebl] at lh; simp at lh
     | some q =>
       rw [ebl] at lh eb;simp only [List.head?_cons, Option.map_some, Option.some.injEq] at lh;have et := zn5 nd ew;have ka : k.a = q.1 := by rw [lh]
       have kb : k.b = q.2 := by rw [lh]
       rw [ka, kb] at et;have eq := ztf (S := S ++ [.exc c.barred (some [("one", .str q.1), ("other", .str q.2)])]) (a := q.1) (b := q.2) (ka ▸ lk.2.1) (kb ▸ lk.2.2);refine ⟨_, _, _, et, ec _, ?_⟩;generalize S ++ [Cell.exc c.barred (some [("one", .str q.1), ("other", .str q.2)])] = S2 at eq ⊢;have ne : gIs (strL names) .non S2 = .ok (.bl false) S2 := by simp [gIs, zil, strL]
       have eb : zb2 c [.lst (ps.map Pc.t), strL names] S2 = .ok (.tup [.str q.1, .str q.2]) S2 := eb S2;generalize strL names = NT at eb ne ⊢;generalize ps.map Pc.t = PL at eb ⊢;simp [zmx, ne, eb, zgk, zil, eq]
theorem zpc {ns : List Int} {ps : List Pc} (nd : [c.noPiece, c.barred].Nodup) (D : Drawn ps) (DS : zmw ps) :
  ∃ S', zyl c [some (.lst (ns.map .int)), some (.lst (ps.map Pc.t)), none, none, none, none, none] [] = .ok (.rt (.bl true)) S' := by
 have dl := D.len;obtain ⟨S1, hps, eH, H, hcore, -⟩ := zqb (c := c) (S := []) (kind := "all") (rule := "hold") D.nd (by omega) D.pl (fun p hp => by have := D.w p hp; omega);have c1 : zam c [.lst (ns.map .int), .int 1] S1 = .ok (.int (cellAt ns 1)) S1 := zo2 ns 1 (by decide);have q1 : (0 : Int) < (ps.length : Int) + 1 := by omega
 have q2 : (ps.length : Int) + 1 <= 26 := by omega
 have en := zo3 (c := c) (S := S1) (cellAt ns 1 % ((ps.length : Int) + 1));have smn : (reprText (zci (cellAt ns 1 % ((ps.length : Int) + 1)))).length <= 30 := by
  have a := Int.emod_nonneg (cellAt ns 1) (show (ps.length : Int) + 1 ≠ 0 by omega);have b := Int.emod_lt_of_pos (cellAt ns 1) q1;have := zn1 (cellAt ns 1 % ((ps.length : Int) + 1)).toNat (by omega);rwa [Int.toNat_of_nonneg a] at this
 have hlen : ((ps.map Pc.t).length : Int) = ps.length := by simp
 generalize zci (cellAt ns 1 % ((ps.length : Int) + 1)) = nm at en smn;obtain ⟨S', x4, x5, e4, e5, et⟩ := zth (c := c) (t0 := some (.lst (ns.map .int))) (t3 := some (.str nm)) (nm := nm) nd H hcore D DS smn;refine ⟨S', ?_⟩;generalize ps.map Pc.t = PL at eH e5 et hlen ⊢;generalize ns.map T.int = NS at c1 et ⊢;rw [<- hlen] at en q1;simp [zyl, eH, c1, q1, en, e4, e5, et]
theorem z3c (nd : [c.noPiece, c.barred].Nodup) (ns : List Int) : ∃ S', zme c [.lst (ns.map .int)] [] = .ok (.bl true) S' := by
 have h0 := Int.emod_nonneg (cellAt ns 0) (show (13 : Int) ≠ 0 by decide);have h1 := Int.emod_lt_of_pos (cellAt ns 0) (show (0 : Int) < 13 by decide);have D := drawn ns 2 (cellAt ns 0 % 13) h0 (by omega);have DS := z1u ns 2 (cellAt ns 0 % 13) h0 (by omega);have eP := zur (c := c) (S := []) ns 2 (cellAt ns 0 % 13) (by decide) h0 (by omega);have c0 := zo2 (c := c) (S := []) ns 0 (by decide);have c1 := zo2 (c := c) (S := []) ns 1 (by decide);generalize pcs ns 2 (cellAt ns 0 % 13) = ps at D DS eP;have dl := D.len;show ∃ S', runD 7 (zi1 c) [.lst (ns.map .int)] [] = .ok (.bl true) S';by_cases hc : 0 < cellAt ns 1 / 16 % 3
 ·obtain ⟨S', e⟩ := zpc (c := c) (ns := ns) nd (ztg D) (zqe DS)
  have cl := z3b (c := c) (S := []) (ps := ps) dl (t0 := some (.lst (ns.map .int))) (t2 := none) (t3 := none) (t4 := none) (t5 := none) (t6 := none);refine ⟨S', ?_⟩;generalize (ps.map Pc.clr).map Pc.t = QL at e cl;generalize ps.map Pc.t = PL at eP cl;generalize ns.map T.int = NS at c0 c1 eP e cl ⊢;simp [zkc, zym, c0, c1, eP, hc, cl, e]
 ·obtain ⟨S', e⟩ := zpc (c := c) (ns := ns) nd D DS
  refine ⟨S', ?_⟩;generalize ps.map Pc.t = PL at eP e;generalize ns.map T.int = NS at c0 c1 eP e ⊢;simp [zkc, zym, c0, c1, eP, hc, e]
end DN
namespace K10
open PySem L2 MF DN
local macro_rules | `(tactic| walk_at "1") => `(tactic| (intro _ _ _ _ _ _ us hl; obtain ⟨a0, e⟩ := len1 hl; subst e; rfl))
local macro_rules | `(tactic| walk_at "2") => `(tactic| (intro _ _ _ _ _ _ us hl; obtain ⟨a0, a1, e⟩ := len2 hl; subst e; rfl))
local macro_rules | `(tactic| walk_at "3") => `(tactic| (intro _ _ _ _ _ _ us hl; obtain ⟨a0, a1, a2, e⟩ := len3 hl; subst e; rfl))
local macro_rules | `(tactic| walk_at "4") => `(tactic| (intro _ _ _ _ _ _ us hl; obtain ⟨a0, a1, a2, a3, e⟩ := len4 hl; subst e; rfl))
theorem zjp {K : W.Frag} {T : Addr} {oc : Value} {od an : Option Addr} {sl : Array (Option Value)} {n : Nat} {kV dc pm cd ct : Value} (l : K.lookup T = some ⟨oc, od, .seq #[.none] n, sl⟩) : zeg K (W.fnOf "hang" "Hall.hang" (zao za7) (zan za7) (zac za7) (.ref T) kV dc pm an cd ct) ["self", "name", "place", "deed", "by"] [] := fun s us X hl => by
 obtain ⟨_, _, _, _, _, rfl⟩ := len5 (show us.length = 5 by simpa using hl);exact W.binds_K X rfl l rfl rfl rfl
theorem zjq {K : W.Frag} {T : Addr} {oc : Value} {od an : Option Addr} {sl : Array (Option Value)} {n : Nat} {kV dc pm cd ct : Value} (l : K.lookup T = some ⟨oc, od, .seq #[.none] n, sl⟩) : zeg K (W.fnOf "hang" "Hall.hang" (zao za7) (zan za7) (zac za7) (.ref T) kV dc pm an cd ct) ["self", "name", "place", "deed", "by"] [.none] := fun s us X hl => by
 obtain ⟨_, _, _, _, rfl⟩ := len4 (show us.length = 4 by simpa using hl);exact W.binds_K X rfl l rfl rfl rfl
theorem zjr {K : W.Frag} {T : Addr} {oc : Value} {od an : Option Addr} {sl : Array (Option Value)} {n : Nat} {kV dc pm cd ct : Value} (l : K.lookup T = some ⟨oc, od, .seq #[.none, .none, .none, .none] n, sl⟩) : zeg K (W.fnOf "wish" "Hall.wish" (zao zb3) (zan zb3) (zac zb3) (.ref T) kV dc pm an cd ct) ["self", "name", "ahead", "behind", "needs", "bars"] [] := fun s us X hl => by
 obtain ⟨_, _, _, _, _, _, rfl⟩ := len6 (show us.length = 6 by simpa using hl);exact W.binds_K X rfl l rfl rfl rfl
theorem all_mk {l : W.OpenLaw} {w : World} {K : W.Frag} {h : Heap} {mg : Str -> Option Value} {fa : Addr} {yj ya y07 y8 y11 y1q yr y1t y7 y3j y4w y4v y58 y43 y1j y19 y12 y0z y0y y18 y23 y4h y89 y27 y4b y2c y53 y32 y2q yay y0f y41 y50 y44 y3p y4a y5 : Addr} {y9d y91 yco ycd ycj ych yc8 yd2 y9y yad y81 y82 y7g y7d y62 y6e y5q y65 y6d y5l y6z y7a ybd y6h yaa ydg ydl yb7 y6u yau y99 y9e ybw ycu y83 y8j yaq y9u ydu ye1 y5w y5r yb6 yb1 yd8 yc3 y9o ya0 ya7 y9m ybb ybl yv yl : Option Addr} {y9c yc0 ycn yd5 yac y7p y73 y5o y66 y5u y7e ybe ya5 ydo ybj yap y92 yca y8f ya4 ydy y68 y9t ycw ya2 y9v ybk yt : Array (Option Value)} {y9h y98 y9i y97 y4o y96 yc5 yd1 yc2 ycx y7m yd7 yd3 ycy ycs yc6 y7n ycb ycp yd6 yck ycm y7w ycq yae y9n y9z yah y4s y9w y7s y7r y7q y7y y3m y7t y6x y7c y7b y7i y3c y75 y5z y5m y60 y6a y37 y64 y5v y61 y5i y5s y35 y5p y5k y5j y5n y5x y36 y5t y7j y74 y78 y7f y3f y77 ybf y6w y6v y6i y3r y6r yab ydj ydk ydr ydp yak ydn yb8 y6n y6g y6j y40 y6p ya9 y93 y95 y9b y9a y4p y9f yd0 yby ycz ycv y7o yc4 y8l y86 y8i y8t y46 y8o yax yav ya3 yal y5e yb2 ydt ye0 ydx ydw ybu ye2 y6f y5h y6b y69 y34 y5y y9p yat y9q y9j y5f yb5 ycf ycg yci ycr y7z yct y9s yas y9x yam y4t yb3 y9r y9l yao y9k y4u yag ybr ybm ybs ybg y6s ybt yu yk yn yo y6 ym : Value} {y8q y8e : Tok} {yb9 yba : Nat}
  (X : K.In h) (G : h.Ns mainGlobals mg) (hfa : mg "law" = some (.ref fa))
  (yan : W.nsIn K mainGlobals "Hall" = some (some (.ref yj)))
  (y85 : W.nsIn K mainGlobals "Piece" = some (some (.ref ya)))
  (y8m : W.nsIn K mainGlobals "Place" = some (some (.ref y07)))
  (y3u : W.nsIn K mainGlobals "HallError" = some (some (.ref y8)))
  (y3t : W.nsIn K mainGlobals "NameThere" = some (some (.ref y11)))
  (y5c : W.nsIn K mainGlobals "NoPlace" = some (some (.ref y1q)))
  (y4z : W.nsIn K mainGlobals "NoPiece" = some (some (.ref yr)))
  (y52 : W.nsIn K mainGlobals "TooMany" = some (some (.ref y1t)))
  (y71 : W.nsIn K mainGlobals "Barred" = some (some (.ref y7)))
  (y25 : W.nsIn K mainGlobals "_law_cell_at" = some (some (.ref y3j)))
  (y1b : K.lookup y3j = some ⟨y9h, y9d, .func (W.fnOf "_law_cell_at" "_law_cell_at" (zao zcl) (zan zcl) (zac zcl) .none y98 y9i y97 y91 y4o y96), y9c⟩)
  (y05 : W.codeIn K y4o "_law_cell_at" = true)
  (yx : W.keepIn K (.ref y3j) = true)
  (y2u : W.nsIn K mainGlobals "_law_name" = some (some (.ref y4w)))
  (y2t : K.lookup y4w = some ⟨yc5, yco, .func (W.fnOf "_law_name" "_law_name" (zao zdx) (zan zdx) (zac zdx) .none yd1 yc2 ycx ycd y7m yd7), yc0⟩)
  (y1f : W.codeIn K y7m "_law_name" = true)
  (y02 : W.keepIn K (.ref y4w) = true)
  (y4y : W.nsIn K mainGlobals "_law_some" = some (some (.ref y4v)))
  (y2v : K.lookup y4v = some ⟨yd3, ycj, .func (W.fnOf "_law_some" "_law_some" (zao zdy) (zan zdy) (zac zdy) .none ycy ycs yc6 ych y7n ycb), ycn⟩)
  (y1a : W.codeIn K y7n "_law_some" = true)
  (y1z : W.keepIn K (.ref y4v) = true)
  (y4q : W.nsIn K mainGlobals "_law_deed" = some (some (.ref y58)))
  (y2w : K.lookup y58 = some ⟨ycp, yc8, .func (W.fnOf "_law_deed" "_law_deed" (zao zdz) (zan zdz) (zac zdz) .none yd6 yck ycm yd2 y7w ycq), yd5⟩)
  (y1c : W.codeIn K y7w "_law_deed" = true)
  (y1y : W.keepIn K (.ref y58) = true)
  (y3q : W.nsIn K mainGlobals "_law_pieces" = some (some (.ref y43)))
  (y1m : K.lookup y43 = some ⟨yae, y9y, .func (W.fnOf "_law_pieces" "_law_pieces" (zao zc1) (zan zc1) (zac zc1) .none y9n y9z yah yad y4s y9w), yac⟩)
  (y0t : W.codeIn K y4s "_law_pieces" = true)
  (y16 : W.keepIn K (.ref y43) = true)
  (y2d : W.findIn K (.ref yj) "__init__" = some (some (.ref y1j)))
  (y2e : W.isFn K (.ref y1j) = true)
  (y0x : K.lookup y1j = some ⟨y7s, y81, .func (W.fnOf "__init__" "Hall.__init__" (zao zb0) (zan zb0) (zac zb0) .none y7r y7q y7y y82 y3m y7t), y7p⟩)
  (yp : W.codeIn K y3m "Hall.__init__" = true)
  (y0w : W.keepIn K (.ref y1j) = true)
  (y22 : W.findIn K (.ref y07) "__init__" = some (some (.ref y19)))
  (y2a : W.isFn K (.ref y19) = true)
  (y0m : K.lookup y19 = some ⟨y6x, y7g, .func (W.fnOf "__init__" "Place.__init__" (zao zbn) (zan zbn) (zac zbn) .none y7c y7b y7i y7d y3c y75), y73⟩)
  (yi : W.codeIn K y3c "Place.__init__" = true)
  (y0p : W.keepIn K (.ref y19) = true)
  (y1v : W.findIn K (.ref yj) "open_place" = some (some (.ref y12)))
  (y1s : W.isFn K (.ref y12) = true)
  (y0e : K.lookup y12 = some ⟨y5z, y62, .func (W.fnOf "open_place" "Hall.open_place" (zao zbg) (zan zbg) (zac zbg) .none y5m y60 y6a y6e y37 y64), y5o⟩)
  (yf : W.codeIn K y37 "Hall.open_place" = true)
  (ys : W.keepIn K (.ref y12) = true)
  (y1w : W.findIn K (.ref yj) "find_place" = some (some (.ref y0z)))
  (y1r : W.isFn K (.ref y0z) = true)
  (y03 : K.lookup y0z = some ⟨y5v, y5q, .func (W.fnOf "find_place" "Hall.find_place" (zao zbh) (zan zbh) (zac zbh) .none y61 y5i y5s y65 y35 y5p), y66⟩)
  (ye : W.codeIn K y35 "Hall.find_place" = true)
  (yq : W.keepIn K (.ref y0z) = true)
  (yc : W.findIn K (.ref yj) "find_piece" = some (some (.ref y0y)))
  (yg : W.isFn K (.ref y0y) = true)
  (y08 : K.lookup y0y = some ⟨y5k, y6d, .func (W.fnOf "find_piece" "Hall.find_piece" (zao zbi) (zan zbi) (zac zbi) .none y5j y5n y5x y5l y36 y5t), y5u⟩)
  (yd : W.codeIn K y36 "Hall.find_piece" = true)
  (y3 : W.keepIn K (.ref y0y) = true)
  (y2b : W.findIn K (.ref ya) "__init__" = some (some (.ref y18)))
  (y29 : W.isFn K (.ref y18) = true)
  (y0k : K.lookup y18 = some ⟨y7j, y6z, .func (W.fnOf "__init__" "Piece.__init__" (zao zbo) (zan zbo) (zac zbo) .none y74 y78 y7f y7a y3f y77), y7e⟩)
  (yh : W.codeIn K y3f "Piece.__init__" = true)
  (y0o : W.keepIn K (.ref y18) = true)
  (y4i : W.findIn K (.ref yj) "hang" = some (some (.ref y23)))
  (y4e : W.isFn K (.ref y23) = true)
  (y21 : K.lookup y23 = some ⟨ybf, ybd, .func (W.fnOf "hang" "Hall.hang" (zao za7) (zan za7) (zac za7) (.ref y4h) y6w y6v y6i y6h y3r y6r), ybe⟩)
  (y0n : W.codeIn K y3r "Hall.hang" = true)
  (y1h : W.keepIn K (.ref y23) = true)
  (yw : K.lookup y4h = some ⟨yab, yaa, .seq #[.none] yb9, ya5⟩)
  (y8p : W.nsIn K mainGlobals "wished" = some (some (.ref y89)))
  (y47 : K.lookup y89 = some ⟨ydj, ydg, .func (W.fnOf "wished" "wished" (zao zf2) (zan zf2) (zac zf2) .none ydk ydr ydp ydl yak ydn), ydo⟩)
  (y2n : W.codeIn K yak "wished" = true)
  (y38 : W.keepIn K (.ref y89) = true)
  (y4d : W.findIn K (.ref yj) "wish" = some (some (.ref y27)))
  (y4c : W.isFn K (.ref y27) = true)
  (y28 : K.lookup y27 = some ⟨yb8, yb7, .func (W.fnOf "wish" "Hall.wish" (zao zb3) (zan zb3) (zac zb3) (.ref y4b) y6n y6g y6j y6u y40 y6p), ybj⟩)
  (y0l : W.codeIn K y40 "Hall.wish" = true)
  (y1i : W.keepIn K (.ref y27) = true)
  (y00 : K.lookup y4b = some ⟨ya9, yau, .seq #[.none, .none, .none, .none] yba, yap⟩)
  (y3i : W.findIn K (.ref yj) "switch" = some (some (.ref y2c)))
  (y3d : W.isFn K (.ref y2c) = true)
  (y1d : K.lookup y2c = some ⟨y93, y99, .func (W.fnOf "switch" "Hall.switch" (zao zcm) (zan zcm) (zac zcm) .none y95 y9b y9a y9e y4p y9f), y92⟩)
  (y0g : W.codeIn K y4p "Hall.switch" = true)
  (y0v : W.keepIn K (.ref y2c) = true)
  (y4r : W.nsIn K mainGlobals "_law_hall" = some (some (.ref y53)))
  (y2x : K.lookup y53 = some ⟨yd0, ybw, .func (W.fnOf "_law_hall" "_law_hall" (zao zd0) (zan zd0) (zac zd0) .none yby ycz ycv ycu y7o yc4), yca⟩)
  (y1g : W.codeIn K y7o "_law_hall" = true)
  (y20 : W.keepIn K (.ref y53) = true)
  (y30 : W.nsIn K mainGlobals "gather_needs" = some (some (.ref y32)))
  (y13 : K.lookup y32 = some ⟨y8l, y83, .func (W.fnOf "gather_needs" "gather_needs" (zao zb6) (zan zb6) (zac zb6) .none y86 y8i y8t y8j y46 y8o), y8f⟩)
  (yy : W.codeIn K y46 "gather_needs" = true)
  (y0j : W.keepIn K (.ref y32) = true)
  (y2r : W.findIn K (.ref yj) "names" = some (some (.ref y2q)))
  (y2p : W.isFn K (.ref y2q) = true)
  (y1p : K.lookup y2q = some ⟨yax, yaq, .func (W.fnOf "names" "Hall.names" (zao zc2) (zan zc2) (zac zc2) .none yav ya3 yal y9u y5e yb2), ya4⟩)
  (y0u : W.codeIn K y5e "Hall.names" = true)
  (y01 : W.keepIn K (.ref y2q) = true)
  (yar : W.nsIn K mainGlobals "lacks" = some (some (.ref yay)))
  (y5d : K.lookup yay = some ⟨ydt, ydu, .func (W.fnOf "lacks" "lacks" (zao zg9) (zan zg9) (zac zg9) .none ye0 ydx ydw ye1 ybu ye2), ydy⟩)
  (y3b : W.codeIn K ybu "lacks" = true)
  (y49 : W.keepIn K (.ref yay) = true)
  (y3l : W.findIn K (.ref y7) "__init__" = some (some (.ref y0f)))
  (y1u : W.isFn K (.ref y0f) = true)
  (y06 : K.lookup y0f = some ⟨y6f, y5w, .func (W.fnOf "__init__" "Barred.__init__" (zao zbj) (zan zbj) (zac zbj) .none y5h y6b y69 y5r y34 y5y), y68⟩)
  (yb : W.codeIn K y34 "Barred.__init__" = true)
  (y09 : W.keepIn K (.ref y0f) = true)
  (y3s : W.nsIn K mainGlobals "with_needs" = some (some (.ref y41)))
  (y1o : K.lookup y41 = some ⟨y9p, yb6, .func (W.fnOf "with_needs" "with_needs" (zao zc3) (zan zc3) (zac zc3) .none yat y9q y9j yb1 y5f yb5), y9t⟩)
  (y0s : W.codeIn K y5f "with_needs" = true)
  (y17 : W.keepIn K (.ref y41) = true)
  (y59 : W.nsIn K mainGlobals "_law_told" = some (some (.ref y50)))
  (y2s : K.lookup y50 = some ⟨ycf, yd8, .func (W.fnOf "_law_told" "_law_told" (zao zd1) (zan zd1) (zac zd1) .none ycg yci ycr yc3 y7z yct), ycw⟩)
  (y1e : W.codeIn K y7z "_law_told" = true)
  (y1x : W.keepIn K (.ref y50) = true)
  (y42 : W.nsIn K mainGlobals "_law_closed" = some (some (.ref y44)))
  (y1n : K.lookup y44 = some ⟨y9s, y9o, .func (W.fnOf "_law_closed" "_law_closed" (zao zc4) (zan zc4) (zac zc4) .none yas y9x yam ya0 y4t yb3), ya2⟩)
  (y0q : W.codeIn K y4t "_law_closed" = true)
  (y15 : W.keepIn K (.ref y44) = true)
  (y3y : W.nsIn K mainGlobals "_law_barred" = some (some (.ref y3p)))
  (y1l : K.lookup y3p = some ⟨y9r, ya7, .func (W.fnOf "_law_barred" "_law_barred" (zao zc5) (zan zc5) (zac zc5) .none y9l yao y9k y9m y4u yag), y9v⟩)
  (y0r : W.codeIn K y4u "_law_barred" = true)
  (y14 : W.keepIn K (.ref y3p) = true)
  (y4f : W.nsIn K mainGlobals "_law_texts" = some (some (.ref y4a)))
  (y26 : K.lookup y4a = some ⟨ybr, ybb, .func (W.fnOf "_law_texts" "_law_texts" (zao zdh) (zan zdh) (zac zdh) .none ybm ybs ybg ybl y6s ybt), ybk⟩)
  (y10 : W.codeIn K y6s "_law_texts" = true)
  (y1k : W.keepIn K (.ref y4a) = true)
  (y4 : W.nsIn K mainGlobals "law" = some (some (.ref y5)))
  (y2 : K.lookup y5 = some ⟨yu, yv, .func (W.fnOf "law" "law" (zao zk1) (zan zk1) (zac zk1) .none yk yn yo yl y6 ym), yt⟩)
  (y0 : W.codeIn K y6 "law" = true)
  (y1 : W.keepIn K (.ref y5) = true)
  (y0a : W.plainGet K yj Str.empty = true)
  (y0b : W.hasDictIn K yj = true)
  (y0h : W.plainOver K yj = true)
  (y04 : W.findIn K (.ref yj) "__setattr__" = some (some (.builtin "object.__setattr__")))
  (yb0 : W.makesIn K yj = true)
  (ya8 : W.keepIn K (.ref yj) = true)
  (y84 : W.plainGet K ya Str.empty = true)
  (y8n : W.hasDictIn K ya = true)
  (y8s : W.plainOver K ya = true)
  (y8h : W.findIn K (.ref ya) "__setattr__" = some (some (.builtin "object.__setattr__")))
  (y88 : W.makesIn K ya = true)
  (y87 : W.keepIn K (.ref ya) = true)
  (y8u : W.plainGet K y07 Str.empty = true)
  (y8b : W.hasDictIn K y07 = true)
  (y8v : W.plainOver K y07 = true)
  (y8r : W.findIn K (.ref y07) "__setattr__" = some (some (.builtin "object.__setattr__")))
  (y8c : W.makesIn K y07 = true)
  (y8g : W.keepIn K (.ref y07) = true)
  (y3z : W.nsIn K mainGlobals "ValueError" = some none)
  (y2i : W.nsIn K mainGlobals "MOST_PIECES" = some (some (.int 24 y8q)))
  (y2m : W.nsIn K mainGlobals "MOST_PLACES" = some (some (.int 8 y8e)))
  (y2k : W.findIn K (.ref yj) "pieces" = some none)
  (y2f : W.findIn K (.ref yj) "places" = some none)
  (y2l : W.findIn K (.ref ya) "ahead" = some none)
  (y2y : W.findIn K (.ref ya) "bars" = some none)
  (y24 : W.findIn K (.ref ya) "behind" = some none)
  (y3w : W.findIn K (.ref ya) "by" = some none)
  (y33 : W.findIn K (.ref ya) "deed" = some none)
  (y2o : W.findIn K (.ref ya) "needs" = some none)
  (y3v : W.findIn K (.ref ya) "on" = some none)
  (y2g : W.findIn K (.ref ya) "place" = some none)
  (y2z : W.findIn K (.ref y07) "kind" = some none)
  (y31 : W.findIn K (.ref y07) "rule" = some none)
  (y3x : W.nsIn K mainGlobals "isinstance" = some none)
  (ydm : W.nsIn K mainGlobals "len" = some none)
  (yd9 : W.nsIn K mainGlobals "list" = some none)
  (ya1 : W.nsIn K mainGlobals "range" = some none)
  (ydq : W.nsIn K mainGlobals "set" = some none)
  (y8a : W.nsIn K mainGlobals "sorted" = some none)
  (ydf : W.nsIn K mainGlobals "str" = some none)
  (yb4 : W.nsIn K mainGlobals "tuple" = some none)
  (y4k : W.excIn K y11 bmVE "ValueError.__new__" = true)
  (y79 : W.excIn K yr bmVE "ValueError.__new__" = true)
  (y6y : W.excIn K y1q bmVE "ValueError.__new__" = true)
  (y70 : W.excIn K y1t bmVE "ValueError.__new__" = true)
  (nd : [yr, y7].Nodup)
  (y4j : zdc K y7 = some (.ref y8 :: bmVE))
  (y45 : zdc K y8 = some bmVE)
  (y55 : zdc K yr = some (.ref y8 :: bmVE))
  (y0i : y7 ≠ y8)
  (y3a : W.findIn K (.ref y7) "one" = some none)
  (y2h : W.findIn K (.ref y7) "other" = some none)
  (bi1 : W.specialIn K (.ref y8) "__getattribute__" = some (some (.builtin "type.__getattribute__")))
  (yds : W.readsIn K y8 (.type "type") = true)
  (ydi : W.findCls K (.ref y8) (.type "type") "__init__" = some (.val (.builtin "ValueError.__init__")))
  (y57 : W.findIn K (.ref y7) "__setattr__" = some (some (.builtin "object.__setattr__")))
  (y54 : W.hasDictIn K y7 = true)
  (y51 : zkl K y7 = true)
  (y3k : W.findIn K (.ref y7) "one" = some none)
  (y2j : W.findIn K (.ref y7) "other" = some none)
  (y4g : zd9 K y7 y0f = true)
  (khn : W.specialIn K (.builtin "object.__class__") "__get__" = some (some (.builtin "getset_descriptor.__get__")))
  (ktk : W.takesIn K (.builtin "object.__class__") = some true)
  (ya6 : ∀ C ∈ [yr, y7], XKit K C)
  (xk : ∀ C ∈ [yr, y7], ∀ D ∈ [yr], W.kitOne K (.ref C) (.ref D) = some (decide (C = D)))
  (xkv : ∀ C ∈ [yr, y7], W.kitOne K (.ref C) (.type "ValueError") = some true)
  (nl : zsf K = true)
  : ∃ fd : FuncData, (∀ (s : Shared) (v : Value), BindsTo s fd ⟨[v], []⟩ [("script", v)]) /\ ∀ base : Heap, K.In base -> base.Ns mainGlobals mg -> FnOk l.prog w K mg base CX0 5 fa fd ["script"] (zui K) := by
 let c : Cl := { hall := yj, place := y07, piece := ya, run := 0, hallError := y8, nameThere := y11, noPlace := y1q, noPiece := yr, tooMany := y1t, noAnswer := 0, ring := 0, barred := y7, deedFault := 0 };have e0 := hfa.symm.trans (W.mg_of X G y4);cases e0;have T0 : Tx K mg c := ⟨y45, (List.forall_mem_cons.mpr ⟨(fun _ => y55), List.forall_mem_cons.mpr ⟨(fun _ => y4j), fun _ h => absurd h List.not_mem_nil⟩⟩), W.mg_none_of X G y3z, ⟨_, W.mg_of X G y2i⟩, ⟨_, W.mg_of X G y2m⟩, ⟨y0a, y0b, y0h, y04⟩, y2k, y2f, ⟨y84, y8n, y8s, y8h⟩, y2l, y2y, y24, y3w, y33, y2o, y3v, y2g, ⟨y8u, y8b, y8v, y8r⟩, y2z, y31, (ya6 _ (.tail _ (.head _))).toXGet, y3a, y2h, bi1, yds, ydi, ⟨y57, y54, y51⟩, y3k, y2j, W.mg_none_of X G y3x, (fun C h => ⟨ya6 C h, xk C h _ (.head _)⟩), (fun C h => ⟨ya6 C h, xkv C h⟩), W.mg_none_of X G ydm, W.mg_none_of X G yd9, W.mg_of X G y71, W.mg_of X G y3u, W.mg_of X G y3t, W.mg_of X G y4z, W.mg_of X G y5c, W.mg_of X G y52, y0i, y4j, W.mg_none_of X G ya1, W.mg_none_of X G ydq, W.mg_none_of X G y8a, W.mg_none_of X G ydf, W.mg_none_of X G yb4, y4k, y79, y6y, y70⟩;have y5a := zb9 (st := zcl) y1b y05 yx;have y5b := y5a.binds (ps := ["script", "k"]) (by walk_at "2");have y8x := zb9 (st := zdx) y2t y1f y02;have y56 := y8x.binds (ps := ["k"]) (by walk_at "1");have y90 := zb9 (st := zdy) y2v y1a y1z;have ydd := y90.binds (ps := ["cell", "many"]) (by walk_at "2");have y8w := zb9 (st := zdz) y2w y1c y1y;have yda := y8w.binds (ps := ["cell"]) (by walk_at "1");have y6l := zb9 (st := zc1) y1m y0t y16;have ybq := y6l.binds (ps := ["script", "start", "many"]) (by walk_at "3");have y48 := zb9 (st := zb0) y0x yp y0w;have y8k := y48.binds (ps := ["self"]) (by walk_at "1");have y3o := zb9 (st := zbn) y0m yi y0p;have y80 := y3o.binds (ps := ["self", "kind", "rule"]) (by walk_at "3");have y3g := zb9 (st := zbg) y0e yf ys;have y76 := y3g.binds (ps := ["self", "name", "kind", "rule"]) (by walk_at "4");have y3e := zb9 (st := zbh) y03 ye yq;have y72 := y3e.binds (ps := ["self", "name"]) (by walk_at "2");have y3h := zb9 (st := zbi) y08 yd y3;have y0d := y3h.binds (ps := ["self", "name"]) (by walk_at "2");have y3n := zb9 (st := zbo) y0k yh y0o;have y7u := y3n.binds (ps := ["self", "place", "deed", "by"]) (by walk_at "4");have yc7 : FunV K "hang" "Hall.hang" za7 (.ref y4h) y23 _ := ⟨⟨_, _, _, _, _, _, _, _, _, rfl, y21, y0n⟩, y1h⟩;have ybx := zjp (kV := y6w) (dc := y6v) (pm := y6i) (an := y6h) (cd := y3r) (ct := y6r) yw;have ybv := zb9 (st := zf2) y47 y2n y38;have ydv := ybv.binds (ps := ["names"]) (by walk_at "1");have ycc : FunV K "wish" "Hall.wish" zb3 (.ref y4b) y27 _ := ⟨⟨_, _, _, _, _, _, _, _, _, rfl, y28, y0l⟩, y1i⟩;have ybz := zjr (kV := y6n) (dc := y6g) (pm := y6j) (an := y6u) (cd := y40) (ct := y6p) y00;have y4x := zb9 (st := zcm) y1d y0g y0v;have yaj := y4x.binds (ps := ["self", "name", "on"]) (by walk_at "3");have y8z := zb9 (st := zd0) y2x y1g y20;have ydc := y8z.binds (ps := ["pieces", "kind", "rule"]) (by walk_at "3");have y4n := zb9 (st := zb6) y13 yy y0j;have y9g := y4n.binds (ps := ["hall", "name"]) (by walk_at "2");have y6m := zb9 (st := zc2) y1p y0u y01;have y6t := y6m.binds (ps := ["self"]) (by walk_at "1");have yde := zb9 (st := zg9) y5d y3b y49;have ye3 := yde.binds (ps := ["hall", "names"]) (by walk_at "2");have y39 := zb9 (st := zbj) y06 yb y09;have y7l := y39.binds (ps := ["self", "one", "other"]) (by walk_at "3");have y6q := zb9 (st := zc3) y1o y0s y17;have ybh := y6q.binds (ps := ["hall", "name"]) (by walk_at "2");have y8y := zb9 (st := zd1) y2s y1e y1x;have ydb := y8y.binds (ps := ["hall", "name"]) (by walk_at "2");have y6k := zb9 (st := zc4) y1n y0q y15;have ybn := y6k.binds (ps := ["pieces", "name"]) (by walk_at "2");have y6o := zb9 (st := zc5) y1l y0r y14;have ybo := y6o.binds (ps := ["pieces", "names"]) (by walk_at "2");have y7x := zb9 (st := zdh) y26 y10 y1k;have yc9 := y7x.binds (ps := ["found", "due"]) (by walk_at "2");have y9 := zb9 (st := zk1) y2 y0 y1;have y0c := y9.binds (ps := ["script"]) (by walk_at "1");refine ⟨W.fnOf "law" "law" (zao zk1) (zan zk1) (zac zk1) .none yk yn yo yl y6 ym, fun s v => .of_eq rfl, fun base _ _ => ?_⟩;have y4m := zjn l.prog w base T0 y5a.toV;have y4l := znt l.prog w base T0 y8x.toV;have yd4 := znu l.prog w base T0 y90.toV ⟨y4l.mono (by decide), W.mg_of X G y2u, y02, y56⟩;have yce := znv l.prog w base T0 y8w.toV;have yai := zk2 l.prog w base T0 y6l.toV ⟨y4m.mono (by decide), W.mg_of X G y25, yx, y5b⟩ ⟨yd4.mono (by decide), W.mg_of X G y4y, y1z, ydd⟩ ⟨yce.mono (by decide), W.mg_of X G y4q, y1y, yda⟩ ⟨y4l.mono (by decide), W.mg_of X G y2u, y02, y56⟩;have y7v := zhr l.prog w base T0 y48.toV;have y7h := zha l.prog w base T0 y3o.toV;have y63 := zgv l.prog w base T0 y3g.toV ⟨y7h.mono (by decide), W.mg_of X G y8m, ⟨y8c, y22, y2a, y8g⟩, y80⟩;have y67 := zgw l.prog w base T0 y3e.toV;have yz := zgx l.prog w base T0 y3h.toV;have y7k := zhb l.prog w base T0 y3n.toV;have ybc := zmg l.prog w base T0 yc7 ⟨y67.mono (by decide), ⟨y0a, y0b, y0h, y04⟩, ⟨y1w, y1r, yq⟩, y72⟩ ⟨yz.mono (by decide), ⟨y0a, y0b, y0h, y04⟩, ⟨yc, yg, y3⟩, y0d⟩ ⟨y7k.mono (by decide), W.mg_of X G y85, ⟨y88, y2b, y29, y87⟩, y7u⟩;have ydh := zs0 l.prog w base T0 ybv.toV;have ybp := zmh l.prog w base T0 ycc ⟨yz.mono (by decide), ⟨y0a, y0b, y0h, y04⟩, ⟨yc, yg, y3⟩, y0d⟩ ⟨ydh.mono (by decide), W.mg_of X G y8p, y38, ydv⟩;have y94 := zjo l.prog w base T0 y4x.toV ⟨yz.mono (by decide), ⟨y0a, y0b, y0h, y04⟩, ⟨yc, yg, y3⟩, y0d⟩;have ycl := znw l.prog w base T0 y8z.toV ⟨y7v.mono (by decide), W.mg_of X G yan, ⟨yb0, y2d, y2e, ya8⟩, y8k⟩ ⟨y63.mono (by decide), ⟨y0a, y0b, y0h, y04⟩, ⟨y1v, y1s, ys⟩, y76⟩ ⟨ybc.mono (by decide), ⟨y0a, y0b, y0h, y04⟩, ⟨y4i, y4e, y1h⟩, ybx⟩ (zjq yw) ⟨ybp.mono (by decide), ⟨y0a, y0b, y0h, y04⟩, ⟨y4d, y4c, y1i⟩, ybz⟩ ⟨y94.mono (by decide), ⟨y0a, y0b, y0h, y04⟩, ⟨y3i, y3d, y0v⟩, yaj⟩;have y8d := zi3 l.prog w base T0 y4n.toV ⟨yz.mono (by decide), ⟨y0a, y0b, y0h, y04⟩, ⟨yc, yg, y3⟩, y0d⟩;have y5g := zk3 l.prog w base T0 y6m.toV;have ydz := zuq l.prog w base T0 yde.toV ⟨y5g.mono (by decide), ⟨y0a, y0b, y0h, y04⟩, ⟨y2r, y2p, y01⟩, y6t⟩ ⟨yz.mono (by decide), ⟨y0a, y0b, y0h, y04⟩, ⟨yc, yg, y3⟩, y0d⟩;have y6c := zgy l.prog w base T0 y39.toV y4g;have yaw := zk4 l.prog w base T0 y6q.toV ⟨y8d.mono (by decide), W.mg_of X G y30, y0j, y9g⟩ ⟨y5g.mono (by decide), ⟨y0a, y0b, y0h, y04⟩, ⟨y2r, y2p, y01⟩, y6t⟩ ⟨ydz.mono (by decide), W.mg_of X G yar, y49, ye3⟩ ⟨y6c.mono (by decide), y4g, y1u, y7l⟩;have yc1 := znx l.prog w base T0 y8y.toV ⟨yaw.mono (by decide), W.mg_of X G y3s, y17, ybh⟩;have yaf := zk5 l.prog w base T0 y6k.toV;have yaz := zk6 l.prog w base T0 y6o.toV;have ybi := zmi l.prog w base T0 y7x.toV;have oklaw := z1i l.prog w base T0 y9.toV ⟨yai.mono (by decide), W.mg_of X G y3q, y16, ybq⟩ ⟨y4m.mono (by decide), W.mg_of X G y25, yx, y5b⟩ ⟨ycl.mono (by decide), W.mg_of X G y4r, y20, ydc⟩ ⟨y4l.mono (by decide), W.mg_of X G y2u, y02, y56⟩ ⟨yc1.mono (by decide), W.mg_of X G y59, y1x, ydb⟩ ⟨yaf.mono (by decide), W.mg_of X G y42, y15, ybn⟩ ⟨yaz.mono (by decide), W.mg_of X G y3y, y14, ybo⟩ ⟨ybi.mono (by decide), W.mg_of X G y4f, y1k, yc9⟩;exact z05 oklaw nl fun ns hl => z3c (c := c) nd ns
end K10
open PySem PySem.W PyProof.Rows
local macro_rules | `(tactic| walk_at "k") => `(tactic| first | kernel_rfl! | k_is)
theorem PySem.Challenge.cw_hookhall_k10_a_piece_with_its_needs_holds : PySem.Challenge.rw_hookhall_k10_a_piece_with_its_needs.Holds := by
 w_on; o_law; k_head; (case hw => w_witness2)
 k_fill
 refine MF.walkM (l := PySem.Challenge.rw_hookhall_k10_a_piece_with_its_needs) (k := 5) ⟨rfl, by decide, by decide, rfl⟩ rfl rfl (fun w h Y => W.kIn_of Y) ?F
 case F =>
  intro w mg fa h KX G hmg
  refine' K10.all_mk KX G hmg ?yan ?y85 ?y8m ?y3u ?y3t ?y5c ?y4z ?y52 ?y71 ?y25 ?y1b ?y05 ?yx ?y2u ?y2t ?y1f ?y02 ?y4y ?y2v ?y1a ?y1z ?y4q ?y2w ?y1c ?y1y ?y3q ?y1m ?y0t ?y16 ?y2d ?y2e ?y0x ?yp ?y0w ?y22 ?y2a ?y0m ?yi ?y0p ?y1v ?y1s ?y0e ?yf ?ys ?y1w ?y1r ?y03 ?ye ?yq ?yc ?yg ?y08 ?yd ?y3 ?y2b ?y29 ?y0k ?yh ?y0o ?y4i ?y4e ?y21 ?y0n ?y1h ?yw ?y8p ?y47 ?y2n ?y38 ?y4d ?y4c ?y28 ?y0l ?y1i ?y00 ?y3i ?y3d ?y1d ?y0g ?y0v ?y4r ?y2x ?y1g ?y20 ?y30 ?y13 ?yy ?y0j ?y2r ?y2p ?y1p ?y0u ?y01 ?yar ?y5d ?y3b ?y49 ?y3l ?y1u ?y06 ?yb ?y09 ?y3s ?y1o ?y0s ?y17 ?y59 ?y2s ?y1e ?y1x ?y42 ?y1n ?y0q ?y15 ?y3y ?y1l ?y0r ?y14 ?y4f ?y26 ?y10 ?y1k ?y4 ?y2 ?y0 ?y1 ?y0a ?y0b ?y0h ?y04 ?yb0 ?ya8 ?y84 ?y8n ?y8s ?y8h ?y88 ?y87 ?y8u ?y8b ?y8v ?y8r ?y8c ?y8g ?y3z ?y2i ?y2m ?y2k ?y2f ?y2l ?y2y ?y24 ?y3w ?y33 ?y2o ?y3v ?y2g ?y2z ?y31 ?y3x ?ydm ?yd9 ?ya1 ?ydq ?y8a ?ydf ?yb4 ?y4k ?y79 ?y6y ?y70 ?nd ?y4j ?y45 ?y55 ?y0i ?y3a ?y2h ?bi1 ?yds ?ydi ?y57 ?y54 ?y51 ?y3k ?y2j ?y4g ?khn ?ktk ?ya6 ?xk ?xkv ?nl
  (case yan | y85 | y8m | y3u | y3t | y5c | y4z | y52 | y71 | y25 | y1b | y05 | yx | y2u | y2t | y1f | y02 | y4y | y2v | y1a | y1z | y4q | y2w | y1c | y1y | y3q | y1m | y0t | y16 | y2d | y2e | y0x | yp | y0w | y22 | y2a | y0m | yi | y0p | y1v | y1s | y0e | yf | ys | y1w | y1r | y03 | ye | yq | yc | yg | y08 | yd | y3 | y2b | y29 | y0k | yh | y0o | y4i | y4e | y21 | y0n | y1h | yw | y8p | y47 | y2n | y38 | y4d | y4c | y28 | y0l | y1i | y00 | y3i | y3d | y1d | y0g | y0v | y4r | y2x | y1g | y20 | y30 | y13 | yy | y0j | y2r | y2p | y1p | y0u | y01 | yar | y5d | y3b | y49 | y3l | y1u | y06 | yb | y09 | y3s | y1o | y0s | y17 | y59 | y2s | y1e | y1x | y42 | y1n | y0q | y15 | y3y | y1l | y0r | y14 | y4f | y26 | y10 | y1k | y4 | y2 | y0 | y1 | y0a | y0b | y0h | y04 | yb0 | ya8 | y84 | y8n | y8s | y8h | y88 | y87 | y8u | y8b | y8v | y8r | y8c | y8g | y3z | y2i | y2m | y2k | y2f | y2l | y2y | y24 | y3w | y33 | y2o | y3v | y2g | y2z | y31 | y3x | ydm | yd9 | ya1 | ydq | y8a | ydf | yb4 => k_is)
  (case y4k | y79 | y6y | y70 => walk_at "k")
  (case nd => decide)
  (case y4j | y45 | y55 => walk_at "k")
  (case y0i => decide)
  (case y3a | y2h | bi1 => k_is)
  (case yds | ydi => walk_at "k")
  (case y57 => k_is)
  (case y54 | y51 => walk_at "k")
  (case y3k | y2j => k_is)
  (case y4g | khn | ktk => walk_at "k")
  (case ya6 => intro C h; simp only [List.mem_cons, List.not_mem_nil, or_false] at h; rcases h with rfl | rfl <;> exact ⟨⟨by walk_at "k", by walk_at "k", by walk_at "k", by walk_at "k"⟩, by walk_at "k", by walk_at "k", by walk_at "k", by walk_at "k"⟩)
  (case xk => intro C h D g; simp only [List.mem_cons, List.not_mem_nil, or_false] at h g; rcases h with rfl | rfl <;> rcases g with rfl <;> walk_at "k")
  (case xkv => intro C h; simp only [List.mem_cons, List.not_mem_nil, or_false] at h; rcases h with rfl | rfl <;> walk_at "k")
  (case nl => walk_at "k")
end
