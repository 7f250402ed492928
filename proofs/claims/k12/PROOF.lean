import PyProof.Rows.All
import Wide.All
import OpenK.AllK
import Wide.FinOn
import PyProof.EqAt
import PyProof.EqKinds
import PyProof.TupleCall
import PyProof.StrLawsRepr
import Lean
import PyProof.P3Eq
import PyProof.P3In
import PyProof.NeData
import KE.KRevIter
import PyProof.StrWalks
import PyProof.StrBlockH
import PySem.Challenge.RW_hookhall_k12_each_refusal_its_own
theorem PySem.W.Fast.tw2650537462192355101 : True := trivial
theorem PySem.W.Fast.tw6346341172992564689 : True := trivial
theorem PySem.W.Fast.tw12974189170803273555 : True := trivial
theorem PySem.W.Fast.tw1665593686216090890 : True := trivial
theorem PySem.W.Fast.tw14779105818629351630 : True := trivial
theorem PySem.W.Fast.tw9926728344615563810 : True := trivial
theorem PySem.W.Fast.tw610802707297371313 : True := trivial
theorem PySem.W.Fast.tw8785904419897967405 : True := trivial
theorem PySem.W.Fast.tw17912872967241803487 : True := trivial
theorem PySem.W.Fast.tw5619668347373366004 : True := trivial
theorem PySem.W.Fast.tw1598340766392919338 : True := trivial
theorem PySem.W.Fast.tw7274202451058427911 : True := trivial
theorem PySem.W.Fast.tw8634795288027387316 : True := trivial
theorem PySem.W.Fast.tw1277664506416393982 : True := trivial
theorem PySem.W.Fast.tw12139160667268637619 : True := trivial
theorem PySem.W.Fast.tw3292326399721708983 : True := trivial
theorem PySem.W.Fast.tw6818814810427954961 : True := trivial
theorem PySem.W.Fast.tw5543305315905011971 : True := trivial
theorem PySem.W.Fast.tw11300444572946083577 : True := trivial
theorem PySem.W.Fast.tw15879402968804219748 : True := trivial
theorem PySem.W.Fast.tw11290399868866674112 : True := trivial
theorem PySem.W.Fast.tw5963703146689692624 : True := trivial
noncomputable section
set_option maxHeartbeats 0
set_option Elab.async false
set_option linter.all false
set_option maxRecDepth 100000
namespace L2
open PySem PySem.Spec PyProof.Rows
abbrev Key := Sum Int Str
def zpe : Key -> Value -> Bool
 | .inl k, v => Value.isInt k v
 | .inr x, v => Value.isStrOf x v
def keyH (w : World) : Key -> Int
 | .inl k => hashInt k
 | .inr x => hashStr w x
theorem zbn : ∀ {k : Key} {v : Value}, zpe k v = true -> (∃ i t, k = Sum.inl i /\ v = Value.int i t) \/ (∃ x t, k = Sum.inr x /\ v = Value.str x t)
 | .inl i, v, h => by
   obtain ⟨t, e⟩ := Value.isInt_shape (k := i) (v := v) h;exact .inl ⟨i, t, rfl, e⟩
 | .inr x, v, h => by
   obtain ⟨t, e⟩ := Value.isStrOf_shape (x := x) (v := v) h;exact .inr ⟨x, t, rfl, e⟩
theorem zu1 (i : Int) (t : Tok) : zpe (.inl i) (.int i t) = true := by simp [zpe, Value.isInt]
theorem zu2 (x : Str) (t : Tok) : zpe (.inr x) (.str x t) = true := by simp [zpe, Value.isStrOf]
theorem z32 (a b : Int) : decide ((Sum.inl a : Key) = Sum.inl b) = (a == b) := by
 by_cases e : a = b
 ·subst e; simp
 ·have h : ¬ (Sum.inl a : Key) = Sum.inl b := fun q => e (Sum.inl.inj q)
  rw [decide_eq_false h];exact (beq_eq_false_iff_ne.mpr e).symm
theorem z33 (a b : Str) : decide ((Sum.inr a : Key) = Sum.inr b) = decide (a = b) := by
 by_cases e : a = b
 ·subst e; simp
 ·have h : ¬ (Sum.inr a : Key) = Sum.inr b := fun q => e (Sum.inr.inj q)
  rw [decide_eq_false h, decide_eq_false e]
theorem z34 (a : Int) (b : Str) : decide ((Sum.inl a : Key) = Sum.inr b) = false := decide_eq_false (fun q => nomatch q)
theorem z35 (a : Str) (b : Int) : decide ((Sum.inr a : Key) = Sum.inl b) = false := decide_eq_false (fun q => nomatch q)
def za7 (prog : Program) (w : World) : PySem.KeyKind prog w Key where
 is := zpe
 hash := keyH w
 inj := fun v a b ha hb => by
  rcases zbn ha with ⟨i, t, rfl, rfl⟩ | ⟨x, t, rfl, rfl⟩
  ·rcases zbn hb with ⟨j, u, rfl, e⟩ | ⟨y, u, rfl, e⟩
   ·injection e with e1 _; rw [e1]
   ·exact nomatch e
  ·rcases zbn hb with ⟨j, u, rfl, e⟩ | ⟨y, u, rfl, e⟩
   ·exact nomatch e
   ·injection e with e1 _; rw [e1]
 byValue := fun k v h => by
  rcases zbn h with ⟨i, t, rfl, rfl⟩ | ⟨x, t, rfl, rfl⟩ <;> rfl
 pyHash := fun hv h => by
  rcases zbn hv with ⟨i, t, rfl, rfl⟩ | ⟨x, t, rfl, rfl⟩
  ·exact wpAny_pyHash_int h
  ·exact wpAny_pyHash_str h
 eqBool := fun hu hv h => by
  rcases zbn hu with ⟨i, t, rfl, rfl⟩ | ⟨x, t, rfl, rfl⟩
  ·rcases zbn hv with ⟨j, u, rfl, rfl⟩ | ⟨y, u, rfl, rfl⟩
   ·rw [z32] at h; exact wpAny_eqBool_int h
   ·rw [z34] at h; exact SeqAt.EqAt.int_str i t y u _ _ _ _ h
  ·rcases zbn hv with ⟨j, u, rfl, rfl⟩ | ⟨y, u, rfl, rfl⟩
   ·rw [z35] at h; exact SeqAt.EqAt.str_int x t j u _ _ _ _ h
   ·rw [z33] at h; exact wpAny_eqBool_str h
 «strs» := fun k x t v h => by
  rcases zbn h with ⟨i, u, rfl, e⟩ | ⟨y, u, rfl, e⟩
  ·exact nomatch e
  ·injection e with e1 _
   subst e1;cases v <;> rfl
theorem zq9 (prog : Program) (w : World) (i : Int) (t : Tok) : (za7 prog w).is (.inl i) (.int i t) = true := zu1 i t
theorem zra (prog : Program) (w : World) (x : Str) (t : Tok) : (za7 prog w).is (.inr x) (.str x t) = true := zu2 x t
end L2
namespace L2
open PySem PySem.Spec PyProof.Rows
inductive V where
 | non | bl (b : Bool) | int (i : Int) | str (x : Str) | byt (b : Array UInt8) | flt (b : UInt64) | ref (a : Addr) | ty (n : String)
 deriving DecidableEq
def RelV : V -> Value -> Prop
 | .non, u => u = Value.none
 | .bl b, u => u = Value.bool b
 | .int i, u => ∃ t, u = Value.int i t
 | .str x, u => ∃ t, u = Value.str x t
 | .byt b, u => ∃ t, u = Value.bytes b t
 | .flt b, u => ∃ t, u = Value.float b t
 | .ref a, u => u = Value.ref a
 | .ty n, u => u = Value.type n
abbrev Vals : List V -> List Value -> Prop := Paired RelV
theorem Vals.length {xs : List V} {us : List Value} (r : Vals xs us) : xs.length = us.length := Paired.length r
theorem Vals.get : ∀ {xs : List V} {us : List Value} {i : Nat} {x : V}, Vals xs us -> xs[i]? = some x -> ∃ u, us[i]? = some u /\ RelV x u
 | _, _, _, _, .nil, e => by simp at e
 | _, _, 0, _, .cons r _, e => by simp at e; subst e; exact ⟨_, rfl, r⟩
 | _, _, i + 1, x, .cons _ t, e => by
   obtain ⟨u, h1, h2⟩ := Vals.get (i := i) (x := x) t (by simpa using e);exact ⟨u, by simpa using h1, h2⟩
theorem Vals.set {x : V} {u : Value} (r : RelV x u) : ∀ {xs : List V} {us : List Value} (i : Nat), Vals xs us -> Vals (xs.set i x) (us.set i u)
 | _, _, _, .nil => .nil
 | _, _, 0, .cons _ t => .cons r t
 | _, _, i + 1, .cons q t => .cons q (Vals.set r i t)
theorem Vals.append : ∀ {xs ys : List V} {us ws : List Value}, Vals xs us -> Vals ys ws -> Vals (xs ++ ys) (us ++ ws)
 | _, _, _, _, .nil, s => s
 | _, _, _, _, .cons r t, s => .cons r (Vals.append t s)
def RelO : Option V -> Option Value -> Prop
 | some v, some u => RelV v u
 | none, none => True
 | _, _ => False
def KV {κ : Type} : List (κ × V) -> List (κ × Value) -> Prop := Paired fun (p : κ × V) (q : κ × Value) => p.1 = q.1 /\ RelV p.2 q.2
def kV : Key -> V
 | .inl i => .int i
 | .inr x => .str x
inductive HO where
 | lst (xs : List V)
 | tup (xs : List V)
 | dK (kvs : List (Key × V)) | dT (kvs : List (List Key × V))
 | set (S : Int -> Bool) (n : Nat)
 | ins (C dx : Addr) (fs : List (Str × V))
 | own (x : Addr)
 | xd (fs : List (Str × V))
 | met (f x : Addr)
 | rng (lo hi : Int)
 | frz (o : Obj) (u : HO)
 | tbl (ps : Array Value)
 | ext (φ : Heap -> Prop)
abbrev Hp := Addr -> Option HO
def upd (H : Hp) (a : Addr) (o : HO) : Hp := fun b => if b = a then some o else H b
theorem zaj {H : Hp} {a : Addr} {o : HO} : upd H a o a = some o := by unfold upd; rw [if_pos rfl]
theorem zai {H : Hp} {a b : Addr} {o : HO} (h : b ≠ a) : upd H a o b = H b := by unfold upd; rw [if_neg h]
theorem z02 {H : Hp} {a : Addr} {o u : HO} : upd (upd H a o) a u = upd H a u := by
 funext b; unfold upd; split <;> rfl
theorem z6z {H : Hp} {a b : Addr} {o u : HO} (h : H a = some o) (h' : H b = some u) (d : o ≠ u) : a ≠ b := by
 intro e; subst e; rw [h] at h'; exact d (Option.some.inj h')
theorem zbu {H : Hp} {a b : Addr} {o : HO} (h : H a = some o) (h' : H b = none) : a ≠ b := by
 intro e; subst e; rw [h] at h'; cases h'
section
variable (P : Program) (w : World)
def zfb (H : Hp) (h : Heap) (a : Addr) : HO -> Prop
 | .lst xs => xs.length <= sizeLine /\ ∃ (its : List Value) (n : Nat), Vals xs its /\ h.get? a = some { cls := .type "list", data := .seq its.toArray n }
 | .tup xs => xs.length <= sizeLine /\ ∃ its : List Value, Vals xs its /\ IsTup h a its.toArray
 | .dK kvs => kvs.length <= sizeLine /\ (a == sysModules) = false /\ ∃ vs, KV kvs vs /\ h.DictOf (za7 P w) a vs
 | .dT kvs => kvs.length <= sizeLine /\ (a == sysModules) = false /\ ∃ xs : List (List Key × Addr × Value),
  Paired (fun (p : List Key × V) (q : List Key × Addr × Value) => p.1 = q.1 /\ H q.2.1 = some (.tup (p.1.map kV)) /\ RelV p.2 q.2.2) kvs xs /\
  ∃ o es ep, h.get? a = some o /\ o.ExactDict /\ o.data = .dict es ep /\ es.toList = xs.map (entryOfKey (tupleKind (za7 P w))) /\ (xs.map (·.1)).Nodup
 | .set S n => h.SetOf (intKind P w) a S n
 | .ins C dx fs => H dx = some (.own a) /\ fs.length <= 1000 /\ dx ≠ a /\ h.get? a = some (PySem.W.instObj C dx) /\
  ∃ mA, h.Ns1 dx mA /\ (∀ f, RelO (fs.lookup f) (mA f)) /\ PySem.Within mA (fs.map (·.1))
 | .own _ => ∃ o, h.get? a = some o
 | .xd fs => ∃ mA, h.Ns1 a mA /\ ∀ f, RelO (fs.lookup f) (mA f)
 | .rng lo hi => ∃ t u v, h.get? a = some { cls := .type "range", data := .fields #[.int lo t, .int hi u, .int 1 v] }
 | .frz o u => h.get? a = some o /\ zfb H h a u
 | .tbl ps => h.get? a = some { cls := .none, data := .fields ps }
 | .met f x => h.get? a = some (PySem.W.methodObj (.ref f) (.ref x))
 | .ext φ => φ h /\ (∃ o, h.get? a = some o) /\ ∀ h1 h2 : Heap, φ h1 -> (∀ o, h1.get? a = some o -> h2.get? a = some o) -> φ h2
def HOk (H : Hp) (h : Heap) : Prop := ∀ a o, H a = some o -> zfb P w H h a o
end
section
variable {P : Program} {w : World} {H H' : Hp} {h h' : Heap} {a : Addr} {o : HO}
theorem zfb.lt (x : zfb P w H h a o) : a < h.objs.size := by
 cases o with
 | lst xs => obtain ⟨_, _, _, _, e⟩ := x; exact Heap.lt_size e
 | tup xs => obtain ⟨_, _, _, p⟩ := x; exact p.lt
 | dK kvs => obtain ⟨_, _, _, _, o, _, _, e, _⟩ := x; exact Heap.lt_size e
 | dT kvs => obtain ⟨_, _, _, _, o, _, _, e, _⟩ := x; exact Heap.lt_size e
 | set S n => obtain ⟨o, _, _, _, e, _⟩ := x; exact Heap.lt_size e
 | ins C dx fs => obtain ⟨_, _, _, e, _⟩ := x; exact Heap.lt_size e
 | own y => obtain ⟨_, e⟩ := x; exact Heap.lt_size e
 | xd fs => obtain ⟨_, ⟨_, _, _, e, _⟩, _⟩ := x; exact Heap.lt_size e
 | rng lo hi => obtain ⟨_, _, _, e⟩ := x; exact Heap.lt_size e
 | frz ob u => obtain ⟨e, _⟩ := x; exact Heap.lt_size e
 | tbl ps => exact Heap.lt_size (show h.get? a = some _ from x)
 | met f y => exact Heap.lt_size (show h.get? a = some _ from x)
 | ext φ => obtain ⟨_, ⟨_, e⟩, _⟩ := x; exact Heap.lt_size e
theorem Paired.mapP {α β : Type} {F G : α -> β -> Prop} : ∀ {l₁ : List α} {l₂ : List β}, Paired F l₁ l₂ -> (∀ a b, F a b -> G a b) -> Paired G l₁ l₂
 | _, _, .nil, _ => .nil
 | _, _, .cons r t, f => .cons (f _ _ r) (Paired.mapP t f)
theorem zfb.stay (x : zfb P w H h a o) (k : ∀ b u, (b = a \/ H b = some (.own a)) -> h.get? b = some u -> h'.get? b = some u)
 (ho : ∀ b, H b = some (.own a) -> H' b = some (.own a)) (ht : ∀ b xs, H b = some (.tup xs) -> H' b = some (.tup xs)) : zfb P w H' h' a o := by
 induction o with
 | lst xs => obtain ⟨z, its, n, r, e⟩ := x; exact ⟨z, its, n, r, k _ _ (.inl rfl) e⟩
 | tup xs => obtain ⟨z, its, r, ob, e, c⟩ := x; exact ⟨z, its, r, ob, k _ _ (.inl rfl) e, c⟩
 | dK kvs => obtain ⟨z, y, vs, r, ob, es, ep, e, c⟩ := x; exact ⟨z, y, vs, r, ob, es, ep, k _ _ (.inl rfl) e, c⟩
 | dT kvs =>
   obtain ⟨z, y, xs, r, ob, es, ep, e, c⟩ := x;exact ⟨z, y, xs, Paired.mapP r fun p q z => ⟨z.1, ht _ _ z.2.1, z.2.2⟩, ob, es, ep, k _ _ (.inl rfl) e, c⟩
 | set S n => obtain ⟨ob, es, ep, t, e, c⟩ := x; exact ⟨ob, es, ep, t, k _ _ (.inl rfl) e, c⟩
 | ins C dx fs =>
   obtain ⟨d, z, ne, e, mA, ⟨od, es, ep, e2, c⟩, r⟩ := x;exact ⟨ho _ d, z, ne, k _ _ (.inl rfl) e, mA, ⟨od, es, ep, k _ _ (.inr d) e2, c⟩, r⟩
 | own y => obtain ⟨ob, e⟩ := x; exact ⟨ob, k _ _ (.inl rfl) e⟩
 | xd fs => obtain ⟨mA, ⟨od, es, ep, e, c⟩, r⟩ := x; exact ⟨mA, ⟨od, es, ep, k _ _ (.inl rfl) e, c⟩, r⟩
 | rng lo hi => obtain ⟨t, u, v, e⟩ := x; exact ⟨t, u, v, k _ _ (.inl rfl) e⟩
 | frz ob u ih => obtain ⟨e, q⟩ := x; exact ⟨k _ _ (.inl rfl) e, ih q⟩
 | tbl ps =>
   have e : h.get? a = some { cls := .none, data := .fields ps } := x;show h'.get? a = some { cls := .none, data := .fields ps };exact k a _ (.inl rfl) e
 | met f y =>
   have e : h.get? a = some (PySem.W.methodObj (.ref f) (.ref y)) := x;show h'.get? a = some (PySem.W.methodObj (.ref f) (.ref y));exact k a _ (.inl rfl) e
 | ext φ => obtain ⟨p, ⟨o, e⟩, st⟩ := x; exact ⟨st _ _ p fun o q => k _ _ (.inl rfl) q, ⟨o, k _ _ (.inl rfl) e⟩, st⟩
theorem HOk.lt (x : HOk P w H h) (e : H a = some o) : a < h.objs.size := (x a o e).lt
theorem HOk.fresh (x : HOk P w H h) (e : h.objs.size <= a) : H a = none := by
 cases q : H a with
 | none => rfl
 | some u => exact absurd (Nat.lt_of_lt_of_le (x.lt q) e) (Nat.lt_irrefl _)
theorem HOk.kept (x : HOk P w H h) (k : ∀ b u, h.get? b = some u -> h'.get? b = some u) : HOk P w H h' := fun a o e =>
 (x a o e).stay (fun b u _ q => k b u q) (fun _ q => q) fun _ _ q => q
theorem HOk.laid (x : HOk P w H h) (k : ∀ b u, h.get? b = some u -> h'.get? b = some u) (hp : h.objs.size <= a) (new : zfb P w (upd H a o) h' a o) : HOk P w (upd H a o) h' := fun b u e => by
 have hn := x.fresh hp;by_cases hb : b = a
 ·subst hb; rw [zaj] at e; cases e; exact new
 ·rw [zai hb] at e
  exact (x b u e).stay (fun c v _ q => k c v q) (fun c q => by rw [zai (zbu q hn)]; exact q) fun c xs q => by rw [zai (zbu q hn)]; exact q
end
def Rd (H : Hp) (a : Addr) (u : HO) : Prop := H a = some u \/ ∃ o, H a = some (.frz o u)
theorem Rd.ok {P : Program} {w : World} {H : Hp} {h : Heap} {a : Addr} {u : HO} (r : Rd H a u) (x : HOk P w H h) : zfb P w H h a u := by
 rcases r with r | ⟨o, r⟩
 ·exact x a u r
 ·obtain ⟨_, q⟩ := x a _ r
  exact q
def Mut : Option HO -> Prop
 | some (.lst _) => True
 | some (.dK _) => True
 | some (.dT _) => True
 | some (.set _ _) => True
 | some (.ins _ _ _) => True
 | some (.ext _) => True
 | _ => False
section
variable {P : Program} {w : World} {H : Hp} {h h' : Heap} {x e : Addr} {o' : HO}
theorem HOk.write (ok : HOk P w H h) (mu : Mut (H x)) (he : e = x \/ H e = some (.own x)) (k : ∀ b u, b ≠ e -> h.get? b = some u -> h'.get? b = some u) (heo : ∃ u, h'.get? e = some u)
 (new : zfb P w (upd H x o') h' x o') : HOk P w (upd H x o') h' := fun b u q => by
 have nown : ∀ c y, H c = some (.own y) -> c ≠ x := fun c y r z => by subst z; rw [r] at mu; exact mu
 have ntup : ∀ c xs, H c = some (.tup xs) -> c ≠ x := fun c xs r z => by subst z; rw [r] at mu; exact mu
 by_cases hb : b = x
 ·subst hb; rw [zaj] at q; cases q; exact new
 ·rw [zai hb] at q
  by_cases hbe : b = e
  ·have q' : H b = some (.own x) := by
    rcases he with z | z
    ·exact absurd (hbe.trans z) hb
    ·rw [hbe]; exact z
   rw [q] at q'; cases q';obtain ⟨v, hv⟩ := heo;exact ⟨v, by rw [hbe]; exact hv⟩
  ·refine (ok b u q).stay (fun c v hc r => k c v ?_ r) (fun c r => by rw [zai (nown c b r)]; exact r) fun c xs r => by rw [zai (ntup c xs r)]; exact r
   rcases hc with rfl | hc
   ·exact hbe
   ·rintro rfl
    rcases he with z | z
    ·exact nown c b hc z
    ·rw [hc] at z; cases z; exact hb rfl
end
structure Un (fs ex : List Addr) (H H' : Hp) (h h' : Heap) : Prop where
 keep : ∀ b o, h.get? b = some o -> H b = none -> b ∉ fs -> b ∉ ex -> h'.get? b = some o
 slot : ∀ b o, h.get? b = some o -> H b = none -> b ∈ fs -> b ∉ ex -> ∃ sl, h'.get? b = some { o with slots := sl }
 free : ∀ b o, h.get? b = some o -> H b = none -> b ∉ ex -> H' b = none
 there : ∀ b o, h.get? b = some o -> b ∉ ex -> ∃ o', h'.get? b = some o'
 tups : ∀ b xs, H b = some (.tup xs) -> H' b = some (.tup xs)
 frzs : ∀ b o u, H b = some (.frz o u) -> H' b = some (.frz o u)
 tbls : ∀ b ps, H b = some (.tbl ps) -> ∃ more, H' b = some (.tbl (ps ++ more))
section
variable {fs fs' ex ex' : List Addr} {H H1 H2 : Hp} {h h1 h2 h' : Heap} {a x e : Addr} {o : HO}
theorem Un.any (u : Un fs ex H H1 h h1) {b : Addr} {ob : Obj} (q : h.get? b = some ob) (n : H b = none) (hx : b ∉ ex) : ∃ sl, h1.get? b = some { ob with slots := sl } := by
 by_cases hb : b ∈ fs
 ·exact u.slot b ob q n hb hx
 ·exact ⟨ob.slots, u.keep b ob q n hb hx⟩
theorem Un.kept (k : ∀ b u, h.get? b = some u -> h'.get? b = some u) : Un fs ex H H h h' :=
 ⟨fun b ob q _ _ _ => k b ob q, fun b ob q _ _ _ => ⟨ob.slots, k b ob q⟩, fun _ _ _ n _ => n, fun b ob q _ => ⟨ob, k b ob q⟩, fun _ _ q => q, fun _ _ _ q => q, fun _ ps q => ⟨#[], by rw [q]; simp⟩⟩
theorem Un.refl : Un fs ex H H h h := Un.kept fun _ _ q => q
theorem Un.laid (k : ∀ b u, h.get? b = some u -> h'.get? b = some u) (hp : h.objs.size <= a) (hn : H a = none) : Un fs ex H (upd H a o) h h' where
 keep := fun b u q _ _ _ => k b u q
 slot := fun b u q _ _ _ => ⟨u.slots, k b u q⟩
 free := fun b u q n _ => by rw [zai (Nat.ne_of_lt (Nat.lt_of_lt_of_le (Heap.lt_size q) hp))]; exact n
 there := fun b u q _ => ⟨u, k b u q⟩
 tups := fun b xs q => by rw [zai (zbu q hn)]; exact q
 frzs := fun b u xs q => by rw [zai (zbu q hn)]; exact q
 tbls := fun b ps q => ⟨#[], by rw [zai (zbu q hn), q]; simp⟩
theorem Un.write (mu : Mut (H x)) (he : e = x \/ H e = some (.own x)) (k : ∀ b u, b ≠ e -> h.get? b = some u -> h'.get? b = some u) (heo : ∃ u, h'.get? e = some u) : Un fs ex H (upd H x o) h h' := by
 have hx : ∀ b, H b = none -> b ≠ x := fun b n z => by subst z; rw [n] at mu; exact mu
 have hb : ∀ b, H b = none -> b ≠ e := fun b n z => by
  subst z;rcases he with r | r
  ·exact hx b n r
  ·rw [n] at r; cases r
 have hm : ∀ b u, H b = some u -> ¬ Mut (some u) -> b ≠ x := fun b u q nm z => by subst z; rw [q] at mu; exact nm mu
 refine ⟨fun b u q n _ _ => k b u (hb b n) q, fun b u q n _ _ => ⟨u.slots, k b u (hb b n) q⟩, fun b u q n _ => by rw [zai (hx b n)]; exact n, fun b u q _ => ?_,
  fun b xs q => by rw [zai (hm b _ q fun z => z)]; exact q, fun b u xs q => by rw [zai (hm b _ q fun z => z)]; exact q, fun b ps q => ⟨#[], by rw [zai (hm b _ q fun z => z), q]; simp⟩⟩
 by_cases hbe : b = e
 ·subst hbe; exact heo
 ·exact ⟨u, k b u hbe q⟩
end
def trk (h : Heap) (H : Hp) : List Addr := (List.range h.objs.size).filter fun a => (H a).isSome
def hidT (h : Heap) (H : Hp) : Heap := PySem.W.hideAll h (trk h H)
theorem zu3 (h : Heap) (H : Hp) : (hidT h H).objs.size = h.objs.size := PySem.W.hideAll_size _ _
theorem zx4 {h : Heap} {H : Hp} {b : Addr} {o : Obj} (e : h.get? b = some o) (n : H b = none) : (hidT h H).get? b = some o :=
 PySem.W.hideAll_get _ e fun hm => by
  have q : (H b).isSome = true := (List.mem_filter.mp hm).2;rw [n] at q; simp at q
theorem z03 {h : Heap} {H : Hp} {b : Addr} {o : Obj} (e : (hidT h H).get? b = some o) : h.get? b = some o /\ H b = none := by
 have e' : h.get? b = some o := PySem.W.of_hideAll (trk h H) e;refine ⟨e', ?_⟩;cases q : H b with
 | none => rfl
 | some x =>
   have hm : b ∈ trk h H := List.mem_filter.mpr ⟨List.mem_range.mpr (Heap.lt_size e'), by simp [q]⟩;have z : (hidT h H).get? b = none := PySem.W.hideAll_none (trk h H) hm;rw [z] at e; cases e
def z04 (g h : Heap) (L : Addr) : List (Addr × Obj) := (List.range h.objs.size).filterMap fun a => if a = L \/ (g.get? a).isSome = true then none else (h.get? a).map fun o => (a, o)
def rest (g h : Heap) (L d : Addr) : List (Addr × Obj) := (z04 g h L).filter fun p => decide (p.1 ≠ d)
end L2
namespace L2
open PySem PySem.Spec PyProof.Rows
structure Mod (K : PySem.W.Frag) (mg : Str -> Option Value) (base : Heap) : Prop where
 kin : K.In base
 glob : base.Ns mainGlobals mg
 blt : ∃ mb, base.Ns builtinsNs mb /\ ∀ x : Str, x ≠ "__name__" -> mb x = bootBuiltins x
 nolimit : base.NoLimit
structure Cx where
 prog : Program
 w : World
 K : PySem.W.Frag
 mg : Str -> Option Value
 base : Heap
 A : Around
 N : List Str
 s₀ : Shared
 H₀ : Hp
 env : Env
 outer : List Env
 stack : List Env
 ex : List Addr
 fn : Str -> Bool
 calm : Bool
 pn : List (Addr × Obj)
 xe : Value -> Shared -> Prop
 kn : List (Option V) := []
def frs (l : List Env) : List Addr := l.filterMap (·.frame)
abbrev Cx.fs (X : Cx) : List Addr := frs X.outer
def Vis (sc : Scope) (x : Str) : Prop := sc.names.lookup x = some .local \/ sc.names.lookup x = some .cell \/ sc.names.lookup x = some .free
def Loc (sc : Scope) (x : Str) : Prop := sc.names.lookup x = some .local \/ sc.names.lookup x = some .cell
def Look (env : Env) (h : Heap) (m : Str -> Option Value) (x : Str) (u : Value) : Prop :=
 (env.kindOf x = some .local /\ m x = some u) \/ ((env.kindOf x = some .cell \/ env.kindOf x = some .free) /\ ∃ c, env.cells.lookup x = some c /\ h.IsCell c (some u))
structure Cx.Ok (X : Cx) : Prop where
 mod : Mod X.K X.mg X.base
 kind : X.env.scope.kind = .function
 glob : X.env.globals = mainGlobals
 blt : X.env.builtins = builtinsNs
 above : X.s₀.heap.objs.size <= X.env.locals
 inj : ∀ x y c, X.env.cells.lookup x = some c -> X.env.cells.lookup y = some c -> x = y
 has : ∀ x, (X.env.kindOf x = some .cell \/ X.env.kindOf x = some .free) -> ∃ c, X.env.cells.lookup x = some c
 cab : ∀ x c, X.fn x = true -> X.env.cells.lookup x = some c -> X.s₀.heap.objs.size <= c
 hd : X.calm = true -> X.A.handled = none
 frames : X.A.frames = some X.stack
 stk : X.stack = X.outer \/ (X.stack = X.env :: X.outer /\ X.env.frame = some X.env.locals)
 exf : ∀ b ∈ X.ex, b ≠ X.env.locals /\ ∀ x c, X.env.cells.lookup x = some c -> c ≠ b
 bs : ∀ b o, X.base.get? b = some o -> X.s₀.heap.get? b = some o /\ X.H₀ b = none
 bsz : X.base.objs.size <= X.s₀.heap.objs.size
 noex : ∀ b o, X.base.get? b = some o -> b ∉ X.ex
 exfs : ∀ b ∈ X.ex, b ∉ X.fs
 funs : X.s₀.heap.FunFrames X.base X.outer
 frf : ∀ b ∈ X.fs, X.H₀ b = none
structure Inv (X : Cx) (pins : List (Addr × Obj)) (σ : List (Option V)) (H : Hp) (s : Shared) : Prop where
 ok : X.Ok
 os : s.os = X.s₀.os
 bare : AllBare s.gens
 base : Un X.fs X.ex X.H₀ H X.s₀.heap s.heap
 loc : ∃ m, s.heap.Ns X.env.locals m /\ ∀ (i : Nat) (x : Str) (v : V), X.N[i]? = some x -> σ[i]? = some (some v) -> Vis X.env.scope x -> ∃ u, RelV v u /\ Look X.env s.heap m x u
 cell : ∀ x c, X.env.cells.lookup x = some c -> ∃ v, s.heap.IsCell c v
 free : H X.env.locals = none
 freeC : ∀ x c, X.env.cells.lookup x = some c -> H c = none
 pin : ∀ p ∈ X.pn ++ pins, s.heap.get? p.1 = some p.2 /\ H p.1 = none /\ p.1 ≠ X.env.locals /\ p.1 ∉ X.fs /\ ∀ v, p.2.data ≠ .cell v
 hok : HOk X.prog X.w H s.heap
 len : σ.length = X.N.length
 kn : ∀ (i : Nat) (v : V), X.kn[i]? = some (some v) -> σ[i]? = some (some v)
section
variable {X : Cx} {pins : List (Addr × Obj)} {σ : List (Option V)} {H H' : Hp} {s : Shared} {h' : Heap}
theorem Cx.Ok.nofr (ok : X.Ok) {b : Addr} {o : Obj} (e : X.base.get? b = some o) : b ∉ X.fs := fun hb => by
 have := (ok.funs.mem hb).1;rw [e] at this; cases this
theorem Inv.bs (I : Inv X pins σ H s) : ∀ b o, X.base.get? b = some o -> s.heap.get? b = some o /\ H b = none := fun b o e =>
 ⟨I.base.keep b o (I.ok.bs b o e).1 (I.ok.bs b o e).2 (I.ok.nofr e) (I.ok.noex b o e), I.base.free b o (I.ok.bs b o e).1 (I.ok.bs b o e).2 (I.ok.noex b o e)⟩
theorem Inv.bk (I : Inv X pins σ H s) : ∀ b o, X.base.get? b = some o -> s.heap.get? b = some o := fun b o e => (I.bs b o e).1
theorem Inv.mod (I : Inv X pins σ H s) : Mod X.K X.mg X.base := I.ok.mod
theorem Inv.kIn (I : Inv X pins σ H s) : X.K.In s.heap := I.ok.mod.kin.keeps I.bk
theorem Inv.fr (I : Inv X pins σ H s) : ∃ m, Fr X.base X.env.locals s.heap m :=
 let ⟨m, hn, _⟩ := I.loc
 ⟨m, hn, I.bk, Nat.le_trans I.ok.bsz I.ok.above⟩
theorem Inv.lt (I : Inv X pins σ H s) : X.env.locals < s.heap.objs.size := let ⟨_, hn, _⟩ := I.loc; hn.lt
theorem Inv.sz (I : Inv X pins σ H s) : X.s₀.heap.objs.size <= s.heap.objs.size := Nat.le_trans I.ok.above (Nat.le_of_lt I.lt)
theorem Inv.nofs (I : Inv X pins σ H s) {a : Addr} (h : s.heap.objs.size <= a) : a ∉ X.fs := fun hb => by
 obtain ⟨_, o, ho, _⟩ := I.ok.funs.mem hb;exact absurd (Nat.lt_of_lt_of_le (Heap.lt_size ho) (Nat.le_trans I.sz h)) (Nat.lt_irrefl _)
theorem Inv.cne (I : Inv X pins σ H s) : ∀ x c, X.env.cells.lookup x = some c -> c ≠ X.env.locals := fun x c e z => by
 obtain ⟨v, o, ho, hd⟩ := I.cell x c e;obtain ⟨m, ⟨o', es, ep, ho', hd', _⟩, _⟩ := I.loc;rw [z, ho'] at ho; cases ho; rw [hd'] at hd; cases hd
theorem Inv.funs (I : Inv X pins σ H s) : s.heap.FunFrames X.base X.outer := by
 have all : ∀ (l : List Env), (∀ b ∈ frs l, b ∈ X.fs) -> X.s₀.heap.FunFrames X.base l -> s.heap.FunFrames X.base l := by
  intro l
  induction l with
  | nil => intro _ _; trivial
  | cons env r ih =>
    intro hs hl;obtain ⟨hk, ⟨L, o, hf, hn, ho, hd⟩, hr⟩ := hl;have hL : L ∈ X.fs := hs L (by unfold frs; rw [List.filterMap_cons, hf]; exact List.mem_cons_self);obtain ⟨sl, e⟩ := I.base.slot L o ho (I.ok.frf L hL) hL fun z => I.ok.exfs L z hL;exact ⟨hk, ⟨L, _, hf, hn, e, hd⟩, ih (fun b hb => hs b (by unfold frs; rw [List.filterMap_cons, hf]; exact List.mem_cons_of_mem _ hb)) hr⟩
 exact all X.outer (fun _ hb => hb) I.ok.funs
theorem Inv.stack (I : Inv X pins σ H s) : s.heap.FunFrames X.base X.stack := by
 rcases I.ok.stk with e | ⟨e, hf⟩
 ·rw [e]; exact I.funs
 ·rw [e]
  obtain ⟨m, hn, _⟩ := I.loc;refine .cons (by rw [I.ok.kind]; decide) hf hn ?_ I.funs;exact Heap.get?_none_of_le (Nat.le_trans I.ok.bsz I.ok.above)
theorem Inv.stkSub (I : Inv X pins σ H s) : ∀ b ∈ frs X.stack, b ∈ X.env.locals :: X.fs := fun b hb => by
 rcases I.ok.stk with e | ⟨e, hf⟩
 ·rw [e] at hb; exact List.mem_cons_of_mem _ hb
 ·rw [e] at hb
  unfold frs at hb;rw [List.filterMap_cons, hf] at hb;exact hb
theorem Inv.stkFree (I : Inv X pins σ H s) : ∀ b ∈ frs X.stack, H b = none := fun b hb => by
 rcases List.mem_cons.mp (I.stkSub b hb) with e | hb
 ·rw [e]; exact I.free
 ·obtain ⟨_, o, ho, _⟩ := I.ok.funs.mem hb
  exact I.base.free b o ho (I.ok.frf b hb) fun z => I.ok.exfs b z hb
theorem Inv.step {g' : Array GenState} {t' : Nat} {d' : Drawn} {ch : List Addr} (I : Inv X pins σ H s)
 (hch : ∀ b ∈ ch, (b ∈ X.ex \/ X.s₀.heap.objs.size <= b) /\ b ≠ X.env.locals /\ (∀ x c, X.env.cells.lookup x = some c -> c ≠ b) /\ ∀ p ∈ X.pn ++ pins, p.1 ≠ b)
 (keep : ∀ b o, b ≠ X.env.locals -> b ∉ X.fs -> b ∉ ch -> s.heap.get? b = some o -> H b = none -> h'.get? b = some o)
 (slot : ∀ b o, b ≠ X.env.locals -> b ∈ X.fs -> b ∉ ch -> s.heap.get? b = some o -> H b = none -> ∃ sl, h'.get? b = some { o with slots := sl }) (free : ∀ b o, b ∉ ch -> s.heap.get? b = some o -> H b = none -> H' b = none)
 (there : ∀ b o, b ∉ ch -> s.heap.get? b = some o -> ∃ o', h'.get? b = some o')
 (tups : ∀ b xs, H b = some (.tup xs) -> H' b = some (.tup xs)) (frzs : ∀ b o u, H b = some (.frz o u) -> H' b = some (.frz o u)) (tbls : ∀ b ps, H b = some (.tbl ps) -> ∃ more, H' b = some (.tbl (ps ++ more)))
 (ns : ∀ m, s.heap.Ns X.env.locals m -> h'.Ns X.env.locals m) (hok : HOk X.prog X.w H' h') (hg : AllBare g') :
 Inv X pins σ H' { s with heap := h', gens := g', drawn := d', toks := t' } := by
 have neL : ∀ b o, X.s₀.heap.get? b = some o -> b ≠ X.env.locals := fun b o e => Nat.ne_of_lt (Nat.lt_of_lt_of_le (Heap.lt_size e) I.ok.above);have neC : ∀ b o, X.s₀.heap.get? b = some o -> b ∉ X.ex -> b ∉ ch := fun b o e hx hb => by
  rcases (hch b hb).1 with z | z
  ·exact hx z
  ·exact absurd (Nat.lt_of_lt_of_le (Heap.lt_size e) z) (Nat.lt_irrefl _)
 have cellK : ∀ x c, X.env.cells.lookup x = some c -> ∀ v, s.heap.IsCell c v -> h'.IsCell c v := fun x c e v ⟨o, ho, hd⟩ => by
  have nch : c ∉ ch := fun z => (hch c z).2.2.1 x c e rfl;by_cases hc : c ∈ X.fs
  ·obtain ⟨sl, q⟩ := slot c o (I.cne x c e) hc nch ho (I.freeC x c e)
   exact ⟨_, q, hd⟩
  ·exact ⟨o, keep c o (I.cne x c e) hc nch ho (I.freeC x c e), hd⟩
 refine ⟨I.ok, I.os, hg, ⟨fun b o e n hb hx => ?_, fun b o e n hb hx => ?_, fun b o e n hx => ?_, fun b o e hx => ?_, fun b xs e => tups b xs (I.base.tups b xs e), fun b o xs e => frzs b o xs (I.base.frzs b o xs e), fun b ps e => ?_⟩, ?_, fun x c e => ?_, ?_, fun x c e => ?_, fun p hp => ?_, hok, I.len, I.kn⟩
 ·exact keep b o (neL b o e) hb (neC b o e hx) (I.base.keep b o e n hb hx) (I.base.free b o e n hx)
 ·obtain ⟨sl, e1⟩ := I.base.slot b o e n hb hx
  obtain ⟨sl', e2⟩ := slot b _ (neL b o e) hb (neC b o e hx) e1 (I.base.free b o e n hx);exact ⟨sl', e2⟩
 ·obtain ⟨o', e1⟩ := I.base.there b o e hx
  exact free b o' (neC b o e hx) e1 (I.base.free b o e n hx)
 ·obtain ⟨o', e1⟩ := I.base.there b o e hx
  exact there b o' (neC b o e hx) e1
 ·obtain ⟨m1, e1⟩ := I.base.tbls b ps e
  obtain ⟨m2, e2⟩ := tbls b _ e1;exact ⟨m1 ++ m2, by rw [e2, Array.append_assoc]⟩
 ·obtain ⟨m, hn, hl⟩ := I.loc
  refine ⟨m, ns m hn, fun i x v e1 e2 e3 => ?_⟩;obtain ⟨u, r, l⟩ := hl i x v e1 e2 e3;refine ⟨u, r, ?_⟩;rcases l with l | ⟨k, c, e, z⟩
  ·exact .inl l
  ·exact .inr ⟨k, c, e, cellK x c e _ z⟩
 ·obtain ⟨v, z⟩ := I.cell x c e
  exact ⟨v, cellK x c e v z⟩
 ·obtain ⟨m, ⟨o, _, _, ho, _⟩, _⟩ := I.loc
  exact free _ o (fun z => (hch _ z).2.1 rfl) ho I.free
 ·obtain ⟨v, o, ho, hd⟩ := I.cell x c e
  exact free c o (fun z => (hch c z).2.2.1 x c e rfl) ho (I.freeC x c e)
 ·obtain ⟨e, n, ne, nf, d⟩ := I.pin p hp
  have nch : p.1 ∉ ch := fun z => (hch p.1 z).2.2.2 p hp rfl;exact ⟨keep p.1 p.2 ne nf nch e n, free p.1 p.2 nch e n, ne, nf, d⟩
theorem Inv.un {t' : Nat} (I : Inv X pins σ H s) (u : Un X.fs [] H H' s.heap h') (hok : HOk X.prog X.w H' h') : Inv X pins σ H' { s with heap := h', toks := t' } := by
 obtain ⟨m, ⟨o, es, ep, ho, r⟩, _⟩ := id I.loc;obtain ⟨sl, hL⟩ := u.any ho I.free (by simp);exact I.step (g' := s.gens) (d' := s.drawn) (ch := []) (fun _ z => nomatch z) (fun b o _ hb _ e n => u.keep b o e n hb (by simp)) (fun b o _ hb _ e n => u.slot b o e n hb (by simp)) (fun b o _ e n => u.free b o e n (by simp)) (fun b o _ e => u.there b o e (by simp)) u.tups u.frzs u.tbls (fun m' hm => by
  obtain ⟨o', es', ep', ho', r'⟩ := hm;rw [ho] at ho'; cases ho';exact ⟨_, es', ep', hL, r'⟩) hok I.bare
theorem Inv.call {g' : Array GenState} {t' : Nat} {d' : Drawn} {ch : List Addr} (I : Inv X pins σ H s) (u : Un (frs X.stack) ch H H' s.heap h') (hok : HOk X.prog X.w H' h') (hg : AllBare g')
 (hch : ∀ b ∈ ch, (b ∈ X.ex \/ X.s₀.heap.objs.size <= b) /\ b ≠ X.env.locals /\ (∀ x c, X.env.cells.lookup x = some c -> c ≠ b) /\ ∀ p ∈ X.pn ++ pins, p.1 ≠ b) :
 Inv X pins σ H' { s with heap := h', gens := g', drawn := d', toks := t' } := by
 obtain ⟨m, ⟨o, es, ep, ho, r⟩, _⟩ := id I.loc;obtain ⟨sl, hL⟩ := u.any ho I.free fun z => (hch _ z).2.1 rfl;exact I.step (ch := ch) hch (fun b o hL hb hc e n => u.keep b o e n (fun z => (List.mem_cons.mp (I.stkSub b z)).elim hL hb) hc) (fun b o _ _ hc e n => u.any e n hc) (fun b o hc e n => u.free b o e n hc) (fun b o hc e => u.there b o e hc) u.tups u.frzs u.tbls (fun m' hm => by
  obtain ⟨o', es', ep', ho', r'⟩ := hm;rw [ho] at ho'; cases ho';exact ⟨_, es', ep', hL, r'⟩) hok hg
theorem Inv.turned {t' : Nat} {it : Addr} (I : Inv X pins σ H s) (k : ∀ b o, b ≠ it -> s.heap.get? b = some o -> h'.get? b = some o) (hn : H it = none) (hL : it ≠ X.env.locals)
 (h1 : it ∈ X.ex \/ X.s₀.heap.objs.size <= it) (h2 : ∀ x c, X.env.cells.lookup x = some c -> c ≠ it) (h3 : ∀ p ∈ X.pn ++ pins, p.1 ≠ it) : Inv X pins σ H { s with heap := h', toks := t' } := by
 have nit : ∀ b u, H b = some u -> b ≠ it := fun b u e z => by rw [z, hn] at e; cases e
 refine I.step (g' := s.gens) (d' := s.drawn) (ch := [it]) (fun b hb => ?_) (fun b o _ _ hc e _ => k b o (fun z => hc (by simp [z])) e) (fun b o _ _ hc e _ => ⟨o.slots, k b o (fun z => hc (by simp [z])) e⟩) (fun _ _ _ _ n => n)
  (fun b o hc e => ⟨o, k b o (fun z => hc (by simp [z])) e⟩) (fun _ _ e => e) (fun _ _ _ e => e) (fun b ps e => ⟨#[], by rw [e]; simp⟩) (fun m hm => ?_) (fun b u e => ?_) I.bare
 ·have e : b = it := by simpa using hb
  subst e;exact ⟨h1, hL, h2, h3⟩
 ·obtain ⟨o, es, ep, ho, r⟩ := hm
  exact ⟨o, es, ep, k _ o (Ne.symm hL) ho, r⟩
 ·refine (I.hok b u e).stay (fun c v hc q => k c v ?_ q) (fun _ q => q) fun _ _ q => q
  rcases hc with z | z
  ·rw [z]; exact nit b u e
  ·exact nit c _ z
theorem Inv.tok (I : Inv X pins σ H s) (t : Nat) : Inv X pins σ H { s with toks := t } := I.un (h' := s.heap) (t' := t) Un.refl I.hok
theorem Inv.kept {t' : Nat} (I : Inv X pins σ H s) (k : ∀ b u, s.heap.get? b = some u -> h'.get? b = some u) : Inv X pins σ H { s with heap := h', toks := t' } := I.un (Un.kept k) (I.hok.kept k)
theorem Inv.laid {a : Addr} {o : HO} {t' : Nat} (I : Inv X pins σ H s) (k : ∀ b u, s.heap.get? b = some u -> h'.get? b = some u) (hp : s.heap.objs.size <= a) (new : zfb X.prog X.w (upd H a o) h' a o) :
 Inv X pins σ (upd H a o) { s with heap := h', toks := t' } := I.un (Un.laid k hp (I.hok.fresh hp)) (I.hok.laid k hp new)
theorem Inv.write {x e : Addr} {o : HO} {t' : Nat} (I : Inv X pins σ H s) (mu : Mut (H x)) (he : e = x \/ H e = some (.own x)) (k : ∀ b u, b ≠ e -> s.heap.get? b = some u -> h'.get? b = some u) (heo : ∃ u, h'.get? e = some u)
 (new : zfb X.prog X.w (upd H x o) h' x o) : Inv X pins σ (upd H x o) { s with heap := h', toks := t' } := I.un (Un.write mu he k heo) (I.hok.write mu he k heo new)
theorem Inv.weak {σ' : List (Option V)} (I : Inv X pins σ H s) (hl : σ'.length = σ.length) (w : ∀ (i : Nat) v, σ'[i]? = some (some v) -> σ[i]? = some (some v)) (wk : ∀ (i : Nat) (v : V), X.kn[i]? = some (some v) -> σ'[i]? = some (some v)) : Inv X pins σ' H s :=
 ⟨I.ok, I.os, I.bare, I.base, let ⟨m, hn, hl'⟩ := I.loc; ⟨m, hn, fun i x v e1 e2 e3 => hl' i x v e1 (w i v e2) e3⟩, I.cell, I.free, I.freeC, I.pin, I.hok, hl.trans I.len, wk⟩
theorem Inv.pins_of {pins' : List (Addr × Obj)} (I : Inv X pins σ H s) (h : ∀ p ∈ pins', s.heap.get? p.1 = some p.2 /\ H p.1 = none /\ p.1 ≠ X.env.locals /\ p.1 ∉ X.fs /\ ∀ v, p.2.data ≠ .cell v) : Inv X pins' σ H s :=
 ⟨I.ok, I.os, I.bare, I.base, I.loc, I.cell, I.free, I.freeC, fun p hp => (List.mem_append.mp hp).elim (fun z => I.pin p (List.mem_append_left _ z)) (h p), I.hok, I.len, I.kn⟩
theorem zoa {N : List Str} (hN : N.Nodup) {i j : Nat} {x : Str} (a : N[i]? = some x) (b : N[j]? = some x) : i = j := by
 obtain ⟨h1, e1⟩ := List.getElem?_eq_some_iff.mp a;obtain ⟨h2, e2⟩ := List.getElem?_eq_some_iff.mp b;exact (List.getElem_inj hN).mp (e1.trans e2.symm)
theorem zlt {M : Model} {A : Around} {E : Value -> Shared -> Prop} {i : Nat} {x : Str} {v : V} {u : Value} {Q : Unit -> Shared -> Prop} (I : Inv X pins σ H s) (hN : X.N.Nodup) (hi : X.N[i]? = some x) (hx : Loc X.env.scope x) (r : RelV v u)
 (h : ∀ s', Inv X pins (σ.set i (some v)) H s' -> (∃ a, Heap.SameBut a s.heap s'.heap /\ (a = X.env.locals \/ X.env.cells.lookup x = some a)) -> Q () s') (hf : X.fn x = true \/ X.env.scope.names.lookup x = some .local := by first | exact .inl rfl | exact .inr rfl | assumption) (hkn : ∀ u : V, X.kn[i]? ≠ some (some u) := by first | assumption | exact fun u h => nomatch (show (none : Option (Option V)) = some (some u) from h) | exact fun u h => nomatch (Option.some.inj (show some (none : Option V) = some (some u) from h))) : wpAny M A (storeName X.env x u) Q E s := by
 obtain ⟨m, hn, hl⟩ := id I.loc;have hcls : (X.env.scope.kind == .class || (X.env.scope.kind == .module && X.env.locals != X.env.globals)) = false := by rw [I.ok.kind]; rfl
 have hiσ : i < σ.length := by rw [I.len]; exact (List.getElem?_eq_some_iff.mp hi).1
 have cne := I.cne;have kn' : ∀ (j : Nat) (v' : V), X.kn[j]? = some (some v') -> (σ.set i (some v))[j]? = some (some v') := fun j v' e => by
  by_cases hj : j = i
  ·subst hj; exact absurd e (hkn v')
  ·rw [List.getElem?_set_ne (Ne.symm hj)]; exact I.kn j v' e
 have tracked : ∀ {a : Addr} {h' : Heap}, (∃ o, s.heap.get? a = some o /\ H a = none) -> Heap.SameBut a s.heap h' -> HOk X.prog X.w H h' := fun {a h'} ha hs b ob e => by
  obtain ⟨_, _, hfree⟩ := ha;refine (I.hok b ob e).stay (fun c w' hc q => (hs.2 c ?_).trans q) (fun _ q => q) fun _ _ q => q;rintro rfl;rcases hc with rfl | hc
  ·rw [hfree] at e; cases e
  ·rw [hfree] at hc; cases hc
 rcases hx with hk | hk
 ·refine wpAny_storeName_local hk hn (fun h' hn' hs => ?_) hcls
  obtain ⟨oL, _, _, hoL, _⟩ := id hn;refine h _ ⟨I.ok, I.os, I.bare, ⟨fun b o e n hb hx => ?_, fun b o e n hb hx => ?_, I.base.free, fun b o e hx => ?_, I.base.tups, I.base.frzs, I.base.tbls⟩, ⟨_, hn', fun j y v' e1 e2 e3 => ?_⟩, fun y c e => ?_, I.free, I.freeC, fun p hp => ?_, tracked ⟨oL, hoL, I.free⟩ hs, by simpa using I.len, kn'⟩ ⟨_, hs, .inl rfl⟩
  ·exact (hs.2 b (Nat.ne_of_lt (Nat.lt_of_lt_of_le (Heap.lt_size e) I.ok.above))).trans (I.base.keep b o e n hb hx)
  ·obtain ⟨sl, e1⟩ := I.base.slot b o e n hb hx
   exact ⟨sl, (hs.2 b (Nat.ne_of_lt (Nat.lt_of_lt_of_le (Heap.lt_size e) I.ok.above))).trans e1⟩
  ·obtain ⟨o', e1⟩ := I.base.there b o e hx
   exact ⟨o', (hs.2 b (Nat.ne_of_lt (Nat.lt_of_lt_of_le (Heap.lt_size e) I.ok.above))).trans e1⟩
  ·by_cases hj : j = i
   ·subst hj
    rw [hi] at e1; cases e1;rw [List.getElem?_set_self hiσ] at e2;cases e2;exact ⟨u, r, .inl ⟨hk, by simp⟩⟩
   ·rw [List.getElem?_set_ne (Ne.symm hj)] at e2
    obtain ⟨u', r', q⟩ := hl j y v' e1 e2 e3;refine ⟨u', r', ?_⟩;rcases q with ⟨k, e⟩ | ⟨k, c, e, z⟩
    ·refine .inl ⟨k, ?_⟩
     have : y ≠ x := fun e => hj (zoa hN e1 (e ▸ hi));simp [this, e]
    ·exact .inr ⟨k, c, e, z.sameBut hs (cne y c e)⟩
  ·obtain ⟨w', z⟩ := I.cell y c e
   exact ⟨w', z.sameBut hs (cne y c e)⟩
  ·obtain ⟨e, n, ne, nf, d⟩ := I.pin p hp
   exact ⟨(hs.2 p.1 ne).trans e, n, ne, nf, d⟩
 ·have hfn : X.fn x = true := by
   rcases hf with z | z
   ·exact z
   ·rw [z] at hk; cases hk
  obtain ⟨c, hc⟩ := I.ok.has x (.inl hk);obtain ⟨w', z⟩ := I.cell x c hc;refine wpAny_storeName_cell I.ok.kind hk hc z (fun h' hc' hs => ?_);obtain ⟨oc, hoc, hocd⟩ := id z;refine h { s with heap := h' } ⟨I.ok, I.os, I.bare, ⟨fun b o e n hb hx => ?_, fun b o e n hb hx => ?_, I.base.free, fun b o e hx => ?_, I.base.tups, I.base.frzs, I.base.tbls⟩, ⟨m, hn.sameBut hs (Ne.symm (cne x c hc)), fun j y v' e1 e2 e3 => ?_⟩, fun y c' e => ?_, I.free, I.freeC, fun p hp => ?_, tracked ⟨oc, hoc, I.freeC x c hc⟩ hs, by simpa using I.len, kn'⟩ ⟨c, hs, .inr hc⟩
  ·exact (hs.2 b (Nat.ne_of_lt (Nat.lt_of_lt_of_le (Heap.lt_size e) (I.ok.cab x c hfn hc)))).trans (I.base.keep b o e n hb hx)
  ·obtain ⟨sl, e1⟩ := I.base.slot b o e n hb hx
   exact ⟨sl, (hs.2 b (Nat.ne_of_lt (Nat.lt_of_lt_of_le (Heap.lt_size e) (I.ok.cab x c hfn hc)))).trans e1⟩
  ·obtain ⟨o', e1⟩ := I.base.there b o e hx
   exact ⟨o', (hs.2 b (Nat.ne_of_lt (Nat.lt_of_lt_of_le (Heap.lt_size e) (I.ok.cab x c hfn hc)))).trans e1⟩
  ·by_cases hj : j = i
   ·subst hj
    rw [hi] at e1; cases e1;rw [List.getElem?_set_self hiσ] at e2;cases e2;exact ⟨u, r, .inr ⟨.inl hk, c, hc, hc'⟩⟩
   ·rw [List.getElem?_set_ne (Ne.symm hj)] at e2
    obtain ⟨u', r', q⟩ := hl j y v' e1 e2 e3;refine ⟨u', r', ?_⟩;rcases q with q | ⟨k, c', e, z'⟩
    ·exact .inl q
    ·refine .inr ⟨k, c', e, z'.sameBut hs ?_⟩
     rintro rfl;exact hj (zoa hN e1 (I.ok.inj _ _ _ e hc ▸ hi))
  ·by_cases hcc : c' = c
   ·subst hcc; exact ⟨_, hc'⟩
   ·obtain ⟨w2, z2⟩ := I.cell y c' e
    exact ⟨w2, z2.sameBut hs hcc⟩
  ·obtain ⟨e, n, ne, nf, d⟩ := I.pin p hp
   refine ⟨(hs.2 p.1 ?_).trans e, n, ne, nf, d⟩;intro q;rw [q, hoc] at e;have q' : oc = p.2 := Option.some.inj e;exact d w' (by rw [<- q']; exact hocd)
theorem zlh {M : Model} {A : Around} {E : Value -> Shared -> Prop} {i : Nat} {x : Str} {v : V} {u : Value} {Q : Unit -> Shared -> Prop} (I : Inv X pins σ H s) (hN : X.N.Nodup) (hi : X.N[i]? = some x) (hx : Loc X.env.scope x) (r : RelV v u)
 (h : ∀ s', Inv X pins (σ.set i (some v)) H s' -> Q () s') (hf : X.fn x = true \/ X.env.scope.names.lookup x = some .local := by first | exact .inl rfl | exact .inr rfl | assumption) (hkn : ∀ u : V, X.kn[i]? ≠ some (some u) := by first | assumption | exact fun u h => nomatch (show (none : Option (Option V)) = some (some u) from h) | exact fun u h => nomatch (Option.some.inj (show some (none : Option V) = some (some u) from h))) : wpAny M A (storeName X.env x u) Q E s :=
 zlt I hN hi hx r (fun s' I' _ => h s' I') hf hkn
theorem Inv.call' {s' : Shared} {ch : List Addr} (I : Inv X pins σ H s) (ho : s'.os = s.os) (u : Un (frs X.stack) ch H H' s.heap s'.heap) (hok : HOk X.prog X.w H' s'.heap) (hg : AllBare s'.gens)
 (hch : ∀ b ∈ ch, (b ∈ X.ex \/ X.s₀.heap.objs.size <= b) /\ b ≠ X.env.locals /\ (∀ x c, X.env.cells.lookup x = some c -> c ≠ b) /\ ∀ p ∈ X.pn ++ pins, p.1 ≠ b) : Inv X pins σ H' s' := by
 obtain ⟨h', g', d', t', o'⟩ := s';have e : o' = s.os := ho;subst e;exact I.call (g' := g') (t' := t') (d' := d') u hok hg hch
end
abbrev XK := Value -> Option Addr -> Hp -> Prop
abbrev St := List (Option V)
abbrev VK := V -> Hp -> Prop
abbrev TE := St -> Hp -> VK -> Prop
abbrev TT := St -> Hp -> (Bool -> Hp -> Prop) -> Prop
abbrev TA := St -> Hp -> (List V -> Hp -> Prop) -> Prop
structure Ends where
 nx : St -> Hp -> Prop
 rt : VK
 bk : St -> Hp -> Prop := fun _ _ => False
 ct : St -> Hp -> Prop := fun _ _ => False
abbrev TS := Ends -> St -> Hp -> Prop
def EP (X : Cx) (pins : List (Addr × Obj)) (σ : St) (Q : VK) (u : Value) (s' : Shared) : Prop := ∃ v H', Inv X pins σ H' s' /\ RelV v u /\ Q v H'
def TP (X : Cx) (pins : List (Addr × Obj)) (σ : St) (Q : Bool -> Hp -> Prop) (b : Bool) (s' : Shared) : Prop := ∃ H', Inv X pins σ H' s' /\ Q b H'
def AP (X : Cx) (pins : List (Addr × Obj)) (σ : St) (Q : List V -> Hp -> Prop) (us : List Value) (s' : Shared) : Prop := ∃ vs H', Inv X pins σ H' s' /\ Vals vs us /\ Q vs H'
def SP (X : Cx) (pins : List (Addr × Obj)) (D : Ends) (f : Flow) (s' : Shared) : Prop :=
 match f with
 | .next => ∃ σ' H', Inv X pins σ' H' s' /\ D.nx σ' H'
 | .brk => ∃ σ' H', Inv X pins σ' H' s' /\ D.bk σ' H'
 | .cont => ∃ σ' H', Inv X pins σ' H' s' /\ D.ct σ' H'
 | .ret u => ∃ v σ' H', Inv X pins σ' H' s' /\ RelV v u /\ D.rt v H'
def PE (X : Cx) (e : Expr) (t : TE) : Prop :=
 ∀ (pins : List (Addr × Obj)) (s : Shared) (σ : St) (H : Hp) (Q : VK), Inv X pins σ H s -> t σ H Q -> wpAny (model X.prog X.w) X.A (eval e X.env) (EP X pins σ Q) X.xe s
def PT (X : Cx) (e : Expr) (t : TT) : Prop :=
 ∀ (pins : List (Addr × Obj)) (s : Shared) (σ : St) (H : Hp) (Q : Bool -> Hp -> Prop), Inv X pins σ H s -> t σ H Q -> wpAny (model X.prog X.w) X.A (isTrue e X.env (eval e X.env)) (TP X pins σ Q) X.xe s
def PW (X : Cx) (e : Expr) (t : TT) : Prop :=
 ∀ (whole : Sem Value) (pins : List (Addr × Obj)) (s : Shared) (σ : St) (H : Hp) (Q : Bool -> Hp -> Prop), Inv X pins σ H s -> t σ H Q -> wpAny (model X.prog X.w) X.A (isTrue e X.env whole) (TP X pins σ Q) X.xe s
theorem PW.pt {X : Cx} {e : Expr} {t : TT} (h : PW X e t) : PT X e t := h _
def PA (X : Cx) (es : List Expr) (t : TA) : Prop :=
 ∀ (pos : Pos) (pins : List (Addr × Obj)) (s : Shared) (σ : St) (H : Hp) (Q : List V -> Hp -> Prop), Inv X pins σ H s -> t σ H Q -> wpAny (model X.prog X.w) X.A (spliced (backTo pos (starEach es X.env))) (AP X pins σ Q) X.xe s
def PS (X : Cx) (st : Stmt) (t : TS) : Prop :=
 ∀ (pins : List (Addr × Obj)) (s : Shared) (σ : St) (H : Hp) (D : Ends), Inv X pins σ H s -> t D σ H -> wpAny (model X.prog X.w) X.A (exec st X.env) (SP X pins D) X.xe s
def PSs (X : Cx) (st : List Stmt) (t : TS) : Prop :=
 ∀ (pins : List (Addr × Obj)) (s : Shared) (σ : St) (H : Hp) (D : Ends), Inv X pins σ H s -> t D σ H -> wpAny (model X.prog X.w) X.A (execs st X.env) (SP X pins D) X.xe s
theorem thn {α : Type} {t : Sem α} {Q Q' : α -> Shared -> Prop} {M : Model} {A : Around} {E : Value -> Shared -> Prop} {s : Shared} (h : wpAny M A t Q E s) (hQ : ∀ a s, Q a s -> Q' a s) : wpAny M A t Q' E s := wpAny_mono h hQ fun _ _ x => x
end L2
namespace L2
open PySem PySem.Spec PyProof.Rows
section
variable {X : Cx}
theorem bin {a b : Expr} {ta tb : TE} (ha : PE X a ta) (hb : PE X b tb) {pins : List (Addr × Obj)} {s : Shared} {σ : St} {H : Hp} {R : V -> V -> Hp -> Prop} (I : Inv X pins σ H s) (h : ta σ H fun x H1 => tb σ H1 fun y H2 => R x y H2)
 {α : Type} {Q : α -> Shared -> Prop} {f : Value -> Value -> Sem α}
 (hf : ∀ v u s2 x y H2, Inv X pins σ H2 s2 -> RelV x v -> RelV y u -> R x y H2 -> wpAny (model X.prog X.w) X.A (f v u) Q X.xe s2) :
 wpAny (model X.prog X.w) X.A (eval a X.env) (fun v s₁ => wpAny (model X.prog X.w) X.A (eval b X.env) (fun u s₂ => wpAny (model X.prog X.w) X.A (f v u) Q X.xe s₂) X.xe s₁) X.xe s := by
 refine thn (ha pins s σ H _ I h) fun v s1 hq_ => ?_;obtain ⟨x, H1, I1, r1, q1⟩ := hq_;refine thn (hb pins s1 σ H1 _ I1 q1) fun u s2 hq_ => ?_;obtain ⟨y, H2, I2, r2, q2⟩ := hq_;exact hf v u s2 x y H2 I2 r1 r2 q2
def tVar (i : Nat) : TE := fun σ H Q => ∃ v, σ[i]? = some (some v) /\ Q v H
def tC (v : V) : TE := fun _ H Q => Q v H
theorem zfh {i : Nat} {x : Str} {pos : Pos} (hN : X.N[i]? = some x) (hv : Vis X.env.scope x) (hd : (x == ("__debug__" : Str)) = false := by decide) (hcd : (x == ("__classdict__" : Str)) = false := by decide) : PE X (.Name x pos) (tVar i) := by
 intro pins s σ H Q I h;obtain ⟨v, e, h⟩ := h;obtain ⟨m, hn, hl⟩ := I.loc;obtain ⟨u, r, l⟩ := hl i x v hN e hv;have fin : EP X pins σ Q u s := ⟨v, H, I, r, h⟩;rcases l with ⟨hk, hm⟩ | ⟨hk, c, hc, hcell⟩
 ·exact wpAny_Name (wpAny_loadName_local I.ok.kind hk hn hm fin) hd
 ·rcases hk with hk | hk
  ·exact wpAny_Name (wpAny_loadName_cell I.ok.kind hk hc hcell fin) hd
  ·exact wpAny_Name (wpAny_loadName_free I.ok.kind hk hc hcell fin hcd) hd
theorem z36 {i j pos} : PE X (.Constant (.int i) j pos) (tC (.int i)) := fun _ _ _ H _ I h => wpAny_Constant_int ⟨.int i, H, I.tok _, ⟨_, rfl⟩, h⟩
theorem z60 {b j pos} : PE X (.Constant (.bool b) j pos) (tC (.bl b)) := fun _ _ _ H _ I h => Constant_bool ⟨.bl b, H, I, rfl, h⟩
theorem z37 {j pos} : PE X (.Constant .none j pos) (tC .non) := fun _ _ _ H _ I h => Constant_none ⟨.non, H, I, rfl, h⟩
theorem zpf {x j pos} : PE X (.Constant (.str x) j pos) (tC (.str x)) := fun _ _ _ H _ I h => Calls.Constant_str ⟨.str x, H, I.tok _, ⟨_, rfl⟩, h⟩
def Gl (X : Cx) (x : Str) : Prop := X.env.kindOf x = some .globalImplicit
theorem zhj {E : Value -> Shared -> Prop} {pins : List (Addr × Obj)} {s : Shared} {σ : St} {H : Hp} {x : Str} {u : Value} {pos : Pos} {Q : Value -> Shared -> Prop} (I : Inv X pins σ H s) (hg : Gl X x) (hm : X.mg x = some u) (h : Q u s)
 (hd : (x == ("__debug__" : Str)) = false := by decide) : wpAny (model X.prog X.w) X.A (eval (.Name x pos) X.env) Q E s :=
 Calls.Name_function_global I.ok.kind hg (Calls.loadGlobal_global (by rw [I.ok.glob]; exact I.mod.glob.keeps I.bk) hm h) hd
theorem znm {E : Value -> Shared -> Prop} {pins : List (Addr × Obj)} {s : Shared} {σ : St} {H : Hp} {x : Str} {u : Value} {pos : Pos} {Q : Value -> Shared -> Prop} (I : Inv X pins σ H s) (hg : Gl X x) (hm : X.mg x = none) (hv : bootBuiltins x = some u) (h : Q u s)
 (hn : x ≠ "__name__" := by decide) (hd : (x == ("__debug__" : Str)) = false := by decide) : wpAny (model X.prog X.w) X.A (eval (.Name x pos) X.env) Q E s := by
 obtain ⟨mb, h1, h2⟩ := I.mod.blt;exact Calls.Name_function_global I.ok.kind hg (Calls.loadGlobal_builtin (by rw [I.ok.glob]; exact I.mod.glob.keeps I.bk) hm (by rw [I.ok.blt]; exact h1.keeps I.bk) ((h2 x hn).trans hv) h) hd
theorem zu4 {x : Str} {v : V} {u : Value} {pos : Pos} (hg : Gl X x) (hm : X.mg x = some u) (r : RelV v u) (hd : (x == ("__debug__" : Str)) = false := by decide) : PE X (.Name x pos) (tC v) :=
 fun _ _ _ H _ I h => zhj I hg hm ⟨v, H, I, r, h⟩ hd
theorem z05 {x : Str} {v : V} {u : Value} {pos : Pos} (hg : Gl X x) (hm : X.mg x = none) (hv : bootBuiltins x = some u) (r : RelV v u) (hn : x ≠ "__name__" := by decide) (hd : (x == ("__debug__" : Str)) = false := by decide) : PE X (.Name x pos) (tC v) :=
 fun _ _ _ H _ I h => znm I hg hm hv ⟨v, H, I, r, h⟩ hn hd
variable {a b : Expr} {ta tb : TE} {pos : Pos}
def PC (X : Cx) (op : CmpOp) (a b : Expr) (t : TE) : Prop :=
 ∀ (pins : List (Addr × Obj)) (s : Shared) (σ : St) (H : Hp) (Q : VK), Inv X pins σ H s -> t σ H Q ->
   wpAny (model X.prog X.w) X.A (eval a X.env) (fun v s₁ => wpAny (model X.prog X.w) X.A (eval b X.env) (fun u s₂ => wpAny (model X.prog X.w) X.A (compareOp op v u) (EP X pins σ Q) X.xe s₂) X.xe s₁) X.xe s
theorem zsq (b : Expr) {op : CmpOp} (h : op ≠ .In) (h2 : op ≠ .NotIn) : behindInMarks op b = false := by
 have e1 : (op == CmpOp.In) = false := by cases op <;> first | rfl | exact absurd rfl h
 have e2 : (op == CmpOp.NotIn) = false := by cases op <;> first | rfl | exact absurd rfl h2
 cases b <;> simp [behindInMarks, e1, e2]
def tB (t : TE) : TT := fun σ H Q => t σ H fun x H1 => ∃ c, x = .bl c /\ Q c H1
theorem z38 {op : CmpOp} {t : TE} (h : PC X op a b t) (h1 : behindInMarks op b = false := by first | exact zsq _ (by decide) (by decide) | rfl) : PE X (.Compare a [op] [b] pos) t := fun pins s σ H Q I hw => wpAny_Compare1 (h pins s σ H Q I hw) h1
theorem zzy {op : CmpOp} {t : TE} (h : PC X op a b t) (h1 : behindInMarks op b = false := by first | exact zsq _ (by decide) (by decide) | rfl) : PT X (.Compare a [op] [b] pos) (tB t) := by
 intro pins s σ H Q I hw;refine wpAny_isTrue_Compare1 (thn (h pins s σ H _ I hw) fun v s1 h1 => thn h1 fun u s2 h2 => thn h2 fun c s3 hq_ => ?_) h1;obtain ⟨x, H1, I1, r1, q1⟩ := hq_;obtain ⟨d, rfl, q⟩ := q1;cases r1;exact wpAny_truthy_bool ⟨H1, I1, q⟩
variable {tA tB' : TT} {rest : List Expr}
def tAnd (t u : TT) : TT := fun σ H Q => t σ H fun c H1 => if c = true then u σ H1 Q else Q false H1
def tOr (t u : TT) : TT := fun σ H Q => t σ H fun c H1 => if c = true then Q true H1 else u σ H1 Q
def tNot (t : TT) : TT := fun σ H Q => t σ H fun c H1 => Q (!c) H1
theorem z06 (ha : PT X a tA) : PW X (.BoolOp .And [a] pos) tA := by
 intro wh pins s σ H Q I h;refine isTrue_and (thn (ha pins s σ H Q I h) fun c s1 e => ?_);cases c with
 | true => exact isTrue_and_nil e
 | false => exact e
theorem z39 (ha : PT X a tA) : PW X (.BoolOp .Or [a] pos) tA := by
 intro wh pins s σ H Q I h;refine isTrue_or (thn (ha pins s σ H Q I h) fun c s1 e => ?_);cases c with
 | false => exact isTrue_or_nil e
 | true => exact e
theorem z4a (ha : PT X a tA) (hb : PW X (.BoolOp .And (b :: rest) pos) tB') : PW X (.BoolOp .And (a :: b :: rest) pos) (tAnd tA tB') := by
 intro wh pins s σ H Q I h;refine isTrue_and (thn (ha pins s σ H _ I h) fun c s1 hq_ => ?_);obtain ⟨H1, I1, q1⟩ := hq_;cases c with
 | true => exact hb wh pins s1 σ H1 Q I1 q1
 | false => exact ⟨H1, I1, q1⟩
theorem z61 (ha : PT X a tA) (hb : PW X (.BoolOp .Or (b :: rest) pos) tB') : PW X (.BoolOp .Or (a :: b :: rest) pos) (tOr tA tB') := by
 intro wh pins s σ H Q I h;refine isTrue_or (thn (ha pins s σ H _ I h) fun c s1 hq_ => ?_);obtain ⟨H1, I1, q1⟩ := hq_;cases c with
 | true => exact ⟨H1, I1, q1⟩
 | false => exact hb wh pins s1 σ H1 Q I1 q1
theorem z4b (ha : PT X a tA) : PT X (.UnaryOp .Not a pos) (tNot tA) := by
 intro pins s σ H Q I h;exact isTrue_not (ha pins s σ H (fun c H1 => Q (!c) H1) I h)
def tIf (t : TT) (ta tb : TE) : TE := fun σ H Q => t σ H fun c H1 => if c = true then ta σ H1 Q else tb σ H1 Q
theorem zx5 {c : Expr} (hc : PT X c tA) (ha : PE X a ta) (hb : PE X b tb) : PE X (.IfExp c a b pos) (tIf tA ta tb) := by
 intro pins s σ H Q I h;refine wpAny_IfExp (thn (hc pins s σ H _ I h) fun d s1 hq_ => ?_);obtain ⟨H1, I1, q1⟩ := hq_;cases d with
 | true => exact ha pins s1 σ H1 Q I1 q1
 | false => exact hb pins s1 σ H1 Q I1 q1
end
end L2
namespace L2
open PySem PySem.Spec PyProof.Rows
def SqL (K : PySem.W.Frag) (H : Hp) (a : Addr) (xs : List V) : Prop :=
 Rd H a (.lst xs) \/
  ∃ (o : Obj) (its : Array Value) (n : Nat), K.lookup a = some o /\ o.cls = .type "list" /\ o.dict = none /\ o.data = .seq its n /\ its.size <= sizeLine /\ Vals xs its.toList
def SqT (K : PySem.W.Frag) (H : Hp) (a : Addr) (xs : List V) : Prop :=
 Rd H a (.tup xs) \/
  ∃ (o : Obj) (its : Array Value) (n : Nat), K.lookup a = some o /\ o.cls = .type "tuple" /\ o.data = .seq its n /\ its.size <= sizeLine /\ Vals xs its.toList
def absV : Value -> Option V
 | .none => some .non
 | .bool b => some (.bl b)
 | .int i _ => some (.int i)
 | .str x _ => some (.str x)
 | .bytes b _ => some (.byt b)
 | .float b _ => some (.flt b)
 | .ref a => some (.ref a)
 | .type n => some (.ty n)
 | _ => none
theorem RelV.abs {x : V} {u : Value} (r : RelV x u) : absV u = some x := by
 cases x with
 | non => cases r; rfl
 | bl _ => cases r; rfl
 | int _ => obtain ⟨t, rfl⟩ := r; rfl
 | str _ => obtain ⟨t, rfl⟩ := r; rfl
 | byt _ => obtain ⟨t, rfl⟩ := r; rfl
 | flt _ => obtain ⟨t, rfl⟩ := r; rfl
 | ref _ => cases r; rfl
 | ty _ => cases r; rfl
theorem RelV.inj {x y : V} {u : Value} (r : RelV x u) (q : RelV y u) : x = y := Option.some.inj (r.abs.symm.trans q.abs)
theorem Vals.inj : ∀ {xs ys : List V} {us : List Value}, Vals xs us -> Vals ys us -> xs = ys
 | _, _, _, .nil, .nil => rfl
 | _, _, _, .cons r t, .cons r' t' => by rw [r.inj r', Vals.inj t t']
section
variable {X : Cx} {pins : List (Addr × Obj)} {σ : St} {H : Hp} {s : Shared} {a : Addr} {xs ys : List V}
theorem Inv.list (I : Inv X pins σ H s) (h : SqL X.K H a xs) : ∃ its : List Value, Vals xs its /\ PlainL s.heap a its.toArray /\ xs.length <= sizeLine := by
 rcases h with h | ⟨o, its, n, hk, hc, hd, hs, hz, r⟩
 ·obtain ⟨z, its, n, r, e⟩ := h.ok I.hok
  exact ⟨its, r, ⟨_, n, e, rfl, rfl, rfl⟩, z⟩
 ·refine ⟨its.toList, r, ⟨o, n, I.kIn a o hk, hc, hd, by simpa using hs⟩, ?_⟩
  have e := r.length;simp only [Array.length_toList] at e;omega
theorem Inv.tuple (I : Inv X pins σ H s) (h : SqT X.K H a xs) : ∃ its : List Value, Vals xs its /\ IsTup s.heap a its.toArray /\ xs.length <= sizeLine := by
 rcases h with h | ⟨o, its, n, hk, hc, hs, hz, r⟩
 ·obtain ⟨z, its, r, p⟩ := h.ok I.hok
  exact ⟨its, r, p, z⟩
 ·refine ⟨its.toList, r, ⟨o, I.kIn a o hk, hc, n, by simpa using hs⟩, ?_⟩
  have e := r.length;simp only [Array.length_toList] at e;omega
theorem Inv.list_inj (I : Inv X pins σ H s) (h : SqL X.K H a xs) (h' : SqL X.K H a ys) : xs = ys := by
 obtain ⟨its, r, ⟨o, n, e, _, _, d⟩, _⟩ := I.list h;obtain ⟨its', r', ⟨o', n', e', _, _, d'⟩, _⟩ := I.list h';rw [e] at e'; cases e';rw [d] at d';injection d' with d1 _;have : its = its' := by simpa using congrArg Array.toList d1
 subst this;exact r.inj r'
end
section
variable {X : Cx} {st : Stmt} {rest : List Stmt} {t u : TS} {e : Expr} {te : TE} {pos : Pos}
def z62 : TS := fun D σ H => D.nx σ H
def tSeq (t u : TS) : TS := fun D σ H => t { D with nx := u D } σ H
theorem z07 : PSs X [] z62 := fun _ _ σ H _ I h => wpAny_execs_nil ⟨σ, H, I, h⟩
theorem zit (h1 : PS X st t) (h2 : PSs X rest u) : PSs X (st :: rest) (tSeq t u) := by
 intro pins s σ H D I h;refine wpAny_execs_cons (thn (h1 pins s σ H { D with nx := u D } I h) fun f s1 q => ?_);cases f with
 | next =>
   obtain ⟨σ', H', I', q⟩ := q;exact h2 pins s1 σ' H' D I' q
 | ret v => exact q
 | brk => exact q
 | cont => exact q
theorem zob (h1 : PS X st t) : PSs X [st] t := by
 intro pins s σ H D I h;refine wpAny_execs_cons (thn (h1 pins s σ H D I h) fun f s1 q => ?_);cases f with
 | next => exact wpAny_execs_nil q
 | ret v => exact q
 | brk => exact q
 | cont => exact q
theorem Inv.quiet {pins : List (Addr × Obj)} {σ : St} {H : Hp} {s : Shared} (I : Inv X pins σ H s) : interactive X.env = false := by simp [interactive, I.ok.kind]
def z08 (te : TE) : TS := fun D σ H => te σ H fun _ H1 => D.nx σ H1
theorem zoc (he : PE X e te) (hs : swapsWith e none pos.line X.env = pure false := by rfl) : PS X (.Expr e pos) (z08 te) := by
 intro pins s σ H D I h;exact wpAny_Expr_any (thn (he pins s σ H _ I h) fun v s1 ⟨x, H1, I1, r1, q1⟩ => ⟨σ, H1, I1, q1⟩) I.quiet hs
def tRet (te : TE) : TS := fun D σ H => te σ H D.rt
theorem z4c (he : PE X e te) : PS X (.Return (some e) pos) (tRet te) := by
 intro pins s σ H D I h;exact wpAny_Return_some (thn (he pins s σ H _ I h) fun v s1 ⟨x, H1, I1, r1, q1⟩ => ⟨x, σ, H1, I1, r1, q1⟩)
def z63 : TS := fun D _ H => D.rt .non H
theorem z09 : PS X (.Return none pos) z63 := fun _ _ σ H _ I h => wpAny_Return_none ⟨.non, σ, H, I, rfl, h⟩
def tIfS (c : TT) (t u : TS) : TS := fun D σ H => c σ H fun b H1 => if b = true then t D σ H1 else u D σ H1
theorem z64 {c : Expr} {a b : List Stmt} {tc : TT} (hc : PT X c tc) (ha : PSs X a t) (hb : PSs X b u) : PS X (.If c a b pos) (tIfS tc t u) := by
 intro pins s σ H D I h;refine wpAny_If (thn (hc pins s σ H _ I h) fun d s1 hq_ => ?_);obtain ⟨H1, I1, q1⟩ := hq_;cases d with
 | true => exact ha pins s1 σ H1 D I1 q1
 | false => exact hb pins s1 σ H1 D I1 q1
end
abbrev TG := V -> St -> Hp -> (St -> Hp -> Prop) -> Prop
abbrev TGs := List V -> St -> Hp -> (St -> Hp -> Prop) -> Prop
def PG (X : Cx) (target : Expr) (t : TG) : Prop :=
 ∀ (pins : List (Addr × Obj)) (s : Shared) (σ : St) (H : Hp) (v : V) (u : Value) (Q : St -> Hp -> Prop), Inv X pins σ H s -> RelV v u -> t v σ H Q ->
   wpAny (model X.prog X.w) X.A (assign target X.env u) (fun _ s' => ∃ σ' H', Inv X pins σ' H' s' /\ Q σ' H') X.xe s
def PGs (X : Cx) (ts : List Expr) (t : TGs) : Prop :=
 ∀ (pins : List (Addr × Obj)) (s : Shared) (σ : St) (H : Hp) (vs : List V) (us : List Value) (Q : St -> Hp -> Prop), Inv X pins σ H s -> Vals vs us -> t vs σ H Q ->
   wpAny (model X.prog X.w) X.A (assignInOrder ((assignEach ts X.env).map (·.2)) us) (fun _ s' => ∃ σ' H', Inv X pins σ' H' s' /\ Q σ' H') X.xe s
section
variable {X : Cx} {pos : Pos}
def zm6 (i : Nat) : TG := fun v σ H Q => Q (σ.set i (some v)) H
theorem zct {i : Nat} {x : Str} (hN : X.N.Nodup) (hi : X.N[i]? = some x) (hx : Loc X.env.scope x) (hf : X.fn x = true \/ X.env.scope.names.lookup x = some .local := by first | exact .inl rfl | exact .inr rfl | assumption) (hkn : ∀ u : V, X.kn[i]? ≠ some (some u) := by first | assumption | exact fun u h => nomatch (show (none : Option (Option V)) = some (some u) from h) | exact fun u h => nomatch (Option.some.inj (show some (none : Option V) = some (some u) from h))) : PG X (.Name x pos) (zm6 i) := by
 intro pins s σ H v u Q I r h;exact wpAny_assign_Name (zlh I hN hi hx r (fun s' I' => ⟨_, H, I', h⟩) hf hkn)
def gNil : TGs := fun vs σ H Q => vs = [] /\ Q σ H
def z1a (t : TG) (u : TGs) : TGs := fun vs σ H Q => ∃ v r, vs = v :: r /\ t v σ H fun σ' H' => u r σ' H' Q
theorem z1b : PGs X [] gNil := by
 intro pins s σ H vs us Q I r h;obtain ⟨e, h⟩ := h;subst e;cases r;exact assignInOrder_nil ⟨σ, H, I, h⟩
theorem zsr {e : Expr} {es : List Expr} {t : TG} {u : TGs} (h1 : PG X e t) (h2 : PGs X es u)
 (hs : (assignEach (e :: es) X.env).map (·.2) = assign e X.env :: (assignEach es X.env).map (·.2) := by rfl) : PGs X (e :: es) (z1a t u) := by
 intro pins s σ H vs us Q I r h;obtain ⟨v, vr, e1, h⟩ := h;subst e1;cases r with
 | cons r rr =>
   rw [hs];refine assignInOrder_cons (thn (h1 pins s σ H _ _ _ I r h) fun _ s1 hq_ => ?_);obtain ⟨σ1, H1, I1, q1⟩ := hq_;exact h2 pins s1 σ1 H1 _ _ Q I1 rr q1
def gTup (K : PySem.W.Frag) (n : Nat) (t : TGs) : TG := fun v σ H Q => ∃ a xs, v = .ref a /\ SqT K H a xs /\ xs.length = n /\ t xs σ H Q
theorem z4d {es : List Expr} {k : Nat} {t : TGs} {n : Nat} (hc : X.calm = true) (h : PGs X es t)
 (hn : (assignEach es X.env).length = n := by rfl) (hst : (assignEach es X.env).findIdx? (·.1) = none := by rfl) : PG X (.Tuple es k pos) (gTup X.K n t) := by
 intro pins s σ H v u Q I r hw;obtain ⟨a, xs, e1, hq, hl, hw⟩ := hw;subst e1;cases r;obtain ⟨its, rv, ht, hz⟩ := I.tuple hq;refine assign_Tuple_tuple (I.ok.hd hc) ht (by simp [hn, <- hl, rv.length]) hst fun h' hx => ?_;have I1 : Inv X pins σ H { s with heap := h' } := I.kept (t' := s.toks) fun b o e => hx b o (Nat.ne_of_lt (Heap.lt_size e)) e;exact h pins _ σ H xs _ Q I1 (by simpa using rv) hw
def tAsg (te : TE) (g : TG) : TS := fun D σ H => te σ H fun x H1 => g x σ H1 D.nx
theorem z4e {i : Nat} {x : Str} {e : Expr} {te : TE} {pos' : Pos} (hN : X.N.Nodup) (hi : X.N[i]? = some x) (hx : Loc X.env.scope x) (he : PE X e te) (hs : swapsWith e (some (.Name x pos')) pos.line X.env = pure false := by rfl) (hf : X.fn x = true \/ X.env.scope.names.lookup x = some .local := by first | exact .inl rfl | exact .inr rfl | assumption) (hkn : ∀ u : V, X.kn[i]? ≠ some (some u) := by first | assumption | exact fun u h => nomatch (show (none : Option (Option V)) = some (some u) from h) | exact fun u h => nomatch (Option.some.inj (show some (none : Option V) = some (some u) from h))) :
 PS X (.Assign [.Name x pos'] e pos) (tAsg te (zm6 i)) := by
 intro pins s σ H D I h;refine wpAny_Assign_Name (thn (he pins s σ H _ I h) fun v s1 hq_ => ?_) hs;obtain ⟨y, H1, I1, r1, q1⟩ := hq_;exact zlh I1 hN hi hx r1 (fun s2 I2 => ⟨_, H1, I2, q1⟩) hf hkn
end
section
variable {X : Cx} {pos : Pos}
def z4f (c : TT) (tb : TS) : TS := fun D σ H => ∃ W : Nat -> St -> Hp -> Prop, (∃ m, W m σ H) /\ ∀ m σ H, W m σ H ->
 c σ H fun b H1 => if b = true then ∃ N : St -> Hp -> Prop, (∀ σ' H', N σ' H' -> ∃ m', m' < m /\ W m' σ' H') /\ tb { D with nx := N, ct := N, bk := D.nx } σ H1 else D.nx σ H1
theorem zx6 {c : Expr} {body : List Stmt} {tc : TT} {tb : TS} (hp : PassesOwn (model X.prog X.w) X.A X.env X.xe) (hc : PT X c tc) (hb : PSs X body tb) : PS X (.While c body [] pos) (z4f tc tb) := by
 intro pins s σ H D I h;obtain ⟨W, ⟨m0, w0⟩, turn⟩ := h;refine wpAny_While (codeAny_whileLoop (fun n s' => ∃ σ' H', Inv X pins σ' H' s' /\ W n σ' H') ?_ m0 ⟨σ, H, I, w0⟩);rintro n s1 ⟨σ1, H1, I1, w1⟩;refine wpAny_passesOwn hp (thn (hc pins s1 σ1 H1 _ I1 (turn n σ1 H1 w1)) fun b s2 hq_ => ?_);obtain ⟨H2, I2, q2⟩ := hq_;cases b with
 | true =>
   obtain ⟨N, hN, q2⟩ := q2;rw [if_pos rfl];refine wpAny_passesOwn hp (thn (hb pins s2 σ1 H2 _ I2 q2) fun f s3 q3 => ?_);cases f with
   | next =>
     obtain ⟨σ3, H3, I3, n3⟩ := q3;obtain ⟨m', hm, w3⟩ := hN σ3 H3 n3;exact ⟨m', hm, σ3, H3, I3, w3⟩
   | cont =>
     obtain ⟨σ3, H3, I3, n3⟩ := q3;obtain ⟨m', hm, w3⟩ := hN σ3 H3 n3;exact ⟨m', hm, σ3, H3, I3, w3⟩
   | brk => exact q3
   | ret v => exact q3
 | false =>
   rw [if_neg Bool.false_ne_true];exact wpAny_execs_nil ⟨σ1, H2, I2, q2⟩
end
structure It where
 go : Nat -> Hp -> Prop
 yld : Nat -> Hp -> V -> Hp -> Prop
 stop : Nat -> Hp -> Prop
def FpOk (X : Cx) (pins : List (Addr × Obj)) (H : Hp) (b : Addr) : Prop :=
 H b = none /\ b ≠ X.env.locals /\ b ∉ X.fs /\ (b ∈ X.ex \/ X.s₀.heap.objs.size <= b) /\ (∀ x c, X.env.cells.lookup x = some c -> c ≠ b) /\ ∀ p ∈ X.pn ++ pins, p.1 ≠ b
theorem Inv.fpOk {X : Cx} {pins : List (Addr × Obj)} {σ : St} {H H' : Hp} {s : Shared} {b : Addr} (I : Inv X pins σ H s) (hb : s.heap.objs.size <= b) (hn : H' b = none) : FpOk X pins H' b := by
 refine ⟨hn, Nat.ne_of_gt (Nat.lt_of_lt_of_le I.lt hb), I.nofs hb, .inr (Nat.le_trans I.sz hb), fun x c e z => ?_, fun p hp z => ?_⟩
 ·obtain ⟨v, q⟩ := I.cell x c e
  exact absurd (Nat.lt_of_lt_of_le q.lt (by rw [z]; exact hb)) (Nat.lt_irrefl _)
 ·exact absurd (Nat.lt_of_lt_of_le (Heap.lt_size (I.pin p hp).1) (by rw [z]; exact hb)) (Nat.lt_irrefl _)
structure Turn (P : Program) (w : World) (K : PySem.W.Frag) (tg : Expr) (J : It) (fp : List Addr) (it : Addr) (tn : Nat -> Heap -> Prop) : Prop where
 mem : it ∈ fp
 obj : ∀ i h, tn i h -> ∀ b ∈ fp, ∃ o, h.get? b = some o /\ ∀ v, o.data ≠ .cell v
 keep : ∀ i h h', tn i h -> (∀ b ∈ fp, ∀ o, h.get? b = some o -> h'.get? b = some o) -> tn i h'
 item : ∀ (X : Cx), X.prog = P -> X.w = w -> X.K = K -> X.calm = true -> ∀ (i : Nat) (pins : List (Addr × Obj)) (s : Shared) (σ : St) (H : Hp) (E : Value -> Shared -> Prop), Inv X pins σ H s -> (∀ b ∈ fp, FpOk X pins H b) -> tn i s.heap -> J.go i H ->
  wpAny (model P w) X.A (pyNext (.ref it)) (fun r s1 => ∃ u, r = some u /\
   wpAny (model P w) X.A (letOwnedTupleGo tg (.ref it) u) (fun _ s2 => ∃ x H', Inv X pins σ H' s2 /\ RelV x u /\ J.yld i H x H' /\ tn (i + 1) s2.heap /\ ∀ b ∈ fp, H' b = none) E s1) E s
 done : ∀ (X : Cx), X.prog = P -> X.w = w -> X.K = K -> X.calm = true -> ∀ (i : Nat) (pins : List (Addr × Obj)) (s : Shared) (σ : St) (H : Hp) (E : Value -> Shared -> Prop), Inv X pins σ H s -> (∀ b ∈ fp, FpOk X pins H b) -> tn i s.heap -> J.stop i H ->
  wpAny (model P w) X.A (pyNext (.ref it)) (fun r s1 => r = none /\ Inv X pins σ H s1) E s
 self : ∀ (A : Around) (i : Nat) (s : Shared) (Q : Value -> Shared -> Prop) (E : Value -> Shared -> Prop), tn i s.heap -> Q (.ref it) s -> wpAny (model P w) A (pyIter (.ref it)) Q E s
abbrev TI := St -> Hp -> (It -> Hp -> Prop) -> Prop
def PIE (X : Cx) (pins : List (Addr × Obj)) (σ : St) (tg : Expr) (R : It -> Hp -> Prop) (itv : Value) (s2 : Shared) : Prop :=
 ∃ (it : Addr) (fp : List Addr) (tn : Nat -> Heap -> Prop) (J : It) (H' : Hp), itv = .ref it /\ Inv X pins σ H' s2 /\ Turn X.prog X.w X.K tg J fp it tn /\ tn 0 s2.heap /\ (∀ b ∈ fp, FpOk X pins H' b) /\ R J H'
def PI (X : Cx) (tg iter : Expr) (wi : TI) : Prop :=
 ∀ (pins : List (Addr × Obj)) (s : Shared) (σ : St) (H : Hp) (R : It -> Hp -> Prop), Inv X pins σ H s -> wi σ H R ->
   wpAny (model X.prog X.w) X.A (eval iter X.env) (fun v s1 => wpAny (model X.prog X.w) X.A (pyIter v) (PIE X pins σ tg R) X.xe s1) X.xe s
theorem z1c {M : Model} {A : Around} {E : Value -> Shared -> Prop} {s : Shared} {tg : Expr} {it : Addr} {u : Value} {o : Obj} {n : String} {vs : Array Value} {Q : Unit -> Shared -> Prop} (ho : s.heap.get? it = some o) (hc : o.cls = .type n) (hd : o.data = .fields vs)
 (hn : ["enumerate", "zip", "dict_itemiterator", "dict_reverseitemiterator", "odict_iterator", "itertools.zip_longest", "itertools.pairwise"].contains n = false) (hQ : Q () s) : wpAny M A (letOwnedTupleGo tg (.ref it) u) Q E s := by
 unfold letOwnedTupleGo;cases tg <;> first
  | exact wpAny_pure hQ
  | (cases u <;> first
   | exact wpAny_pure hQ
   | (refine wpAny_bind (wpAny_load ho ?_)
      rw [hc, hd];show wpAny M A (if (["enumerate", "zip", "dict_itemiterator", "dict_reverseitemiterator", "odict_iterator", "itertools.zip_longest", "itertools.pairwise"].contains n && vs[0]? == some (rawInt _)) = true then _ else _) Q E s;rw [if_neg (by intro h; rw [hn, Bool.false_and] at h; cases h)];exact wpAny_pure hQ))
def Itl (K : PySem.W.Frag) (a : Addr) : It :=
 ⟨fun i H => ∃ xs x, SqL K H a xs /\ xs[i]? = some x, fun i H x H' => H' = H /\ ∀ xs, SqL K H a xs -> xs[i]? = some x, fun i H => ∃ xs, SqL K H a xs /\ xs.length <= i⟩
def Itr (lo : Int) (n : Nat) : It := ⟨fun i _ => i < n, fun i H x H' => H' = H /\ x = .int (lo + i), fun i _ => n <= i⟩
theorem zu5 {P : Program} {w : World} {K : PySem.W.Frag} {tg : Expr} (a it : Addr) : Turn P w K tg (Itl K a) [it] it (fun i h => h.IsListIter it a i) where
 mem := by simp
 obj := fun i h st b hb => by
  have e : b = it := by simpa using hb
  subst e;obtain ⟨o, e, c, d⟩ := st;exact ⟨o, e, fun v z => by rw [d] at z; cases z⟩
 keep := fun i h h' st k => st.at fun o e => k it (by simp) o e
 item := by
  intro X hP hw hK hc i pins s σ H E I hf st hg;subst hP hw hK;obtain ⟨xs, x, hq, hx⟩ := hg;obtain ⟨its, rv, p, hz⟩ := I.list hq;obtain ⟨u, hu, ru⟩ := rv.get hx;obtain ⟨f0, f1, f2, f3, f4, f5⟩ := hf it (by simp);refine wpAny_pyNext_list_item st p.isList (x := u) (by simpa using hu) fun h' st' sb => ?_;have I1 : Inv X pins σ H { s with heap := h' } := I.turned (t' := s.toks) (fun b o hb e => (sb.2 b hb).trans e) f0 f1 f3 f4 f5;obtain ⟨o, e, c, d⟩ := id st';exact ⟨u, rfl, z1c (s := { s with heap := h' }) e c d (by decide) ⟨x, H, I1, ru, ⟨rfl, fun ys hy => by rw [I.list_inj hy hq]; exact hx⟩, st', fun b hb => (hf b hb).1⟩⟩
 done := by
  intro X hP hw hK hc i pins s σ H E I hf st hg;subst hP hw hK;obtain ⟨xs, hq, hx⟩ := hg;obtain ⟨its, rv, p, hz⟩ := I.list hq;obtain ⟨f0, f1, f2, f3, f4, f5⟩ := hf it (by simp);have hl := rv.length;exact wpAny_pyNext_list_end (I.ok.hd hc) st p.isList (by simp; omega) fun h' eb => ⟨rfl, I.turned (t' := s.toks) (fun b o hb e => eb b o hb e) f0 f1 f3 f4 f5⟩
 self := fun _ _ _ _ _ st h => wpAny_pyIter_listiter st h
theorem zt2 {P : Program} {w : World} {K : PySem.W.Frag} {tg : Expr} (it : Addr) (lo : Int) (n : Nat) : Turn P w K tg (Itr lo n) [it] it (fun i h => IsRangeIter h it (lo + (i : Nat) * 1) ((n : Int) - (i : Nat)) 1) where
 mem := by simp
 obj := fun i h st b hb => by
  have e : b = it := by simpa using hb
  subst e;exact ⟨_, st, fun v z => by
   have z' : Data.fields _ = Data.cell v := z;cases z'⟩
 keep := fun i h h' st k => k it (by simp) _ st
 item := by
  intro X hP hw hK hc i pins s σ H E I hf st hg;subst hP hw hK;obtain ⟨f0, f1, f2, f3, f4, f5⟩ := hf it (by simp);have W := Walks.range (prog := X.prog) (w := X.w) (I.ok.hd hc) it lo 1 n;refine W.item i s _ _ hg st fun v h' tk hv st' kk => ?_;obtain ⟨t, rfl⟩ := hv;have I1 : Inv X pins σ H { s with heap := h', toks := tk } := I.turned (fun b o hb e => kk b o (by simpa using hb) e) f0 f1 f3 f4 f5;refine ⟨_, rfl, z1c (s := { s with heap := h', toks := tk }) (n := "range_iterator") st' rfl rfl (by decide) ⟨.int (lo + i), H, I1, ⟨t, ?_⟩, ⟨rfl, rfl⟩, st', fun b hb => (hf b hb).1⟩⟩;rw [Int.mul_one]
 done := by
  intro X hP hw hK hc i pins s σ H E I hf st hg;subst hP hw hK;obtain ⟨f0, f1, f2, f3, f4, f5⟩ := hf it (by simp);exact wpAny_pyNext_range_end (I.ok.hd hc) st (by have : n <= i := hg; omega) fun h' eb => ⟨rfl, I.turned (t' := s.toks) (fun b o hb e => eb b o hb e) f0 f1 f3 f4 f5⟩
 self := fun _ _ _ _ _ st h => wpAny_pyIter_rangeiter st h
end L2
namespace L2
open PySem PySem.Spec PyProof.Rows
section
variable {X : Cx} {tg : Expr}
def z4g (K : PySem.W.Frag) (tl : TE) : TI := fun σ H R => tl σ H fun x H1 => ∃ a, x = .ref a /\ (∃ xs, SqL K H1 a xs) /\ R (Itl K a) H1
theorem zfj {l : Expr} {tl : TE} (hl : PE X l tl) : PI X tg l (z4g X.K tl) := by
 intro pins s σ H R I h;refine thn (hl pins s σ H _ I h) fun v s1 hq_ => ?_;obtain ⟨x, H1, I1, r1, q1⟩ := hq_;obtain ⟨a, e, ⟨xs, hq⟩, q⟩ := q1;subst e;cases r1;obtain ⟨its, rv, p, hz⟩ := I1.list hq;refine wpAny_pyIter_list p.isList ?_;refine ⟨s1.heap.objs.size, [s1.heap.objs.size], _, _, H1, rfl, I1.kept (t' := s1.toks) fun b o e => Heap.get?_push_of_some _ e, zu5 a _, ⟨_, Heap.get?_push_size _ rfl, rfl, rfl⟩, fun b hb => ?_, q⟩;have e : b = s1.heap.objs.size := by simpa using hb
 subst e;exact I1.fpOk (Nat.le_refl _) (I1.hok.fresh (Nat.le_refl _))
theorem zx7 {pins : List (Addr × Obj)} {σ : St} {H : Hp} {s : Shared} {R : It -> Hp -> Prop} {E : Value -> Shared -> Prop} {lo hi : Int} {t u v : Tok} {tk : Nat} (I : Inv X pins σ H s) (h1 : -(2 ^ 62) <= lo) (h2 : lo < 2 ^ 62) (h3 : -(2 ^ 62) <= hi) (h4 : hi < 2 ^ 62)
 (q : R (Itr lo (hi - lo).toNat) H) : wpAny (model X.prog X.w) X.A (pyIter (.ref s.heap.objs.size)) (PIE X pins σ tg R) E { s with heap := s.heap.push { cls := .type "range", data := .fields #[.int lo t, .int hi u, .int 1 v] }, toks := tk } := by
 refine wpAny_pyIter_range (IsRange.new ..) (small_one h1 h2 h3 h4) ?_;have I1 : Inv X pins σ H { s with heap := s.heap.push { cls := .type "range", data := .fields #[.int lo t, .int hi u, .int 1 v] }, toks := tk } := I.kept fun b o e => Heap.get?_push_of_some _ e;refine ⟨(s.heap.push { cls := .type "range", data := .fields #[.int lo t, .int hi u, .int 1 v] }).objs.size, [(s.heap.push { cls := .type "range", data := .fields #[.int lo t, .int hi u, .int 1 v] }).objs.size], _, _, H, rfl,
  I1.kept (t' := tk) fun b o e => Heap.get?_push_of_some _ e, zt2 _ lo (hi - lo).toNat, ?_, fun b hb => ?_, q⟩
 ·have e1 : lo + ((0 : Nat) : Int) * 1 = lo := by simp
  have e2 : (((hi - lo).toNat : Nat) : Int) - ((0 : Nat) : Int) = Builtin.Range.rangeSize lo hi 1 := by rw [rangeSize_one]; split <;> omega
  show IsRangeIter _ _ (lo + ((0 : Nat) : Int) * 1) ((((hi - lo).toNat : Nat) : Int) - ((0 : Nat) : Int)) 1;rw [e1, e2];exact Heap.get?_push_size _ rfl
 ·have e : b = (s.heap.push { cls := .type "range", data := .fields #[.int lo t, .int hi u, .int 1 v] }).objs.size := by simpa using hb
  subst e;exact I1.fpOk (Nat.le_refl _) (I1.hok.fresh (Nat.le_refl _))
def z4h (ta : TA) : TI := fun σ H R => ta σ H fun vs H1 => ∃ j : Int, vs = [.int j] /\ -(2 ^ 62) <= j /\ j < 2 ^ 62 /\ R (Itr 0 j.toNat) H1
theorem zu6 {a : Expr} {ta : TA} {p pos : Pos} (hg : Gl X "range") (hm : X.mg "range" = none) (ha : PA X [a] ta) (hs : starEach [a] X.env = [(false, eval a X.env)] := by rfl) : PI X tg (.Call (.Name "range" p) [a] [] pos) (z4h ta) := by
 intro pins s σ H R I h;refine Call_ (znm I hg hm boot_range (PyProof.Rows.callWith_type1 (thn (ha pos pins s σ H _ I h) fun us s1 hq_ => ?_) hs rfl));obtain ⟨vs, H1, I1, r1, q1⟩ := hq_;obtain ⟨j, e, q1, q2, q⟩ := q1;subst e;cases r1 with
 | cons r rr =>
   cases rr;obtain ⟨t, rfl⟩ := r;exact call_range_1 (zx7 I1 (by omega) (by omega) q1 q2 (by simpa using q))
def tFor (wi : TI) (g : TG) (tb : TS) : TS := fun D σ H => wi σ H fun J H1 => ∃ W : Nat -> Nat -> St -> Hp -> Prop, (∃ m, W 0 m σ H1) /\ ∀ i m σ H, W i m σ H ->
 (J.stop i H /\ D.nx σ H) \/ (J.go i H /\ ∃ N : St -> Hp -> Prop, (∀ σ' H', N σ' H' -> ∃ m', m' < m /\ W (i + 1) m' σ' H') /\ ∀ x H', J.yld i H x H' -> g x σ H' fun σ2 H2 => tb { D with nx := N, ct := N, bk := D.nx } σ2 H2)
def zss (fp : List Addr) (h : Heap) : List (Addr × Obj) := fp.filterMap fun b => (h.get? b).map fun o => (b, o)
theorem ziu {fp : List Addr} {h : Heap} {b : Addr} {o : Obj} (hb : b ∈ fp) (e : h.get? b = some o) : (b, o) ∈ zss fp h := List.mem_filterMap.mpr ⟨b, hb, by rw [e]; rfl⟩
theorem zu7 {fp : List Addr} {h : Heap} {p : Addr × Obj} (hp : p ∈ zss fp h) : p.1 ∈ fp /\ h.get? p.1 = some p.2 := by
 obtain ⟨b, hb, e⟩ := List.mem_filterMap.mp hp;cases q : h.get? b with
 | none => rw [q] at e; cases e
 | some o =>
   rw [q] at e;have e' : (b, o) = p := Option.some.inj e;subst e';exact ⟨hb, q⟩
theorem Inv.pinned {pins : List (Addr × Obj)} {σ : St} {H : Hp} {s : Shared} {fp : List Addr} (I : Inv X pins σ H s) (hf : ∀ b ∈ fp, FpOk X pins H b) (ho : ∀ b ∈ fp, ∃ o, s.heap.get? b = some o /\ ∀ v, o.data ≠ .cell v) : Inv X (pins ++ zss fp s.heap) σ H s :=
 I.pins_of fun p hp => (List.mem_append.mp hp).elim (fun z => I.pin p (List.mem_append_right _ z)) fun z => by
  obtain ⟨hb, e⟩ := zu7 z;obtain ⟨f0, f1, f2, _⟩ := hf p.1 hb;obtain ⟨o, e', d⟩ := ho p.1 hb;rw [e] at e'; cases e';exact ⟨e, f0, f1, f2, d⟩
theorem Inv.unpinned {pins pl : List (Addr × Obj)} {σ : St} {H : Hp} {s : Shared} (I : Inv X (pins ++ pl) σ H s) : Inv X pins σ H s := I.pins_of fun p hp => I.pin p (List.mem_append_right _ (List.mem_append_left _ hp))
theorem z4i {iter : Expr} {body : List Stmt} {wi : TI} {g : TG} {tb : TS} {pos : Pos} (hp : PassesOwn (model X.prog X.w) X.A X.env X.xe) (hc : X.calm = true) (hi : PI X tg iter wi) (hg : PG X tg g) (hb : PSs X body tb)
 (hs : ∀ x, foldedSetIterable iter X.env x = pure x := by intro _; rfl) : PS X (.For tg iter body [] pos) (tFor wi g tb) := by
 intro pins s σ H D I h;refine wpAny_For (thn (hi pins s σ H _ I h) fun v s1 h1 => thn h1 fun itv s2 h2 => ?_) hs;obtain ⟨it, fp, tn, J, H2, e, I2, T, st2, f2, W, ⟨m0, w0⟩, turn⟩ := h2;subst e;have stat : ∀ {H' : Hp}, (∀ b ∈ fp, H' b = none) -> ∀ b ∈ fp, FpOk X pins H' b := fun hn b hb => ⟨hn b hb, (f2 b hb).2⟩;refine codeAny_forLoop_any (fun n s' => ∃ i σ' H', Inv X pins σ' H' s' /\ tn i s'.heap /\ (∀ b ∈ fp, H' b = none) /\ W i n σ' H') ?_ m0 ⟨0, σ, H2, I2, st2, fun b hb => (f2 b hb).1, w0⟩;rintro n s3 ⟨i, σ3, H3, I3, st3, fr3, w3⟩;rcases turn i n σ3 H3 w3 with ⟨stop, qn⟩ | ⟨go, N, hN, step⟩
 ·refine wpAny_passesOwn hp (thn (T.done X rfl rfl rfl hc i pins s3 σ3 H3 X.xe I3 (stat fr3) st3 stop) fun r s4 hq_ => ?_)
  obtain ⟨hr, I4⟩ := hq_;subst hr;exact wpAny_execs_nil ⟨σ3, H3, I4, qn⟩
 ·refine wpAny_passesOwn hp (thn (T.item X rfl rfl rfl hc i pins s3 σ3 H3 X.xe I3 (stat fr3) st3 go) fun r s4 hq_ => ?_)
  obtain ⟨u, hr, h4⟩ := hq_;subst hr;refine wpAny_passesOwn hp (thn h4 fun _ s5 hq_ => ?_);obtain ⟨x, H5, I5, r5, y5, st5, fr5⟩ := hq_;have I5' := I5.pinned (stat fr5) (T.obj _ _ st5);refine wpAny_passesOwn hp (thn (hg _ s5 σ3 H5 x u _ I5' r5 (step x H5 y5)) fun _ s6 hq_ => ?_);obtain ⟨σ6, H6, I6, q6⟩ := hq_;refine wpAny_passesOwn hp (thn (hb _ s6 σ6 H6 _ I6 q6) fun f s7 q7 => ?_);have again : ∀ {σ7 : St} {H7 : Hp}, Inv X (pins ++ zss fp s5.heap) σ7 H7 s7 -> N σ7 H7 -> ∃ m, m < n /\ ∃ i σ' H', Inv X pins σ' H' s7 /\ tn i s7.heap /\ (∀ b ∈ fp, H' b = none) /\ W i m σ' H' := fun {σ7 H7} I7 n7 => by
   obtain ⟨m', hm, w7⟩ := hN σ7 H7 n7;refine ⟨m', hm, i + 1, σ7, H7, I7.unpinned, T.keep _ _ _ st5 fun b hb o e => (I7.pin (b, o) (List.mem_append_right _ (List.mem_append_right _ (ziu hb e)))).1, fun b hb => ?_, w7⟩;obtain ⟨o, e, d⟩ := T.obj _ _ st5 b hb;exact (I7.pin (b, o) (List.mem_append_right _ (List.mem_append_right _ (ziu hb e)))).2.1
  cases f with
  | next => obtain ⟨σ7, H7, I7, n7⟩ := q7; exact again I7 n7
  | cont => obtain ⟨σ7, H7, I7, n7⟩ := q7; exact again I7 n7
  | brk => obtain ⟨σ7, H7, I7, q7⟩ := q7; exact ⟨σ7, H7, I7.unpinned, q7⟩
  | ret v => obtain ⟨x7, σ7, H7, I7, r7, q7⟩ := q7; exact ⟨x7, σ7, H7, I7.unpinned, r7, q7⟩
end
end L2
namespace L2
open PySem PySem.Spec PyProof.Rows
abbrev R2 := V -> V -> Hp -> VK -> Prop
def OpR (X : Cx) (f : Value -> Value -> Sem Value) (r : R2) : Prop :=
 ∀ (pins : List (Addr × Obj)) (s : Shared) (σ : St) (H : Hp) (x y : V) (v u : Value) (Q : VK), Inv X pins σ H s -> RelV x v -> RelV y u -> r x y H Q ->
   wpAny (model X.prog X.w) X.A (f v u) (EP X pins σ Q) X.xe s
def UnR (X : Cx) (f : Value -> Sem Value) (r : V -> Hp -> VK -> Prop) : Prop :=
 ∀ (pins : List (Addr × Obj)) (s : Shared) (σ : St) (H : Hp) (x : V) (v : Value) (Q : VK), Inv X pins σ H s -> RelV x v -> r x H Q ->
   wpAny (model X.prog X.w) X.A (f v) (EP X pins σ Q) X.xe s
def zjl (X : Cx) (f : Value) (r : List V -> Hp -> VK -> Prop) : Prop :=
 ∀ (pins : List (Addr × Obj)) (s : Shared) (σ : St) (H : Hp) (xs : List V) (us : List Value) (Q : VK), Inv X pins σ H s -> Vals xs us -> r xs H Q ->
   wpAny (model X.prog X.w) X.A (call f us) (EP X pins σ Q) X.xe s
def TruR (X : Cx) (r : V -> Hp -> (Bool -> Hp -> Prop) -> Prop) : Prop :=
 ∀ (pins : List (Addr × Obj)) (s : Shared) (σ : St) (H : Hp) (x : V) (v : Value) (Q : Bool -> Hp -> Prop), Inv X pins σ H s -> RelV x v -> r x H Q ->
   wpAny (model X.prog X.w) X.A (truthy v) (TP X pins σ Q) X.xe s
def tOp (r : R2) (ta tb : TE) : TE := fun σ H Q => ta σ H fun x H1 => tb σ H1 fun y H2 => r x y H2 Q
def tUn (r : V -> Hp -> VK -> Prop) (ta : TE) : TE := fun σ H Q => ta σ H fun x H1 => r x H1 Q
def rI (C : Int -> Int -> Prop) (g : Int -> Int -> V) : R2 := fun x y H Q => ∃ i j, x = .int i /\ y = .int j /\ C i j /\ Q (g i j) H
def rI0 (g : Int -> Int -> V) : R2 := fun x y H Q => ∃ i j, x = .int i /\ y = .int j /\ Q (g i j) H
def rU (g : Int -> V) : V -> Hp -> VK -> Prop := fun x H Q => ∃ i, x = .int i /\ Q (g i) H
section
variable {X : Cx} {a b c : Expr} {ta tb tc : TE} {pos : Pos}
theorem binT (ha : PE X a ta) (hb : PE X b tb) {pins : List (Addr × Obj)} {s : Shared} {σ : St} {H : Hp} {R : V -> V -> Hp -> Prop} (I : Inv X pins σ H s)
 (h : ta σ H fun x H1 => tb σ H1 fun y H2 => R x y H2) {Q : Value -> Shared -> Prop} {f : Value -> Value -> Sem Value}
 (hf : ∀ v u s2 x y H2, Inv X pins σ H2 s2 -> RelV x v -> RelV y u -> R x y H2 -> wpAny (model X.prog X.w) X.A (f v u) Q X.xe s2) :
 wpAny (model X.prog X.w) X.A (eval a X.env) (fun v s₁ => wpAny (model X.prog X.w) X.A (eval b X.env) (fun u s₂ => wpAny (model X.prog X.w) X.A (f v u) Q X.xe s₂) X.xe s₁) X.xe s := by
 refine thn (ha pins s σ H _ I h) fun v s1 hq_ => ?_;obtain ⟨x, H1, I1, r1, q1⟩ := hq_;refine thn (hb pins s1 σ H1 _ I1 q1) fun u s2 hq_ => ?_;obtain ⟨y, H2, I2, r2, q2⟩ := hq_;exact hf v u s2 x y H2 I2 r1 r2 q2
theorem z1d {op : Operator} {r : R2} (ho : OpR X (binaryOp op) r) (ha : PE X a ta) (hb : PE X b tb) : PE X (.BinOp a op b pos) (tOp r ta tb) := by
 intro pins s σ H Q I h;exact wpAny_BinOp (binT ha hb I h fun v u s2 x y H2 I2 rx ry q => ho pins s2 σ H2 x y v u Q I2 rx ry q)
theorem z65 {op : UnaryOp} {r : V -> Hp -> VK -> Prop} (ho : UnR X (unaryOp op) r) (ha : PE X a ta) : PE X (.UnaryOp op a pos) (tUn r ta) := by
 intro pins s σ H Q I h;exact UnaryOp_ (thn (ha pins s σ H _ I h) fun v s1 ⟨x, H1, I1, r1, q1⟩ => ho pins s1 σ H1 x v Q I1 r1 q1)
theorem opI {f : Value -> Value -> Sem Value} {C : Int -> Int -> Prop} {g : Int -> Int -> Int}
 (rule : ∀ (i j : Int) (t u : Tok) (s : Shared) (Q : Value -> Shared -> Prop) (E : Value -> Shared -> Prop), C i j -> Q (.int (g i j) s.toks) { s with toks := s.toks + 1 } -> wpAny (model X.prog X.w) X.A (f (.int i t) (.int j u)) Q E s) :
 OpR X f (rI C fun i j => .int (g i j)) := by
 intro pins s σ H x y v u Q I rx ry h;obtain ⟨i, j, rfl, rfl, hc, q⟩ := h;obtain ⟨t, rfl⟩ := rx;obtain ⟨t', rfl⟩ := ry;exact rule i j t t' s _ _ hc ⟨.int (g i j), H, I.tok _, ⟨_, rfl⟩, q⟩
theorem opI0 {f : Value -> Value -> Sem Value} {g : Int -> Int -> Int}
 (rule : ∀ (i j : Int) (t u : Tok) (s : Shared) (Q : Value -> Shared -> Prop) (E : Value -> Shared -> Prop), Q (.int (g i j) s.toks) { s with toks := s.toks + 1 } -> wpAny (model X.prog X.w) X.A (f (.int i t) (.int j u)) Q E s) :
 OpR X f (rI0 fun i j => .int (g i j)) := by
 intro pins s σ H x y v u Q I rx ry h;obtain ⟨i, j, rfl, rfl, q⟩ := h;obtain ⟨t, rfl⟩ := rx;obtain ⟨t', rfl⟩ := ry;exact rule i j t t' s _ _ ⟨.int (g i j), H, I.tok _, ⟨_, rfl⟩, q⟩
theorem opB0 {f : Value -> Value -> Sem Value} {g : Int -> Int -> Bool}
 (rule : ∀ (i j : Int) (t u : Tok) (s : Shared) (Q : Value -> Shared -> Prop) (E : Value -> Shared -> Prop), Q (.bool (g i j)) s -> wpAny (model X.prog X.w) X.A (f (.int i t) (.int j u)) Q E s) :
 OpR X f (rI0 fun i j => .bl (g i j)) := by
 intro pins s σ H x y v u Q I rx ry h;obtain ⟨i, j, rfl, rfl, q⟩ := h;obtain ⟨t, rfl⟩ := rx;obtain ⟨t', rfl⟩ := ry;exact rule i j t t' s _ _ ⟨.bl (g i j), H, I, rfl, q⟩
def CDiv (i j : Int) : Prop := 0 < j /\ j < 1073741824
theorem z4j : OpR X (binaryOp .Add) (rI0 fun i j => .int (i + j)) := opI0 fun _ _ _ _ _ _ _ q => add_int q
theorem z1e : OpR X (binaryOp .FloorDiv) (rI CDiv fun i j => .int (i / j)) := opI fun i j _ _ _ _ _ hc q => by
 have h1 : (0 : Int) < j := hc.1;have h2 : j < 1073741824 := hc.2;exact floordiv_int (by omega) (by rw [Int.fdiv_eq_ediv_of_nonneg i (by omega)]; exact q) (.inl (PyProof.noPylong_small (by omega)))
theorem z4k : OpR X (binaryOp .Mod) (rI (fun _ j => 0 < j) fun i j => .int (i % j)) := opI fun i j _ _ _ _ _ hc q => by
 have h1 : (0 : Int) < j := hc;exact mod_int' (by omega) (by rw [Int.fmod_eq_emod_of_nonneg i (by omega)]; exact q)
theorem unI {f : Value -> Sem Value} {g : Int -> Int}
 (rule : ∀ (i : Int) (t : Tok) (s : Shared) (Q : Value -> Shared -> Prop) (E : Value -> Shared -> Prop), Q (.int (g i) s.toks) { s with toks := s.toks + 1 } -> wpAny (model X.prog X.w) X.A (f (.int i t)) Q E s) :
 UnR X f (rU fun i => .int (g i)) := by
 intro pins s σ H x v Q I rx h;obtain ⟨i, rfl, q⟩ := h;obtain ⟨t, rfl⟩ := rx;exact rule i t s _ _ ⟨.int (g i), H, I.tok _, ⟨_, rfl⟩, q⟩
theorem z4l : UnR X (unaryOp .USub) (rU fun i => .int (-i)) := unI fun _ _ _ _ _ q => neg_int q
end
def scal : V -> V -> Bool
 | .non, .non => true | .non, .int _ => true | .int _, .non => true | .non, .bl _ => true | .bl _, .non => true | .non, .str _ => true | .str _, .non => true
 | .int _, .int _ => true | .bl _, .bl _ => true | .str _, .str _ => true | .byt _, .byt _ => true
 | .int _, .str _ => true | .str _, .int _ => true | .bl _, .str _ => true | .str _, .bl _ => true
 | _, _ => false
def rEq : R2 := fun x y H Q => scal x y = true /\ Q (.bl (decide (x = y))) H
def rNe : R2 := fun x y H Q => scal x y = true /\ Q (.bl (!decide (x = y))) H
theorem zu8 {i j : Int} : decide (V.int i = V.int j) = (i == j) := by
 rw [Bool.eq_iff_iff];simp
theorem zzz {i j : Bool} : decide (V.bl i = V.bl j) = (i == j) := by
 rw [Bool.eq_iff_iff];simp
theorem zu9 {i j : Str} : decide (V.str i = V.str j) = (i == j) := by
 rw [Bool.eq_iff_iff];simp
theorem zva {i j : Array UInt8} : decide (V.byt i = V.byt j) = (i.toList == j.toList) := by
 rw [Bool.eq_iff_iff];cases i;cases j;simp
section
variable {X : Cx} {a b c : Expr} {ta tb tc : TE} {pos : Pos}
theorem zby {pins : List (Addr × Obj)} {σ : St} {H : Hp} {s : Shared} {Q : VK} {k k' : Bool} (I : Inv X pins σ H s) (q : Q (.bl k) H) (e : k = k') : EP X pins σ Q (.bool k') s := by
 subst e;exact ⟨.bl k, H, I, rfl, q⟩
theorem z4m : OpR X (compareOp .Eq) rEq := by
 intro pins s σ H x y v u Q I rx ry h;obtain ⟨hs, q⟩ := h;cases x with
 | non =>
   cases rx;cases y with
   | non => cases ry; exact PySem.EqNone.eq_none_none (zby I q (by simp))
   | bl j => cases ry; exact PySem.EqNone.eq_none_bool (zby I q (by simp))
   | int j => obtain ⟨t', rfl⟩ := ry; exact PySem.EqNone.eq_none_int (zby I q (by simp))
   | str j => obtain ⟨t', rfl⟩ := ry; exact PySem.EqNone.eq_none_str (zby I q (by simp))
   | _ => exact absurd (show false = true from hs) Bool.false_ne_true
 | bl i =>
   cases rx;cases y with
   | non => cases ry; exact PySem.EqNone.eq_bool_none (zby I q (by simp))
   | bl j => cases ry; exact eq_bool (zby I q zzz)
   | str j => obtain ⟨t', rfl⟩ := ry; exact PySem.EqMixed.eq_bool_str (zby I q (by simp))
   | _ => exact absurd (show false = true from hs) Bool.false_ne_true
 | int i =>
   obtain ⟨t, rfl⟩ := rx;cases y with
   | non => cases ry; exact PySem.EqNone.eq_int_none (zby I q (by simp))
   | int j => obtain ⟨t', rfl⟩ := ry; exact eq_int (zby I q zu8)
   | str j => obtain ⟨t', rfl⟩ := ry; exact PySem.EqMixed.eq_int_str (zby I q (by simp))
   | _ => exact absurd (show false = true from hs) Bool.false_ne_true
 | str i =>
   obtain ⟨t, rfl⟩ := rx;cases y with
   | non => cases ry; exact PySem.EqNone.eq_str_none (zby I q (by simp))
   | bl j => cases ry; exact PySem.EqMixed.eq_str_bool (zby I q (by simp))
   | int j => obtain ⟨t', rfl⟩ := ry; exact PySem.EqMixed.eq_str_int (zby I q (by simp))
   | str j => obtain ⟨t', rfl⟩ := ry; exact eq_str (zby I q zu9)
   | _ => exact absurd (show false = true from hs) Bool.false_ne_true
 | byt i =>
   obtain ⟨t, rfl⟩ := rx;cases y with
   | byt j => obtain ⟨t', rfl⟩ := ry; exact PySem.W.eq_bytes (zby I q zva)
   | _ => exact absurd (show false = true from hs) Bool.false_ne_true
 | _ => cases y <;> exact absurd (show false = true from hs) Bool.false_ne_true
theorem z66 : OpR X (compareOp .NotEq) rNe := by
 intro pins s σ H x y v u Q I rx ry h;obtain ⟨hs, q⟩ := h;cases x with
 | non =>
   cases rx;cases y with
   | non => cases ry; exact PySem.EqNone.ne_none_none (zby I q (by simp))
   | bl j => cases ry; exact PySem.EqNone.ne_none_bool (zby I q (by simp))
   | int j => obtain ⟨t', rfl⟩ := ry; exact PySem.EqNone.ne_none_int (zby I q (by simp))
   | str j => obtain ⟨t', rfl⟩ := ry; exact PySem.EqNone.ne_none_str (zby I q (by simp))
   | _ => exact absurd (show false = true from hs) Bool.false_ne_true
 | bl i =>
   cases rx;cases y with
   | non => cases ry; exact PySem.EqNone.ne_bool_none (zby I q (by simp))
   | bl j => cases ry; exact ne_bool (zby I q (congrArg not zzz))
   | str j => obtain ⟨t', rfl⟩ := ry; exact PySem.EqMixed.ne_bool_str (zby I q (by simp))
   | _ => exact absurd (show false = true from hs) Bool.false_ne_true
 | int i =>
   obtain ⟨t, rfl⟩ := rx;cases y with
   | non => cases ry; exact PySem.EqNone.ne_int_none (zby I q (by simp))
   | int j => obtain ⟨t', rfl⟩ := ry; exact ne_int (zby I q (congrArg not zu8))
   | str j => obtain ⟨t', rfl⟩ := ry; exact PySem.EqMixed.ne_int_str (zby I q (by simp))
   | _ => exact absurd (show false = true from hs) Bool.false_ne_true
 | str i =>
   obtain ⟨t, rfl⟩ := rx;cases y with
   | non => cases ry; exact PySem.EqNone.ne_str_none (zby I q (by simp))
   | bl j => cases ry; exact PySem.EqMixed.ne_str_bool (zby I q (by simp))
   | int j => obtain ⟨t', rfl⟩ := ry; exact PySem.EqMixed.ne_str_int (zby I q (by simp))
   | str j => obtain ⟨t', rfl⟩ := ry; exact ne_str (zby I q (congrArg not zu9))
   | _ => exact absurd (show false = true from hs) Bool.false_ne_true
 | byt i =>
   obtain ⟨t, rfl⟩ := rx;cases y with
   | byt j => obtain ⟨t', rfl⟩ := ry; exact PySem.W.ne_bytes (zby I q (congrArg not zva))
   | _ => exact absurd (show false = true from hs) Bool.false_ne_true
 | _ => cases y <;> exact absurd (show false = true from hs) Bool.false_ne_true
theorem z67 : OpR X (compareOp .Lt) (rI0 fun i j => .bl (decide (i < j))) := opB0 fun _ _ _ _ _ _ _ q => lt_int q
theorem z68 : OpR X (compareOp .GtE) (rI0 fun i j => .bl (decide (j <= i))) := opB0 fun _ _ _ _ _ _ _ q => ge_int q
theorem z4n : OpR X (compareOp .Is) (fun x y H Q => y = .non /\ Q (.bl (decide (x = .non))) H) := by
 intro pins s σ H x y v u Q I rx ry h;obtain ⟨rfl, q⟩ := h;cases ry;refine is_none_gen (zby I q ?_);cases x <;> first
  | (cases rx; rfl)
  | (obtain ⟨t, rfl⟩ := rx; rfl)
theorem z1f : OpR X (compareOp .IsNot) (fun x y H Q => y = .non /\ Q (.bl (!decide (x = .non))) H) := by
 intro pins s σ H x y v u Q I rx ry h;obtain ⟨rfl, q⟩ := h;cases ry;refine isnot_none_gen (zby I q ?_);cases x <;> first
  | (cases rx; rfl)
  | (obtain ⟨t, rfl⟩ := rx; rfl)
theorem OpR.or {f : Value -> Value -> Sem Value} {r r' : R2} (h : OpR X f r) (h' : OpR X f r') : OpR X f (fun x y H Q => r x y H Q \/ r' x y H Q) := by
 intro pins s σ H x y v u Q I rx ry q;rcases q with q | q
 ·exact h pins s σ H x y v u Q I rx ry q
 ·exact h' pins s σ H x y v u Q I rx ry q
theorem zlu (b : Expr) {op : CmpOp} (h : op ≠ .In := by decide) (h2 : op ≠ .NotIn := by decide) : behindInMarks op b = false := by
 have e1 : (op == CmpOp.In) = false := by cases op <;> first | rfl | exact absurd rfl h
 have e2 : (op == CmpOp.NotIn) = false := by cases op <;> first | rfl | exact absurd rfl h2
 cases b <;> simp [behindInMarks, e1, e2]
theorem z1g {op : CmpOp} {r : R2} (ho : OpR X (compareOp op) r) (ha : PE X a ta) (hb : PE X b tb) (hm : behindInMarks op b = false) : PE X (.Compare a [op] [b] pos) (tOp r ta tb) := by
 intro pins s σ H Q I h;exact wpAny_Compare1 (binT ha hb I h fun v u s2 x y H2 I2 rx ry q => ho pins s2 σ H2 x y v u Q I2 rx ry q) hm
def z69 (t : TE) : TT := fun σ H Q => t σ H fun x H' => ∃ k, x = .bl k /\ Q k H'
theorem z1h {op : CmpOp} {r : R2} (ho : OpR X (compareOp op) r) (ha : PE X a ta) (hb : PE X b tb) (hm : behindInMarks op b = false) : PT X (.Compare a [op] [b] pos) (z69 (tOp r ta tb)) := by
 intro pins s σ H Q I h;refine wpAny_isTrue_Compare1 (thn (ha pins s σ H _ I h) fun v s1 ⟨x, H1, I1, r1, q1⟩ => thn (hb pins s1 σ H1 _ I1 q1) fun u s2 ⟨y, H2, I2, r2, q2⟩ =>
  thn (ho pins s2 σ H2 x y v u _ I2 r1 r2 q2) fun c s3 ⟨z, H3, I3, r3, k, e, q3⟩ => ?_) hm
 subst e;cases r3;exact wpAny_truthy_bool ⟨H3, I3, q3⟩
def TruV (K : PySem.W.Frag) (x : V) (H : Hp) (k : Bool) : Prop :=
 match x with
 | .non => k = false
 | .bl b => k = b
 | .int i => k = (i != 0)
 | .str y => y.length <= sizeLine /\ k = ((y.length : Int) != 0)
 | .byt y => y.size <= sizeLine /\ k = ((y.size : Int) != 0)
 | .ref p => (∃ xs, SqL K H p xs /\ k = !xs.isEmpty) \/ (∃ xs, SqT K H p xs /\ k = !xs.isEmpty) \/ ∃ kvs, H p = some (.dK kvs) /\ k = !kvs.isEmpty
 | _ => False
theorem zt3 {κ : Type} {kvs : List (κ × V)} {vs : List (κ × Value)} (r : KV kvs vs) : (!vs.isEmpty) = !kvs.isEmpty := by
 cases r <;> rfl
theorem znn {xs : List V} {its : List Value} (r : Vals xs its) : (!its.toArray.isEmpty) = !xs.isEmpty := by
 cases r <;> simp
theorem zpg : (sizeLine : Nat) < 2 ^ 63 := by rw [sizeLine_eq]; decide
theorem zz0 : TruR X (fun x H Q => ∃ k, TruV X.K x H k /\ Q k H) := by
 intro pins s σ H x v Q I rx h;obtain ⟨k, e, q⟩ := h;have hl := zpg;have hs : sizeLine = 16777216 := sizeLine_eq;cases x with
 | non =>
   cases rx;have e' : k = false := e;subst e';exact truthy_none ⟨H, I, q⟩
 | bl b =>
   cases rx;have e' : k = b := e;subst e';exact wpAny_truthy_bool ⟨H, I, q⟩
 | int i =>
   obtain ⟨t, rfl⟩ := rx;have e' : k = (i != 0) := e;subst e';exact PySem.P.truthy_int ⟨H, I, q⟩
 | str y =>
   obtain ⟨t, rfl⟩ := rx;obtain ⟨hy, e'⟩ : y.length <= sizeLine /\ k = ((y.length : Int) != 0) := e;subst e';exact PySem.P.truthy_str (by omega) ⟨H, I.tok _, q⟩
 | byt y =>
   obtain ⟨t, rfl⟩ := rx;obtain ⟨hy, e'⟩ : y.size <= sizeLine /\ k = ((y.size : Int) != 0) := e;subst e';exact PySem.W.truthy_bytes (by omega) ⟨H, I.tok _, q⟩
 | ref p =>
   cases rx;have e' : (∃ xs, SqL X.K H p xs /\ k = !xs.isEmpty) \/ (∃ xs, SqT X.K H p xs /\ k = !xs.isEmpty) \/ ∃ kvs, H p = some (.dK kvs) /\ k = !kvs.isEmpty := e;rcases e' with ⟨xs, hx, e'⟩ | ⟨xs, hx, e'⟩ | ⟨kvs, hx, e'⟩
   ·subst e'
    obtain ⟨its, r, pl, hz⟩ := I.list hx;have hlen := r.length;exact wpAny_truthy_list pl.isList (by simp only [List.size_toArray]; omega) ⟨H, I.tok _, by rw [znn r]; exact q⟩
   ·subst e'
    obtain ⟨its, r, pl, hz⟩ := I.tuple hx;have hlen := r.length;exact truthy_tuple pl (by simp only [List.size_toArray]; omega) ⟨H, I.tok _, by rw [znn r]; exact q⟩
   ·subst e'
    obtain ⟨hz, hS, vs, r, m⟩ : kvs.length <= sizeLine /\ (p == sysModules) = false /\ ∃ vs, KV kvs vs /\ s.heap.DictOf (za7 X.prog X.w) p vs := I.hok p _ hx;have hlen : kvs.length = vs.length := Paired.length r;exact wpAny_truthy_dict hS m (by omega) ⟨H, I.tok _, by rw [zt3 r]; exact q⟩
 | _ => exact (show False from e).elim
theorem zx8 (ha : PE X a ta) (he : ∀ whole, isTrue a X.env whole = (do let v <- whole; standAt a.pos; holding [v] (truthy v))) :
 PT X a (fun σ H Q => ta σ H fun x H' => ∃ k, TruV X.K x H' k /\ Q k H') := by
 intro pins s σ H Q I h;exact isTrue_plain (thn (ha pins s σ H _ I h) fun v s1 ⟨x, H1, I1, r1, q1⟩ => zz0 pins s1 σ H1 x v Q I1 r1 q1) (he _)
theorem zt4 : OpR X (binaryOp .Add) (fun x y H Q => ∃ i j, x = .str i /\ y = .str j /\ i.length + j.length <= sizeLine /\ Q (.str (i ++ j)) H) := by
 intro pins s σ H x y v u Q I rx ry h;obtain ⟨i, j, rfl, rfl, hz, q⟩ := h;obtain ⟨t, rfl⟩ := rx;obtain ⟨t', rfl⟩ := ry;exact add_str (fun t' tk => ⟨.str (i ++ j), H, I.tok _, ⟨_, rfl⟩, q⟩) hz
theorem zt5 {x : V} {us : List Value} (r : Vals [x] us) : ∃ u, us = [u] /\ RelV x u := by
 cases r with
 | cons r1 r2 => cases r2; exact ⟨_, rfl, r1⟩
theorem z7a {x y : V} {us : List Value} (r : Vals [x, y] us) : ∃ u w', us = [u, w'] /\ RelV x u /\ RelV y w' := by
 cases r with
 | cons r1 r2 =>
   cases r2 with
   | cons r3 r4 => cases r4; exact ⟨_, _, rfl, r1, r3⟩
def LenV (K : PySem.W.Frag) (x : V) (H : Hp) (n : Nat) : Prop :=
 match x with
 | .str y => y.length <= sizeLine /\ n = y.length
 | .byt y => y.size <= sizeLine /\ n = y.size
 | .ref p => (∃ xs, SqL K H p xs /\ n = xs.length) \/ ∃ xs, SqT K H p xs /\ n = xs.length
 | _ => False
theorem zx9 : zjl X (.builtin "len") (fun xs H Q => ∃ x n, xs = [x] /\ LenV X.K x H n /\ Q (.int n) H) := by
 intro pins s σ H xs us Q I r h;obtain ⟨x, n, rfl, e, q⟩ := h;obtain ⟨u, rfl, rx⟩ := zt5 r;have hl := zpg;have hs : sizeLine = 16777216 := sizeLine_eq;cases x with
 | str y =>
   obtain ⟨t, rfl⟩ := rx;obtain ⟨hy, e'⟩ : y.length <= sizeLine /\ n = y.length := e;subst e';exact len_str (by omega) ⟨.int _, H, I.tok _, ⟨_, rfl⟩, q⟩
 | byt y =>
   obtain ⟨t, rfl⟩ := rx;obtain ⟨hy, e'⟩ : y.size <= sizeLine /\ n = y.size := e;subst e';exact PySem.W.len_bytes (by omega) ⟨.int _, H, I.tok _, ⟨_, rfl⟩, q⟩
 | ref p =>
   cases rx;have e' : (∃ xs, SqL X.K H p xs /\ n = xs.length) \/ ∃ xs, SqT X.K H p xs /\ n = xs.length := e;rcases e' with ⟨xs, hx, e'⟩ | ⟨xs, hx, e'⟩
   ·subst e'
    obtain ⟨its, r', pl, hz⟩ := I.list hx;have hlen := r'.length;exact Calls.call_len_list pl.isList (by simp only [List.size_toArray]; omega) ⟨.int xs.length, H, I.tok _, ⟨_, by simp only [List.size_toArray]; rw [hlen]⟩, q⟩
   ·subst e'
    obtain ⟨its, r', pl, hz⟩ := I.tuple hx;have hlen := r'.length;exact len_tuple pl (by simp only [List.size_toArray]; omega) ⟨.int xs.length, H, I.tok _, ⟨_, by simp only [List.size_toArray]; rw [hlen]⟩, q⟩
 | _ => exact (show False from e).elim
end
end L2
namespace L2
open PySem PySem.Spec PyProof.Rows
structure ObjM (h : Heap) (x dx C : Addr) (mA : Str -> Option Value) : Prop where
 obj : h.get? x = some (PySem.W.instObj C dx)
 ns : h.Ns1 dx mA
 ne : dx ≠ x
theorem zph {h : Heap} {dx : Addr} {mA : Str -> Option Value} (n : h.Ns1 dx mA) : ∃ od, h.get? dx = some od /\ ∀ name, PySem.W.lookIn name od = some (mA name) := by
 obtain ⟨o, es, ep, ho, hd, hk, _, hm⟩ := n;refine ⟨o, ho, fun name => ?_⟩;have e := hm name;unfold nsFind findBy at e;rw [<- Array.find?_toList] at e;unfold PySem.W.lookIn;rw [hd];dsimp only
 split
 ·rename_i y q
  rw [q] at e;exact congrArg some e
 ·rename_i q
  rw [q] at e;have a : es.toList.any (·.refKey) = false := by
   rw [List.any_eq_false];intro y hy;obtain ⟨z, t, hkey⟩ := hk y (Array.mem_toList_iff.mp hy);simp [DictEntry.refKey, hkey]
  have a' : ¬ es.toList.any (·.refKey) = true := by rw [a]; exact Bool.false_ne_true
  rw [if_neg a'];exact congrArg some e
theorem ObjM.look {h : Heap} {x dx C : Addr} {mA : Str -> Option Value} (I : ObjM h x dx C mA) : ∃ od, PySem.W.InstAt h x (PySem.W.instObj C dx) C (some od) /\ ∀ name, PySem.W.lookIn name od = some (mA name) :=
 let ⟨od, ho, hl⟩ := zph I.ns
 ⟨od, ⟨I.obj, rfl, rfl, ho⟩, hl⟩
section
variable {prog : Program} {w : World} {A : Around} {E : Value -> Shared -> Prop} {s : Shared} {K : PySem.W.Frag} {x dx C f : Addr} {mA : Str -> Option Value} {name : Str} {v : Value}
theorem z1i {expr : Bool} {Q : Value -> Shared -> Prop} (X : K.In s.heap) (I : ObjM s.heap x dx C mA) (hg : PySem.W.plainGet K C name = true) (hh : PySem.W.hasDictIn K C = true)
 (ha : PySem.W.findIn K (.ref C) name = some none) (hv : mA name = some v) (hv' : PySem.W.handedIn v = true) (h : Q v { s with toks := s.toks + 1 }) :
 wpAny (model prog w) A (getAttr (.ref x) name expr) Q E s := by
 obtain ⟨od, J, hl⟩ := I.look;exact PySem.W.get_value X J (PySem.W.plainGet_of hg).1 (PySem.W.findObj_own hh ha rfl (by rw [hl, hv])) hv' h
theorem zya {pl : Sem Bool} {Q : Value × List Value -> Shared -> Prop} (X : K.In s.heap) (I : ObjM s.heap x dx C mA) (hg : PySem.W.plainGet K C name = true)
 (hf : PySem.W.findIn K (.ref C) name = some (some (.ref f))) (ht : PySem.W.isFn K (.ref f) = true) (hv : mA name = none) (h : Q (.ref f, [.ref x]) s) :
 wpAny (model prog w) A (getMethod (.ref x) name pl) Q E s := by
 obtain ⟨od, J, hl⟩ := I.look;exact PySem.W.method_fn X J (PySem.W.plainGet_of hg).1 (PySem.W.plainGet_of hg).2 hf (beq_iff_eq.mp ht) (by show (PySem.W.lookIn name od).map (·.isSome) = some false; rw [hl, hv]; rfl) h
theorem z1j {ns : List Str} {Q : Unit -> Shared -> Prop} (X : K.In s.heap) (I : ObjM s.heap x dx C mA)
 (hs : PySem.W.findIn K (.ref C) "__setattr__" = some (some (.builtin "object.__setattr__"))) (hp : PySem.W.plainOver K C = true) (ht : PySem.W.takerIn K C name = some none) (hh : PySem.W.hasDictIn K C = true)
 (hw : PySem.Within mA ns) (hsz : ns.length <= sizeLine)
 (h : ∀ h', ObjM h' x dx C (fun y => if y = name then some v else mA y) -> Heap.SameBut dx s.heap h' -> Q () { s with heap := h', toks := s.toks + 2 }) :
 wpAny (model prog w) A (setAttr (.ref x) name v) Q E s := by
 obtain ⟨od, J, hl⟩ := I.look;refine PySem.W.set_plain X J hs (PySem.W.osa_open (s := { s with toks := s.toks + 1 }) (r := none) X J hp ht fun b => ?_);obtain ⟨cd, hc, hd'⟩ := PySem.W.any_some hh;have hx : s.heap.get? x = some ⟨.ref C, some dx, .plain, #[]⟩ := I.obj;refine wpAny_bind (wpAny_pure (wpAny_bind (wpAny_bind (wpAny_loadPart hx (wpAny_bind (PySem.W.Looks.here (s := { s with toks := s.toks + 1 }) (PySem.W.looks_clsIn X hc) ?_))))));rw [hd'];refine wpAny_pure (a := some dx) (wpAny_bind (wpAny_pure (wpAny_bind ?_)));refine wpAny_nsSet1 (s := { s with toks := s.toks + 1 }) I.ns fun h' hn2 hs2 => ?_;obtain ⟨oD, esD, epD, hoD, hdD, hcD⟩ := hn2.count (PySem.Within.cons name v hw);refine wpAny_bind (wpAny_lookBehind hoD (by rw [hdD]; exact pastItsLine_dict (Nat.le_trans hcD (by rw [List.length_cons]; omega))) ?_);exact wpAny_pure (h _ ⟨(hs2.2 _ (Ne.symm I.ne)).trans I.obj, hn2, I.ne⟩ hs2)
theorem zyb {R : Result -> Shared -> Prop} {vs : List Value} {kw : List (Str × Value)} (X : K.In s.heap) (hm : PySem.W.makesIn K C = true)
 (hi : PySem.W.findIn K (.ref C) "__init__" = some (some (.ref f))) (hf : PySem.W.typeIn K (.ref f) = some (.type "function"))
 (h : codeAny (model prog w) (A.under (.builtin "type.__call__" ⟨.ref C :: vs, kw⟩)) (.call (.ref f) ⟨.ref (s.heap.objs.size + 1) :: vs, kw⟩) (PySem.W.InitBack (s.heap.objs.size + 1) R)
  { s with heap := (s.heap.push PySem.W.emptyDict).push (PySem.W.instObj C s.heap.objs.size) }) :
 codeAny (model prog w) A (.call (.ref C) ⟨vs, kw⟩) R s := by
 obtain ⟨hh, g, d, t, os⟩ := s;exact PySem.W.make_core (PySem.W.makes_of X hm) (PySem.W.looks_findIn X hi) (fun self => PySem.W.bind_fn X self hf) (.inl rfl) h
end
def putF (f : Str) (v : V) : List (Str × V) -> List (Str × V)
 | [] => [(f, v)]
 | (g, x) :: r => if g = f then (g, v) :: r else (g, x) :: putF f v r
theorem zja (f g : Str) (v : V) : ∀ fs : List (Str × V), (putF f v fs).lookup g = if g = f then some v else fs.lookup g
 | [] => by
   show List.lookup g [(f, v)] = _;by_cases h : g = f
   ·have hb : (g == f) = true := beq_iff_eq.mpr h
    simp only [List.lookup, hb, if_pos h]
   ·have hb : (g == f) = false := beq_eq_false_iff_ne.mpr h
    simp only [List.lookup, hb, if_neg h]
 | (k, x) :: r => by
   have ih := zja f g v r;rw [show putF f v ((k, x) :: r) = (if k = f then (k, v) :: r else (k, x) :: putF f v r) from rfl];by_cases hk : k = f
   ·rw [if_pos hk]
    by_cases h : g = k
    ·have hb : (g == k) = true := beq_iff_eq.mpr h
     simp only [List.lookup, hb, if_pos (h.trans hk)]
    ·have hb : (g == k) = false := beq_eq_false_iff_ne.mpr h
     simp only [List.lookup, hb, if_neg (fun e : g = f => h (e.trans hk.symm))]
   ·rw [if_neg hk]
    by_cases h : g = k
    ·have hb : (g == k) = true := beq_iff_eq.mpr h
     simp only [List.lookup, hb, if_neg (fun e : g = f => hk (h.symm.trans e))]
    ·have hb : (g == k) = false := beq_eq_false_iff_ne.mpr h
     simp only [List.lookup, hb];exact ih
theorem zlv (f : Str) (v : V) : ∀ fs : List (Str × V), f ∈ (putF f v fs).map (·.1) /\ ∀ g, g ∈ fs.map (·.1) -> g ∈ (putF f v fs).map (·.1)
 | [] => ⟨by simp [putF], fun g h => by simp at h⟩
 | (k, x) :: r => by
   obtain ⟨i1, i2⟩ := zlv f v r;rw [show putF f v ((k, x) :: r) = (if k = f then (k, v) :: r else (k, x) :: putF f v r) from rfl];by_cases hk : k = f
   ·rw [if_pos hk]
    subst hk;exact ⟨by simp, fun g h => by simpa using h⟩
   ·rw [if_neg hk]
    refine ⟨?_, fun g h => ?_⟩
    ·rw [List.map_cons]
     exact List.mem_cons_of_mem _ i1
    ·rw [List.map_cons] at h ⊢
     rcases List.mem_cons.mp h with e | e
     ·exact List.mem_cons.mpr (.inl e)
     ·exact List.mem_cons_of_mem _ (i2 g e)
theorem zlw (f : Str) (v : V) : ∀ fs : List (Str × V), (putF f v fs).length <= fs.length + 1
 | [] => by simp [putF]
 | (k, x) :: r => by
   have ih := zlw f v r;rw [show putF f v ((k, x) :: r) = (if k = f then (k, v) :: r else (k, x) :: putF f v r) from rfl];by_cases hk : k = f
   ·rw [if_pos hk, List.length_cons, List.length_cons]; omega
   ·rw [if_neg hk, List.length_cons, List.length_cons]; omega
theorem RelO.some_of {v : V} {o : Option Value} (r : RelO (some v) o) : ∃ u, o = some u /\ RelV v u := by
 cases o with
 | none => exact (show False from r).elim
 | some u => exact ⟨u, rfl, r⟩
theorem RelO.none_of {o : Option Value} (r : RelO none o) : o = none := by
 cases o with
 | none => rfl
 | some u => exact (show False from r).elim
theorem zvb {v : V} {u : Value} (r : RelV v u) : PySem.W.handedIn u = true := by
 cases v with
 | non => cases (show u = Value.none from r); rfl
 | bl b => cases (show u = Value.bool b from r); rfl
 | int i => obtain ⟨t, e⟩ := (show ∃ t, u = Value.int i t from r); cases e; rfl
 | str x => obtain ⟨t, e⟩ := (show ∃ t, u = Value.str x t from r); cases e; rfl
 | byt b => obtain ⟨t, e⟩ := (show ∃ t, u = Value.bytes b t from r); cases e; rfl
 | flt b => obtain ⟨t, e⟩ := (show ∃ t, u = Value.float b t from r); cases e; rfl
 | ref a => cases (show u = Value.ref a from r); rfl
 | ty n => cases (show u = Value.type n from r); rfl
section
variable {P : Program} {w : World} {H H' : Hp} {h h' : Heap} {a C dx : Addr} {fs fs' : List (Str × V)}
theorem zrb (hok : HOk P w H h) (e : H a = some (.ins C dx fs)) : ∃ mA, ObjM h a dx C mA /\ (∀ f, RelO (fs.lookup f) (mA f)) /\ PySem.Within mA (fs.map (·.1)) /\ fs.length <= 1000 /\ H dx = some (.own a) := by
 obtain ⟨d, z, ne, ob, mA, n, r, q⟩ := (show zfb P w H h a (.ins C dx fs) from hok a _ e);exact ⟨mA, ⟨ob, n, ne⟩, r, q, z, d⟩
end
structure Cls (K : PySem.W.Frag) (C : Addr) : Prop where
 pg : PySem.W.plainGet K C Str.empty = true
 hd : PySem.W.hasDictIn K C = true
 po : PySem.W.plainOver K C = true
 sa : PySem.W.findIn K (.ref C) "__setattr__" = some (some (.builtin "object.__setattr__"))
theorem Cls.get {K : PySem.W.Frag} {C : Addr} (c : Cls K C) (f : Str) : PySem.W.plainGet K C f = true := c.pg
def zce (K : PySem.W.Frag) (C : Addr) (f : Str) : Prop := PySem.W.findIn K (.ref C) f = some none
theorem zce.taker {K : PySem.W.Frag} {C : Addr} {f : Str} (n : zce K C f) : PySem.W.takerIn K C f = some none := by
 unfold PySem.W.takerIn;rw [show PySem.W.findIn K (.ref C) f = some none from n];rfl
structure Meth (K : PySem.W.Frag) (C : Addr) (m : Str) (f : Addr) : Prop where
 at_ : PySem.W.findIn K (.ref C) m = some (some (.ref f))
 fn : PySem.W.isFn K (.ref f) = true
 kp : PySem.W.keepIn K (.ref f) = true
section
variable {X : Cx} {pins : List (Addr × Obj)} {σ : St} {H : Hp} {s : Shared} {a C dx : Addr} {fs : List (Str × V)} {f : Str} {v : V} {A : Around} {E : Value -> Shared -> Prop}
theorem zt6 {b : Bool} {Q : Value -> Shared -> Prop} (I : Inv X pins σ H s) (e : H a = some (.ins C dx fs)) (c : Cls X.K C) (n : zce X.K C f) (l : fs.lookup f = some v)
 (h : ∀ u s', Inv X pins σ H s' -> RelV v u -> Q u s') : wpAny (model X.prog X.w) A (getAttr (.ref a) f b) Q E s := by
 obtain ⟨mA, O, r, _, _, _⟩ := zrb I.hok e;obtain ⟨u, hu, ru⟩ := RelO.some_of (v := v) (o := mA f) (by rw [<- l]; exact r f);exact z1i I.kIn O (c.get f) c.hd n hu (zvb ru) (h u _ (I.tok _) ru)
theorem zkc {m : Str} {g : Addr} {pl : Sem Bool} {Q : Value × List Value -> Shared -> Prop} (I : Inv X pins σ H s) (e : H a = some (.ins C dx fs)) (c : Cls X.K C) (k : Meth X.K C m g) (l : fs.lookup m = none)
 (h : Q (.ref g, [.ref a]) s) : wpAny (model X.prog X.w) A (getMethod (.ref a) m pl) Q E s := by
 obtain ⟨mA, O, r, _, _, _⟩ := zrb I.hok e;have hn : mA m = none := RelO.none_of (by rw [<- l]; exact r m);exact zya I.kIn O (c.get m) k.at_ k.fn hn h
theorem zt7 {y : V} {u : Value} {Q : Unit -> Shared -> Prop} (I : Inv X pins σ H s) (e : H a = some (.ins C dx fs)) (c : Cls X.K C) (n : zce X.K C f) (hl : fs.length < 1000) (ry : RelV y u)
 (h : ∀ s', Inv X pins σ (upd H a (.ins C dx (putF f y fs))) s' -> Q () s') : wpAny (model X.prog X.w) A (setAttr (.ref a) f u) Q E s := by
 obtain ⟨mA, O, r, wi, _, ho⟩ := zrb I.hok e;have hz : (fs.map (·.1)).length <= sizeLine := by rw [List.length_map, sizeLine_eq]; omega
 refine z1j I.kIn O c.sa c.po n.taker c.hd wi hz fun h' O' sb => h _ ?_;have hd : ∃ o, h'.get? dx = some o := let ⟨o, _, _, e', _⟩ := O'.ns; ⟨o, e'⟩;refine I.write (x := a) (e := dx) (by rw [e]; exact True.intro) (.inr ho) (fun b q hb z => (sb.2 b hb).trans z) hd ?_;refine ⟨by rw [zai O.ne]; exact ho, ?_, O.ne, O'.obj, _, O'.ns, fun g => ?_, fun g hg => ?_⟩
 ·have := zlw f y fs; omega
 ·show RelO ((putF f y fs).lookup g) (if g = f then some u else mA g)
  rw [zja];by_cases q : g = f
  ·rw [if_pos q, if_pos q]; exact ry
  ·rw [if_neg q, if_neg q]; exact r g
 ·by_cases q : g = f
  ·rw [q]; exact (zlv f y fs).1
  ·refine (zlv f y fs).2 g (wi g fun z => hg ?_)
   show (if g = f then some u else mA g) = none;rw [if_neg q]; exact z
theorem Inv.made (I : Inv X pins σ H s) : Inv X pins σ (upd (upd H s.heap.objs.size (.own (s.heap.objs.size + 1))) (s.heap.objs.size + 1) (.ins C s.heap.objs.size []))
 { s with heap := (s.heap.push PySem.W.emptyDict).push (PySem.W.instObj C s.heap.objs.size) } := by
 have e1 : (s.heap.push PySem.W.emptyDict).get? s.heap.objs.size = some PySem.W.emptyDict := Heap.get?_push_size s.heap rfl;have e2 : ((s.heap.push PySem.W.emptyDict).push (PySem.W.instObj C s.heap.objs.size)).get? (s.heap.objs.size + 1) = some (PySem.W.instObj C s.heap.objs.size) := by
  have := Heap.get?_push_size (s.heap.push PySem.W.emptyDict) (o := PySem.W.instObj C s.heap.objs.size) rfl;rwa [Heap.size_push] at this
 have e3 : (s.heap.push PySem.W.emptyDict).Ns s.heap.objs.size (fun _ => none) := ⟨PySem.W.emptyDict, #[], _, e1, rfl, (fun e he => absurd he (by simp)), fun _ => rfl⟩;have I1 := I.laid (a := s.heap.objs.size) (o := .own (s.heap.objs.size + 1)) (h' := s.heap.push PySem.W.emptyDict) (t' := s.toks) (fun b u q => Heap.get?_push_of_some _ q) (Nat.le_refl _) ⟨_, e1⟩;refine I1.laid (a := s.heap.objs.size + 1) (o := .ins C s.heap.objs.size []) (t' := s.toks) (fun b u q => Heap.get?_push_of_some _ q) (Nat.le_of_eq (Heap.size_push _ _)) ?_;have ne : s.heap.objs.size ≠ s.heap.objs.size + 1 := Nat.ne_of_lt (Nat.lt_succ_self _);refine ⟨by rw [zai ne, zaj], Nat.zero_le _, ne, e2, fun _ => none, (Heap.Ns1.of_empty e3).at fun o q => Heap.get?_push_of_some _ q, fun _ => True.intro, fun y hy => absurd rfl hy⟩
theorem z1k {prog : Program} {w : World} {env : Env} {e : Expr} {f : Str} {pos : Pos} {s : Shared} {Q : Value -> Shared -> Prop} (hb : attributeBase e f env (eval e env) = eval e env)
 (h : wpAny (model prog w) A (eval e env) (fun o s₁ => wpAny (model prog w) A (getAttr o f true) Q E s₁) E s) : wpAny (model prog w) A (eval (.Attribute e f pos) env) Q E s :=
 Attribute_any_ h (by rw [arm_eval_Attribute, hb])
end
def tFld (K : PySem.W.Frag) (ta : TE) (f : Str) : TE := fun σ H Q => ta σ H fun x H1 => ∃ a C dx fs v, x = .ref a /\ H1 a = some (.ins C dx fs) /\ Cls K C /\ zce K C f /\ fs.lookup f = some v /\ Q v H1
def sFld (K : PySem.W.Frag) (ta tv : TE) (f : Str) : TS := fun D σ H => tv σ H fun y H1 => ta σ H1 fun x H2 => ∃ a C dx fs, x = .ref a /\ H2 a = some (.ins C dx fs) /\ Cls K C /\ zce K C f /\ fs.length < 1000 /\
 D.nx σ (upd H2 a (.ins C dx (putF f y fs)))
section
variable {X : Cx} {o e value : Expr} {f : Str} {pos pos' tpos : Pos} {ta tv : TE}
theorem z4o (he : PE X e ta) (hb : attributeBase e f X.env (eval e X.env) = eval e X.env) : PE X (.Attribute e f pos) (tFld X.K ta f) := by
 intro pins s σ H Q I h;refine z1k hb (thn (he pins s σ H _ I h) fun u s1 hq_ => ?_);obtain ⟨x, H1, I1, rx, a, C, dx, fs, v, ex, ea, c, n, l, q⟩ := hq_;subst ex;obtain rfl : u = Value.ref a := rx;exact zt6 I1 ea c n l fun u' s2 I2 ru => ⟨v, H1, I2, ru, q⟩
theorem z4p (ha : PE X o ta) (hv : PE X value tv) (hs : swapsWith value (some (.Attribute o f pos')) pos.line X.env = pure false) : PS X (.Assign [.Attribute o f pos'] value pos) (sFld X.K ta tv f) := by
 intro pins s σ H D I h;refine plainObj_wpAny_Assign_Attribute (thn (hv pins s σ H _ I h) fun u s1 hq_ => ?_) hs;obtain ⟨y, H1, I1, ry, q⟩ := hq_;refine thn (ha pins s1 σ H1 _ I1 q) fun ov s2 hq_ => ?_;obtain ⟨x, H2, I2, rx, a, C, dx, fs, ex, ea, c, n, l, q2⟩ := hq_;subst ex;obtain rfl : ov = Value.ref a := rx;exact zt7 I2 ea c n l ry fun s3 I3 => ⟨σ, _, I3, q2⟩
theorem z1l {pl : Sem Bool} {m : Str} {apos : Pos} {args : List Expr} {pins : List (Addr × Obj)} {s : Shared} {σ : St} {H : Hp} {Q : Value -> Shared -> Prop} {te : TE} (he : PE X e te) (I : Inv X pins σ H s)
 (h : te σ H fun x H1 => ∃ a C dx fs g, x = .ref a /\ H1 a = some (.ins C dx fs) /\ Cls X.K C /\ Meth X.K C m g /\ fs.lookup m = none /\
  ∀ s1, Inv X pins σ H1 s1 -> wpAny (model X.prog X.w) X.A (callWith pos (.ref g) [.ref a] (backTo pos (starEach args X.env)) (backToKw pos (keywordEach [] X.env))) Q X.xe s1)
 (ht : eval (.Call (.Attribute e m apos) args [] pos) X.env = (do
  let ov <- eval e X.env
  standAt apos.atName
  let (f, first) <- holding [ov] (getMethod ov m pl)
  callWith pos f first (backTo pos (starEach args X.env)) (backToKw pos (keywordEach [] X.env)))) :
 wpAny (model X.prog X.w) X.A (eval (.Call (.Attribute e m apos) args [] pos) X.env) Q X.xe s := by
 refine PySem.W.methodCall_KW (pl := pl) (thn (he pins s σ H _ I h) fun u s1 hq_ => ?_) ht;obtain ⟨x, H1, I1, rx, a, C, dx, fs, g, ex, ea, c, k, l, q⟩ := hq_;subst ex;obtain rfl : u = Value.ref a := rx;exact zkc I1 ea c k l (q s1 I1)
end
end L2
namespace L2
open PySem PySem.Spec PyProof.Rows
structure Room (k : Nat) (A : Around) : Prop where
 hd : A.handled = none
 dp : A.depth + 3 * k + 5 < recursionLimit
 un : A.units + 16 * k + 200 < cLine
 gd : A.guards = some []
theorem Room.mono {j k : Nat} {A : Around} (r : Room k A) (h : j <= k) : Room j A := ⟨r.hd, by have := r.dp; omega, by have := r.un; omega, r.gd⟩
theorem Room.deeper {k : Nat} {A : Around} (r : Room (k + 1) A) (env : Env) : Room k (A.deeper env) :=
 ⟨r.hd, by have := r.dp; show A.depth + 1 + 3 * k + 5 < _; omega, by have := r.un; show A.units + 3 + 16 * k + 200 < _; omega, r.gd⟩
theorem zt8 {A : Around} {C : Addr} {us : List Value} {kw : List (Str × Value)} : (A.under (.builtin "type.__call__" ⟨.ref C :: us, kw⟩)).depth = A.depth + 1 := by
 first | rfl | simp [Around.under, Code.weight, Code.isCreation, Code.isGuard, Code.isCaller, Code.frames, Code.isFrame, guardIds]
theorem zt9 {A : Around} {C : Addr} {us : List Value} {kw : List (Str × Value)} : (A.under (.builtin "type.__call__" ⟨.ref C :: us, kw⟩)).units = A.units + 1 := by
 first | rfl | simp [Around.under, Code.cUnits, Code.frames, Code.isFrame]
theorem zrc {A : Around} {C : Addr} {us : List Value} {kw : List (Str × Value)} (h : A.guards = some []) : (A.under (.builtin "type.__call__" ⟨.ref C :: us, kw⟩)).guards = some [] := by
 have e : (Code.builtin "type.__call__" ⟨.ref C :: us, kw⟩).guards = [] := by first | rfl | simp [Code.guards, Code.isGuard, guardIds]
 unfold Around.under;simp only [e, h];rfl
theorem Room.make {k : Nat} {A : Around} (r : Room (k + 1) A) (C : Addr) (us : List Value) (kw : List (Str × Value)) : Room k (A.under (.builtin "type.__call__" ⟨.ref C :: us, kw⟩)) :=
 ⟨r.hd, by have := r.dp; rw [zt8]; omega, by have := r.un; rw [zt9]; omega, zrc r.gd⟩
theorem Room.depth {k : Nat} {A : Around} (r : Room k A) : A.depth < recursionLimit := by have := r.dp; omega
theorem Room.units {k : Nat} {A : Around} (r : Room k A) : A.units + 64 < cLine := by have := r.un; omega
def tNil : TA := fun _ H Q => Q [] H
def zpi (ta : TE) (tr : TA) : TA := fun σ H Q => ta σ H fun x H1 => tr σ H1 fun xs H2 => Q (x :: xs) H2
section
variable {X : Cx} {e : Expr} {es : List Expr} {te : TE} {t : TA} {pos : Pos}
theorem ziy : PA X [] tNil := fun _ _ _ _ H Q I h => Calls.spliced_nil ⟨[], H, I, .nil, h⟩
theorem zev (ha : PE X e te) (hr : PA X es t) (hs : starEach (e :: es) X.env = (false, eval e X.env) :: starEach es X.env := by rfl) : PA X (e :: es) (zpi te t) := by
 intro pos pins s σ H Q I h;rw [hs];show wpAny _ _ (spliced ((false, eval e X.env) :: backTo pos (starEach es X.env))) _ _ s;refine Calls.spliced_cons (thn (ha pins s σ H _ I h) fun u s1 hq_ => ?_);obtain ⟨x, H1, I1, r1, q1⟩ := hq_;exact thn (hr pos pins s1 σ H1 _ I1 q1) fun us s2 ⟨xs, H2, I2, r2, q2⟩ => ⟨x :: xs, H2, I2, .cons r1 r2, q2⟩
def tTup (t : TA) : TE := fun σ H Q => t σ H fun xs H1 => xs.length <= sizeLine /\ ∀ p, H1 p = none -> Q (.ref p) (upd H1 p (.tup xs))
def tLst (t : TA) : TE := fun σ H Q => t σ H fun xs H1 => xs.length <= sizeLine /\ ∀ p, H1 p = none -> Q (.ref p) (upd H1 p (.lst xs))
theorem z4q {x1} (h : PA X es t) : PE X (.Tuple es x1 pos) (tTup t) := by
 intro pins s σ H Q I hq;refine wpAny_Tuple_spliced (thn (h pos pins s σ H _ I hq) fun us s1 ⟨xs, H1, I1, r, z, q⟩ => ⟨by rw [<- r.length]; exact z, ?_⟩);have hf : H1 s1.heap.objs.size = none := I1.hok.fresh (Nat.le_refl _);refine ⟨.ref s1.heap.objs.size, upd H1 s1.heap.objs.size (.tup xs), I1.laid (t' := s1.toks) (fun b u e => Heap.get?_push_of_some _ e) (Nat.le_refl _) ?_, rfl, q _ hf⟩;exact ⟨z, us, r, ⟨_, Heap.get?_push_size _ rfl, rfl, _, rfl⟩⟩
theorem zz1 (h : PA X es t) : PE X (.List es pos) (tLst t) := by
 intro pins s σ H Q I hq;refine wpAny_List_spliced (thn (h pos pins s σ H _ I hq) fun us s1 ⟨xs, H1, I1, r, z, q⟩ => ⟨by rw [<- r.length]; exact z, ?_⟩);have hf : H1 s1.heap.objs.size = none := I1.hok.fresh (Nat.le_refl _);refine ⟨.ref s1.heap.objs.size, upd H1 s1.heap.objs.size (.lst xs), I1.laid (t' := s1.toks) (fun b u e => Heap.get?_push_of_some _ e) (Nat.le_refl _) ?_, rfl, q _ hf⟩;exact ⟨z, us, 0, r, Heap.get?_push_size _ rfl⟩
end
abbrev Sp := List V -> Hp -> VK -> XK -> Prop
abbrev CXT := List Env -> Hp -> Shared -> XK -> Value -> Shared -> Prop
structure Env0 (P : Program) (w : World) (K : PySem.W.Frag) (mg : Str -> Option Value) (base : Heap) (A : Around) (outer : List Env) (s : Shared) (H : Hp) : Prop where
 frames : A.frames = some outer
 mod : Mod K mg base
 bs : ∀ b o, base.get? b = some o -> s.heap.get? b = some o /\ H b = none
 bsz : base.objs.size <= s.heap.objs.size
 funs : s.heap.FunFrames base outer
 frf : ∀ b ∈ frs outer, H b = none
 hok : HOk P w H s.heap
 bare : AllBare s.gens
def CE (outer : List Env) (P : Program) (w : World) (H : Hp) (s : Shared) (Q : VK) (u : Value) (s' : Shared) : Prop :=
 ∃ v H', s'.os = s.os /\ AllBare s'.gens /\ Un (frs outer) [] H H' s.heap s'.heap /\ HOk P w H' s'.heap /\ RelV v u /\ Q v H'
def CR (CX : CXT) (outer : List Env) (P : Program) (w : World) (H : Hp) (s : Shared) (Q : VK) (E : XK) (r : Result) (s' : Shared) : Prop :=
 match r with
 | .ok (.ret u) => CE outer P w H s Q u s'
 | .ok _ => False
 | .error e => CX outer H s E e s'
structure FnOk (P : Program) (w : World) (K : PySem.W.Frag) (mg : Str -> Option Value) (base : Heap) (CX : CXT) (k : Nat) (f : Addr) (fd : FuncData) (ps : List Str) (sp : Sp) : Prop where
 len : ∀ vs H Q E, sp vs H Q E -> vs.length = ps.length
 run : ∀ (A : Around) (outer : List Env) (s : Shared) (H : Hp) (args : Args) (us : List Value) (vs : List V) (Q : VK) (E : XK), Room k A -> Env0 P w K mg base A outer s H -> BindsTo s fd args (ps.zip us) -> Vals vs us -> sp vs H Q E ->
  codeAny (model P w) A (.call (.ref f) args) (CR CX outer P w H s Q E) s
theorem FnOk.mono {P : Program} {w : World} {K : PySem.W.Frag} {mg : Str -> Option Value} {base : Heap} {CX : CXT} {j k : Nat} {f : Addr} {fd : FuncData} {ps : List Str} {sp : Sp} (F : FnOk P w K mg base CX j f fd ps sp) (h : j <= k) :
 FnOk P w K mg base CX k f fd ps sp := ⟨F.len, fun A outer s H args us vs Q E hr => F.run A outer s H args us vs Q E (hr.mono h)⟩
theorem FnOk.imp {P : Program} {w : World} {K : PySem.W.Frag} {mg : Str -> Option Value} {base : Heap} {CX : CXT} {k : Nat} {f : Addr} {fd : FuncData} {ps : List Str} {sp sp' : Sp} (F : FnOk P w K mg base CX k f fd ps sp)
 (h : ∀ vs H Q E, sp' vs H Q E -> sp vs H Q E) : FnOk P w K mg base CX k f fd ps sp' :=
 ⟨fun vs H Q E q => F.len vs H Q E (h _ _ _ _ q), fun A outer s H args us vs Q E hr he hb hv hs => F.run A outer s H args us vs Q E hr he hb hv (h _ _ _ _ hs)⟩
theorem Env0.make {P : Program} {w : World} {K : PySem.W.Frag} {mg : Str -> Option Value} {base : Heap} {A : Around} {outer : List Env} {s : Shared} {H : Hp} (e : Env0 P w K mg base A outer s H) (C : Addr) (us : List Value) (kw : List (Str × Value)) :
 Env0 P w K mg base (A.under (.builtin "type.__call__" ⟨.ref C :: us, kw⟩)) outer s H := ⟨by first | exact e.frames | (simpa [Around.under, Code.envs, Code.isFrame, pushEnvs] using e.frames), e.mod, e.bs, e.bsz, e.funs, e.frf, e.hok, e.bare⟩
section
variable {X : Cx} {pins : List (Addr × Obj)} {σ : St} {H : Hp} {s s' : Shared}
theorem Inv.env0 (I : Inv X pins σ H s) : Env0 X.prog X.w X.K X.mg X.base X.A X.stack s H :=
 ⟨I.ok.frames, I.ok.mod, I.bs, Nat.le_trans I.ok.bsz I.sz, I.stack, I.stkFree, I.hok, I.bare⟩
theorem Inv.after {Q : VK} {u : Value} (I : Inv X pins σ H s) (h : CE X.stack X.prog X.w H s Q u s') : EP X pins σ Q u s' := by
 obtain ⟨v, H', os, bare, un, hok, r, q⟩ := h;obtain ⟨hh, g, d, t, os'⟩ := s';obtain rfl : os' = s.os := os;exact ⟨v, H', I.call (h' := hh) (g' := g) (d' := d) (t' := t) (ch := []) un hok bare (fun b z => absurd z (by simp)), r, q⟩
end
def z4r (sp : Sp) (dvs : List V) (E : XK) (t : TA) : TE := fun σ H Q => t σ H fun vs H1 => sp (vs ++ dvs) H1 Q E
def z1m (C : Addr) (m : Str) (sp : Sp) (dvs : List V) (E : XK) (ta : TE) (t : TA) : TE := fun σ H Q => ta σ H fun x H1 => ∃ a dx fs, x = .ref a /\ H1 a = some (.ins C dx fs) /\ fs.lookup m = none /\
 t σ H1 fun vs H2 => sp (x :: (vs ++ dvs)) H2 Q E
def z1n (C : Addr) (sp : Sp) (dvs : List V) (E : XK) (t : TA) : TE := fun σ H Q => t σ H fun vs H1 => ∀ x dx, H1 x = none -> H1 dx = none -> dx ≠ x ->
 sp (.ref x :: (vs ++ dvs)) (upd (upd H1 dx (.own x)) x (.ins C dx [])) (fun v H2 => v = .non /\ Q (.ref x) H2) E
def zfa (K : PySem.W.Frag) (fd : FuncData) (ps : List Str) (ds : List Value) : Prop :=
 ∀ (s : Shared) (us : List Value), K.In s.heap -> (us ++ ds).length = ps.length -> BindsTo s fd ⟨us, []⟩ (ps.zip (us ++ ds))
theorem zfa.all {K : PySem.W.Frag} {fd : FuncData} {ps : List Str} (h : ∀ us : List Value, us.length = ps.length -> bindArgs fd ⟨us, []⟩ = pure (ps.zip us)) : zfa K fd ps [] := fun s us _ hl => by
 rw [List.append_nil] at hl ⊢;exact .of_eq (h us hl)
def zei (CX : CXT) (X : Cx) (E : XK) : Prop := ∀ (pins : List (Addr × Obj)) (σ : St) (H : Hp) (s : Shared) (e : Value) (s' : Shared), Inv X pins σ H s -> CX X.stack H s E e s' -> X.xe e s'
section
variable {X : Cx} {CX : CXT} {k : Nat} {f C : Addr} {fd : FuncData} {ps : List Str} {sp : Sp} {dvs : List V} {ds : List Value} {E : XK} {x m : Str} {p pos apos : Pos} {e o : Expr} {es : List Expr} {ta : TE} {t : TA}
theorem zvc {pins : List (Addr × Obj)} {σ : St} {H : Hp} {s : Shared} {Q : VK} {us : List Value} {vs : List V} (F : FnOk X.prog X.w X.K X.mg X.base CX k f fd ps sp) (hr : Room k X.A) (hb : zfa X.K fd ps ds) (hd : Vals dvs ds) (hx : zei CX X E)
 (I : Inv X pins σ H s) (r : Vals vs us) (h : sp (vs ++ dvs) H Q E) : wpAny (model X.prog X.w) X.A (call (.ref f) us) (EP X pins σ Q) X.xe s := by
 have r2 : Vals (vs ++ dvs) (us ++ ds) := r.append hd;have hl : (us ++ ds).length = ps.length := by rw [<- r2.length]; exact F.len _ _ _ _ h
 refine wpAny_call (codeAny_mono (F.run X.A X.stack s H ⟨us, []⟩ (us ++ ds) (vs ++ dvs) Q E hr I.env0 (hb s us I.kIn hl) r2 h) fun r s' hq => ?_);cases r with
 | error e => exact hx pins σ H s e s' I hq
 | ok fl =>
   cases fl with
   | ret u => exact I.after hq
   | next => exact False.elim hq
   | brk => exact False.elim hq
   | cont => exact False.elim hq
theorem z1o (F : FnOk X.prog X.w X.K X.mg X.base CX k f fd ps sp) (hr : Room k X.A) (hg : Gl X x) (hm : X.mg x = some (.ref f)) (hk : PySem.W.keepIn X.K (.ref f) = true) (hb : zfa X.K fd ps ds) (hd : Vals dvs ds) (hx : zei CX X E)
 (ha : PA X (e :: es) t) (hdb : (x == ("__debug__" : Str)) = false := by decide) (he : starEach (e :: es) X.env = (false, eval e X.env) :: starEach es X.env := by rfl) (hpl : (backTo pos (starEach es X.env)).any (·.1) = false := by rfl) :
 PE X (.Call (.Name x p) (e :: es) [] pos) (z4r sp dvs E t) := by
 intro pins s σ H Q I h;refine wpAny_Call_Name_kw (zhj I hg hm ?_ hdb);refine PySem.W.callWith_K (h₀ := X.base) I.ok.mod.kin hk (thn (ha pos pins s σ H _ I h) fun us s1 ⟨vs, H1, I1, r, q⟩ => ⟨I1.kIn, ?_⟩) he hpl;exact zvc F hr hb hd hx I1 r q
theorem zvd {pl : Sem Bool} (he : PE X o ta) (c : Cls X.K C) (hm : Meth X.K C m f) (F : FnOk X.prog X.w X.K X.mg X.base CX k f fd ps sp) (hr : Room k X.A) (hb : zfa X.K fd ps ds) (hd : Vals dvs ds) (hx : zei CX X E) (ha : PA X (e :: es) t)
 (hst : starEach (e :: es) X.env = (false, eval e X.env) :: starEach es X.env := by rfl) (hpl : (backTo pos (starEach es X.env)).any (·.1) = false := by rfl)
 (ht : eval (.Call (.Attribute o m apos) (e :: es) [] pos) X.env = (do
  let ov <- eval o X.env
  standAt apos.atName
  let (f, first) <- holding [ov] (getMethod ov m pl)
  callWith pos f first (backTo pos (starEach (e :: es) X.env)) (backToKw pos (keywordEach [] X.env))) := by rfl) :
 PE X (.Call (.Attribute o m apos) (e :: es) [] pos) (z1m C m sp dvs E ta t) := by
 intro pins s σ H Q I h;refine PySem.W.methodCall_KW (pl := pl) (thn (he pins s σ H _ I h) fun u s1 hq_ => ?_) ht;obtain ⟨x, H1, I1, rx, a, dx, fs, ex, ea, l, q⟩ := hq_;subst ex;obtain rfl : u = Value.ref a := rx;refine zkc I1 ea c hm l ?_;refine PySem.W.callWith_K (first := [.ref a]) (h₀ := X.base) I.ok.mod.kin hm.kp (thn (ha pos pins s1 σ H1 _ I1 q) fun us s2 ⟨vs, H2, I2, r, q2⟩ => ⟨I2.kIn, ?_⟩) hst hpl;exact zvc (us := .ref a :: us) (vs := .ref a :: vs) F hr hb hd hx I2 (.cons rfl r) q2
theorem zyc {pl : Sem Bool} (he : PE X o ta) (c : Cls X.K C) (hm : Meth X.K C m f) (F : FnOk X.prog X.w X.K X.mg X.base CX k f fd ps sp) (hr : Room k X.A) (hb : zfa X.K fd ps ds) (hd : Vals dvs ds) (hx : zei CX X E)
 (ht : eval (.Call (.Attribute o m apos) [] [] pos) X.env = (do
  let ov <- eval o X.env
  standAt apos.atName
  let (f, first) <- holding [ov] (getMethod ov m pl)
  callWith pos f first (backTo pos (starEach [] X.env)) (backToKw pos (keywordEach [] X.env))) := by rfl) :
 PE X (.Call (.Attribute o m apos) [] [] pos) (z1m C m sp dvs E ta tNil) := by
 intro pins s σ H Q I h;refine PySem.W.methodCall_KW (pl := pl) (thn (he pins s σ H _ I h) fun u s1 hq_ => ?_) ht;obtain ⟨x, H1, I1, rx, a, dx, fs, ex, ea, l, q⟩ := hq_;subst ex;obtain rfl : u = Value.ref a := rx;refine zkc I1 ea c hm l ?_;exact PySem.W.callWith_K0 (first := [.ref a]) I1.kIn hm.kp (zvc (us := [.ref a]) (vs := [.ref a]) F hr hb hd hx I1 (.cons rfl .nil) q)
structure Mk (K : PySem.W.Frag) (C f : Addr) : Prop where
 makes : PySem.W.makesIn K C = true
 init : PySem.W.findIn K (.ref C) "__init__" = some (some (.ref f))
 fn : PySem.W.isFn K (.ref f) = true
 kp : PySem.W.keepIn K (.ref C) = true
theorem zst {pins : List (Addr × Obj)} {σ : St} {H : Hp} {s : Shared} {Q : VK} {us : List Value} {vs : List V} (M : Mk X.K C f) (F : FnOk X.prog X.w X.K X.mg X.base CX k f fd ps sp) (hr : Room (k + 1) X.A) (hb : zfa X.K fd ps ds) (hd : Vals dvs ds)
 (hx : zei CX X E) (I : Inv X pins σ H s) (r : Vals vs us)
 (h : ∀ x dx, H x = none -> H dx = none -> dx ≠ x -> sp (.ref x :: (vs ++ dvs)) (upd (upd H dx (.own x)) x (.ins C dx [])) (fun v H2 => v = .non /\ Q (.ref x) H2) E) :
 wpAny (model X.prog X.w) X.A (call (.ref C) us) (EP X pins σ Q) X.xe s := by
 have hq := h (s.heap.objs.size + 1) s.heap.objs.size (I.hok.fresh (Nat.le_succ _)) (I.hok.fresh (Nat.le_refl _)) (Nat.ne_of_lt (Nat.lt_succ_self _));have I2 := Inv.made (C := C) I;have r2 : Vals (V.ref (s.heap.objs.size + 1) :: (vs ++ dvs)) (Value.ref (s.heap.objs.size + 1) :: (us ++ ds)) := .cons rfl (r.append hd);have hl : (Value.ref (s.heap.objs.size + 1) :: us ++ ds).length = ps.length := by
  have e := r2.length;rw [F.len _ _ _ _ hq] at e;exact e.symm
 refine wpAny_call (zyb (f := f) I.kIn M.makes M.init (beq_iff_eq.mp M.fn) (codeAny_mono (F.run _ X.stack _ _ ⟨Value.ref (s.heap.objs.size + 1) :: us, []⟩ (Value.ref (s.heap.objs.size + 1) :: (us ++ ds)) _ _ E (hr.make C us [])
  (I2.env0.make C us []) (hb _ (Value.ref (s.heap.objs.size + 1) :: us) I2.kIn hl) r2 hq) fun r s' hq' => ?_))
 cases r with
 | error e => exact hx pins σ _ _ e s' I2 hq'
 | ok fl =>
   cases fl with
   | ret u =>
     obtain ⟨v, H', I3, rv, ev, q3⟩ := I2.after hq';subst ev;exact ⟨rv, ⟨V.ref (s.heap.objs.size + 1), H', I3, rfl, q3⟩⟩
   | next => exact False.elim hq'
   | brk => exact False.elim hq'
   | cont => exact False.elim hq'
theorem z1p (M : Mk X.K C f) (F : FnOk X.prog X.w X.K X.mg X.base CX k f fd ps sp) (hr : Room (k + 1) X.A) (hg : Gl X x) (hm : X.mg x = some (.ref C)) (hb : zfa X.K fd ps ds) (hd : Vals dvs ds) (hx : zei CX X E)
 (ha : PA X (e :: es) t) (hdb : (x == ("__debug__" : Str)) = false := by decide) (he : starEach (e :: es) X.env = (false, eval e X.env) :: starEach es X.env := by rfl) (hpl : (backTo pos (starEach es X.env)).any (·.1) = false := by rfl) :
 PE X (.Call (.Name x p) (e :: es) [] pos) (z1n C sp dvs E t) := by
 intro pins s σ H Q I h;refine wpAny_Call_Name_kw (zhj I hg hm ?_ hdb);refine PySem.W.callWith_K (h₀ := X.base) I.ok.mod.kin M.kp (thn (ha pos pins s σ H _ I h) fun us s1 ⟨vs, H1, I1, r, q⟩ => ⟨I1.kIn, ?_⟩) he hpl;exact zst M F hr hb hd hx I1 r q
theorem zyd (M : Mk X.K C f) (F : FnOk X.prog X.w X.K X.mg X.base CX k f fd ps sp) (hr : Room (k + 1) X.A) (hg : Gl X x) (hm : X.mg x = some (.ref C)) (hb : zfa X.K fd ps ds) (hd : Vals dvs ds) (hx : zei CX X E)
 (hdb : (x == ("__debug__" : Str)) = false := by decide) : PE X (.Call (.Name x p) [] [] pos) (z1n C sp dvs E tNil) := by
 intro pins s σ H Q I h;refine wpAny_Call_Name_kw (zhj I hg hm ?_ hdb);exact PySem.W.callWith_K0 I.kIn M.kp (zst (us := []) M F hr hb hd hx I .nil h)
end
structure zao (N P : List Str) (sc : Scope) : Prop where
 kind : sc.kind = .function
 co : sc.isCoroutine = false
 gen : sc.isGenerator = false
 nd : N.Nodup
 pre : N.take P.length = P
 par : ∀ x ∈ P, sc.names.lookup x = some .local \/ sc.names.lookup x = some .cell
 nofree : ∀ y ∈ sc.names, y.2 ≠ .free
theorem zpj {kindOf : Str -> Option NameKind} {x : Str} : ∀ {binds : List (Str × Value)} {m : Str -> Option Value}, (∀ v, (x, v) ∉ binds) -> bindL kindOf binds m x = m x
 | [], _, _ => rfl
 | (n, v) :: r, m, h => by
   unfold bindL;rw [zpj fun w hw => h w (List.mem_cons_of_mem _ hw)]
   split
   ·have : x ≠ n := by rintro rfl; exact h v List.mem_cons_self
    simp [this]
   ·rfl
theorem zpk {kindOf : Str -> Option NameKind} {x : Str} : ∀ {binds : List (Str × Value)} {m : Str -> Option Value}, (∀ v, (x, v) ∉ binds) -> bindC kindOf binds m x = m x
 | [], _, _ => rfl
 | (n, v) :: r, m, h => by
   unfold bindC;rw [zpk fun w hw => h w (List.mem_cons_of_mem _ hw)]
   split
   ·rfl
   ·have : x ≠ n := by rintro rfl; exact h v List.mem_cons_self
    simp [this]
theorem zpl {kindOf : Str -> Option NameKind} {x : Str} {v : Value} : ∀ {P : List Str} {vs : List Value} {i : Nat} {m : Str -> Option Value}, P.Nodup -> P[i]? = some x -> vs[i]? = some v -> kindOf x = some .local ->
 bindL kindOf (P.zip vs) m x = some v
 | [], _, _, _, _, h, _, _ => by simp at h
 | _ :: _, [], _, _, _, _, h, _ => by simp at h
 | p :: P, w :: vs, 0, m, nd, h1, h2, hk => by
   simp at h1 h2; subst h1; subst h2;show bindL kindOf ((p, w) :: P.zip vs) m p = _;unfold bindL;rw [zpj fun v hv => (List.nodup_cons.mp nd).1 (List.of_mem_zip hv).1, if_pos hk];simp
 | p :: P, w :: vs, i + 1, m, nd, h1, h2, hk => by
   show bindL kindOf ((p, w) :: P.zip vs) m x = _;unfold bindL;exact zpl (i := i) (List.nodup_cons.mp nd).2 (by simpa using h1) (by simpa using h2) hk
theorem zpm {kindOf : Str -> Option NameKind} {x : Str} {v : Value} : ∀ {P : List Str} {vs : List Value} {i : Nat} {m : Str -> Option Value}, P.Nodup -> P[i]? = some x -> vs[i]? = some v -> kindOf x ≠ some .local ->
 bindC kindOf (P.zip vs) m x = some v
 | [], _, _, _, _, h, _, _ => by simp at h
 | _ :: _, [], _, _, _, _, h, _ => by simp at h
 | p :: P, w :: vs, 0, m, nd, h1, h2, hk => by
   simp at h1 h2; subst h1; subst h2;show bindC kindOf ((p, w) :: P.zip vs) m p = _;unfold bindC;rw [zpk fun v hv => (List.nodup_cons.mp nd).1 (List.of_mem_zip hv).1, if_neg hk];simp
 | p :: P, w :: vs, i + 1, m, nd, h1, h2, hk => by
   show bindC kindOf ((p, w) :: P.zip vs) m x = _;unfold bindC;exact zpm (i := i) (List.nodup_cons.mp nd).2 (by simpa using h1) (by simpa using h2) hk
def start (N : List Str) (vs : List V) : St := vs.map some ++ List.replicate (N.length - vs.length) none
def cxOf (CX : CXT) (P : Program) (w : World) (K : PySem.W.Frag) (mg : Str -> Option Value) (base : Heap) (N : List Str) (qual : Str) (scope : Scope) (f : Addr) (cd : Value) (A : Around) (outer : List Env) (s : Shared) (H : Hp) (E : XK) : Cx where
 prog := P
 w := w
 K := K
 mg := mg
 base := base
 A := A.deeper (envOfC qual scope s.heap.objs.size f cd)
 N := N
 s₀ := s
 H₀ := H
 env := envOfC qual scope s.heap.objs.size f cd
 outer := outer
 stack := envOfC qual scope s.heap.objs.size f cd :: outer
 ex := []
 calm := true
 fn := fun _ => true
 pn := []
 xe := fun e s' => wpAny (model P w) (A.deeper (envOfC qual scope s.heap.objs.size f cd)) (leaving (envOfC qual scope s.heap.objs.size f cd) e) (fun _ s'' => CX outer H s E e s'') (fun e' s'' => CX outer H s E e' s'') s'
theorem zsu {sc : Scope} {n : Nat} {x : Str} (h : sc.names.lookup x = some .cell) : ∃ c, (cellsFrom n sc.names []).lookup x = some c := by
 have q := PySem.W.cellsFrom_some sc.names n [] (.inl h);exact Option.isSome_iff_exists.mp q
theorem zve {CX : CXT} {P : Program} {w : World} {K : PySem.W.Frag} {mg : Str -> Option Value} {base : Heap} {N ps : List Str} {qual : Str} {scope : Scope} {f : Addr} {cd : Value} {A : Around} {outer : List Env} {s s1 : Shared} {H : Hp} {E : XK} {us : List Value} {vs : List V}
 (S : zao N ps scope) (hd : A.handled = none) (e0 : Env0 P w K mg base A outer s H) (hl : vs.length = ps.length) (r : Vals vs us)
 (x : InCallC s s.heap.objs.size (bindL (envOfC qual scope s.heap.objs.size f cd).kindOf (ps.zip us) fun _ => none) (cellsFrom (s.heap.objs.size + 1) scope.names []) (bindC (envOfC qual scope s.heap.objs.size f cd).kindOf (ps.zip us) fun _ => none) s1) :
 Inv (cxOf CX P w K mg base N qual scope f cd A outer s H E) [] (start N vs) H s1 := by
 have hpl : ps.length <= N.length := by have := congrArg List.length S.pre; rw [List.length_take] at this; omega
 obtain ⟨h1, tk, rfl, hk⟩ := x.done;have noA : ∀ b : Addr, b ∉ (cxOf CX P w K mg base N qual scope f cd A outer s H E).ex := fun b z => absurd (show b ∈ ([] : List Addr) from z) (by simp);refine ⟨⟨e0.mod, S.kind, rfl, rfl, Nat.le_refl _, fun y z c h1 h2 => ?_, fun y hy => ?_, fun y c _ h => ?_, fun _ => hd, Around.frames_deeper e0.frames, .inr ⟨rfl, rfl⟩, fun b z => absurd z (noA b), e0.bs, e0.bsz, fun b _ _ => noA b, fun b z => absurd z (noA b), e0.funs, e0.frf⟩,
  rfl, e0.bare, Un.kept hk, ⟨_, x.toInCall.ns, fun i y v h1 h2 h3 => ?_⟩, fun y c h => ⟨_, x.cell y c h⟩, e0.hok.fresh (Nat.le_refl _), fun y c h => ?_, fun p hp => absurd (show p ∈ ([] : List (Addr × Obj)) from hp) (by simp), e0.hok.kept hk, ?_, fun i v e => nomatch (show (none : Option (Option V)) = some (some v) from e)⟩
 ·exact name_of_addr x.apart (PySem.mem_of_lookup h1) (PySem.mem_of_lookup h2)
 ·have hy : scope.names.lookup y = some .cell \/ scope.names.lookup y = some .free := hy
  rcases hy with hy | hy
  ·exact zsu hy
  ·exact absurd rfl (S.nofree _ (PySem.mem_of_lookup hy))
 ·exact Nat.le_of_lt (x.above y c (PySem.mem_of_lookup h))
 ·have hi : i < vs.length := by
   unfold start at h2;by_cases hi : i < vs.length
   ·exact hi
   ·rw [List.getElem?_append_right (by simpa using hi)] at h2
    rw [List.getElem?_replicate] at h2
    split at h2 <;> cases h2
  have ha : vs[i]? = some v := by
   unfold start at h2;rw [List.getElem?_append_left (by simpa using hi), List.getElem?_map] at h2;cases e : vs[i]? with
   | none => rw [e] at h2; cases h2
   | some a => rw [e] at h2; cases h2; rfl
  obtain ⟨u, hu, rv⟩ := r.get ha;have hp : ps[i]? = some y := by
   rw [<- S.pre, List.getElem?_take_of_lt (by omega)]; exact h1
  have ndP : ps.Nodup := by rw [<- S.pre]; exact S.nd.sublist (List.take_sublist _ _)
  refine ⟨u, rv, ?_⟩;rcases S.par y (List.mem_of_getElem? hp) with k | k
  ·exact .inl ⟨k, zpl ndP hp hu k⟩
  ·obtain ⟨c, e⟩ := zsu (n := s.heap.objs.size + 1) k
   refine .inr ⟨.inl k, c, e, ?_⟩;have q := x.cell y c e;rw [zpm ndP hp hu (by show scope.names.lookup y ≠ _; rw [k]; decide)] at q;exact q
 ·exact e0.hok.fresh (Nat.le_of_lt (x.above y c (PySem.mem_of_lookup h)))
 ·unfold start
  show _ = N.length;rw [List.length_append, List.length_map, List.length_replicate];omega
theorem z7b {CX : CXT} {P : Program} {w : World} {K : PySem.W.Frag} {mg : Str -> Option Value} {base : Heap} {k : Nat} {f : Addr} {name qual : Str} {params : Arguments} {body : List Stmt} {scope : Scope} {dV kV doc pm cdv ct oc : Value} {an od : Option Addr}
 {osl : Array (Option Value)} {N ps : List Str} {sp : Sp} (lk : K.lookup f = some ⟨oc, od, .func (PySem.W.fnOf name qual params body scope dV kV doc pm an cdv ct), osl⟩) (hcd : PySem.W.codeIn K cdv qual = true) (S : zao N ps scope)
 (len : ∀ vs H Q E, sp vs H Q E -> vs.length = ps.length)
 (hbody : ∀ (A : Around) (outer : List Env) (s : Shared) (H : Hp) (vs : List V) (Q : VK) (E : XK), Room k (A.deeper (envOfC qual scope s.heap.objs.size f cdv)) -> sp vs H Q E ->
  ∃ t, PSs (cxOf CX P w K mg base N qual scope f cdv A outer s H E) body t /\ t { nx := fun _ H' => Q .non H', rt := Q } (start N vs) H) :
 FnOk P w K mg base CX (k + 1) f (PySem.W.fnOf name qual params body scope dV kV doc pm an cdv ct) ps sp := by
 refine ⟨len, fun A outer s H args us vs Q E hr e0 hb r hsp => ?_⟩;have hl := len _ _ _ _ hsp;have KX : K.In s.heap := e0.mod.kin.keeps fun b o e => (e0.bs b o e).1;have lim : s.heap.NoLimit := e0.mod.nolimit.keeps fun b o e => (e0.bs b o e).1;have hkind : ∀ y ∈ ps.zip us, scope.names.lookup y.1 = some .local \/ (scope.names.lookup y.1 = some .cell /\ ((cellsFrom (s.heap.objs.size + 1) scope.names []).lookup y.1).isSome = true) := fun ⟨n, v⟩ hy => by
  rcases S.par n (List.of_mem_zip hy).1 with q | q
  ·exact .inl q
  ·exact .inr ⟨q, PySem.W.cellsFrom_some _ _ _ (.inl q)⟩
 refine codeAny_call_function hr.depth (KX _ _ lk) rfl S.co S.gen rfl (PySem.W.codeRec_of KX hcd) (hb _ _ _ _ ?_);refine wpAny_newFunctionEnv_cells S.kind hkind fun env he s1 x => ?_;subst he;refine ⟨lim.keeps x.toInCall.keep, codeAny_func ?_⟩;obtain ⟨t, ht, hq⟩ := hbody A outer s H vs Q E (hr.deeper _) hsp;have I : Inv (cxOf CX P w K mg base N qual scope f cdv A outer s H E) [] (start N vs) H s1 := zve S hr.hd e0 hl r x;refine wpAny_mono (ht [] s1 (start N vs) H _ I hq) (fun fl s' hs => ?_) fun e s' hs => hs;have fin : ∀ {σ' : St} {H' : Hp} {v : V} {u : Value}, Inv (cxOf CX P w K mg base N qual scope f cdv A outer s H E) [] σ' H' s' -> RelV v u -> Q v H' -> CE outer P w H s Q u s' :=
  fun {σ' H' v u} J rv q => ⟨v, H', J.os, J.bare, J.base, J.hok, rv, q⟩
 cases fl with
 | ret u =>
   obtain ⟨v, σ', H', J, rv, q⟩ := hs;exact fin J rv q
 | next =>
   obtain ⟨σ', H', J, q⟩ := hs;exact fin (v := V.non) (u := Value.none) J rfl q
 | brk =>
   obtain ⟨_, _, _, q⟩ := hs;exact False.elim q
 | cont =>
   obtain ⟨_, _, _, q⟩ := hs;exact False.elim q
end L2
namespace L2
open PySem PySem.Spec PyProof.Rows
section
variable {X : Cx} {x : Str} {p pos : Pos} {e : Expr} {es : List Expr} {t : TA} {id T : String} {r : List V -> Hp -> VK -> Prop}
def tCB (r : List V -> Hp -> VK -> Prop) (t : TA) : TE := fun σ H Q => t σ H fun vs H1 => r vs H1 Q
theorem zod (hc : zjl X (.builtin id) r) (hg : Gl X x) (hm : X.mg x = none) (hv : bootBuiltins x = some (.builtin id)) (ha : PA X (e :: es) t) (hn : x ≠ "__name__" := by decide) (hdb : (x == ("__debug__" : Str)) = false := by decide)
 (he : starEach (e :: es) X.env = (false, eval e X.env) :: starEach es X.env := by rfl) (hpl : (backTo pos (starEach es X.env)).any (·.1) = false := by rfl) : PE X (.Call (.Name x p) (e :: es) [] pos) (tCB r t) := by
 intro pins s σ H Q I h;refine wpAny_Call_Name_kw (znm I hg hm hv ?_ hn hdb);exact PyProof.Rows.callWith_builtin1 (thn (ha pos pins s σ H _ I h) fun us s1 ⟨vs, H1, I1, r1, q1⟩ => hc pins s1 σ H1 vs us Q I1 r1 q1) he hpl
theorem zpn (hc : zjl X (.type T) r) (hg : Gl X x) (hm : X.mg x = none) (hv : bootBuiltins x = some (.type T)) (ha : PA X (e :: es) t) (hn : x ≠ "__name__" := by decide) (hdb : (x == ("__debug__" : Str)) = false := by decide)
 (he : starEach (e :: es) X.env = (false, eval e X.env) :: starEach es X.env := by rfl) (hpl : (backTo pos (starEach es X.env)).any (·.1) = false := by rfl) : PE X (.Call (.Name x p) (e :: es) [] pos) (tCB r t) := by
 intro pins s σ H Q I h;refine wpAny_Call_Name_kw (znm I hg hm hv ?_ hn hdb);exact PyProof.Rows.callWith_type1 (thn (ha pos pins s σ H _ I h) fun us s1 ⟨vs, H1, I1, r1, q1⟩ => hc pins s1 σ H1 vs us Q I1 r1 q1) he hpl
end
end L2
namespace L2
open PySem PySem.Spec PyProof.Rows
section
variable {κ : Type} [DecidableEq κ]
def valV (kvs : List (κ × V)) (k : κ) : Option V := (kvs.find? fun kv => decide (kv.1 = k)).map (·.2)
def putK (kvs : List (κ × V)) (k : κ) (v : V) : List (κ × V) :=
 if (kvs.any fun kv => decide (kv.1 = k)) = true then kvs.map (fun kv => if kv.1 = k then (kv.1, v) else kv) else kvs ++ [(k, v)]
theorem zli {p : κ × V} {r : List (κ × V)} {k : κ} (e : p.1 = k) : valV (p :: r) k = some p.2 := by simp [valV, List.find?_cons, e]
theorem zlj {p : κ × V} {r : List (κ × V)} {k : κ} (e : ¬ p.1 = k) : valV (p :: r) k = valV r k := by simp [valV, List.find?_cons, e]
theorem zsv (k : κ) : ∀ kvs : List (κ × V), (kvs.any fun kv => decide (kv.1 = k)) = (valV kvs k).isSome
 | [] => rfl
 | p :: r => by
   rw [List.any_cons];by_cases e : p.1 = k
   ·simp only [zli e, decide_eq_true e, Bool.true_or, Option.isSome_some]
   ·rw [zlj e, decide_eq_false e, Bool.false_or]; exact zsv k r
theorem zjb (kvs : List (κ × V)) (k : κ) (v : V) : (putK kvs k v).length <= kvs.length + 1 := by
 unfold putK
 split
 ·rw [List.length_map]; omega
 ·rw [List.length_append, List.length_cons, List.length_nil]; omega
theorem RelO.isSome_eq {o : Option V} {u : Option Value} (r : RelO o u) : o.isSome = u.isSome := by
 cases o with
 | none => cases u with
   | none => rfl
   | some _ => exact (show False from r).elim
 | some _ => cases u with
   | none => exact (show False from r).elim
   | some _ => rfl
theorem KV.val {kvs : List (κ × V)} {vs : List (κ × Value)} (r : KV kvs vs) (k : κ) : RelO (valV kvs k) (valueAt vs k) := by
 unfold KV at r
 induction r with
 | nil => exact True.intro
 | @cons p q ps qs h t ih =>
   obtain ⟨h1, h2⟩ := h;by_cases e : p.1 = k
   ·have e' : q.1 = k := h1.symm.trans e
    have b : valueAt (q :: qs) k = some q.2 := by simp [valueAt, List.find?_cons, e']
    rw [zli e, b]; exact h2
   ·have e' : ¬ q.1 = k := fun z => e (h1.trans z)
    have b : valueAt (q :: qs) k = valueAt qs k := by simp [valueAt, List.find?_cons, e']
    rw [zlj e, b]; exact ih
theorem KV.any {kvs : List (κ × V)} {vs : List (κ × Value)} (r : KV kvs vs) (k : κ) : (kvs.any fun kv => decide (kv.1 = k)) = vs.any fun kv => decide (kv.1 = k) := by
 unfold KV at r
 induction r with
 | nil => rfl
 | cons h t ih => rw [List.any_cons, List.any_cons, ih, h.1]
theorem KV.repl {kvs : List (κ × V)} {vs : List (κ × Value)} (r : KV kvs vs) (k : κ) {y : V} {u : Value} (ry : RelV y u) :
 KV (kvs.map fun kv => if kv.1 = k then (kv.1, y) else kv) (vs.map fun kv => if kv.1 = k then (kv.1, u) else kv) := by
 unfold KV at r ⊢
 induction r with
 | nil => exact .nil
 | @cons p q ps qs h t ih =>
   rw [List.map_cons, List.map_cons];refine .cons ?_ ih;obtain ⟨h1, h2⟩ := h;by_cases e : p.1 = k
   ·rw [if_pos e, if_pos (h1.symm.trans e)]; exact ⟨h1, ry⟩
   ·rw [if_neg e, if_neg (fun z => e (h1.trans z))]; exact ⟨h1, h2⟩
theorem KV.put {kvs : List (κ × V)} {vs : List (κ × Value)} (r : KV kvs vs) (k : κ) {y : V} {u : Value} (ry : RelV y u) : KV (putK kvs k y) (stored vs k u) := by
 unfold putK stored;rw [r.any k];by_cases e : (vs.any fun kv => decide (kv.1 = k)) = true
 ·rw [if_pos e, if_pos e]; exact r.repl k ry
 ·rw [if_neg e, if_neg e]; exact Paired.snoc r ⟨rfl, ry⟩
theorem KV.length {kvs : List (κ × V)} {vs : List (κ × Value)} (r : KV kvs vs) : kvs.length = vs.length := Paired.length r
end
theorem zua {P : Program} {w : World} {k : Key} {u : Value} (r : RelV (kV k) u) : (za7 P w).is k u = true := by
 cases k with
 | inl i => obtain ⟨t, e⟩ := (show ∃ t, u = Value.int i t from r); subst e; exact zq9 P w i t
 | inr x => obtain ⟨t, e⟩ := (show ∃ t, u = Value.str x t from r); subst e; exact zra P w x t
theorem zpo {P : Program} {w : World} : ∀ {ks : List Key} {us : List Value}, Vals (ks.map kV) us -> ItemsAre (za7 P w) ks us
 | [], _, r => by rw [List.map_nil] at r; cases r; exact .nil
 | k :: ks, _, r => by
   rw [List.map_cons] at r;cases r with
   | cons h t => exact .cons (zua h) (zpo t)
abbrev KT (H : Hp) : List (List Key × V) -> List (List Key × Addr × Value) -> Prop := Paired fun p q => p.1 = q.1 /\ H q.2.1 = some (.tup (p.1.map kV)) /\ RelV p.2 q.2.2
theorem KT.val {H : Hp} {kvs : List (List Key × V)} {xs : List (List Key × Addr × Value)} (r : KT H kvs xs) (k : List Key) : RelO (valV kvs k) ((atKey xs k).map (·.2)) := by
 induction r with
 | nil => exact True.intro
 | @cons p q ps qs h t ih =>
   obtain ⟨h1, _, h2⟩ := h;by_cases e : p.1 = k
   ·have e' : q.1 = k := h1.symm.trans e
    have b : atKey (q :: qs) k = some q.2 := by simp [atKey, List.find?_cons, e']
    rw [zli e, b]; exact h2
   ·have e' : ¬ q.1 = k := fun z => e (h1.trans z)
    have b : atKey (q :: qs) k = atKey qs k := by simp [atKey, List.find?_cons, e']
    rw [zlj e, b]; exact ih
theorem KT.repl {H : Hp} {kvs : List (List Key × V)} {xs : List (List Key × Addr × Value)} (r : KT H kvs xs) (k : List Key) {y : V} {u : Value} (ry : RelV y u) :
 KT H (kvs.map fun kv => if kv.1 = k then (kv.1, y) else kv) (xs.map (putAt k u)) := by
 induction r with
 | nil => exact .nil
 | @cons p q ps qs h t ih =>
   rw [List.map_cons, List.map_cons];refine .cons ?_ ih;obtain ⟨h1, h2, h3⟩ := h;unfold putAt;by_cases e : p.1 = k
   ·rw [if_pos e, if_pos (h1.symm.trans e)]; exact ⟨h1, h2, ry⟩
   ·rw [if_neg e, if_neg (fun z => e (h1.trans z))]; exact ⟨h1, h2, h3⟩
theorem KT.put {H : Hp} {kvs : List (List Key × V)} {xs : List (List Key × Addr × Value)} (r : KT H kvs xs) (k : List Key) {b : Addr} {y : V} {u : Value} (hb : H b = some (.tup (k.map kV))) (ry : RelV y u) :
 KT H (putK kvs k y) (storedH xs k b u) := by
 have e : (kvs.any fun kv => decide (kv.1 = k)) = (atKey xs k).isSome := by
  rw [zsv, (r.val k).isSome_eq, Option.isSome_map]
 unfold putK storedH;rw [e];by_cases q : (atKey xs k).isSome = true
 ·rw [if_pos q, if_pos q]; exact r.repl k ry
 ·rw [if_neg q, if_neg q]; exact Paired.snoc r ⟨rfl, hb, ry⟩
theorem KT.keeps {H H' : Hp} {kvs : List (List Key × V)} {xs : List (List Key × Addr × Value)} (r : KT H kvs xs) (ht : ∀ b ys, H b = some (.tup ys) -> H' b = some (.tup ys)) : KT H' kvs xs :=
 Paired.mapP r fun _ _ z => ⟨z.1, ht _ _ z.2.1, z.2.2⟩
section
variable {P : Program} {w : World} {H : Hp} {h : Heap} {a : Addr}
theorem z4s {u : HO} (ok : HOk P w H h) (e : Rd H a u) : zfb P w H h a u := e.ok ok
theorem zoe {kvs : List (Key × V)} (ok : HOk P w H h) (e : Rd H a (.dK kvs)) : kvs.length <= sizeLine /\ (a == sysModules) = false /\ ∃ vs, KV kvs vs /\ h.DictOf (za7 P w) a vs :=
 show zfb P w H h a (.dK kvs) from z4s ok e
theorem z4t {kvs : List (Key × V)} (ok : HOk P w H h) (e : H a = some (.dK kvs)) : kvs.length <= sizeLine /\ (a == sysModules) = false /\ ∃ vs, KV kvs vs /\ h.DictOf (za7 P w) a vs := zoe ok (.inl e)
theorem zpp {ks : List Key} (ok : HOk P w H h) (e : H a = some (.tup (ks.map kV))) : (tupleKind (za7 P w)).is h ks a := by
 obtain ⟨_, its, r, o, h1, h2, n, h3⟩ := (show zfb P w H h a (.tup (ks.map kV)) from ok a _ e);exact ⟨o, its.toArray, n, h1, h2, h3, by simpa using zpo r⟩
theorem zub {kvs : List (List Key × V)} (ok : HOk P w H h) (e : Rd H a (.dT kvs)) : kvs.length <= sizeLine /\ (a == sysModules) = false /\
 ∃ xs, KT H kvs xs /\ h.DictOfH (tupleKind (za7 P w)) a xs := by
 obtain ⟨z, y, xs, r, o, es, ep, h1, h2, h3, h4, h5⟩ := (show zfb P w H h a (.dT kvs) from z4s ok e);refine ⟨z, y, xs, r, o, es, ep, h1, h2, h3, h4, fun x hx => ?_, h5⟩;have all : ∀ {l : List (List Key × V)} {m : List (List Key × Addr × Value)}, KT H l m -> ∀ x ∈ m, (tupleKind (za7 P w)).is h x.1 x.2.1 := by
  intro l m q
  induction q with
  | nil => intro x hx; exact nomatch hx
  | @cons p q ps qs hq t ih =>
    intro x hx;rcases List.mem_cons.mp hx with e | hx
    ·subst e
     exact zpp ok (by rw [<- hq.1]; exact hq.2.1)
    ·exact ih x hx
 exact all r x hx
theorem z7c {kvs : List (List Key × V)} (ok : HOk P w H h) (e : H a = some (.dT kvs)) : kvs.length <= sizeLine /\ (a == sysModules) = false /\
 ∃ xs, KT H kvs xs /\ h.DictOfH (tupleKind (za7 P w)) a xs := zub ok (.inl e)
end
def DGet (H : Hp) (a : Addr) (y : V) (r : Option V) : Prop :=
 (∃ kvs k, Rd H a (.dK kvs) /\ y = kV k /\ r = valV kvs k) \/ ∃ kvs k b, Rd H a (.dT kvs) /\ y = .ref b /\ H b = some (.tup (k.map kV)) /\ r = valV kvs k
def DPut (H : Hp) (a : Addr) (y v : V) (H' : Hp) : Prop :=
 (∃ kvs k, H a = some (.dK kvs) /\ y = kV k /\ kvs.length < sizeLine /\ H' = upd H a (.dK (putK kvs k v))) \/
 ∃ kvs k b, H a = some (.dT kvs) /\ y = .ref b /\ H b = some (.tup (k.map kV)) /\ kvs.length < sizeLine /\ H' = upd H a (.dT (putK kvs k v))
section
variable {X : Cx} {pins : List (Addr × Obj)} {σ : St} {H : Hp} {s : Shared} {a : Addr} {y v : V} {u r : Value} {o : Option V} {A : Around} {E : Value -> Shared -> Prop}
theorem Inv.big (I : Inv X pins σ H s) : sysModules < s.heap.objs.size := by
 have h : mainGlobals < s.heap.objs.size := (I.mod.glob.keeps I.bk).lt;exact Nat.lt_trans (by decide) h
theorem zvf {Q : Value -> Shared -> Prop} (hu : A.units + 1 < cLine) (I : Inv X pins σ H s) (g : DGet H a y (some v)) (ry : RelV y u) (h : ∀ w' s', Inv X pins σ H s' -> RelV v w' -> Q w' s') :
 wpAny (model X.prog X.w) A (getItem (.ref a) u) Q E s := by
 rcases g with ⟨kvs, k, e, ey, l⟩ | ⟨kvs, k, b, e, ey, eb, l⟩
 ·subst ey
  obtain ⟨z, hd, vs, rel, dd⟩ := zoe I.hok e;obtain ⟨w', hw, rw'⟩ := RelO.some_of (v := v) (o := valueAt vs k) (by rw [l]; exact rel.val k);exact wpAny_getItem_of (zua ry) dd.mapOf hw (h w' _ (I.tok _) rw')
 ·subst ey
  cases (show u = Value.ref b from ry);obtain ⟨z, hd, xs, rel, dd⟩ := zub I.hok e;obtain ⟨w', hw, rw'⟩ := RelO.some_of (v := v) (o := (atKey xs k).map (·.2)) (by rw [l]; exact rel.val k);obtain ⟨p, hp, hp2⟩ := Option.map_eq_some_iff.mp hw;refine wpAny_getItem_heap (tupleKind_room_in1 hu) (zpp I.hok eb) dd hp ?_;rw [hp2];exact h w' _ (I.tok _) rw'
theorem d_in {Q : Value -> Shared -> Prop} (hu : A.units + 1 < cLine) (I : Inv X pins σ H s) (g : DGet H a y o) (ry : RelV y u) (h : ∀ s', Inv X pins σ H s' -> Q (.bool o.isSome) s') :
 wpAny (model X.prog X.w) A (compareOp .In u (.ref a)) Q E s := by
 rcases g with ⟨kvs, k, e, ey, l⟩ | ⟨kvs, k, b, e, ey, eb, l⟩
 ·subst ey
  obtain ⟨z, hd, vs, rel, dd⟩ := zoe I.hok e;refine wpAny_in_of (zua ry) hd dd.mapOf ?_;rw [<- (rel.val k).isSome_eq, <- l];exact h _ (I.tok _)
 ·subst ey
  cases (show u = Value.ref b from ry);obtain ⟨z, hd, xs, rel, dd⟩ := zub I.hok e;refine wpAny_in_heap (tupleKind_room_in1 hu) (zpp I.hok eb) hd dd ?_;have q := (rel.val k).isSome_eq;rw [Option.isSome_map] at q;rw [<- q, <- l];exact h _ (I.tok _)
theorem z1q {Q : Value -> Shared -> Prop} (hu : A.units + 1 < cLine) (I : Inv X pins σ H s) (g : DGet H a y o) (ry : RelV y u) (h : ∀ s', Inv X pins σ H s' -> Q (.bool (!o.isSome)) s') :
 wpAny (model X.prog X.w) A (compareOp .NotIn u (.ref a)) Q E s := by
 rcases g with ⟨kvs, k, e, ey, l⟩ | ⟨kvs, k, b, e, ey, eb, l⟩
 ·subst ey
  obtain ⟨z, hd, vs, rel, dd⟩ := zoe I.hok e;refine wpAny_notIn_of (zua ry) hd dd.mapOf ?_;rw [<- (rel.val k).isSome_eq, <- l];exact h _ (I.tok _)
 ·subst ey
  cases (show u = Value.ref b from ry);obtain ⟨z, hd, xs, rel, dd⟩ := zub I.hok e;refine wpAny_notIn_heap (tupleKind_room_in1 hu) (zpp I.hok eb) hd dd ?_;have q := (rel.val k).isSome_eq;rw [Option.isSome_map] at q;rw [<- q, <- l];exact h _ (I.tok _)
theorem zrd {h' : Heap} {t' : Nat} {ob : HO} (I : Inv X pins σ H s) (mu : Mut (H a)) (hs : Heap.SameBut a s.heap h') (he : ∃ q, h'.get? a = some q) (new : zfb X.prog X.w (upd H a ob) h' a ob) :
 Inv X pins σ (upd H a ob) { s with heap := h', toks := t' } :=
 I.write (x := a) (e := a) mu (.inl rfl) (fun b q hb z => (hs.2 b hb).trans z) he new
theorem zz2 {P : Program} {w : World} {H' : Hp} {h' : Heap} {kvs : List (Key × V)} {vs : List (Key × Value)} (z : kvs.length <= sizeLine) (hd : (a == sysModules) = false) (rel : KV kvs vs) (dd : h'.DictOf (za7 P w) a vs) :
 zfb P w H' h' a (.dK kvs) := ⟨z, hd, vs, rel, dd⟩
theorem zvg {H' : Hp} {Q : Unit -> Shared -> Prop} (hu : A.units + 1 < cLine) (I : Inv X pins σ H s) (g : DPut H a y v H') (ry : RelV y u) (rv : RelV v r) (h : ∀ s', Inv X pins σ H' s' -> Q () s') :
 wpAny (model X.prog X.w) A (setItem (.ref a) u r) Q E s := by
 rcases g with ⟨kvs, k, e, ey, l, eH⟩ | ⟨kvs, k, b, e, ey, eb, l, eH⟩
 ·subst ey eH
  obtain ⟨z, hd, vs, rel, dd⟩ := z4t I.hok e;have hz : vs.length <= sizeLine := by rw [<- rel.length]; exact z
  have hl : (putK kvs k v).length <= sizeLine := by have := zjb kvs k v; omega
  refine wpAny_setItem_pairs (hsz := hz) (zua ry) dd fun h' dd' hs => h _ ?_;have he : ∃ q, h'.get? a = some q := let ⟨q, _, _, hq, _⟩ := dd'; ⟨q, hq⟩;exact zrd I (by rw [e]; exact True.intro) hs he (zz2 hl hd (rel.put k rv) dd')
 ·subst ey eH
  cases (show u = Value.ref b from ry);obtain ⟨z, hd, xs, rel, dd⟩ := z7c I.hok e;have hz : xs.length <= sizeLine := by rw [<- Paired.length rel]; exact z
  have hl : (putK kvs k v).length <= sizeLine := by have := zjb kvs k v; omega
  refine wpAny_setItem_heap (hsz := hz) (tupleKind_room_in1 hu) (zpp I.hok eb) dd fun h' dd' hs => h _ ?_;obtain ⟨q, es, ep, hq, h2, h3, h4, _, h5⟩ := dd';refine zrd I (by rw [e]; exact True.intro) hs ⟨q, hq⟩ ⟨hl, hd, _, (rel.put k eb rv).keeps fun c ys ec => ?_, q, es, ep, hq, h2, h3, h4, h5⟩;rw [zai (z6z ec e (fun z => nomatch z))];exact ec
end
section
variable {X : Cx} {pins : List (Addr × Obj)} {σ : St} {H : Hp} {s : Shared} {a : Addr} {kvs : List (Key × V)} {k : Key} {u : Value} {A : Around} {E : Value -> Shared -> Prop}
theorem z7d {Q : Value -> Shared -> Prop} (I : Inv X pins σ H s) (e : Rd H a (.dK kvs)) (h : ∀ t s', Inv X pins σ H s' -> Q (.int kvs.length t) s') : wpAny (model X.prog X.w) A (call (.builtin "len") [.ref a]) Q E s := by
 obtain ⟨z, hd, vs, rel, dd⟩ := zoe I.hok e;refine call_len_dict hd dd (by rw [<- rel.length]; rw [sizeLine_eq] at z; omega) ?_;rw [<- rel.length];exact h _ _ (I.tok _)
end
def NoSl (i : Expr) : Prop := ∀ ov iv, subscripted i false ov iv = operate [ov, iv] (getItem ov iv)
theorem z1r {prog : Program} {w : World} {A : Around} {E : Value -> Shared -> Prop} {s : Shared} {env : Env} {value slice : Expr} {pos : Pos} {T id : String} {Q : Value -> Shared -> Prop}
 (hl : typeLookup (.type T) "__getitem__" = pure (some (.builtin id))) (hs : NoSl slice)
 (h : wpAny (model prog w) A (eval value env) (fun o s₁ => wpAny (model prog w) A (eval slice env) (fun i s₂ => s₂.TypeIs o T /\ wpAny (model prog w) A (getItem o i) Q E s₂) E s₁) E s) :
 wpAny (model prog w) A (eval (.Subscript value slice pos) env) Q E s := by
 refine Subscript_ (wpAny_mono h (fun o s₁ h₁ => wpAny_mono h₁ (fun i s₂ h₂ => ?_) fun _ _ x => x) fun _ _ x => x);obtain ⟨hT, h₂⟩ := h₂;unfold subscriptTail;refine wpAny_bind ?_;rw [getitemInPython_of_ne hT.not_modules];refine wpAny_bind (wpAny_specialOf hT hl ?_);have fin : wpAny (model prog w) A (subscripted slice false o i) (fun r s₃ => wpAny (model prog w) A (letTemporaryGo value o r >>= fun _ => pure r) Q E s₃) E s₂ := by
  rw [hs o i];exact wpAny_operating (wpAny_mono h₂ (fun r s₃ h₃ => wpAny_bind (wpAny_letTemporaryGo (wpAny_pure h₃))) fun _ _ x => x)
 first
  | exact wpAny_pure (wpAny_bind fin)
  | exact wpAny_bind (wpAny_pure (wpAny_bind fin))
  | exact wpAny_bind fin
theorem zre {X : Cx} {pins : List (Addr × Obj)} {σ : St} {H : Hp} {s : Shared} {a : Addr} {y : V} {o : Option V} (I : Inv X pins σ H s) (g : DGet H a y o) : s.TypeIs (.ref a) "dict" := by
 rcases g with ⟨kvs, k, e, _, _⟩ | ⟨kvs, k, b, e, _, _, _⟩
 ·obtain ⟨_, _, vs, _, dd⟩ := zoe I.hok e
  exact dd.typeIs
 ·obtain ⟨_, _, xs, _, dd⟩ := zub I.hok e
  exact dd.typeIs
def z7e (td ty : TE) : TE := fun σ H Q => td σ H fun x H1 => ty σ H1 fun y H2 => ∃ a v, x = .ref a /\ DGet H2 a y (some v) /\ Q v H2
def z1s (ty td : TE) : TE := fun σ H Q => ty σ H fun y H1 => td σ H1 fun x H2 => ∃ a o, x = .ref a /\ DGet H2 a y o /\ Q (.bl (!o.isSome)) H2
def z7f (td ty tv : TE) : TS := fun D σ H => tv σ H fun v H1 => td σ H1 fun x H2 => ty σ H2 fun y H3 => ∃ a H4, x = .ref a /\ DPut H3 a y v H4 /\ D.nx σ H4
section
variable {X : Cx} {o i e value : Expr} {pos pos' tpos : Pos} {td ty tv : TE}
theorem z1t (hu : X.A.units + 1 < cLine) (ho : PE X o td) (hi : PE X i ty) (hs : NoSl i) : PE X (.Subscript o i pos) (z7e td ty) := by
 intro pins s σ H Q I h;refine z1r PySem.F.slot_dict_getitem.lookup hs (thn (ho pins s σ H _ I h) fun u s1 hq_ => ?_);obtain ⟨x, H1, I1, rx, q1⟩ := hq_;refine thn (hi pins s1 σ H1 _ I1 q1) fun iv s2 hq_ => ?_;obtain ⟨y, H2, I2, ry, a, v, ex, g, q2⟩ := hq_;subst ex;obtain rfl : u = Value.ref a := rx;exact ⟨zre I2 g, zvf hu I2 g ry fun w' s3 I3 rw' => ⟨v, H2, I3, rw', q2⟩⟩
theorem zvh (hu : X.A.units + 1 < cLine) (hi : PE X i ty) (ho : PE X o td) : PC X .NotIn i o (z1s ty td) := by
 intro pins s σ H Q I h;refine thn (hi pins s σ H _ I h) fun iv s1 hq_ => ?_;obtain ⟨y, H1, I1, ry, q1⟩ := hq_;refine thn (ho pins s1 σ H1 _ I1 q1) fun u s2 hq_ => ?_;obtain ⟨x, H2, I2, rx, a, ov, ex, g, q2⟩ := hq_;subst ex;obtain rfl : u = Value.ref a := rx;exact z1q hu I2 g ry fun s3 I3 => ⟨.bl (!ov.isSome), H2, I3, rfl, q2⟩
theorem z1u (hu : X.A.units + 1 < cLine) (ho : PE X o td) (hi : PE X i ty) (hv : PE X value tv) (hs : swapsWith value (some (.Subscript o i pos')) pos.line X.env = pure false) :
 PS X (.Assign [.Subscript o i pos'] value pos) (z7f td ty tv) := by
 intro pins s σ H D I h;refine wpAny_Assign_Subscript (thn (hv pins s σ H _ I h) fun r s1 hq_ => ?_) hs;obtain ⟨v, H1, I1, rv, q1⟩ := hq_;refine thn (ho pins s1 σ H1 _ I1 q1) fun u s2 hq_ => ?_;obtain ⟨x, H2, I2, rx, q2⟩ := hq_;refine thn (hi pins s2 σ H2 _ I2 q2) fun iv s3 hq_ => ?_;obtain ⟨y, H3, I3, ry, a, H4, ex, g, q3⟩ := hq_;subst ex;obtain rfl : u = Value.ref a := rx;exact zvg hu I3 g ry rv fun s4 I4 => ⟨σ, H4, I4, q3⟩
end
theorem zsw {P : Program} {w : World} {H : Hp} (h : Heap) (hb : sysModules < h.objs.size) : zfb P w H (h.push { cls := .type "dict", data := .dict #[] }) h.objs.size (.dK []) :=
 ⟨Nat.zero_le _, beq_eq_false_iff_ne.mpr (Ne.symm (Nat.ne_of_lt hb)), [], .nil, Heap.DictOf.new h⟩
def z4u : TE := fun _ H Q => ∀ p, H p = none -> Q (.ref p) (upd H p (.dK []))
section
variable {X : Cx} {pos : Pos}
theorem zye : PE X (.Dict [] [] pos) z4u := fun pins s σ H Q I h =>
 wpAny_Dict_empty ⟨.ref s.heap.objs.size, _, I.laid (a := s.heap.objs.size) (o := .dK []) (t' := s.toks) (fun _ _ q => Heap.get?_push_of_some _ q) (Nat.le_refl _) (zsw s.heap I.big), rfl, h _ (I.hok.fresh (Nat.le_refl _))⟩
end
def zvi : List (TE × TE) -> St -> Hp -> (List (V × V) -> Hp -> Prop) -> Prop
 | [], _, H, Q => Q [] H
 | (tk, tv) :: r, σ, H, Q => tk σ H fun x H1 => tv σ H1 fun y H2 => zvi r σ H2 fun ps H3 => Q ((x, y) :: ps) H3
abbrev VV : List (V × V) -> List (Value × Value) -> Prop := Paired fun p q => RelV p.1 q.1 /\ RelV p.2 q.2
def PPs (X : Cx) (pos : Pos) (keys : List (Option Expr)) (values : List Expr) (trs : List (TE × TE)) : Prop :=
 ∀ (pins : List (Addr × Obj)) (s : Shared) (σ : St) (H : Hp) (Q : List (V × V) -> Hp -> Prop), Inv X pins σ H s -> zvi trs σ H Q ->
   wpAny (model X.prog X.w) X.A (evalPairs (pairTrees keys values X.env pos)) (fun vs s' => ∃ ps H', Inv X pins σ H' s' /\ VV ps vs /\ Q ps H') X.xe s
theorem z1v {X : Cx} {pos : Pos} : PPs X pos [] [] [] := fun pins s σ H Q I h => pairTrees_nil_walk ⟨[], H, I, .nil, h⟩
theorem zyf {X : Cx} {pos : Pos} {k v : Expr} {ks : List (Option Expr)} {vs : List Expr} {tk tv : TE} {trs : List (TE × TE)} (hk : PE X k tk) (hv : PE X v tv) (hr : PPs X pos ks vs trs) :
 PPs X pos (some k :: ks) (v :: vs) ((tk, tv) :: trs) := fun pins s σ H Q I h =>
 pairTrees_cons_walk (thn (hk pins s σ H _ I h) fun u s1 ⟨x, H1, I1, rx, q1⟩ => thn (hv pins s1 σ H1 _ I1 q1) fun w2 s2 ⟨y, H2, I2, ry, q2⟩ =>
  thn (hr pins s2 σ H2 _ I2 q2) fun ws s3 ⟨ps, H3, I3, rel, q3⟩ => ⟨(x, y) :: ps, H3, I3, .cons ⟨rx, ry⟩ rel, q3⟩)
def zno (kvs more : List (Key × V)) : List (Key × V) := more.foldl (fun acc kv => putK acc kv.1 kv.2) kvs
theorem KV.merge : ∀ {more : List (Key × V)} {rs : List (Key × Value)} {kvs : List (Key × V)} {vs : List (Key × Value)}, KV more rs -> KV kvs vs -> KV (zno kvs more) (merged vs rs) := by
 intro more rs kvs vs r;unfold KV at r
 induction r generalizing kvs vs with
 | nil => intro q; exact q
 | @cons p q ps qs h t ih =>
   intro r0;have e : KV (putK kvs p.1 p.2) (stored vs q.1 q.2) := by
    have := r0.put p.1 h.2;rw [<- h.1]; exact this
   exact ih e
theorem zjm : ∀ (more kvs : List (Key × V)), (zno kvs more).length <= kvs.length + more.length
 | [], kvs => by show kvs.length <= kvs.length + 0; omega
 | p :: r, kvs => by
   have h1 := zjm r (putK kvs p.1 p.2);have h2 := zjb kvs p.1 p.2;show (zno (putK kvs p.1 p.2) r).length <= _;rw [List.length_cons]; omega
theorem znp {P : Program} {w : World} : ∀ {kvs : List (Key × V)} {ws : List (Value × Value)}, VV (kvs.map fun kv => (kV kv.1, kv.2)) ws -> ∃ rs, Carries (za7 P w) ws rs /\ KV kvs rs
 | [], _, r => by rw [List.map_nil] at r; cases r; exact ⟨[], True.intro, .nil⟩
 | p :: kvs, _, r => by
   rw [List.map_cons] at r;cases r with
   | @cons a b as bs h t =>
     obtain ⟨rs, c, q⟩ := znp (P := P) (w := w) t;obtain ⟨b1, b2⟩ := b;exact ⟨(p.1, b2) :: rs, ⟨zua h.1, rfl, c⟩, .cons ⟨rfl, h.2⟩ q⟩
def z7g (trs : List (TE × TE)) : TE := fun σ H Q => ∀ p, H p = none -> zvi trs σ (upd H p (.dK [])) fun ps H2 => H2 p = some (.dK []) /\ ∃ kvs : List (Key × V), ps = kvs.map (fun kv => (kV kv.1, kv.2)) /\ kvs.length <= 15 /\ Q (.ref p) (upd H2 p (.dK (zno [] kvs)))
theorem z1w {X : Cx} {pos : Pos} {keys : List (Option Expr)} {values : List Expr} {trs : List (TE × TE)} (h : PPs X pos keys values trs) (hall : keys.all (·.isSome) = true) (hl : keys.length = values.length) (h0 : keys ≠ [])
 (h15 : keys.length <= 15) : PE X (.Dict keys values pos) (z7g trs) := by
 intro pins s σ H Q I q;have hn := I.hok.fresh (Nat.le_refl s.heap.objs.size);have I1 := I.laid (a := s.heap.objs.size) (o := .dK []) (h' := s.heap.push { cls := .type "dict", data := .dict #[] }) (t' := s.toks) (fun _ _ q => Heap.get?_push_of_some _ q) (Nat.le_refl _) (zsw s.heap I.big);refine wpAny_Dict_walk (knd := za7 X.prog X.w) hall hl h0 h15 (thn (h pins _ σ _ _ I1 (q _ hn)) fun ws s2 hq_ => ?_);obtain ⟨ps, H2, I2, rel, e, kvs, ep, lk, q2⟩ := hq_;subst ep;obtain ⟨rs, c, rk⟩ := znp (P := X.prog) (w := X.w) rel;obtain ⟨z, hd, vs0, r0, dd⟩ := z4t I2.hok e;cases r0;refine ⟨rs, c, dd, fun h' dd' hs => ⟨.ref s.heap.objs.size, _, ?_, rfl, q2⟩⟩;have hz : (zno [] kvs).length <= sizeLine := by
  have h1 := zjm kvs [];rw [List.length_nil] at h1;rw [sizeLine_eq]; omega
 have he : ∃ q, h'.get? s.heap.objs.size = some q := let ⟨q, _, _, hq, _⟩ := dd'; ⟨q, hq⟩;exact zrd I2 (by rw [e]; exact True.intro) hs he (zz2 hz hd (rk.merge .nil) dd')
def IsD (H : Hp) (a : Addr) : Prop := (∃ kvs, Rd H a (.dK kvs)) \/ ∃ kvs, Rd H a (.dT kvs)
theorem z4v {X : Cx} {pins : List (Addr × Obj)} {σ : St} {H : Hp} {s : Shared} {a : Addr} (I : Inv X pins σ H s) (d : IsD H a) :
 s.TypeIs (.ref a) "dict" /\ (∀ b, Value.ref a = .ref b -> ∃ ob, s.heap.get? b = some ob /\ ob.dict = none) /\ (a == sysModules) = false := by
 rcases d with ⟨kvs, e⟩ | ⟨kvs, e⟩
 ·obtain ⟨_, hd, vs, _, dd⟩ := zoe I.hok e
  refine ⟨dd.typeIs, fun b q => ?_, hd⟩;cases q;obtain ⟨ob, _, _, h1, h2, _⟩ := dd;exact ⟨ob, h1, h2.2.1⟩
 ·obtain ⟨_, hd, xs, _, dd⟩ := zub I.hok e
  refine ⟨dd.typeIs, fun b q => ?_, hd⟩;cases q;obtain ⟨ob, _, _, h1, h2, _⟩ := dd;exact ⟨ob, h1, h2.2.1⟩
end L2
namespace L2
open PySem PySem.Spec PyProof.Rows
abbrev TO := St -> Hp -> (Option Int -> Hp -> Prop) -> Prop
def PO (X : Cx) (e : Option Expr) (t : TO) : Prop :=
 ∀ (pins : List (Addr × Obj)) (s : Shared) (σ : St) (H : Hp) (Q : Option Int -> Hp -> Prop), Inv X pins σ H s -> t σ H Q ->
   wpAny (model X.prog X.w) X.A (evalPart e X.env) (fun u s' => ∃ o H', Inv X pins σ H' s' /\ IsPart u o /\ Q o H') X.xe s
def z1x : TO := fun _ H Q => Q none H
def z7h (t : TE) : TO := fun σ H Q => t σ H fun x H1 => ∃ i, x = .int i /\ Q (some i) H1
section
variable {X : Cx} {e : Expr} {te : TE} {lo hi : Option Expr} {tl th : TO} {pos p2 : Pos}
theorem z1y : PO X none z1x := by
 intro pins s σ H Q I h;rw [evalPart_none];exact wpAny_pure ⟨none, H, I, .none, h⟩
theorem z1z (h : PE X e te) : PO X (some e) (z7h te) := by
 intro pins s σ H Q I hw;rw [evalPart_some];refine thn (h pins s σ H _ I hw) fun u s1 hq_ => ?_;obtain ⟨x, H1, I1, r1, q1⟩ := hq_;obtain ⟨i, rfl, q⟩ := q1;obtain ⟨t, rfl⟩ := r1;exact ⟨some i, H1, I1, .int i t, q⟩
def SlR (X : Cx) (r : V -> Option Int -> Option Int -> Hp -> VK -> Prop) : Prop :=
 ∀ (pins : List (Addr × Obj)) (s : Shared) (σ : St) (H : Hp) (x : V) (v vl vu : Value) (lo hi : Option Int) (sl : Addr) (Q : VK), Inv X pins σ H s -> RelV x v -> s.heap.IsSliceOf sl vl vu .none -> IsPart vl lo -> IsPart vu hi -> r x lo hi H Q ->
   ∃ T id, typeLookup (.type T) "__getitem__" = pure (some (.builtin id)) /\ s.TypeIs v T /\ wpAny (model X.prog X.w) X.A (getItem v (.ref sl)) (EP X pins σ Q) X.xe s
def tSl (r : V -> Option Int -> Option Int -> Hp -> VK -> Prop) (te : TE) (tl th : TO) : TE := fun σ H Q => te σ H fun x H1 => tl σ H1 fun l H2 => th σ H2 fun u H3 => r x l u H3 Q
theorem zyg {r : V -> Option Int -> Option Int -> Hp -> VK -> Prop} (hr : SlR X r) (he : PE X e te) (hl : PO X lo tl) (hu : PO X hi th) : PE X (.Subscript e (.Slice lo hi none p2) pos) (tSl r te tl th) := by
 intro pins s σ H Q I h;refine Subscript_ (thn (he pins s σ H _ I h) fun v s1 hq_ => ?_);obtain ⟨x, H1, I1, r1, q1⟩ := hq_;refine wpAny_Slice (thn (hl pins s1 σ H1 _ I1 q1) fun vl s2 hq_ => ?_);obtain ⟨l, H2, I2, pl, q2⟩ := hq_;refine thn (hu pins s2 σ H2 _ I2 q2) fun vu s3 hq_ => ?_;obtain ⟨u, H3, I3, pu, q3⟩ := hq_;rw [evalPart_none];refine wpAny_pure ?_;have I4 : Inv X pins σ H3 { s3 with heap := s3.heap.push { cls := .type "slice", data := .fields #[vl, vu, .none] } } := I3.kept (t' := s3.toks) fun b ob q => Heap.get?_push_of_some _ q;obtain ⟨T, id, hT, ht, hg⟩ := hr pins { s3 with heap := s3.heap.push { cls := .type "slice", data := .fields #[vl, vu, .none] } } σ H3 x v vl vu l u s3.heap.objs.size Q I4 r1 (Heap.IsSliceOf.new ..) pl pu q3;show wpAny (model X.prog X.w) X.A (subscriptTail e (.Slice lo hi none p2) v (.ref s3.heap.objs.size)) (EP X pins σ Q) X.xe { s3 with heap := s3.heap.push { cls := .type "slice", data := .fields #[vl, vu, .none] } };exact tail_any (ops := [.ref s3.heap.objs.size, v]) ht hT hg (by with_unfolding_all rfl)
end
end L2
namespace L2
open PySem PySem.Spec PyProof.Rows
def ixN (n : Nat) (i : Int) : Option Nat := if 0 <= i then (if i < n then some i.toNat else none) else if -(n : Int) <= i then some (i + n).toNat else none
def atI {α : Type} (xs : List α) (i : Int) : Option α := (ixN xs.length i).bind fun j => xs[j]?
theorem z10 {n : Nat} {i : Int} {j : Nat} (h : ixN n i = some j) : seqIndex? i n = some j /\ j < n /\ -(n : Int) <= i /\ i < n := by
 unfold ixN at h;by_cases h0 : 0 <= i
 ·rw [if_pos h0] at h
  by_cases h1 : i < n
  ·rw [if_pos h1] at h
   have e : i.toNat = j := Option.some.inj h;exact ⟨by rw [seqIndex_of h0 h1, e], by omega, by omega, h1⟩
  ·rw [if_neg h1] at h; cases h
 ·rw [if_neg h0] at h
  by_cases h1 : -(n : Int) <= i
  ·rw [if_pos h1] at h
   have e : (i + n).toNat = j := Option.some.inj h;exact ⟨by rw [seqIndex_neg (by omega) h1, e], by omega, h1, by omega⟩
  ·rw [if_neg h1] at h; cases h
theorem zrf {α : Type} {xs : List α} {i : Int} {v : α} (h : atI xs i = some v) : ∃ j, seqIndex? i xs.length = some j /\ xs[j]? = some v /\ j < xs.length /\ -(xs.length : Int) <= i /\ i < xs.length := by
 unfold atI at h;cases e : ixN xs.length i with
 | none => rw [e] at h; cases h
 | some j =>
   rw [e] at h;obtain ⟨h1, h2, h3, h4⟩ := z10 e;exact ⟨j, h1, h, h2, h3, h4⟩
theorem zkd {α : Type} {xs : List α} {j : Nat} {v : α} (h : xs[j]? = some v) : atI xs (j : Int) = some v := by
 have hj : j < xs.length := (List.getElem?_eq_some_iff.mp h).1;have e : ixN xs.length (j : Int) = some j := by
  unfold ixN;rw [if_pos (by omega), if_pos (by omega)]; simp
 unfold atI; rw [e]; exact h
def zvj (b : Expr) : Prop := ∀ o i, subscripted b false o i = operate [o, i] (getItem o i)
def IxR (X : Cx) (r : R2) : Prop :=
 ∀ (value slice : Expr) (pins : List (Addr × Obj)) (s : Shared) (σ : St) (H : Hp) (x y : V) (v u : Value) (Q : VK), Inv X pins σ H s -> RelV x v -> RelV y u -> r x y H Q ->
   subscripted slice false v u = operate [v, u] (getItem v u) -> wpAny (model X.prog X.w) X.A (subscriptTail value slice v u) (EP X pins σ Q) X.xe s
def MtR (X : Cx) (id : String) (r : V -> List V -> Hp -> VK -> Prop) : Prop :=
 ∀ (pins : List (Addr × Obj)) (s : Shared) (σ : St) (H : Hp) (x : V) (xs : List V) (v : Value) (us : List Value) (Q : VK), Inv X pins σ H s -> RelV x v -> Vals xs us -> r x xs H Q ->
   wpAny (model X.prog X.w) X.A (call (.builtin id) (v :: us)) (EP X pins σ Q) X.xe s
section
variable {X : Cx} {a b : Expr} {ta tb : TE} {pos : Pos}
theorem IxR.or {r r' : R2} (h : IxR X r) (h' : IxR X r') : IxR X (fun x y H Q => r x y H Q \/ r' x y H Q) := by
 intro value slice pins s σ H x y v u Q I rx ry q hs;rcases q with q | q
 ·exact h value slice pins s σ H x y v u Q I rx ry q hs
 ·exact h' value slice pins s σ H x y v u Q I rx ry q hs
theorem z7i {r : R2} (hr : IxR X r) (ha : PE X a ta) (hb : PE X b tb) (hs : zvj b) : PE X (.Subscript a b pos) (tOp r ta tb) := by
 intro pins s σ H Q I h;exact Subscript_ (binT ha hb I h fun v u s2 x y H2 I2 rx ry q => hr a b pins s2 σ H2 x y v u Q I2 rx ry q (hs _ _))
def rIxL (K : PySem.W.Frag) : R2 := fun x y H Q => ∃ p xs i v, x = .ref p /\ y = .int i /\ SqL K H p xs /\ atI xs i = some v /\ Q v H
def rIxT (K : PySem.W.Frag) : R2 := fun x y H Q => ∃ p xs i v, x = .ref p /\ y = .int i /\ SqT K H p xs /\ atI xs i = some v /\ Q v H
def rIxS : R2 := fun x y H Q => ∃ z i c, x = .str z /\ y = .int i /\ z.length <= sizeLine /\ atI z.cps.toList i = some c /\ Q (.str ⟨#[c]⟩) H
theorem z11 : IxR X (rIxL X.K) := by
 intro value slice pins s σ H x y v u Q I rx ry h hs;obtain ⟨p, xs, i, z, rfl, rfl, hq, he, q⟩ := h;cases rx;obtain ⟨t, rfl⟩ := ry;obtain ⟨its, r, pl, hz⟩ := I.list hq;obtain ⟨j, h1, h2, h3, h4, h5⟩ := zrf he;obtain ⟨w, ew, rw'⟩ := r.get h2;have hl := r.length;have hn := zpg;have fin : EP X pins σ Q w s := ⟨z, H, I, rw', q⟩;by_cases h0 : 0 <= i
 ·have hj : i.toNat = j := by
   rw [seqIndex_of h0 h5] at h1;exact Option.some.inj h1
  exact item_listR pl.isList h0 (by omega) (by rw [hj]; simpa using ew) fin hs
 ·have hj : (i + (its.toArray.size : Int)).toNat = j := by
   rw [seqIndex_neg (by omega) h4] at h1;rw [List.size_toArray, <- hl];exact Option.some.inj h1
  exact subscriptTail_builtinR (x := w) pl.isList.typeIs slot_list_getitem.lookup
   (wpAny_getItem_list_neg (Q := fun r s' => r = w /\ EP X pins σ Q r s') pl.isList (by omega) (by rw [List.size_toArray] <;> omega) (by omega) (by rw [hj]; simpa using ew) ⟨rfl, fin⟩) hs
theorem z4w : IxR X (rIxT X.K) := by
 intro value slice pins s σ H x y v u Q I rx ry h hs;obtain ⟨p, xs, i, z, rfl, rfl, hq, he, q⟩ := h;cases rx;obtain ⟨t, rfl⟩ := ry;obtain ⟨its, r, pl, hz⟩ := I.tuple hq;obtain ⟨j, h1, h2, h3, h4, h5⟩ := zrf he;obtain ⟨w, ew, rw'⟩ := r.get h2;have hl := r.length;have hn := zpg;have fin : EP X pins σ Q w s := ⟨z, H, I, rw', q⟩;exact subscriptTail_builtinR (x := w) pl.typeIs slot_tuple_getitem.lookup
  (getItem_tuple (j := j) (Q := fun r s' => r = w /\ EP X pins σ Q r s') pl (by omega) (by omega) (by rw [List.size_toArray, <- hl]; exact h1) (by simpa using ew) ⟨rfl, fin⟩) hs
theorem z4x : IxR X rIxS := by
 intro value slice pins s σ H x y v u Q I rx ry h hs;obtain ⟨z, i, c, rfl, rfl, hz, he, q⟩ := h;obtain ⟨t, rfl⟩ := rx;obtain ⟨t', rfl⟩ := ry;obtain ⟨j, h1, h2, h3, h4, h5⟩ := zrf he;have hl : z.cps.toList.length = z.length := by simp [Str.length]
 rw [hl] at h1 h4 h5;have hn := zpg;exact tail_any (typeIs_str s z t) slot_str_getitem.lookup (getItem_str (c := c) (by
  have e1 : decide (i < -(2 ^ 63 : Int)) = false := decide_eq_false (by omega);have e2 : decide (i >= 2 ^ 63) = false := decide_eq_false (by omega);rw [e1, e2, Bool.or_false]) (by rw [h1]; simpa using h2) ⟨.str ⟨#[c]⟩, H, I.tok _, ⟨_, rfl⟩, q⟩) hs
def rIx (K : PySem.W.Frag) : R2 := fun x y H Q => rIxL K x y H Q \/ rIxT K x y H Q \/ rIxS x y H Q
theorem z4y : IxR X (rIx X.K) := z11.or (z4w.or z4x)
def zgo : V -> Bool
 | .non => true
 | .bl _ => true
 | .int _ => true
 | .str _ => true
 | _ => false
def eqV : V -> V -> Bool
 | .non, .non => true
 | .bl a, .bl b => a == b
 | .bl a, .int b => (if a then 1 else 0) == b
 | .int a, .bl b => a == (if b then 1 else 0)
 | .int a, .int b => a == b
 | .str a, .str b => a == b
 | _, _ => false
theorem zz3 {A : Around} {s : Shared} {y x : V} {u v : Value} (ry : RelV y u) (rx : RelV x v) (fy : zgo y = true) (fx : zgo x = true) : SeqAt.EqAt A s u v (eqV y x) := by
 cases y with
 | non =>
   cases ry;cases x with
   | non => cases rx; exact SeqAt.EqAt.same _
   | bl b => cases rx; exact SeqAt.EqAt.none_bool b
   | int b => obtain ⟨t, rfl⟩ := rx; exact SeqAt.EqAt.none_int b t
   | str b => obtain ⟨t, rfl⟩ := rx; exact SeqAt.EqAt.none_str b t
   | _ => exact absurd (show false = true from fx) Bool.false_ne_true
 | bl a =>
   cases ry;cases x with
   | non => cases rx; exact SeqAt.EqAt.bool_none a
   | bl b => cases rx; exact SeqAt.EqAt.bool_bool a b
   | int b => obtain ⟨t, rfl⟩ := rx; exact SeqAt.EqAt.bool_int a b t
   | str b => obtain ⟨t, rfl⟩ := rx; exact SeqAt.EqAt.bool_str a b t
   | _ => exact absurd (show false = true from fx) Bool.false_ne_true
 | int a =>
   obtain ⟨t', rfl⟩ := ry;cases x with
   | non => cases rx; exact SeqAt.EqAt.int_none a t'
   | bl b => cases rx; exact SeqAt.EqAt.int_bool a t' b
   | int b => obtain ⟨t, rfl⟩ := rx; exact SeqAt.EqAt.int_int a t' b t
   | str b => obtain ⟨t, rfl⟩ := rx; exact SeqAt.EqAt.int_str a t' b t
   | _ => exact absurd (show false = true from fx) Bool.false_ne_true
 | str a =>
   obtain ⟨t', rfl⟩ := ry;cases x with
   | non => cases rx; exact SeqAt.EqAt.str_none a t'
   | bl b => cases rx; exact SeqAt.EqAt.str_bool a t' b
   | int b => obtain ⟨t, rfl⟩ := rx; exact SeqAt.EqAt.str_int a t' b t
   | str b => obtain ⟨t, rfl⟩ := rx; exact SeqAt.EqAt.str_str a t' b t
   | _ => exact absurd (show false = true from fx) Bool.false_ne_true
 | _ => exact absurd (show false = true from fy) Bool.false_ne_true
def eqU (x : V) (u : Value) : Bool := match u with
 | .none => eqV .non x
 | .bool b => eqV (.bl b) x
 | .int i _ => eqV (.int i) x
 | .str z _ => eqV (.str z) x
 | _ => false
theorem zpq {x y : V} {u : Value} (r : RelV y u) (f : zgo y = true) : eqU x u = eqV y x := by
 cases y with
 | non => cases r; rfl
 | bl b => cases r; rfl
 | int i => obtain ⟨t, rfl⟩ := r; rfl
 | str z => obtain ⟨t, rfl⟩ := r; rfl
 | _ => exact absurd (show false = true from f) Bool.false_ne_true
theorem zlx {x : V} : ∀ {xs : List V} {us : List Value}, Vals xs us -> xs.all zgo = true -> us.any (eqU x) = xs.any fun y => eqV y x
 | _, _, .nil, _ => rfl
 | y :: xs, u :: us, .cons r t, f => by
   rw [List.all_cons, Bool.and_eq_true] at f;rw [List.any_cons, List.any_cons, zpq r f.1, zlx t f.2]
theorem zjn {A : Around} {s : Shared} {x : V} {v : Value} (rx : RelV x v) (fx : zgo x = true) : ∀ {xs : List V} {us : List Value}, Vals xs us -> xs.all zgo = true -> ∀ u ∈ us, SeqAt.EqAt A s u v (eqU x u)
 | _, _, .nil, _ => fun u hu => by cases hu
 | y :: xs, u :: us, .cons r t, f => fun u' hu => by
   rw [List.all_cons, Bool.and_eq_true] at f;rcases List.mem_cons.mp hu with rfl | hu
   ·rw [zpq r f.1]; exact zz3 r rx f.1 fx
   ·exact zjn rx fx t f.2 u' hu
def inV (x : V) (xs : List V) : Bool := xs.any fun y => eqV y x
def rIn (K : PySem.W.Frag) (neg : Bool) : R2 := fun x y H Q => ∃ p xs, y = .ref p /\ (SqL K H p xs \/ SqT K H p xs) /\ zgo x = true /\ xs.all zgo = true /\ Q (.bl (if neg then !inV x xs else inV x xs)) H
theorem zvk : OpR X (compareOp .In) (rIn X.K false) := by
 intro pins s σ H x y v u Q I rx ry h;obtain ⟨p, xs, rfl, hq, fx, fs, q⟩ := h;cases ry;rcases hq with hq | hq
 ·obtain ⟨its, r, pl, hz⟩ := I.list hq
  refine SeqAt.in_listAt (eqU x) pl.isList (fun w hw => zjn rx fx r fs w (by simpa using hw)) ⟨.bl _, H, I, rfl, ?_⟩;rw [show its.toArray.any (eqU x) = its.any (eqU x) by simp, zlx r fs];exact q
 ·obtain ⟨its, r, pl, hz⟩ := I.tuple hq
  refine SeqAt.in_tupleAt (eqU x) pl (fun w hw => zjn rx fx r fs w (by simpa using hw)) ⟨.bl _, H, I, rfl, ?_⟩;rw [show its.toArray.any (eqU x) = its.any (eqU x) by simp, zlx r fs];exact q
theorem zpr : OpR X (compareOp .NotIn) (rIn X.K true) := by
 intro pins s σ H x y v u Q I rx ry h;obtain ⟨p, xs, rfl, hq, fx, fs, q⟩ := h;cases ry;rcases hq with hq | hq
 ·obtain ⟨its, r, pl, hz⟩ := I.list hq
  refine SeqAt.notIn_listAt (eqU x) pl.isList (fun w hw => zjn rx fx r fs w (by simpa using hw)) ⟨.bl _, H, I, rfl, ?_⟩;rw [show its.toArray.any (eqU x) = its.any (eqU x) by simp, zlx r fs];exact q
 ·obtain ⟨its, r, pl, hz⟩ := I.tuple hq
  refine SeqAt.notIn_tupleAt (eqU x) pl (fun w hw => zjn rx fx r fs w (by simpa using hw)) ⟨.bl _, H, I, rfl, ?_⟩;rw [show its.toArray.any (eqU x) = its.any (eqU x) by simp, zlx r fs];exact q
theorem zjl.or {f : Value} {r r' : List V -> Hp -> VK -> Prop} (h : zjl X f r) (h' : zjl X f r') : zjl X f (fun xs H Q => r xs H Q \/ r' xs H Q) := by
 intro pins s σ H xs us Q I rs q;rcases q with q | q
 ·exact h pins s σ H xs us Q I rs q
 ·exact h' pins s σ H xs us Q I rs q
theorem zh4 : zjl X (.type "list") (fun xs H Q => ∃ p ys, xs = [.ref p] /\ (SqL X.K H p ys \/ SqT X.K H p ys) /\ ∀ l, H l = none -> Q (.ref l) (upd H l (.lst ys))) := by
 intro pins s σ H xs us Q I r h;obtain ⟨p, ys, rfl, hq, q⟩ := h;obtain ⟨u, rfl, rx⟩ := zt5 r;cases rx;have fin : ∀ (its : List Value), Vals ys its -> ys.length <= sizeLine -> ∀ (h' : Heap) (c' : Nat), (∀ b o', s.heap.get? b = some o' -> h'.get? b = some o') ->
  h'.get? s.heap.objs.size = some { cls := .type "list", dict := none, data := .seq its.toArray c', slots := #[] } -> EP X pins σ Q (.ref s.heap.objs.size) { s with heap := h' } := fun its r' hz h' c' kp e =>
  ⟨.ref s.heap.objs.size, _, I.laid (t' := s.toks) kp (Nat.le_refl _) (show zfb X.prog X.w _ h' _ (.lst ys) from ⟨hz, its, c', r', e⟩), rfl, q _ (I.hok.fresh (Nat.le_refl _))⟩
 rcases hq with hq | hq
 ·obtain ⟨its, r', pl, hz⟩ := I.list hq
  have hlen := r'.length;obtain ⟨o, ho, hc, n, hd⟩ := pl.isList;exact call_list_seq p (.inl rfl) ho hc hd (fun h' c' kp e => fin its r' hz h' c' kp e) (by simp only [List.size_toArray] <;> omega)
 ·obtain ⟨its, r', pl, hz⟩ := I.tuple hq
  have hlen := r'.length;obtain ⟨o, ho, hc, n, hd⟩ := pl;exact call_list_seq p (.inr rfl) ho hc hd (fun h' c' kp e => fin its r' hz h' c' kp e) (by simp only [List.size_toArray] <;> omega)
def tyV (K : PySem.W.Frag) (T : String) (x : V) (H : Hp) : Prop := match x with
 | .str _ => T = "str"
 | .int _ => T = "int"
 | .ref p => (T = "list" /\ ∃ xs, SqL K H p xs) \/ (T = "tuple" /\ ∃ o, K.lookup p = some o /\ o.cls = .type "tuple" /\ o.dict = none) \/
  (T = "dict" /\ ((∃ kvs, H p = some (.dK kvs)) \/ ∃ kvs, H p = some (.dT kvs))) \/ (T = "set" /\ ∃ S n, H p = some (.set S n))
 | _ => False
theorem zz4 {pins : List (Addr × Obj)} {σ : St} {H : Hp} {s : Shared} {T : String} {x : V} {v : Value} (I : Inv X pins σ H s) (r : RelV x v) (ty : tyV X.K T x H) :
 s.TypeIs v T /\ ∀ a, v = .ref a -> ∃ ob, s.heap.get? a = some ob /\ ob.dict = none := by
 cases x with
 | str z =>
   obtain ⟨t, rfl⟩ := r;cases (show T = "str" from ty);exact ⟨typeIs_str s z t, fun _ e => nomatch e⟩
 | int i =>
   obtain ⟨t, rfl⟩ := r;cases (show T = "int" from ty);exact ⟨typeIs_int s i t, fun _ e => nomatch e⟩
 | ref p =>
   cases r;rcases ty with ⟨rfl, xs, hq⟩ | ⟨rfl, o, hk, hc, hd⟩ | ⟨rfl, hk⟩ | ⟨rfl, S, n, hk⟩
   ·obtain ⟨its, _, pl, _⟩ := I.list hq
    refine ⟨pl.isList.typeIs, fun a e => ?_⟩;cases e;obtain ⟨o, n, e, c, hd, _⟩ := pl;exact ⟨o, e, hd⟩
   ·refine ⟨⟨o, I.kIn p o hk, hc⟩, fun a e => ?_⟩
    cases e;exact ⟨o, I.kIn _ o hk, hd⟩
   ·have z : ∃ o, s.heap.get? p = some o /\ o.ExactDict := by
     rcases hk with ⟨kvs, hk⟩ | ⟨kvs, hk⟩
     ·obtain ⟨_, _, _, _, o, _, _, e, ex, _⟩ := I.hok p _ hk
      exact ⟨o, e, ex⟩
     ·obtain ⟨_, _, _, _, o, _, _, e, ex, _⟩ := I.hok p _ hk
      exact ⟨o, e, ex⟩
    obtain ⟨o, e, ex⟩ := z;refine ⟨⟨o, e, ex.1⟩, fun a e2 => ?_⟩;cases e2;exact ⟨o, e, ex.2.1⟩
   ·obtain ⟨o, _, _, _, e, ex, _⟩ := I.hok p _ hk
    refine ⟨⟨o, e, ex.1⟩, fun a e2 => ?_⟩;cases e2;exact ⟨o, e, ex.2.1⟩
 | _ => exact False.elim ty
def tBM0 (K : PySem.W.Frag) (T : String) (r : V -> List V -> Hp -> VK -> Prop) (to : TE) : TE := fun σ H Q => to σ H fun x H1 => tyV K T x H1 /\ r x [] H1 Q
def tBM (K : PySem.W.Frag) (T : String) (r : V -> List V -> Hp -> VK -> Prop) (to : TE) (t : TA) : TE := fun σ H Q => to σ H fun x H1 => tyV K T x H1 /\ t σ H1 fun xs H2 => r x xs H2 Q
variable {o e : Expr} {es : List Expr} {to : TE} {t : TA} {name : Str} {apos cpos : Pos} {T id : String} {r : V -> List V -> Hp -> VK -> Prop}
theorem z4z (pa : PlainAttrs T) (slot : Slot T name id) (hty : typeOf (.builtin id) = pure (.type "method_descriptor")) (hm : MtR X id r) (ho : PE X o to)
 (hbase : attributeBase o name X.env (eval o X.env) = eval o X.env := by rfl) (hline : (apos.endLine == cpos.line) = true := by rfl) : PE X (.Call (.Attribute o name apos) [] [] cpos) (tBM0 X.K T r to) := by
 intro pins s σ H Q I h;refine wpAny_Call_method0_late hbase hline (thn (ho pins s σ H _ I h) fun v s1 hq_ => ?_);obtain ⟨x, H1, I1, r1, ty, q1⟩ := hq_;obtain ⟨h1, h2⟩ := zz4 I1 r1 ty;exact ⟨T, id, pa, slot, hty, h1, h2, Calls.callWith_builtin rfl (PySem.evalArgs_none (hm pins s1 σ H1 x [] v [] Q I1 r1 .nil q1))⟩
theorem z7j (pa : PlainAttrs T) (slot : Slot T name id) (hty : typeOf (.builtin id) = pure (.type "method_descriptor")) (hm : MtR X id r) (ho : PE X o to) (ha : PA X (e :: es) t)
 (hbase : attributeBase o name X.env (eval o X.env) = eval o X.env := by rfl)
 (hfew : ((backTo cpos (starEach (e :: es) X.env)).all (fun x => !x.1) && (backToKw cpos (keywordEach [] X.env)).all (fun x => x.1.isSome)
  && decide ((e :: es).length + ([] : List Keyword).length + (if ([] : List Keyword).isEmpty then 0 else 1) < 30)) = true := by rfl)
 (hline : (apos.endLine == cpos.line) = true := by rfl) (hs : starEach (e :: es) X.env = (false, eval e X.env) :: starEach es X.env := by rfl) (hplain : (backTo cpos (starEach es X.env)).any (·.1) = false := by rfl) :
 PE X (.Call (.Attribute o name apos) (e :: es) [] cpos) (tBM X.K T r to t) := by
 intro pins s σ H Q I h;refine wpAny_Call_method_late hbase hfew hline rfl (thn (ho pins s σ H _ I h) fun v s1 hq_ => ?_);obtain ⟨x, H1, I1, r1, ty, q1⟩ := hq_;obtain ⟨h1, h2⟩ := zz4 I1 r1 ty;refine ⟨T, id, pa, slot, hty, h1, h2, ?_⟩;have hA := ha cpos pins s1 σ H1 _ I1 q1;rw [hs] at hA ⊢;refine Calls.callWith_builtin (by show (false || (backTo cpos (starEach es X.env)).any (·.1)) = false; rw [hplain] <;> rfl) (Calls.evalArgs_plain ?_);exact thn hA fun us s2 ⟨vs, H2, I2, r2, q2⟩ => hm pins s2 σ H2 x vs v us Q I2 r1 r2 q2
end
end L2
namespace L2
open PySem PySem.Spec PyProof.Rows
def MtM (X : Cx) (id : String) (r : V -> List V -> Hp -> VK -> Prop) : Prop :=
 ∀ (pins : List (Addr × Obj)) (s : Shared) (σ : St) (H : Hp) (x : V) (xs : List V) (v : Value) (us : List Value) (Q : VK), Inv X pins σ H s -> RelV x v -> Vals xs us -> r x xs H Q ->
   wpAny (model X.prog X.w) X.A (call (.builtin id) (v :: us)) (EP X pins σ Q) X.xe s
theorem Vals.one {x : V} {us : List Value} (h : Vals [x] us) : ∃ u, us = [u] /\ RelV x u := by
 cases h with
 | cons r t => cases t; exact ⟨_, rfl, r⟩
theorem Vals.zero : ∀ {us : List Value}, Vals [] us -> us = []
 | _, .nil => rfl
theorem Vals.dropLast {xs : List V} {us : List Value} (h : Vals xs us) : Vals xs.dropLast us.dropLast := by
 induction h with
 | nil => exact .nil
 | cons r t ih =>
   cases t with
   | nil => exact .nil
   | cons q t' => exact .cons r ih
theorem Vals.eraseIdx : ∀ {xs : List V} {us : List Value} (i : Nat), Vals xs us -> Vals (xs.eraseIdx i) (us.eraseIdx i)
 | _, _, _, .nil => .nil
 | _, _, 0, .cons _ t => t
 | _, _, i + 1, .cons r t => .cons r (Vals.eraseIdx i t)
theorem zuc {α : Type} (l : List α) : l.eraseIdx (l.length - 1) = l.dropLast := by
 induction l with
 | nil => rfl
 | cons a r ih =>
   cases r with
   | nil => rfl
   | cons b r =>
     have e : (a :: b :: r).length - 1 = ((b :: r).length - 1) + 1 := by
      have h1 : (a :: b :: r).length = r.length + 2 := rfl;have h2 : (b :: r).length = r.length + 1 := rfl;omega
     rw [e, List.eraseIdx_cons_succ, ih]
     all_goals rfl
theorem zly {α : Type} : ∀ (l : List α) (i : Nat), (l.eraseIdx i).length <= l.length
 | [], _ => Nat.le_refl _
 | _ :: _, 0 => Nat.le_succ _
 | _ :: r, i + 1 => Nat.succ_le_succ (zly r i)
section
variable {X : Cx} {pins : List (Addr × Obj)} {σ : St} {H : Hp} {s : Shared} {l b : Addr} {xs ys zs : List V}
theorem Inv.lset {its its' : List Value} {n : Nat} {f : Array Value -> Array Value} {t' : Nat} (I : Inv X pins σ H s) (hH : H l = some (.lst xs))
 (e : s.heap.get? l = some { cls := .type "list", data := .seq its.toArray n }) (hf : f its.toArray = its'.toArray) (hv : Vals ys its') (hz : ys.length <= sizeLine) :
 Inv X pins σ (upd H l (.lst ys)) { s with heap := s.heap.update l (Obj.mapSeq f), toks := t' } := by
 have q := PySem.IsL.update e f;rw [hf] at q;refine I.write (x := l) (e := l) (by rw [hH]; exact trivial) (.inl rfl) (fun b' u hb hu => (Heap.get?_update_other s.heap (Obj.mapSeq f) (Ne.symm hb)).trans hu) ⟨_, q⟩ ?_;exact ⟨hz, its', _, hv, q⟩
theorem Inv.lnew {its : List Value} {t' : Nat} (I : Inv X pins σ H s) (hv : Vals ys its) (hz : ys.length <= sizeLine) :
 Inv X pins σ (upd H s.heap.objs.size (.lst ys)) { s with heap := s.heap.push { cls := .type "list", data := .seq its.toArray }, toks := t' } :=
 I.laid (fun _ _ q => Heap.get?_push_of_some _ q) (Nat.le_refl _) ⟨hz, its, 0, hv, Heap.get?_push_size _ rfl⟩
theorem Inv.fresh (I : Inv X pins σ H s) : H s.heap.objs.size = none := I.hok.fresh (Nat.le_refl _)
theorem Inv.lstM (I : Inv X pins σ H s) (hH : H l = some (.lst xs)) : xs.length <= sizeLine /\ ∃ (its : List Value) (n : Nat), Vals xs its /\ xs.length = its.length /\ s.heap.get? l = some { cls := .type "list", data := .seq its.toArray n } := by
 obtain ⟨z, its, n, r, e⟩ := I.hok l _ hH;exact ⟨z, its, n, r, r.length, e⟩
theorem zyh {n : Nat} (h : n <= sizeLine) : Builtin.List.listTooLong n = false := by
 unfold Builtin.List.listTooLong;exact decide_eq_false (by omega)
end
section
variable {X : Cx}
def zvl : V -> List V -> Hp -> VK -> Prop := fun x vs H Q => ∃ l xs y, x = .ref l /\ vs = [y] /\ H l = some (.lst xs) /\ xs.length < sizeLine /\ Q .non (upd H l (.lst (xs ++ [y])))
theorem zlz : MtM X "list.append" zvl := by
 intro pins s σ H x vs v us Q I rx rv h;obtain ⟨l, xs, y, rfl, rfl, hH, hz, q⟩ := h;cases rx;obtain ⟨u, rfl, ru⟩ := rv.one;obtain ⟨z, its, n, r, hl, e⟩ := I.lstM hH;refine call_meets F.slot_list_append ⟨_, e, rfl⟩ F.entry_list_append (F.args_list_append_2 _ _) (PySem.list_append l its.toArray n u (by rw [List.size_toArray]; omega)) ⟨e, ?_⟩;refine ⟨.non, _, I.lset (its' := its ++ [u]) hH e (by simp) (r.append (.cons ru .nil)) ?_, rfl, q⟩;rw [List.length_append, List.length_singleton];omega
def rPop : V -> List V -> Hp -> VK -> Prop := fun x vs H Q => ∃ l xs y, x = .ref l /\ vs = [] /\ H l = some (.lst xs) /\ xs[xs.length - 1]? = some y /\ Q y (upd H l (.lst xs.dropLast))
theorem z40 : MtM X "list.pop" rPop := by
 intro pins s σ H x vs v us Q I rx rv h;obtain ⟨l, xs, y, rfl, rfl, hH, hy, q⟩ := h;cases rx;have hus := rv.zero;subst hus;obtain ⟨z, its, n, r, hl, e⟩ := I.lstM hH;obtain ⟨u, hu, ru⟩ := r.get hy;have hy' : its.toArray[its.toArray.size - 1]? = some u := by
  show its.toArray[its.length - 1]? = some u;rw [<- Array.getElem?_toList, <- hl];exact hu
 refine call_meets F.slot_list_pop ⟨_, e, rfl⟩ F.entry_list_pop (F.args_list_pop_1 _) (MeetsSeq.list_pop_last l its.toArray n u hy' (by rw [List.size_toArray]; omega)) ⟨e, ?_⟩;refine ⟨y, _, I.lset (its' := its.dropLast) hH e ?_ r.dropLast ?_, ru, q⟩
 ·show its.toArray.eraseIdxIfInBounds (its.toArray.size - 1) = its.dropLast.toArray
  rw [List.size_toArray, List.eraseIdxIfInBounds_toArray, zuc]
 ·rw [List.length_dropLast]
  omega
def zz5 : V -> List V -> Hp -> VK -> Prop := fun x vs H Q => ∃ l xs i k y, x = .ref l /\ vs = [.int i] /\ H l = some (.lst xs) /\ -(2 ^ 63) <= i /\ i < 2 ^ 63 /\ seqIndex? i xs.length = some k /\ xs[k]? = some y /\ Q y (upd H l (.lst (xs.eraseIdx k)))
theorem zyi : MtM X "list.pop" zz5 := by
 intro pins s σ H x vs v us Q I rx rv h;obtain ⟨l, xs, i, k, y, rfl, rfl, hH, h1, h2, hk, hy, q⟩ := h;cases rx;obtain ⟨u, rfl, ru⟩ := rv.one;obtain ⟨t, rfl⟩ := ru;obtain ⟨z, its, n, r, hl, e⟩ := I.lstM hH;obtain ⟨w, hw, rw'⟩ := r.get hy;refine call_meets F.slot_list_pop ⟨_, e, rfl⟩ F.entry_list_pop (F.args_list_pop_2 _ _)
  (MeetsSeq.list_pop_at l its.toArray n i t k w (fitsIndex_both h1 h2) (by rw [List.size_toArray, <- hl]; exact hk) (by rw [<- Array.getElem?_toList]; exact hw) (by rw [List.size_toArray]; omega)) ⟨e, ?_⟩
 refine ⟨y, _, I.lset (its' := its.eraseIdx k) hH e ?_ (r.eraseIdx k) ?_, rw', q⟩
 ·show its.toArray.eraseIdxIfInBounds k = (its.eraseIdx k).toArray
  rw [List.eraseIdxIfInBounds_toArray]
 ·have := zly xs k
  omega
def zz6 : V -> List V -> Hp -> VK -> Prop := fun x vs H Q => ∃ l xs, x = .ref l /\ vs = [] /\ H l = some (.lst xs) /\ Q .non (upd H l (.lst []))
theorem zyj : MtM X "list.clear" zz6 := by
 intro pins s σ H x vs v us Q I rx rv h;obtain ⟨l, xs, rfl, rfl, hH, q⟩ := h;cases rx;have hus := rv.zero;subst hus;obtain ⟨z, its, n, r, hl, e⟩ := I.lstM hH;refine call_meets F.slot_list_clear ⟨_, e, rfl⟩ F.entry_list_clear (F.args_list_clear_1 _) (AutoSeq1.list_clear_list_0 l its.toArray n (by rw [List.size_toArray]; omega)) ⟨e, ?_⟩;exact ⟨.non, _, I.lset (its' := []) (ys := []) hH e rfl .nil (Nat.zero_le _), rfl, q⟩
end
end L2
namespace Att
open PySem PySem.W PySem.Calls PyProof.Rows
theorem zl0 {P : Params} {h : Heap} : ∀ (ns : List Int) (vs : List Value), WellAll P h vs (ns.map WData.int) -> IntsAre vs ns := by
 intro ns
 induction ns with
 | nil =>
   intro vs w;rw [List.map_nil] at w;cases w;exact .nil
 | cons n ns ih =>
   intro vs w;rw [List.map_cons] at w;cases w with
   | cons a b =>
     cases a;exact .cons _ _ (ih _ b)
theorem zvm {l : OpenLaw} {n : Nat} (hn : l.most = some n) {P : Params} {h : Heap} {args : List WData} {vals : List Value}
 (hpre : l.row.toRowW.claim.pre args = true) (hwl : WellAll P h vals args) :
 ∃ a vs ns, vals = [Value.ref a] /\ args = [WData.list (ns.map WData.int)] /\ h.get? a = some { cls := .type "list", data := .seq vs.toArray } /\ IntsAre vs ns /\ ns.length <= n := by
 have hsh : WShape.hasAll [] args [.list .int] = true := (pre_splitW hpre).1;have hc : l.pre.holds [] { args := args } = true := (pre_splitW hpre).2;obtain ⟨d, r, rfl, h1, h2⟩ := hasAllW_cons hsh;obtain rfl := hasAllW_nil h2;obtain ⟨xs, rfl, h3⟩ := hasW_list h1;obtain ⟨ns, rfl⟩ := items_int h3;have hlen : ns.length <= n := by
  unfold OpenLaw.pre at hc;have h4 : (WTm.not (.lt (.lit (.int (n : Int))) (.len (.arg 0)))).holds [] { args := [.list (ns.map .int)] } = true := by
   have h4 := (holds_andW hc).1;rw [hn] at h4;exact h4
  have h5 := condW_of h4 (w_not (w_lt w_lit (w_len_list (w_arg rfl))));rw [List.length_map] at h5;refine Nat.le_of_not_lt fun q => ?_;have q' : (n : Int) < ((ns.length : Nat) : Int) := by omega
  first
   | (rw [decide_eq_true q'] at h5; exact absurd h5 (by decide))
   | (simp at h5; omega)
 cases hwl with
 | cons w1 w2 =>
   cases w2;cases w1 with
   | list ho hall => exact ⟨_, _, ns, rfl, rfl, ho, zl0 ns _ hall, hlen⟩
theorem zvn (l : OpenLaw) (args : List WData) : l.row.toRowW.claim.post args (.bool true) args = true :=
 postW_of (r := l.row.toRowW) (X := (true == true))
  (show WShape.has [] (.bool true) .bool = true by first | rfl | decide | simp [WShape.has, WShape.arms, WShape.armsAll])
  (show (WTm.eq .res (.lit (.bool true))).value [] { args := args, res := some (.bool true), after := args } = some (.bool (true == true)) from w_eq_bool (w_res rfl) w_lit) rfl
theorem attach_call {l : OpenLaw} {n : Nat} {q : Program} {loose : List Str} {XP : (Str -> Option Value) -> Heap -> Prop} {YP : World -> Heap -> Prop} {d : DefRec}
 (hn : l.most = some n) (hdf : d.params.defaults = [])
 (call : ∀ (w : World) (s₀ s₁ : Shared) (mg mb : Str -> Option Value) (fa : Addr) (o : Obj) (pm cd doc : Value) (a : Addr) (vs : List Value) (ns : List Int),
  Ground q loose [] XP w s₀ mg mb s₁.heap -> YP w s₁.heap ->
  s₁.heap.get? fa = some o -> o.data = .func (docDef d.name d.params d.body d.scope pm cd doc) -> s₁.heap.CodeRec cd d.name -> mg d.name = some (.ref fa) ->
  s₁.heap.get? a = some { cls := .type "list", data := .seq vs.toArray } -> IntsAre vs ns -> ns.length <= n -> s₁.gens = #[] ->
  codeAny (model l.prog w) callerA (.call (.ref fa) ⟨[.ref a], []⟩) (fun r s' => r = .ok (.ret (.bool true)) /\ OldK s₁.heap s'.heap /\ s'.os = s₁.os /\ AllBare s'.gens) s₁) :
 WalkO q loose XP YP l.row.toRowW d [] (fun f vs => PySem.call f vs) := by
 intro w s₀ s₁ mg mb G Y fa o pm cd doc dV kV ho hd hcd hD hmg hg args vals as hpre hlay hrd hwl hlo;obtain rfl : dV = .none := Dflts.none hD hdf;obtain rfl : kV = .none := Dflts.noKw hD;obtain ⟨a, vs, ns, rfl, rfl, hobj, hints, hlen⟩ := zvm hn hpre hwl;refine enter_call (codeAny_mono (call w s₀ s₁ mg mb fa o pm cd doc a vs ns G Y ho (fd_plain hd) hcd hmg hobj hints hlen hg) fun r s' hq => ?_);obtain ⟨rfl, h2, h3, h4⟩ := hq;exact ⟨.inl ⟨.bool true, .bool true, [], rfl, fun _ => rfl, .bool true, zvn l _, fun _ => ⟨List.Pairwise.nil, fun _ hm => (nomatch hm)⟩⟩, h2, h3, h4⟩
end Att
namespace L2
open PySem PySem.Spec PyProof.Rows
theorem zps : ∀ {vs : List Value} {ns : List Int}, IntsAre vs ns -> Vals (ns.map V.int) vs
 | _, _, .nil => .nil
 | _, _, .cons n t h => .cons ⟨t, rfl⟩ (zps h)
def Only (H : Hp) : Prop := ∀ b, H b = none \/ ∃ o xs, H b = some (.frz o (.lst xs))
theorem zyk {P : Program} {w : World} {K : PySem.W.Frag} {mg mb : Str -> Option Value} {CX : CXT} {k : Nat} {fa a : Addr} {fd : FuncData} {x : Str} {sp : Sp} {s₁ : Shared} {vs : List Value} {ns : List Int}
 (KX : K.In s₁.heap) (hns : s₁.heap.Ns mainGlobals mg) (hb : s₁.heap.Ns builtinsNs mb) (hbb : ∀ x : Str, x ≠ "__name__" -> mb x = bootBuiltins x) (hlim : s₁.heap.NoLimit) (hg : s₁.gens = #[])
 (ha : s₁.heap.get? a = some { cls := .type "list", data := .seq vs.toArray }) (hi : IntsAre vs ns) (hl : ns.length <= sizeLine) (hr : Room k callerA)
 (F : ∀ base : Heap, K.In base -> base.Ns mainGlobals mg -> FnOk P w K mg base CX k fa fd [x] sp) (hbind : ∀ (s : Shared) (u : Value), BindsTo s fd ⟨[u], []⟩ [(x, u)])
 (hsp : ∀ H : Hp, Only H -> SqL K H a (ns.map V.int) -> sp [.ref a] H (fun v _ => v = .bl true) fun _ _ _ => False)
 (hCX : ∀ H e s', CX [] H s₁ (fun _ _ _ => False) e s' -> False) :
 codeAny (model P w) callerA (.call (.ref fa) ⟨[.ref a], []⟩) (fun r s' => r = .ok (.ret (.bool true)) /\ OldK s₁.heap s'.heap /\ s'.os = s₁.os /\ AllBare s'.gens) s₁ := by
 have rv := zps hi;have lenV := hi.length;have core : ∀ H : Hp, Only H -> SqL K H a (ns.map V.int) -> HOk P w H s₁.heap -> (∀ b, H b ≠ none -> b = a) -> (H a ≠ none -> K.lookup a = none) ->
  codeAny (model P w) callerA (.call (.ref fa) ⟨[.ref a], []⟩) (fun r s' => r = .ok (.ret (.bool true)) /\ OldK s₁.heap s'.heap /\ s'.os = s₁.os /\ AllBare s'.gens) s₁ := by
  intro H hO hS hok hA hK;have base_of : ∀ {b : Addr} {o : Obj}, s₁.heap.get? b = some o -> H b = none -> (hidT s₁.heap H).get? b = some o := fun e n => zx4 e n;have noA : ∀ {b : Addr} {o : Obj} {es : Array DictEntry} {ep : Nat}, s₁.heap.get? b = some o -> o.data = .dict es ep -> H b = none := fun {b o es ep} e d => by
   cases q : H b with
   | none => rfl
   | some u =>
     have e' : b = a := hA b (by rw [q]; simp);subst e';rw [ha] at e; cases e;have d' : Data.seq vs.toArray _ = Data.dict es ep := d;cases d'
  have nsK : ∀ {b : Addr} {m : Str -> Option Value}, s₁.heap.Ns b m -> (hidT s₁.heap H).Ns b m := fun {b m} ⟨o, es, ep, e, d, r⟩ => ⟨o, es, ep, base_of e (noA e d), d, r⟩;have hKb : K.In (hidT s₁.heap H) := fun b o e => base_of (KX b o e) (by
   cases q : H b with
   | none => rfl
   | some u =>
     have e' : b = a := hA b (by rw [q]; simp);subst e';rw [hK (by rw [q]; simp)] at e; cases e)
  have hM : Mod K mg (hidT s₁.heap H) := ⟨hKb, nsK hns, ⟨mb, nsK hb, hbb⟩, let ⟨mc, h1, h2⟩ := hlim; ⟨mc, nsK h1, h2⟩⟩;have e0 : Env0 P w K mg (hidT s₁.heap H) callerA [] s₁ H := ⟨rfl, hM, fun b o e => z03 e, Nat.le_of_eq (zu3 _ _), trivial, fun b hb => absurd (show b ∈ ([] : List Addr) from hb) (by simp), hok, .of_eq hg⟩;refine codeAny_mono ((F _ hKb (nsK hns)).run callerA [] s₁ H ⟨[.ref a], []⟩ [.ref a] [.ref a] _ _ hr e0 (hbind s₁ (.ref a)) (.cons rfl .nil) (hsp H hO hS)) fun r s' h => ?_;cases r with
  | error e => exact (hCX H e s' h).elim
  | ok fl =>
    cases fl with
    | next => exact False.elim h
    | brk => exact False.elim h
    | cont => exact False.elim h
    | ret u =>
      obtain ⟨v, H', os, bare, un, hok', r', q⟩ := h;have q' : v = .bl true := q;subst q';obtain rfl : u = Value.bool true := r';refine ⟨rfl, OldK.of_keep fun b o e => ?_, os, bare⟩;cases q : H b with
      | none => exact un.keep b o e q (by intro z; exact absurd (show b ∈ ([] : List Addr) from z) (by simp)) (by simp)
      | some u =>
        rcases hO b with z | ⟨ob, xs, z⟩
        ·rw [q] at z; cases z
        ·have z2 := un.frzs b ob _ z
         obtain ⟨e1, _⟩ := hok b _ z;obtain ⟨e2, _⟩ := hok' b _ z2;rw [e] at e1; cases e1;exact e2
 cases hk : K.lookup a with
 | some o =>
   have e := KX a o hk;rw [ha] at e;cases e;refine core (fun _ => none) (fun _ => .inl rfl) (.inr ⟨_, vs.toArray, _, hk, rfl, rfl, rfl, by rw [List.size_toArray, lenV]; exact hl, by simpa using rv⟩) (fun b u z => by have z' : (none : Option HO) = some u := z; cases z') (fun b z => absurd rfl z) fun z => absurd rfl z
 | none =>
   refine core (fun b => if b = a then some (.frz { cls := .type "list", data := .seq vs.toArray } (.lst (ns.map V.int))) else none) (fun b => ?_) (.inl (.inr ⟨{ cls := .type "list", data := .seq vs.toArray }, if_pos rfl⟩)) (fun b u z => ?_) (fun b z => ?_) fun _ => hk
   ·by_cases hb : b = a
    ·exact .inr ⟨_, _, if_pos hb⟩
    ·exact .inl (if_neg hb)
   ·by_cases hb : b = a
    ·have z' := (if_pos hb).symm.trans z
     cases z';subst hb;exact ⟨ha, by rw [List.length_map]; exact hl, vs, _, rv, ha⟩
    ·have z' := (if_neg hb).symm.trans z
     cases z'
   ·by_cases hb : b = a
    ·exact hb
    ·exact absurd (if_neg hb) z
end L2
namespace L2
open PySem PySem.Spec PyProof.Rows
theorem walk_of {l : PySem.W.OpenLaw} {n k : Nat} {q : Program} {loose : List Str} {XP : (Str -> Option Value) -> Heap -> Prop} {YP : World -> Heap -> Prop} {d : DefRec} {K : Params -> PySem.W.Frag} {CX : World -> CXT} {sp : World -> Sp} {x : Str}
 (hn : l.most = some n) (hn2 : n <= sizeLine) (hdf : d.params.defaults = []) (hr : Room k callerA)
 (hY : ∀ (w : World) (h : Heap), YP w h -> (K w.params).In h)
 (F : ∀ (w : World) (mg : Str -> Option Value) (fa : Addr) (h : Heap), (K w.params).In h -> h.Ns mainGlobals mg -> mg d.name = some (.ref fa) ->
  ∃ fd : FuncData, (∀ (s : Shared) (u : Value), BindsTo s fd ⟨[u], []⟩ [(x, u)]) /\
    ∀ base : Heap, (K w.params).In base -> base.Ns mainGlobals mg -> FnOk l.prog w (K w.params) mg base (CX w) k fa fd [x] (sp w))
 (hsp : ∀ (w : World) (H : Hp) (a : Addr) (ns : List Int), ns.length <= n -> Only H -> SqL (K w.params) H a (ns.map V.int) -> sp w [.ref a] H (fun v _ => v = .bl true) fun _ _ _ => False)
 (hCX : ∀ (w : World) (H : Hp) (s : Shared) (e : Value) (s' : Shared), CX w [] H s (fun _ _ _ => False) e s' -> False) :
 PySem.W.WalkO q loose XP YP l.row.toRowW d [] (fun f vs => PySem.call f vs) := by
 refine Att.attach_call hn hdf fun w s₀ s₁ mg mb fa o pm cd doc a vs ns G Y ho hd hcd hmg hobj hints hlen hg => ?_;have KX := hY w _ Y;obtain ⟨fd, hb, hF⟩ := F w mg fa _ KX G.T.g hmg;exact zyk KX G.T.g G.T.b G.T.builtins G.T.nolimit hg hobj hints (Nat.le_trans hlen hn2) hr hF hb (fun H hO hS => hsp w H a ns hlen hO hS) fun H e s' => hCX w H s₁ e s'
end L2
namespace L2
open PySem PySem.Spec PyProof.Rows
def zb7 (s : Stmt) (j : Nat) : Stmt := match s with
 | .ClassDef _ _ _ body _ _ _ _ _ _ _ => body.getD j (.Pass ⟨0, 0, 0, 0⟩)
 | _ => .Pass ⟨0, 0, 0, 0⟩
def zan (s : Stmt) : Arguments := match s with
 | .FunctionDef _ a _ _ _ _ _ _ _ _ => a
 | _ => { posonlyargs := [], args := [], vararg := none, kwonlyargs := [], kw_defaults := [], kwarg := none, defaults := [] }
def zal (s : Stmt) : List Stmt := match s with
 | .FunctionDef _ _ b _ _ _ _ _ _ _ => b
 | _ => []
def zab (s : Stmt) : Scope := match s with
 | .FunctionDef _ _ _ _ _ _ sc _ _ _ => sc
 | _ => { kind := .function, names := [], isGenerator := false, isCoroutine := false }
abbrev CX0 : CXT := fun _ _ _ _ _ _ => False
abbrev E0 : XK := fun _ _ _ => False
structure Fun (K : PySem.W.Frag) (x qual : Str) (st : Stmt) (f : Addr) (fd : FuncData) : Prop where
 ex : ∃ (oc : Value) (od : Option Addr) (kV doc pm : Value) (an : Option Addr) (cdv ct : Value) (osl : Array (Option Value)),
  fd = PySem.W.fnOf x qual (zan st) (zal st) (zab st) .none kV doc pm an cdv ct /\ K.lookup f = some ⟨oc, od, .func fd, osl⟩ /\ PySem.W.codeIn K cdv qual = true
 kp : PySem.W.keepIn K (.ref f) = true
section
variable {P : Program} {w : World} {K : PySem.W.Frag} {mg : Str -> Option Value} {base : Heap}
theorem Fun.binds {x qual : Str} {st : Stmt} {f : Addr} {fd : FuncData} {ps : List Str} (F : Fun K x qual st f fd)
 (h : ∀ (kV doc pm : Value) (an : Option Addr) (cdv ct : Value) (us : List Value), us.length = ps.length -> bindArgs (PySem.W.fnOf x qual (zan st) (zal st) (zab st) .none kV doc pm an cdv ct) ⟨us, []⟩ = pure (ps.zip us)) : zfa K fd ps [] := by
 obtain ⟨oc, od, kV, doc, pm, an, cdv, ct, osl, rfl, lk, hcd⟩ := F.ex;exact .all (h kV doc pm an cdv ct)
theorem zay {x qual : Str} {st : Stmt} {f : Addr} {oc : Value} {od an : Option Addr} {osl : Array (Option Value)} {kV doc pm cdv ct : Value} (l : K.lookup f = some ⟨oc, od, .func (PySem.W.fnOf x qual (zan st) (zal st) (zab st) .none kV doc pm an cdv ct), osl⟩)
 (c : PySem.W.codeIn K cdv qual = true) (k : PySem.W.keepIn K (.ref f) = true) : Fun K x qual st f (PySem.W.fnOf x qual (zan st) (zal st) (zab st) .none kV doc pm an cdv ct) := ⟨⟨oc, od, kV, doc, pm, an, cdv, ct, osl, rfl, l, c⟩, k⟩
end
theorem z7k {A : Around} {k : Nat} (hr : Room k A) : A.units + 1 < cLine := Nat.lt_of_le_of_lt (Nat.add_le_add_left (by decide : 1 <= 64) _) hr.units
theorem zpt {n : Nat} (h : n <= 1000) : n < sizeLine := Nat.lt_of_le_of_lt h (by decide)
section
variable {X : Cx}
theorem pv (i : Nat) {x : Str} {pos : Pos} (hN : X.N[i]? = some x := by rfl) (hv : Vis X.env.scope x := by first | exact Or.inl rfl | exact Or.inr (Or.inl rfl) | exact Or.inr (Or.inr rfl)) (hd : (x == ("__debug__" : Str)) = false := by decide)
 (hcd : (x == ("__classdict__" : Str)) = false := by decide) : PE X (.Name x pos) (tVar i) := zfh hN hv hd hcd
end
theorem iteF {A B : Prop} (h : B) : if false = true then A else B := by
 rw [if_neg Bool.false_ne_true];exact h
theorem iteT {A B : Prop} (h : A) : if true = true then A else B := by
 rw [if_pos rfl];exact h
end L2
namespace L2
open PySem PySem.Spec PyProof.Rows
section
variable {X : Cx}
theorem zvo : zjl X (.builtin "len") (fun xs H Q => ∃ a kvs, xs = [V.ref a] /\ H a = some (.dK kvs) /\ Q (.int kvs.length) H) := by
 intro pins s σ H xs us Q I r h;obtain ⟨a, kvs, rfl, ha, q⟩ := h;obtain ⟨u, rfl, ru⟩ := zt5 r;cases ru;exact z7d I (.inl ha) fun t s' I' => ⟨.int kvs.length, H, I', ⟨t, rfl⟩, q⟩
end
end L2
namespace L2
open PySem PySem.Spec PyProof.Rows
section
variable {α β : Type}
def Dk : Sem α -> Prop
 | .pure _ => True
 | .raise _ => True
 | .unsupported _ => True
 | .finish _ => True
 | .rule _ k => Dk (k ())
 | .at _ k => Dk (k ())
 | .load _ _ k => ∀ o, Dk (k o)
 | .update _ _ f k => (∀ o, (f o).dict = o.dict /\ (f o).isFreed = o.isFreed) /\ Dk (k ())
 | .loadIfAlive _ k => ∀ o, Dk (k o)
 | .point _ k => Dk (k ())
 | .register _ _ => True
 | .alloc _ k => ∀ a, Dk (k a)
 | .fresh k => ∀ t, Dk (k t)
 | .ask k => ∀ x, Dk (k x)
 | .choose _ _ k => ∀ x, Dk (k x)
 | .os _ _ k => ∀ x, Dk (k x)
 | .handled _ k => ∀ x, Dk (k x)
 | .newGen _ k => ∀ x, Dk (k x)
 | .stack k => ∀ x, Dk (k x)
 | .thread k => ∀ x, Dk (k x)
 | _ => False
def HasD (e : Addr) (d : Option Addr) (h : Heap) : Prop := ∃ o, h.get? e = some o /\ o.dict = d
theorem HasD.upd {e a : Addr} {d : Option Addr} {h : Heap} {f : Obj -> Obj} (x : HasD e d h) (hf : ∀ o, (f o).dict = o.dict /\ (f o).isFreed = o.isFreed) : HasD e d (h.update a f) := by
 obtain ⟨o, h1, h2⟩ := x;by_cases q : a = e
 ·subst q
  refine ⟨f o, Heap.get?_update_self f h1 ?_, by rw [(hf o).1]; exact h2⟩;rw [(hf o).2];exact (Heap.get?_some_iff.mp h1).2
 ·exact ⟨o, by rw [Heap.get?_update_other _ _ q]; exact h1, h2⟩
theorem z7l {M : Model} {Γ : PySem.Ctx} {e : Addr} {d : Option Addr} : ∀ {t : Sem α} {Q : α -> Pos -> Shared -> Prop} {E : Value -> Pos -> Shared -> Prop} {p : Pos} {s : Shared}, Dk t -> HasD e d s.heap -> Sem.wp M Γ t Q E p s ->
 Sem.wp M Γ t (fun a p s' => Q a p s' /\ HasD e d s'.heap) (fun x p s' => E x p s' /\ HasD e d s'.heap) p s := by
 intro t
 induction t with
 | pure a => exact fun _ hd h => ⟨h, hd⟩
 | raise a => exact fun _ hd h => ⟨h, hd⟩
 | unsupported a => exact fun _ hd h => h
 | finish a => exact fun _ hd h => h
 | rule a k ih => exact fun dk hd h => ih () dk hd h
 | «at» a k ih => exact fun dk hd h => ih () dk hd h
 | load a b k ih => exact fun dk hd ⟨o, h1, h2⟩ => ⟨o, h1, ih o (dk o) hd h2⟩
 | update a b f k ih => exact fun dk hd ⟨h1, h2⟩ => ⟨h1, ih () dk.2 (hd.upd dk.1) h2⟩
 | loadIfAlive a k ih => exact fun dk hd h => ih _ (dk _) hd h
 | point a k ih => exact fun dk hd h => ih () dk hd h
 | register a k ih => exact fun dk hd h => h
 | alloc o k ih => exact fun dk hd h => ih _ (dk _) (by obtain ⟨q, h1, h2⟩ := hd; exact ⟨q, Heap.get?_push_of_some _ h1, h2⟩) h
 | fresh k ih => exact fun dk hd h => ih _ (dk _) hd h
 | ask k ih => exact fun dk hd h => ih _ (dk _) hd h
 | choose a b k ih => exact fun dk hd ⟨h0, h⟩ => ⟨h0, ih _ (dk _) hd h⟩
 | os a b k ih => exact fun dk hd h => ih _ (dk _) hd h
 | call c h a b k ih => exact fun dk => dk.elim
 | handled a k ih => exact fun dk hd h => ih _ (dk _) hd h
 | genState g k ih => exact fun dk => dk.elim
 | newGen c k ih => exact fun dk hd h => ih _ (dk _) hd h
 | resume g r a k ih => exact fun dk => dk.elim
 | yield => exact fun dk => dk.elim
 | stack k ih => exact fun dk hd h => ih _ (dk _) hd h
 | await => exact fun dk => dk.elim
 | fork => exact fun dk => dk.elim
 | thread k ih => exact fun dk hd h => ih _ (dk _) hd h
theorem znq {M : Model} {A : Around} {e : Addr} {d : Option Addr} {t : Sem α} {Q : α -> Shared -> Prop} {E : Value -> Shared -> Prop} {s : Shared} (dk : Dk t) (hd : HasD e d s.heap) (h : wpAny M A t Q E s) :
 wpAny M A t (fun a s' => Q a s' /\ HasD e d s'.heap) (fun x s' => E x s' /\ HasD e d s'.heap) s := fun Γ p hi => z7l dk hd (h Γ p hi)
theorem Dk.bind {m : Sem α} {f : α -> Sem β} (h : Dk m) (hf : ∀ a, Dk (f a)) : Dk (m >>= f) := by
 revert h
 show Dk m -> Dk (Sem.bind m f)
 induction m with
 | pure a => exact fun _ => hf a
 | raise a => exact fun _ => trivial
 | unsupported a => exact fun _ => trivial
 | finish a => exact fun _ => trivial
 | rule a k ih => exact fun dk => ih () dk
 | «at» a k ih => exact fun dk => ih () dk
 | load a b k ih => exact fun dk o => ih o (dk o)
 | update a b f k ih => exact fun dk => ⟨dk.1, ih () dk.2⟩
 | loadIfAlive a k ih => exact fun dk o => ih o (dk o)
 | point a k ih => exact fun dk => ih () dk
 | register a k ih => exact fun dk => trivial
 | alloc o k ih => exact fun dk o => ih o (dk o)
 | fresh k ih => exact fun dk o => ih o (dk o)
 | ask k ih => exact fun dk o => ih o (dk o)
 | choose a b k ih => exact fun dk o => ih o (dk o)
 | os a b k ih => exact fun dk o => ih o (dk o)
 | call c h a b k ih => exact fun dk => dk.elim
 | handled a k ih => exact fun dk o => ih o (dk o)
 | genState g k ih => exact fun dk => dk.elim
 | newGen c k ih => exact fun dk o => ih o (dk o)
 | resume g r a k ih => exact fun dk => dk.elim
 | yield => exact fun dk => dk.elim
 | stack k ih => exact fun dk o => ih o (dk o)
 | await => exact fun dk => dk.elim
 | fork => exact fun dk => dk.elim
 | thread k ih => exact fun dk o => ih o (dk o)
end
theorem zvp {α : Type} {a : α} : Dk (pure a : Sem α) := trivial
theorem zrg {a : Addr} : Dk (load a) := fun _ => trivial
theorem zz7 {a : Addr} {f : Obj -> Obj} (h : ∀ o, (f o).dict = o.dict /\ (f o).isFreed = o.isFreed) : Dk (update a f) := ⟨h, trivial⟩
theorem zm7 {f : Array Value -> Array Value} (o : Obj) : (Obj.mapFields f o).dict = o.dict /\ (Obj.mapFields f o).isFreed = o.isFreed := by
 obtain ⟨c, d, x, sl⟩ := o;cases x <;> exact ⟨rfl, rfl⟩
theorem zjc {v u : Value} {i : Nat} : Dk (setField v i u) := by
 unfold setField
 split
 ·unfold updateField
  refine zrg.bind fun o => ?_
  split
  ·split
   ·exact zz7 fun o => zm7 o
   ·trivial
  ·trivial
 ·trivial
theorem zlk {v : Value} {i : Nat} : Dk (field v i) := by
 unfold field fieldsOf;refine Dk.bind ?_ fun x => ?_
 ·split
  ·refine zrg.bind fun o => ?_
   split <;> trivial
  ·trivial
 ·split <;> trivial
theorem zl1 {v : Value} {f : Option Addr} : Dk (setFlight v f) := by
 unfold setFlight;refine zlk.bind fun tb => ?_
 split
 ·exact zjc
 ·trivial
theorem zof : Dk stack := fun _ => trivial
theorem zvq {env : Env} {l : List Env} : Dk (behindIsImport env l) := by
 unfold behindIsImport
 split
 ·trivial
 ·split
  ·trivial
  ·exact zlk.bind fun _ => trivial
theorem zrh {env : Env} {b : Bool} {l : List Env} : Dk (keptBack env b l) := by
 unfold keptBack
 split
 ·split
  ·trivial
  ·unfold underTheClaimsCaller
   refine Dk.bind (m := stack >>= fun _ => pure _) (zof.bind fun _ => zvp) fun _ => zvp
 ·trivial
theorem zsx : ∀ l : List Env, Dk (readyFrames l)
 | [] => trivial
 | env :: outer => by
   unfold readyFrames
   split
   ·refine zrg.bind fun o => ?_
    split
    ·trivial
    ·exact zvq.bind fun b => zrh.bind fun v => Dk.bind (zz7 (by intro o; obtain ⟨c, d, x, sl⟩ := o; cases x <;> exact ⟨rfl, rfl⟩)) fun _ => zsx outer
   ·trivial
theorem zud {env : Env} : Dk (PySem.frameOf env) := by
 unfold PySem.frameOf;refine Dk.bind ?_ fun l => Dk.bind ?_ fun x => ?_
 ·unfold frameEnvs
  exact zof.bind fun _ => trivial
 ·unfold frameObject
  split
  ·trivial
  ·exact (zsx _).bind fun _ => trivial
 ·split <;> trivial
theorem zyl {f : Addr} {b : Bool} : Dk (entryPlaceOf f b) := by
 unfold entryPlaceOf;refine zof.bind fun l => ?_
 split <;> trivial
theorem zpu {x : String} {vs : List Value} : Dk (newFields x vs) := by
 unfold newFields newObj newObjAsIs;dsimp only
 split
 ·trivial
 ·exact fun a => trivial
theorem zvr {v : Value} {env : Env} : Dk (noteFrame v env) := by
 unfold noteFrame
 split
 ·refine zlk.bind fun hd => ?_
  have fin : ∀ f : Addr, Dk (do setField v 1 (<- EntryCells.newEntry hd (<- PySem.frameOf env) .none (rawInt f) .none (<- entryPlaceOf f (hd != .none)))) := fun f =>
   zud.bind fun a => zyl.bind fun b => Dk.bind (by unfold EntryCells.newEntry; exact zpu) fun _ => zjc
  split
  ·refine zlk.bind fun _ => ?_
   split
   ·trivial
   ·exact zjc.bind fun _ => fin _
  ·exact fin _
 ·trivial
theorem zke {v : Value} {env : Env} : Dk (leaving env v) := by
 unfold leaving;exact zvr.bind fun _ => zl1
end L2
namespace L2
open PySem PySem.Spec PyProof.Rows
def CXE (P : Program) (w : World) : CXT := fun outer H s E e s' =>
 ∃ (ea : Addr) (cls a0 : Value) (B : Heap) (H' : Hp) (dx : Option Addr), e = .ref ea /\ s'.os = s.os /\ AllBare s'.gens /\
   Heap.FlyingW B outer ea cls a0 s'.heap /\ HOk P w H' B /\
   (∀ b o, s.heap.get? b = some o -> H b = none -> b ∉ frs outer -> B.get? b = some o) /\
   (∀ b o, s.heap.get? b = some o -> H b = none -> b ∈ frs outer -> ∃ sl, s'.heap.get? b = some { o with slots := sl }) /\
   (∀ b o, s.heap.get? b = some o -> H b = none -> H' b = none) /\
   (∀ b o, s.heap.get? b = some o -> b ∉ frs outer -> ∃ o', B.get? b = some o') /\
   (∀ b xs, H b = some (.tup xs) -> H' b = some (.tup xs)) /\ (∀ b o u, H b = some (.frz o u) -> H' b = some (.frz o u)) /\
   (∀ b ps, H b = some (.tbl ps) -> ∃ more, H' b = some (.tbl (ps ++ more))) /\ HasD ea dx s'.heap /\ E cls dx H'
theorem HOk.hide {P : Program} {w : World} {H : Hp} {h : Heap} {l : List Addr} (ok : HOk P w H h) (hl : ∀ b ∈ l, H b = none) : HOk P w H (PySem.W.hideAll h l) := fun a o e =>
 (ok a o e).stay (fun b u hb q => PySem.W.hideAll_get _ q fun m => by
  rcases hb with z | z
  ·rw [z] at m; rw [hl a m] at e; cases e
  ·rw [hl b m] at z; cases z) (fun _ q => q) fun _ _ q => q
def zog (X : Cx) (E : XK) : Prop := ∀ (pins : List (Addr × Obj)) (σ : St) (H : Hp) (s : Shared) (ea C : Addr) (vs : List Value) (h' : Heap), Inv X pins σ H s ->
 Heap.MadeExcOf s.heap h' ea (.ref C) vs -> E (.ref C) none H -> X.xe (.ref ea) { s with heap := h' }
section
variable {P : Program} {w : World} {K : PySem.W.Frag} {mg : Str -> Option Value} {base : Heap} {N : List Str} {qual : Str} {scope : Scope} {f : Addr} {cd : Value} {A : Around} {outer : List Env} {s₀ : Shared} {H₀ : Hp} {E : XK}
theorem zgp : zog (cxOf (CXE P w) P w K mg base N qual scope f cd A outer s₀ H₀ E) E := by
 intro pins σ H s ea C vs h' I hm hE;let X := cxOf (CXE P w) P w K mg base N qual scope f cd A outer s₀ H₀ E;have hst : X.stack = X.env :: outer := rfl;have hfrl : ∀ b, b ∈ frs X.stack ↔ b = X.env.locals \/ b ∈ frs outer := fun b => by
  show b ∈ X.env.locals :: frs outer ↔ _;exact List.mem_cons
 have hF : s.heap.FunFrames (PySem.W.hideAll s.heap (frs X.stack)) X.stack := PySem.W.funFrames_hide I.stack fun env he a ha => List.mem_filterMap.mpr ⟨env, he, ha⟩;show wpAny (model P w) X.A (leaving X.env (.ref ea)) _ _ _;have hd0 : HasD ea none h' := by obtain ⟨t, he, _⟩ := hm.there; exact ⟨_, he, rfl⟩
 refine wpAny_mono (znq (e := ea) (d := none) (s := { s with heap := h' }) zke hd0 (wpAny_leaves_madeW (Q := fun _ s2 => ∃ h1 t, s2 = { s with heap := h1 } /\ Heap.FlyingW (PySem.W.hideAll s.heap (frs X.stack)) outer ea (.ref C) (.ref t) h1 /\ Heap.UpToSlots h' h1)
  (s := { s with heap := h' }) (base := PySem.W.hideAll s.heap (frs X.stack)) (h := s.heap) (env := X.env) (outer := outer) (L := X.env.locals) I.ok.frames rfl (fun b o q => PySem.W.of_hideAll _ q) hF hm fun h1 t x1 x2 x3 x4 => ⟨h1, t, rfl, x1, x4⟩)) (fun _ s2 z => ?_) fun _ _ z => z.1
 obtain ⟨⟨h1, t, rfl, x1, x4⟩, hd1⟩ := z;have up : ∀ b o, s.heap.get? b = some o -> b ∈ frs X.stack -> ∃ sl, h1.get? b = some { o with slots := sl } := fun b o e hb => by
  obtain ⟨o', e', nd⟩ := (I.stack.mem hb).2;rw [e] at e'; cases e';exact x4 b o (hm.keeps b o e) nd
 refine ⟨ea, .ref C, .ref t, _, H, none, rfl, I.os, I.bare, x1, I.hok.hide I.stkFree, fun b o e n hb => ?_, fun b o e n hb => ?_, fun b o e n => I.base.free b o e n (by simp [cxOf]), fun b o e hb => ?_, I.base.tups, I.base.frzs, I.base.tbls, hd1, hE⟩
 ·have hL : b ≠ X.env.locals := Nat.ne_of_lt (Nat.lt_of_lt_of_le (Heap.lt_size e) I.ok.above)
  refine PySem.W.hideAll_get _ (I.base.keep b o e n hb (by simp [cxOf])) fun m => ?_;rcases (hfrl b).mp m with z | z
  ·exact hL z
  ·exact hb z
 ·obtain ⟨sl, e1⟩ := I.base.slot b o e n hb (by simp [cxOf])
  obtain ⟨sl', e2⟩ := up b _ e1 ((hfrl b).mpr (.inr hb));exact ⟨sl', e2⟩
 ·have hL : b ≠ X.env.locals := Nat.ne_of_lt (Nat.lt_of_lt_of_le (Heap.lt_size e) I.ok.above)
  obtain ⟨o', e1⟩ := I.base.there b o e (by simp [cxOf]);refine ⟨o', PySem.W.hideAll_get _ e1 fun m => ?_⟩;rcases (hfrl b).mp m with z | z
  ·exact hL z
  ·exact hb z
theorem zag : zei (CXE P w) (cxOf (CXE P w) P w K mg base N qual scope f cd A outer s₀ H₀ E) E := by
 intro pins σ H s e s' I h;obtain ⟨ea, cls, a0, B, H', dx, rfl, ho, hb, fly, hok, keep, slot, free, there, tups, frzs, tbls, hd, hE⟩ := h;let X := cxOf (CXE P w) P w K mg base N qual scope f cd A outer s₀ H₀ E;have hfrl : ∀ b, b ∈ frs X.stack ↔ b = X.env.locals \/ b ∈ frs outer := fun b => by
  show b ∈ X.env.locals :: frs outer ↔ _;exact List.mem_cons
 show wpAny (model P w) X.A (leaving X.env (.ref ea)) _ _ _;refine wpAny_mono (znq zke hd (wpAny_leaves_onW (Q := fun _ s2 => ∃ h1, s2 = { s' with heap := h1 } /\ Heap.FlyingW B outer ea cls a0 h1 /\ Heap.UpToSlots s'.heap h1) (base := B) (env := X.env) (outer := outer) (L := X.env.locals) I.ok.frames rfl fly fun h1 x1 x4 => ⟨h1, rfl, x1, x4⟩)) (fun _ s2 z => ?_) fun _ _ z => z.1;obtain ⟨⟨h1, rfl, x1, x4⟩, hd1⟩ := z;have ndata : ∀ b, b ∈ frs X.stack -> ∀ o, s'.heap.get? b = some o -> ∃ sl, h1.get? b = some { o with slots := sl } := fun b hb o e => by
  obtain ⟨o', e', nd⟩ := (fly.2.2.1.mem hb).2;rw [e] at e'; cases e';exact x4 b o e nd
 refine ⟨ea, cls, a0, B, H', dx, rfl, ho.trans I.os, hb, x1, hok, fun b o e n hb => ?_, fun b o e n hb => ?_, fun b o e n => ?_, fun b o e hb => ?_, fun b xs q => tups b xs (I.base.tups b xs q), fun b o u q => frzs b o u (I.base.frzs b o u q), fun b ps q => ?_, hd1, hE⟩
 ·have hL : b ≠ X.env.locals := Nat.ne_of_lt (Nat.lt_of_lt_of_le (Heap.lt_size e) I.ok.above)
  refine keep b o (I.base.keep b o e n hb (by simp [cxOf])) (I.base.free b o e n (by simp [cxOf])) fun m => ?_;rcases (hfrl b).mp m with z | z
  ·exact hL z
  ·exact hb z
 ·obtain ⟨sl, e1⟩ := I.base.slot b o e n hb (by simp [cxOf])
  obtain ⟨sl', e2⟩ := slot b _ e1 (I.base.free b o e n (by simp [cxOf])) ((hfrl b).mpr (.inr hb));obtain ⟨sl2, e3⟩ := ndata b ((hfrl b).mpr (.inr hb)) _ e2;exact ⟨sl2, e3⟩
 ·obtain ⟨o', e1⟩ := I.base.there b o e (by simp [cxOf])
  exact free b o' e1 (I.base.free b o e n (by simp [cxOf]))
 ·have hL : b ≠ X.env.locals := Nat.ne_of_lt (Nat.lt_of_lt_of_le (Heap.lt_size e) I.ok.above)
  obtain ⟨o', e1⟩ := I.base.there b o e (by simp [cxOf]);refine there b o' e1 fun m => ?_;rcases (hfrl b).mp m with z | z
  ·exact hL z
  ·exact hb z
 ·obtain ⟨m1, q1⟩ := I.base.tbls b ps q
  obtain ⟨m2, q2⟩ := tbls b _ q1;exact ⟨m1 ++ m2, by rw [q2, Array.append_assoc]⟩
end
abbrev bmVE : List Value := [.type "ValueError", .type "Exception", .type "BaseException", .type "object"]
def zcu (K : PySem.W.Frag) (C : Addr) : Option (List Value) := match K.lookup C with
 | some ⟨.type "type", _, .cls cd, sl⟩ => (match cd.mro, sl.toList with
   | .ref C' :: bm, [_, _, _, _, some (.builtin _), _] => bif (C' == C) && !cd.hasDel && bm.contains (.type "BaseException") then some bm else none
   | _, _ => none)
 | _ => none
theorem zz8 {K : PySem.W.Frag} {h : Heap} {C : Addr} {bm : List Value} (X : K.In h) (q : zcu K C = some bm) :
 bm.contains (.type "BaseException") = true /\ ∃ nm qn N bs hdct sn sub ab col dd k0 k1 k2 k3 k5 newId, h.get? C = some (excClassObj nm qn C N bs bm hdct sn sub ab col dd k0 k1 k2 k3 k5 newId) := by
 unfold zcu at q
 split at q
 ·rename_i dct cdt slt look
  split at q
  ·rename_i C2 bm2 j0 j1 j2 j3 nid j5 em es
   cases c : ((C2 == C) && !cdt.hasDel && bm2.contains (.type "BaseException")) with
   | false => rw [c] at q; cases q
   | true =>
     rw [c] at q;have e2 : bm2 = bm := Option.some.inj q;simp only [Bool.and_eq_true, beq_iff_eq, Bool.not_eq_true'] at c;obtain ⟨⟨c1, c2⟩, c3⟩ := c;subst c1 e2;refine ⟨c3, ?_⟩;have ob := X _ _ look;obtain ⟨a1, a2, a3, a4, a5, a6, a7, a8, a9, b1, b2⟩ := cdt;have em : a3 = .ref C2 :: bm2 := em;have c2 : b2 = false := c2;have hsl : slt = #[j0, j1, j2, j3, some (.builtin nid), j5] := by
      obtain ⟨l⟩ := slt;exact congrArg Array.mk es
     rw [em, c2, hsl] at ob;exact ⟨_, _, _, _, _, _, _, _, _, _, _, _, _, _, _, _, ob⟩
  ·cases q
 ·cases q
theorem zym {K : PySem.W.Frag} {h : Heap} {C : Addr} {bmB : List Value} {newId : String} (X : K.In h) (q : PySem.W.excIn K C bmB newId = true) :
 ∃ bm N nm qn bs hdct sn sub ab col dd k0 k1 k2 k3 k5 mN, h.get? C = some (excClassObj nm qn C N bs bm hdct sn sub ab col dd k0 k1 k2 k3 k5 newId) /\ h.Ns N mN /\ mN "__init__" = none /\ OwnTail h bmB bm := by
 unfold PySem.W.excIn at q
 split at q
 ·rename_i dct cdt slt look
  split at q
  ·rename_i C2 bm2 j0 j1 j2 j3 nid j5 em es
   simp only [Bool.and_eq_true, beq_iff_eq, Bool.not_eq_true'] at q;obtain ⟨⟨⟨⟨⟨c1, c2⟩, c3⟩, tl⟩, okN⟩, noI⟩ := q;subst c1 c2;have ob := X _ _ look;obtain ⟨a1, a2, a3, a4, a5, a6, a7, a8, a9, b1, b2⟩ := cdt;have em : a3 = .ref C2 :: bm2 := em;have c3 : b2 = false := c3;have hsl : slt = #[j0, j1, j2, j3, some (.builtin nid), j5] := by
    obtain ⟨l⟩ := slt;exact congrArg Array.mk es
   rw [em, c3, hsl] at ob;exact ⟨_, _, _, _, _, _, _, _, _, _, _, _, _, _, _, _, _, ob, .of_isNs (PySem.W.isNs_of_in X okN), PySem.W.nsMap_none_of_in X okN noI, PySem.W.tail_of_in X tl⟩
  ·cases q
 ·cases q
theorem ziz {M : Model} {A : Around} {E : Value -> Shared -> Prop} {K : PySem.W.Frag} {s : Shared} {e C D : Addr} {oe : Obj} {bmC bmD : List Value} {Q : Bool -> Shared -> Prop} (X : K.In s.heap) (qC : zcu K C = some bmC) (qD : zcu K D = some bmD)
 (he : s.heap.get? e = some oe) (hcls : oe.cls = .ref C) (hq : Q ((Value.ref C :: bmC).contains (.ref D)) s) : wpAny M A (excMatches (.ref e) (.ref D)) Q E s := by
 obtain ⟨h, g, d, t, os⟩ := s;obtain ⟨bC, _, _, _, _, _, _, _, _, _, _, _, _, _, _, _, _, hC⟩ := zz8 X qC;obtain ⟨bD, _, _, _, _, _, _, _, _, _, _, _, _, _, _, _, _, hD⟩ := zz8 X qD;have hDB : (Value.ref D :: bmD).contains (.type "BaseException") = true := by rw [List.contains_cons, bD, Bool.or_true]
 have f := tc_notTuple;unfold excMatches;generalize hv : (Value.ref C :: bmC).contains (.ref D) = v at hq
 repeat (first | (with_reducible refine wpAny_loadPart_at he ?_; rw [hcls]) | with_reducible refine wpAny_loadPart_at hD ?_ | (with_reducible refine wpAny_isSubtype_exc hD ?_; rw [hDB]) | (with_reducible refine wpAny_isSubtype_exc hC ?_; rw [hv]) | wp_step)
 cases v <;> (wp_walk; exact hq)
section
variable {X : Cx}
def z41 (C : Addr) (E : XK) (t : TA) : TS := fun _ σ H => t σ H fun vs H1 => vs.length <= sizeLine /\ E (.ref C) none H1
theorem zyn {C : Addr} {E : XK} {x : Str} {np cpos pos : Pos} {e : Expr} {es : List Expr} {t : TA} (hx : zog X E) (hc : X.calm = true) (q : PySem.W.excIn X.K C bmVE "ValueError.__new__" = true) (hg : Gl X x) (hm : X.mg x = some (.ref C)) (ha : PA X (e :: es) t)
 (hdb : (x == ("__debug__" : Str)) = false := by decide) (he : starEach (e :: es) X.env = (false, eval e X.env) :: starEach es X.env := by rfl) (hpl : (backTo cpos (starEach es X.env)).any (·.1) = false := by rfl) :
 PS X (.Raise (some (.Call (.Name x np) (e :: es) [] cpos)) none pos) (z41 C E t) := by
 intro pins s σ H D I h;obtain ⟨bm, N, nm, qn, bs, hdct, sn, sub, ab, col, dd, k0, k1, k2, k3, k5, mN, hC, hN, hni, T⟩ := zym I.ok.mod.kin q;refine wpAny_Raise_call_subT (C := C) (nm := nm) (q := qn) (N := N) (bs := bs) (bm := bm) (hdct := hdct) (sn := sn) (sub := sub) (ab := ab) (col := col) (dd := dd) (k0 := k0) (k1 := k1) (k2 := k2) (k3 := k3) (k5 := k5)
  PySem.F.excBase_ValueError (mN := mN) (T.hasType PySem.F.excBase_ValueError.hasBase) (I.ok.hd hc) (by rw [he]; show (false || (backTo cpos (starEach es X.env)).any (·.1)) = false; rw [hpl]; rfl) hni (zhj I hg hm ⟨rfl, ?_⟩ hdb)
 have a := ha cpos pins s σ H _ I h;rw [he] at a ⊢;exact Calls.evalArgs_plain (thn a fun us s2 ⟨vs, H2, I2, r, l, z⟩ => ⟨rfl, by show us.length <= sizeLine; rw [<- r.length]; exact l, I2.bk _ _ hC, hN.keeps I2.bk, T.keeps I2.bk, fun h' ea mk => hx pins σ H2 s2 ea C us h' I2 mk z⟩)
abbrev Cx.tryIn (X : Cx) (pn : List (Addr × Obj)) (kn : St) (xe : Value -> Shared -> Prop) : Cx := { X with pn := pn, kn := kn, xe := xe }
abbrev Cx.inExc (X : Cx) (ea : Addr) : Cx := { X with A := X.A.mark (some (.ref ea)), calm := false, xe := fun _ _ => False }
theorem Cx.Ok.tryIn (ok : X.Ok) (pn : List (Addr × Obj)) (kn : St) (xe : Value -> Shared -> Prop) : (X.tryIn pn kn xe).Ok :=
 ⟨ok.mod, ok.kind, ok.glob, ok.blt, ok.above, ok.inj, ok.has, ok.cab, ok.hd, ok.frames, ok.stk, ok.exf, ok.bs, ok.bsz, ok.noex, ok.exfs, ok.funs, ok.frf⟩
theorem Cx.Ok.inExc (ok : X.Ok) (ea : Addr) : (X.inExc ea).Ok :=
 ⟨ok.mod, ok.kind, ok.glob, ok.blt, ok.above, ok.inj, ok.has, ok.cab, (fun h => nomatch h), ok.frames, ok.stk, ok.exf, ok.bs, ok.bsz, ok.noex, ok.exfs, ok.funs, ok.frf⟩
theorem Inv.inExc {pins : List (Addr × Obj)} {σ : St} {H : Hp} {s : Shared} (I : Inv X pins σ H s) (ea : Addr) : Inv (X.inExc ea) pins σ H s :=
 ⟨I.ok.inExc ea, I.os, I.bare, I.base, I.loc, I.cell, I.free, I.freeC, I.pin, I.hok, I.len, I.kn⟩
theorem Inv.outExc {pins : List (Addr × Obj)} {σ : St} {H : Hp} {s : Shared} {ea : Addr} (ok : X.Ok) (I : Inv (X.inExc ea) pins σ H s) : Inv X pins σ H s :=
 ⟨ok, I.os, I.bare, I.base, I.loc, I.cell, I.free, I.freeC, I.pin, I.hok, I.len, I.kn⟩
theorem zfb.there {P : Program} {w : World} {H : Hp} {h : Heap} {a : Addr} {o : HO} (x : zfb P w H h a o) : ∃ u, h.get? a = some u := by
 cases o with
 | lst xs => obtain ⟨_, _, _, _, e⟩ := x; exact ⟨_, e⟩
 | tup xs => obtain ⟨_, _, _, ob, e, _⟩ := x; exact ⟨_, e⟩
 | dK kvs => obtain ⟨_, _, _, _, o, _, _, e, _⟩ := x; exact ⟨_, e⟩
 | dT kvs => obtain ⟨_, _, _, _, o, _, _, e, _⟩ := x; exact ⟨_, e⟩
 | set S n => obtain ⟨o, _, _, _, e, _⟩ := x; exact ⟨_, e⟩
 | ins C dx fs => obtain ⟨_, _, _, e, _⟩ := x; exact ⟨_, e⟩
 | own y => exact x
 | xd fs => obtain ⟨_, ⟨_, _, _, e, _⟩, _⟩ := x; exact ⟨_, e⟩
 | rng lo hi => obtain ⟨_, _, _, e⟩ := x; exact ⟨_, e⟩
 | frz ob u => obtain ⟨e, _⟩ := x; exact ⟨_, e⟩
 | tbl ps => exact ⟨_, (show h.get? a = some _ from x)⟩
 | met f y => exact ⟨_, (show h.get? a = some _ from x)⟩
 | ext φ => exact x.2.1
abbrev THd := Value -> Option Addr -> Addr -> Ends -> St -> Hp -> Prop
def PH (X : Cx) (hs : List ExceptHandler) (t : THd) : Prop :=
 ∀ (pins : List (Addr × Obj)) (s : Shared) (σ : St) (H : Hp) (D : Ends) (ea : Addr) (cls a0 : Value) (dx : Option Addr) (B : Heap), X.Ok -> (∀ h', B.StaysIn h' -> s.heap.UpToSlots h' -> Inv X pins σ H { s with heap := h' }) ->
   (∀ h' φ, B.StaysIn h' -> s.heap.UpToSlots h' -> zfb X.prog X.w H h' ea (.ext φ) -> Inv X pins σ (upd H ea (.ext φ)) { s with heap := h' }) -> Heap.FlyingW B X.stack ea cls a0 s.heap -> (HasD ea dx s.heap /\ H ea = none) -> t cls dx ea D σ H -> wpAny (model X.prog X.w) X.A (handleBy (.ref ea) X.env hs) (SP X pins D) X.xe s
def hOwn (K : PySem.W.Frag) (D : Addr) (ts : TS) (tr : THd) : THd := fun cls dx ea En σ H => ∃ C bmC, cls = .ref C /\ zcu K C = some bmC /\
 if (Value.ref C :: bmC).contains (.ref D) = true then ts En σ H else tr cls dx ea En σ H
theorem z42 {D : Addr} {bmD : List Value} {x : Str} {np pos : Pos} {b₀ : Stmt} {suite : List Stmt} {rest : List ExceptHandler} {ts : TS} {tr : THd} (hg : Gl X x) (hm : X.mg x = some (.ref D)) (qD : zcu X.K D = some bmD)
 (hs : ∀ ea, PSs (X.inExc ea) (b₀ :: suite) ts) (hr : PH X rest tr) (hdb : (x == ("__debug__" : Str)) = false := by decide) :
 PH X (.ExceptHandler (some (.Name x np)) none (b₀ :: suite) pos :: rest) (hOwn X.K D ts tr) := by
 intro pins s σ H En ea cls a0 dx B ok car car2 fly hd h;obtain ⟨C, bmC, rfl, qC, h⟩ := h;have I : Inv X pins σ H s := car s.heap fly.1 (.refl _);have I' := I.inExc ea;obtain ⟨oe, hoe, hoc⟩ := fly.there;refine wpAny_handleBy_cons (codeAny_handlers_test ?_) (by intro q; cases q);refine zhj (X := X.inExc ea) I' hg hm ?_ hdb;refine ziz I.kIn qC qD hoe hoc ?_;cases c : (Value.ref C :: bmC).contains (.ref D) with
 | false =>
   rw [c] at h;exact hr pins s σ H En ea _ a0 dx B ok car car2 fly hd (by simpa using h)
 | true =>
   rw [c] at h;have h : ts En σ H := by simpa using h
   refine codeAny_handlers_suite (lands_againW fly fun h6 fly6 sm6 => ?_);refine wpAny_mono (hs ea pins { s with heap := h6 } σ H En ((car h6 fly6.1 sm6).inExc ea) h) (fun f s2 q => ?_) fun _ _ z => z.elim;cases f with
   | next => obtain ⟨a, b, c, d⟩ := q; exact ⟨a, b, c.outExc ok, d⟩
   | brk => obtain ⟨a, b, c, d⟩ := q; exact ⟨a, b, c.outExc ok, d⟩
   | cont => obtain ⟨a, b, c, d⟩ := q; exact ⟨a, b, c.outExc ok, d⟩
   | ret u => obtain ⟨v, a, b, c, d⟩ := q; exact ⟨v, a, b, c.outExc ok, d⟩
def tTry (X : Cx) (body : List Stmt) (th : THd) : TS := fun D σ H => ∃ (kn : St) (R : XK) (tb : TS), kn.length = σ.length /\ (∀ (i : Nat) (v : V), kn[i]? = some (some v) -> σ[i]? = some (some v)) /\
 (∀ (i : Nat) (v : V), X.kn[i]? = some (some v) -> kn[i]? = some (some v)) /\
 (∀ (pn : List (Addr × Obj)) (xe : Value -> Shared -> Prop), zei (CXE X.prog X.w) (X.tryIn pn kn xe) R -> PassesOwn (model X.prog X.w) X.A X.env xe -> PSs (X.tryIn pn kn xe) body tb) /\
 tb D σ H /\ ∀ cls dx ea H', R cls dx H' -> th cls dx ea D kn H'
theorem z43 {body : List Stmt} {h₀ : ExceptHandler} {hs : List ExceptHandler} {th : THd} {pos : Pos} (hph : PH X (h₀ :: hs) th) (hst : X.stack = X.env :: X.outer := by rfl) (hfr : X.env.frame = some X.env.locals := by rfl) :
 PS X (.Try body (h₀ :: hs) [] [] pos) (tTry X body th) := by
 intro pins s σ H D I h;obtain ⟨kn, R, tb, hl, hk, hk2, hb, h, hth⟩ := h;refine wpAny_Try_except ?_;have own := PassesOwn.looking (M := model X.prog X.w) (A := X.A) (env := X.env) (E₁ := X.xe) (K := fun e s₂ => wpAny (model X.prog X.w) X.A (setFlight e none) (fun _ s₃ => wpAny (model X.prog X.w) X.A (handleBy e X.env (h₀ :: hs)) (SP X pins D) X.xe s₃) X.xe s₂);have back : ∀ {pn : List (Addr × Obj)} {xe : Value -> Shared -> Prop} {pins' : List (Addr × Obj)} {σ' : St} {H' : Hp} {s' : Shared}, (∀ p ∈ X.pn ++ pins, p ∈ pn) -> Inv (X.tryIn pn kn xe) pins' σ' H' s' -> Inv X pins σ' H' s' := fun {pn xe pins' σ' H' s'} hp J =>
  ⟨I.ok, J.os, J.bare, J.base, J.loc, J.cell, J.free, J.freeC, fun p z => J.pin p (List.mem_append_left _ (hp p z)), J.hok, J.len, fun i v e => J.kn i v (hk2 i v e)⟩
 have pas : zei (CXE X.prog X.w) (X.tryIn (X.pn ++ pins) kn fun e s₁ => wpAny (model X.prog X.w) X.A (noteFrame e X.env) (fun _ s₂ => wpAny (model X.prog X.w) X.A (setFlight e none) (fun _ s₃ => wpAny (model X.prog X.w) X.A (handleBy e X.env (h₀ :: hs)) (SP X pins D) X.xe s₃) X.xe s₂) X.xe s₁) R := by
  intro pins' σ' H1 s1 e s' I1 T;obtain ⟨ea, cls, a0, B, H', dx, rfl, ho, hbare, fly, hok, keep, slot, free, there, tups, frzs, tbls, hd, hE⟩ := T;have I2 : Inv X pins kn H1 s1 := (back (fun _ z => z) I1).weak (by rw [hl, I.len]; exact (I1.len).symm) (fun i v e => I1.kn i v e) hk2;have slot1 : ∀ h', s'.heap.UpToSlots h' -> ∀ b o, s1.heap.get? b = some o -> H1 b = none -> b ∈ frs X.stack -> ∃ sl, h'.get? b = some { o with slots := sl } := fun h' up b o e n hb => by
   obtain ⟨sl, e1⟩ := slot b o e n hb;obtain ⟨o', e', nd⟩ := (fly.2.2.1.mem hb).2;rw [e1] at e';cases e';obtain ⟨sl2, e2⟩ := up b _ e1 nd;exact ⟨sl2, e2⟩
  have there1 : ∀ h', B.StaysIn h' -> s'.heap.UpToSlots h' -> ∀ b o, s1.heap.get? b = some o -> ∃ o', h'.get? b = some o' := fun h' st up b o e => by
   by_cases hb : b ∈ frs X.stack
   ·obtain ⟨sl, e2⟩ := slot1 h' up b o e (I2.stkFree b hb) hb
    exact ⟨_, e2⟩
   ·obtain ⟨o', e2⟩ := there b o e hb
    exact ⟨o', st b o' e2⟩
  have car : ∀ h', B.StaysIn h' -> s'.heap.UpToSlots h' -> Inv X pins kn H' { s' with heap := h' } := fun h' st up =>
   I2.call' (s' := { s' with heap := h' }) (ch := []) ho ⟨fun b o e n hb _ => st b o (keep b o e n hb), fun b o e n hb _ => slot1 h' up b o e n hb, fun b o e n _ => free b o e n, fun b o e _ => there1 h' st up b o e, tups, frzs, tbls⟩ (hok.kept fun b u z => st b u z) hbare (fun _ z => nomatch z)
  have inB : ∀ b u, H' b = some u -> b ≠ ea := fun b u z w => by
   obtain ⟨v, hv⟩ := (hok b u z).there;rw [w, fly.2.1] at hv; cases hv
  have car2 : ∀ h' φ, B.StaysIn h' -> s'.heap.UpToSlots h' -> zfb X.prog X.w H' h' ea (.ext φ) -> Inv X pins kn (upd H' ea (.ext φ)) { s' with heap := h' } := fun h' φ st up new => by
   have kp : ∀ b u, H' b = some u -> upd H' ea (.ext φ) b = some u := fun b u z => by rw [zai (inB b u z)]; exact z
   refine I2.call' (s' := { s' with heap := h' }) (ch := []) ho ⟨fun b o e n hb _ => st b o (keep b o e n hb), fun b o e n hb _ => slot1 h' up b o e n hb, fun b o e n _ => ?_, fun b o e _ => there1 h' st up b o e,
    fun b xs e => kp b _ (tups b xs e), fun b o u e => kp b _ (frzs b o u e), fun b ps e => let ⟨m, q⟩ := tbls b ps e; ⟨m, kp b _ q⟩⟩ (fun b u z => ?_) hbare (fun _ z => nomatch z)
   ·rw [zai]; exact free b o e n
    rintro rfl;by_cases hb : b ∈ frs X.stack
    ·obtain ⟨oe, vs, ge, _, gd, _⟩ := fly.first
     obtain ⟨o', e', nd⟩ := (fly.2.2.1.mem hb).2;rw [ge] at e'; cases e';exact nd vs gd
    ·have := keep b o e n hb
     rw [fly.2.1] at this; cases this
   ·by_cases hb : b = ea
    ·subst hb; rw [zaj] at z; cases z
     exact new
    ·rw [zai hb] at z
     exact (hok b u z).stay (fun c v _ r => st c v r) (fun c r => kp c _ r) fun c xs r => kp c _ r
  have hfr2 : X.A.frames = some (X.env :: X.outer) := hst ▸ I.ok.frames;have fly1 : Heap.FlyingW B (X.env :: X.outer) ea cls a0 s'.heap := hst ▸ fly;show wpAny (model X.prog X.w) X.A (noteFrame (.ref ea) X.env) _ _ _;refine wpAny_mono (znq zvr hd (wpAny_looks_onW (Q := fun _ s2 => ∃ h4, s2 = { s' with heap := h4 } /\ Heap.HeldW B (X.env :: X.outer) ea cls a0 X.env.locals h4 /\ Heap.UpToSlots s'.heap h4) hfr2 hfr fly1 fun h4 held4 sm4 => ⟨h4, rfl, held4, sm4⟩)) (fun _ s2 z => ?_) fun _ _ z => z.1;obtain ⟨⟨h4, rfl, held4, sm4⟩, hd4⟩ := z;refine wpAny_mono (znq zl1 hd4 (wpAny_landsW (Q := fun _ s2 => ∃ h5, s2 = { s' with heap := h5 } /\ Heap.FlyingW B (X.env :: X.outer) ea cls a0 h5 /\ Heap.UpToSlots h4 h5) held4 fun h5 fly5 sm5 => ⟨h5, rfl, fly5, sm5⟩)) (fun _ s2 z => ?_) fun _ _ z => z.1;obtain ⟨⟨h5, rfl, fly5, sm5⟩, hd5⟩ := z;exact hph pins { s' with heap := h5 } kn H' D ea cls a0 dx B I.ok (fun h' st up => car h' st ((sm4.trans sm5).trans up)) (fun h' φ st up new => car2 h' φ st ((sm4.trans sm5).trans up) new) (hst ▸ fly5) ⟨hd5, by cases q : H' ea with | none => rfl | some u => exact absurd rfl (inB ea u q)⟩ (hth cls dx ea H' hE)
 have I' : Inv (X.tryIn (X.pn ++ pins) kn fun e s₁ => wpAny (model X.prog X.w) X.A (noteFrame e X.env) (fun _ s₂ => wpAny (model X.prog X.w) X.A (setFlight e none) (fun _ s₃ => wpAny (model X.prog X.w) X.A (handleBy e X.env (h₀ :: hs)) (SP X pins D) X.xe s₃) X.xe s₂) X.xe s₁) [] σ H s :=
  ⟨I.ok.tryIn _ _ _, I.os, I.bare, I.base, I.loc, I.cell, I.free, I.freeC, fun p z => I.pin p (by simpa using z), I.hok, I.len, hk⟩
 refine wpAny_mono (hb _ _ pas own [] s σ H D I' h) (fun f s1 q => ?_) fun _ _ z => z;cases f with
 | next => obtain ⟨a, b, c, d⟩ := q; exact wpAny_execs_nil ⟨a, b, back (fun _ z => z) c, d⟩
 | brk => obtain ⟨a, b, c, d⟩ := q; exact ⟨a, b, back (fun _ z => z) c, d⟩
 | cont => obtain ⟨a, b, c, d⟩ := q; exact ⟨a, b, back (fun _ z => z) c, d⟩
 | ret u => obtain ⟨v, a, b, c, d⟩ := q; exact ⟨v, a, b, back (fun _ z => z) c, d⟩
end
structure FunV (K : PySem.W.Frag) (x qual : Str) (st : Stmt) (dV : Value) (f : Addr) (fd : FuncData) : Prop where
 ex : ∃ (oc : Value) (od : Option Addr) (kV doc pm : Value) (an : Option Addr) (cdv ct : Value) (osl : Array (Option Value)),
  fd = PySem.W.fnOf x qual (zan st) (zal st) (zab st) dV kV doc pm an cdv ct /\ K.lookup f = some ⟨oc, od, .func fd, osl⟩ /\ PySem.W.codeIn K cdv qual = true
 kp : PySem.W.keepIn K (.ref f) = true
section
variable {P : Program} {w : World} {K : PySem.W.Frag} {mg : Str -> Option Value} {base : Heap}
theorem Fun.toV {x qual : Str} {st : Stmt} {f : Addr} {fd : FuncData} (F : Fun K x qual st f fd) : FunV K x qual st .none f fd := ⟨F.ex, F.kp⟩
theorem FunV.okE {x qual : Str} {st : Stmt} {dV : Value} {f : Addr} {fd : FuncData} {N ps : List Str} {k : Nat} {sp : Sp} (F : FunV K x qual st dV f fd) (S : zao N ps (zab st)) (len : ∀ vs H Q E, sp vs H Q E -> vs.length = ps.length)
 (hbody : ∀ (cdv : Value) (A : Around) (outer : List Env) (s : Shared) (H : Hp) (vs : List V) (Q : VK) (E : XK), Room k (A.deeper (envOfC qual (zab st) s.heap.objs.size f cdv)) -> sp vs H Q E ->
  ∃ t, PSs (cxOf (CXE P w) P w K mg base N qual (zab st) f cdv A outer s H E) (zal st) t /\ t { nx := fun _ H' => Q .non H', rt := Q } (start N vs) H) : FnOk P w K mg base (CXE P w) (k + 1) f fd ps sp := by
 obtain ⟨oc, od, kV, doc, pm, an, cdv, ct, osl, rfl, lk, hcd⟩ := F.ex;exact z7b lk hcd S len fun A outer s H vs Q E hr hsp => hbody cdv A outer s H vs Q E hr hsp
theorem FnOk.calm {k : Nat} {f : Addr} {fd : FuncData} {ps : List Str} {sp : Sp} (F : FnOk P w K mg base (CXE P w) k f fd ps sp) : FnOk P w K mg base CX0 k f fd ps (fun vs H Q _ => sp vs H Q E0) :=
 ⟨fun vs H Q _ h => F.len vs H Q E0 h, fun A outer s H args us vs Q E hr e0 hb r h => codeAny_mono (F.run A outer s H args us vs Q E0 hr e0 hb r h) fun res s' q => by
  cases res with
  | ok fl => cases fl <;> exact q
  | error e =>
    obtain ⟨_, _, _, _, _, _, _, _, _, _, _, _, _, _, _, _, _, _, _, z⟩ := q;exact z⟩
end
end L2
namespace L2
open PySem PySem.Spec PyProof.Rows PySem.Builtin PySem.Builtin.ObjectAttr
def zfi (C : Addr) (dx : Option Addr) (t : Addr) : Obj := { cls := .ref C, dict := dx, data := .fields #[.ref t, .none, .none, .none, .bool false, .none] }
def zue : List Value -> List Value
 | .ref _ :: r => zue r
 | l => l
def zsy (l : List Value) : Bool := zue l == bmVE
theorem zl2 (self : Value) : ∀ l : List Value, refuseLoop self "__setattr__" l = refuseLoop self "__setattr__" (zue l)
 | [] => rfl
 | v :: r => by cases v <;> first | rfl | (rw [refuseLoop_ref]; exact zl2 self r)
theorem zsz (n : String) : ∀ l : List Value, l.contains (.type n) = (zue l).contains (.type n)
 | [] => rfl
 | v :: r => by
   cases v
   case ref a => rw [List.contains_cons, show (Value.type n == Value.ref a) = false from rfl, Bool.false_or]; exact zsz n r
   all_goals rfl
theorem zvs (self : Value) {l : List Value} (e : zsy l = true) : refuseLoop self "__setattr__" l = pure () := by
 rw [zl2, show zue l = bmVE from eq_of_beq e]; exact PySem.F.store_ValueError.passes self
theorem zvt {l : List Value} (e : zsy l = true) {n : String} (h : bmVE.contains (.type n) = true) : l.contains (.type n) = true := by
 rw [zsz, show zue l = bmVE from eq_of_beq e]; exact h
theorem zz9 {l : List Value} (e : zsy l = true) : l.contains (.type "object") = true /\ l.contains (.type "ValueError") = true /\ l.isEmpty = false := by
 refine ⟨zvt e (by decide +kernel), zvt e (by decide +kernel), ?_⟩;cases l with
 | nil => cases e
 | cons _ _ => rfl
def zkf (K : PySem.W.Frag) (C : Addr) : Bool := (PySem.W.clsIn K C).any fun cd => zsy cd.mro
structure XCls (K : PySem.W.Frag) (C : Addr) : Prop where
 sa : PySem.W.findIn K (.ref C) "__setattr__" = some (some (.builtin "object.__setattr__"))
 hd : PySem.W.hasDictIn K C = true
 over : zkf K C = true
section
variable {prog : Program} {w : World} {A : Around} {E : Value -> Shared -> Prop} {s : Shared} {K : PySem.W.Frag} {x C : Addr} {R : Result -> Shared -> Prop}
theorem xosa {ox : Obj} {od : Option Obj} {name : Str} {tk : Tok} {v : Value} (X : K.In s.heap) (I : PySem.W.InstAt s.heap x ox C od) (hp : zkf K C = true) (hn : PySem.W.findIn K (.ref C) name = some none)
 (h : wpAny (model prog w) A.in1 (storeInOwnDict (.ref x) (.ref C) (.str name tk) name v false)
  (fun fin s' => match fin with | .done f => R (.ok f) s' | .again c' => c'.quiet = true /\ codeAny (model prog w) A c' R s') (fun e s' => R (.error e) s') s) :
 codeAny (model prog w) A (.call (.builtin "object.__setattr__") ⟨[.ref x, .str name tk, v], []⟩) R s := by
 have SF := PySem.F.store_object;obtain ⟨cd, hc, ho⟩ := PySem.W.any_some hp;obtain ⟨o1, o2, o3⟩ := zz9 ho;have isob : PySem.W.Looks (model prog w) s.heap (isInstance (.ref x) (.type "object")) true :=
  I.type.andThen (PySem.W.looks_mroIn X (by unfold PySem.W.mroIn; rw [hc, Option.bind_some, if_neg (by rw [o3]; decide), o1]))
 refine codeAny_call_builtin SF.slot.plain SF.entry (@PySem.W.check_slot (model prog w) _ _ s "object.__setattr__" "object" "__setattr__" (.ref x) [.str name tk, v] [] _ SF.kind SF.split isob (SF.args (.ref x) (.str name tk) v) ?_);have ml : PySem.W.Looks (model prog w) s.heap (mroOf (.ref C)) cd.mro := (PySem.W.looks_clsIn X hc).andThen .now;rw [PySem.W.osa_eq, refuse_eq];refine wpAny_bind (wpAny_bind (I.type.here (wpAny_bind (ml.here ?_))));rw [zvs _ ho];exact wpAny_pure (wpAny_bind (I.type.here (wpAny_bind ((PySem.W.looks_findIn X hn).here (wpAny_bind (wpAny_pure h))))))
theorem zvu {dx t : Addr} {mA : Str -> Option Value} {name : Str} {v : Value} {ns : List Str} {Q : Unit -> Shared -> Prop} (X : K.In s.heap) (c : XCls K C) (hn : PySem.W.findIn K (.ref C) name = some none)
 (hx : s.heap.get? x = some (zfi C (some dx) t)) (hne : dx ≠ x) (n : s.heap.Ns1 dx mA) (hw : PySem.Within mA ns) (hsz : ns.length < sizeLine)
 (h : ∀ h', h'.Ns1 dx (fun y => if y = name then some v else mA y) -> Heap.SameBut dx s.heap h' -> Q () { s with heap := h', toks := s.toks + 2 }) :
 wpAny (model prog w) A (setAttr (.ref x) name v) Q E s := by
 obtain ⟨od, ho, hl⟩ := zph n;have J : PySem.W.InstAt s.heap x (zfi C (some dx) t) C (some od) := ⟨hx, rfl, rfl, ho⟩;refine PySem.W.set_plain X J c.sa (xosa (s := { s with toks := s.toks + 1 }) X J c.over hn ?_);obtain ⟨cd, hc, hd'⟩ := PySem.W.any_some c.hd;refine wpAny_bind (wpAny_pure (wpAny_bind (wpAny_bind (wpAny_loadPart hx (wpAny_bind (PySem.W.Looks.here (s := { s with toks := s.toks + 1 }) (PySem.W.looks_clsIn X hc) ?_))))));rw [hd'];refine wpAny_pure (a := some dx) (wpAny_bind (wpAny_pure (wpAny_bind ?_)));refine wpAny_nsSet1 (s := { s with toks := s.toks + 1 }) n fun h' hn2 hs2 => ?_;obtain ⟨oD, esD, epD, hoD, hdD, hcD⟩ := hn2.count (PySem.Within.cons name v hw);refine wpAny_bind (wpAny_lookBehind hoD (by rw [hdD]; exact pastItsLine_dict (Nat.le_trans hcD (by rw [List.length_cons]; omega))) ?_);exact wpAny_pure (h _ hn2 hs2)
theorem zvv {t : Addr} {name : Str} {v : Value} {Q : Unit -> Shared -> Prop} (X : K.In s.heap) (c : XCls K C) (hn : PySem.W.findIn K (.ref C) name = some none)
 (hx : s.heap.get? x = some (zfi C none t))
 (h : ∀ h', h'.Ns1 s.heap.objs.size (fun y => if y = name then some v else none) -> h'.get? x = some (zfi C (some s.heap.objs.size) t) -> (∀ b o, b ≠ x -> s.heap.get? b = some o -> h'.get? b = some o) -> Q () { s with heap := h', toks := s.toks + 2 }) :
 wpAny (model prog w) A (setAttr (.ref x) name v) Q E s := by
 have J : PySem.W.InstAt s.heap x (zfi C none t) C none := ⟨hx, rfl, rfl, trivial⟩;refine PySem.W.set_plain X J c.sa (xosa (s := { s with toks := s.toks + 1 }) X J c.over hn ?_);obtain ⟨cd, hc, hd'⟩ := PySem.W.any_some c.hd;obtain ⟨hh, g, d, tk, os⟩ := s;refine wpAny_bind (wpAny_pure (wpAny_bind (wpAny_bind (wpAny_loadPart hx (wpAny_bind (PySem.W.Looks.here (s := ⟨hh, g, d, tk + 1, os⟩) (PySem.W.looks_clsIn X hc) ?_))))));rw [hd'];have hx1 : (hh.push { cls := .type "dict", data := .dict #[] }).get? x = some (zfi C none t) := Heap.get?_push_of_some _ hx;have hxs : x ≠ hh.objs.size := Nat.ne_of_lt (Heap.lt_size hx);let h1 := (hh.push { cls := .type "dict", data := .dict #[] }).update x fun o => { o with dict := some hh.objs.size };have gd : h1.get? hh.objs.size = some { cls := .type "dict", data := .dict #[] } := (Heap.get?_update_ne _ _ _ _ hxs.symm).trans (Heap.get?_push_at rfl rfl);have gx : h1.get? x = some (zfi C (some hh.objs.size) t) := Heap.get?_update_self _ hx1 rfl;have nd : h1.Ns hh.objs.size (fun _ => none) := ⟨_, #[], _, gd, rfl, fun e he => absurd he (by simp), fun _ => rfl⟩;have main : wpAny (model prog w) A.in1 (storeInDict hh.objs.size (.str name tk) name v) (fun fin s' => match fin with | .done f => (match f with | .ret _ => Q () s' | _ => False) | .again c' => False) (fun _ _ => False) ⟨h1, g, d, tk + 1, os⟩ := by
  unfold storeInDict newKeyGuard;refine wpAny_bind (wpAny_pure (wpAny_bind (wpAny_nsSet1 (Heap.Ns1.of_empty nd) fun h' hn' hs => ?_)));obtain ⟨oD, esD, epD, hoD, hdD, hcD⟩ := hn'.count (Within.cons name v Within.nil);refine wpAny_bind (wpAny_lookBehind hoD (by rw [hdD]; exact pastItsLine_dict (Nat.le_trans hcD (by rw [List.length_cons, List.length_nil, sizeLine_eq]; omega))) ?_);refine wpAny_pure (h h' hn' ((hs.2 x hxs).trans gx) fun b o hb q => (hs.2 b (Nat.ne_of_lt (Heap.lt_size q))).trans ((Heap.get?_update_ne _ _ _ _ hb).trans (Heap.get?_push_of_some _ q)))
 rw [if_neg (by decide)];show wpAny _ _ (if (!true || !typeHasDict (.ref C)) = true then pure none else _) _ _ _;rw [if_neg (by simp [typeHasDict])];refine wpAny_bind (wpAny_alloc' (wpAny_bind (wpAny_update' hx1 (wpAny_pure (wpAny_mono main (fun fin s' z => ?_) fun _ _ z => z.elim)))));rcases fin with (_ | _ | _ | _) | _ <;> first | exact z | exact z.elim
def zej (K : PySem.W.Frag) (C fI : Addr) : Bool := match K.lookup C with
 | some ⟨.type "type", _, .cls cd, sl⟩ => (match cd.mro, sl.toList with
   | .ref C' :: bm, [_, _, _, _, some (.builtin n), _] => C' == C && n == "ValueError.__new__" && !cd.hasDel && PySem.W.tailIn K bmVE bm && PySem.W.nsOkIn K cd.ns && PySem.W.nsIn K cd.ns "__init__" == some (some (.ref fI))
   | _, _ => false)
 | _ => false
theorem z12 {h : Heap} {N : Addr} {mN : Str -> Option Value} {n : Str} {v : Value} (X : K.In h) (G : h.Ns N mN) (e : PySem.W.nsIn K N n = some (some v)) : mN n = some v := by
 obtain ⟨ob, ents, _, g1, g2, _, look⟩ := G;unfold PySem.W.nsIn at e
 split at e
 case h_1 q =>
  have z := X _ _ q;rw [g1] at z; cases z; cases g2;rw [<- look];unfold nsFind findBy;rw [<- Array.find?_toList]
  split at e
  case h_1 he => cases e; rw [he]; rfl
  case h_2 => split at e <;> cases e
 case h_2 => cases e
theorem zh5 {h : Heap} {fI : Addr} (X : K.In h) (q : zej K C fI = true) :
 ∃ bm N nm qn bs hdct sn sub ab col dd k0 k1 k2 k3 k5 mN, h.get? C = some (excClassObj nm qn C N bs bm hdct sn sub ab col dd k0 k1 k2 k3 k5 "ValueError.__new__") /\ h.Ns N mN /\ mN "__init__" = some (.ref fI) /\ OwnTail h bmVE bm := by
 unfold zej at q
 split at q
 ·rename_i dct cdt slt look
  split at q
  ·rename_i C2 bm2 j0 j1 j2 j3 nid j5 em es
   simp only [Bool.and_eq_true, beq_iff_eq, Bool.not_eq_true'] at q;obtain ⟨⟨⟨⟨⟨c1, c2⟩, c3⟩, tl⟩, okN⟩, noI⟩ := q;subst c1 c2;have ob := X _ _ look;obtain ⟨a1, a2, a3, a4, a5, a6, a7, a8, a9, b1, b2⟩ := cdt;have em : a3 = .ref C2 :: bm2 := em;have c3 : b2 = false := c3;have hsl : slt = #[j0, j1, j2, j3, some (.builtin "ValueError.__new__"), j5] := by
    obtain ⟨l⟩ := slt;exact congrArg Array.mk es
   rw [em, c3, hsl] at ob;exact ⟨_, _, _, _, _, _, _, _, _, _, _, _, _, _, _, _, _, ob, .of_isNs (PySem.W.isNs_of_in X okN), z12 X (.of_isNs (PySem.W.isNs_of_in X okN)) noI, PySem.W.tail_of_in X tl⟩
  ·cases q
 ·cases q
theorem zri {B : Addr} {pl : Sem Bool} {Q : Value × List Value -> Shared -> Prop} (X : K.In s.heap) (hg : PySem.W.specialIn K (.ref B) "__getattribute__" = some (some (.builtin "type.__getattribute__")))
 (hr : PySem.W.readsIn K B (.type "type") = true) (e : PySem.W.findCls K (.ref B) (.type "type") "__init__" = some (.val (.builtin "ValueError.__init__")))
 (h : Q (.builtin "ValueError.__init__", []) { s with toks := s.toks + 1 }) : wpAny (model prog w) A (getMethod (.ref B) "__init__" pl) Q E s :=
 PySem.W.method_cls X hg (PySem.W.cls_value X hr e (by rfl) h)
theorem zuf {fI : Addr} {dx : Option Addr} {t : Addr} {m : Value} {Q : Value -> Shared -> Prop} (X : K.In s.heap) (q : zej K C fI = true) (hx : s.heap.get? x = some (zfi C dx t))
 (h : ∀ h' t' tk', h'.get? x = some (zfi C dx t') -> (∀ b o, b ≠ x -> s.heap.get? b = some o -> h'.get? b = some o) -> Q .none { s with heap := h', toks := tk' }) :
 wpAny (model prog w) A (call (.builtin "ValueError.__init__") [.ref x, m]) Q E s := by
 obtain ⟨bm, N, nm, qn, bs, hdct, sn, sub, ab, col, dd, k0, k1, k2, k3, k5, mN, hC, hN, hni, T⟩ := zh5 X q;have F := PySem.F.excBase_ValueError;obtain ⟨hh, g, d, tk, os⟩ := s;refine wpAny_call (codeAny_call_builtin F.init.plain F.initEntry (wpAny_check_init_subT F T hC hx rfl ?_))
 wp_walk
 exact h _ hh.objs.size tk (by rw [Heap.get?_update_self _ (Heap.get?_push_of_some _ hx) rfl]; rfl) fun b o hb q => (Heap.get?_update_ne _ _ _ _ hb).trans (Heap.get?_push_of_some _ q)
structure z44 (h h' : Heap) (e C : Addr) : Prop where
 keeps : ∀ b o, h.get? b = some o -> h'.get? b = some o
 new : h.objs.size <= e
 obj : ∃ t, h'.get? e = some (zfi C none t)
theorem zug {fI : Addr} {oI : Obj} {us : List Value} {Q : Fin -> Shared -> Prop} (X : K.In s.heap) (q : zej K C fI = true) (hf : s.heap.get? fI = some oI) (hfc : oI.cls = .type "function") (hlen : us.length <= sizeLine)
 (hq : ∀ h' e, z44 s.heap h' e C -> wpAny (model prog w) A (call (.ref fI) (.ref e :: us)) (fun r s' => r = .none /\ Q (.done (.ret (.ref e))) s') E { s with heap := h' }) :
 wpAny (model prog w) A (Builtin.«type.__call__» ⟨.ref C :: us, []⟩) Q E s := by
 obtain ⟨bm, N, nm, qn, bs, hdct, sn, sub, ab, col, dd, k0, k1, k2, k3, k5, mN, gC, gN, gi, T⟩ := zh5 X q;have F := PySem.F.excBase_ValueError;obtain ⟨hh, g, d, tk, os⟩ := s
 repeat (first | with_reducible refine wpAny_loadPart_at gC ?_ | with_reducible refine wpAny_madeBy_exc gC ?_ | wp_step)
 refine codeAny_call_builtin_code (Code.quiet_builtin _ F.quiet) (wpAny_check_new_subT F T gC ?_);refine codeAny_exc_new_subT F T gC ?_ hlen;let h1 := (hh.push { cls := .type "tuple", data := .seq us.toArray }).push { cls := .ref C, data := .fields #[.ref hh.objs.size, .none, .none, .none, .bool false, .none] };have kp : ∀ b o, hh.get? b = some o -> h1.get? b = some o := fun b o z => Heap.get?_push_of_some _ (Heap.get?_push_of_some _ z);have ge : h1.get? (hh.objs.size + 1) = some { cls := .ref C, data := .fields #[.ref hh.objs.size, .none, .none, .none, .bool false, .none] } := by
  have := Heap.get?_push_size (hh.push { cls := .type "tuple", data := .seq us.toArray }) (o := zfi C none hh.objs.size) rfl;rwa [Heap.size_push] at this
 have gC1 := kp _ _ gC;have self1 : (Value.ref C :: bm).contains (.ref C) = true := by simp
 have gN1 : h1.Ns N mN := gN.keeps kp;show wpAny _ _ _ _ _ (⟨h1, g, d, tk, os⟩ : Shared);unfold isInstance
 repeat (first | with_reducible refine wpAny_loadPart_at ge ?_ | (with_reducible refine wpAny_isSubtype_exc gC1 ?_; rw [self1]) | wp_step)
 show wpAny _ _ (typeLookup (.ref C) _) _ _ _;refine wpAny_typeLookup_tail gC1 gN1 (T.keeps kp) F.mroIs F.init.lookup ?_;rw [gi];refine wpAny_holding (wpAny_bind ?_);unfold bindSpecial;refine wpAny_bind (wpAny_typeOf (T := "function") ⟨_, kp _ _ hf, hfc⟩ ?_);rw [if_pos (by decide)];refine wpAny_pure (wpAny_bind (wpAny_mono (hq h1 (hh.objs.size + 1) ⟨kp, Nat.le_succ _, _, ge⟩) (fun r s' z => ?_) fun _ _ z => z));obtain ⟨rfl, z⟩ := z
 wp_walk
 exact z
theorem z7m {fI : Addr} {oI : Obj} {us : List Value} {Q : Value -> Shared -> Prop} (X : K.In s.heap) (q : zej K C fI = true) (hf : s.heap.get? fI = some oI) (hfc : oI.cls = .type "function") (hlen : us.length <= sizeLine)
 (hq : ∀ h' e, z44 s.heap h' e C -> wpAny (model prog w) (A.under (.builtin "type.__call__" ⟨.ref C :: us, []⟩)) (call (.ref fI) (.ref e :: us)) (fun r s' => r = .none /\ Q (.ref e) s') E { s with heap := h' }) :
 wpAny (model prog w) A (call (.ref C) us) Q E s := by
 obtain ⟨bm, N, nm, qn, bs, hdct, sn, sub, ab, col, dd, k0, k1, k2, k3, k5, mN, gC, gN, gi, T⟩ := zh5 X q;have r1 := tc_lookup;have r2 := tc_bind (.ref C);have isT : s.TypeIs (.ref C) "type" := ⟨_, gC, rfl⟩;refine wpAny_call (codeAny_of_tree ?_);show wpAny _ _ (callAny (.ref C) _) _ _ _;obtain ⟨hh, g, d, tk, os⟩ := s
 repeat (any_goals (first | assumption | with_reducible refine wpAny_loadPart_at gC ?_ | wp_step))
 refine ⟨rfl, ?_⟩;exact codeAny_call_builtin_at (Code.quiet_builtin _ (by decide +kernel)) entry_typeCall (wpAny_check_type_call_sub gC (zug X q hf hfc hlen fun h' e mk => hq h' e mk))
theorem z45 {env : Env} {fI : Addr} {m : Sem Value} {Q : Flow -> Shared -> Prop} (q : zej K C fI = true) (hd : A.handled = none)
 (h : wpAny (model prog w) A m (fun v s1 => K.In s1.heap /\ ∃ e t dx, v = .ref e /\ s1.heap.get? e = some (zfi C dx t) /\ E (.ref e) s1) E s) : wpAny (model prog w) A (raiseStmt env (some m) none) Q E s := by
 unfold raiseStmt;refine wpAny_bind (wpAny_mono h (fun v s1 z => ?_) fun _ _ z => z);obtain ⟨X, e, t, dx, rfl, ge, hE⟩ := z;obtain ⟨bm, N, nm, qn, bs, hdct, sn, sub, ab, col, dd, k0, k1, k2, k3, k5, mN, gC, gN, gi, T⟩ := zh5 X q;have isB : (Value.ref C :: bm).contains (.type "BaseException") = true := by rw [List.contains_cons, T.hasType PySem.F.excBase_ValueError.hasBase, Bool.or_true]
 obtain ⟨hp, g, d, tk, os⟩ := s1;have ge : hp.get? e = some { cls := .ref C, dict := dx, data := .fields #[.ref t, .none, .none, .none, .bool false, .none] } := ge
 repeat (first | with_reducible refine wpAny_loadPart_at ge ?_ | with_reducible refine wpAny_loadPart_at gC ?_ | (with_reducible refine wpAny_isSubtype_exc gC ?_; rw [isB]) | wp_step)
 exact wpAny_raiseNew_none hd hE
theorem z46 {env : Env} {fI : Addr} {y : Str} {np cpos pos : Pos} {args : List Expr} {Q : Flow -> Shared -> Prop} (q : zej K C fI = true) (hd : A.handled = none) (hpl : (backTo cpos (starEach args env)).any (·.1) = false)
 (h : wpAny (model prog w) A (eval (.Name y np) env) (fun f s1 => f = .ref C /\ wpAny (model prog w) A (evalArgs (.ref C) true (backTo cpos (starEach args env)) []) (fun a s2 => a.kw = [] /\ K.In s2.heap /\
  wpAny (model prog w) A (call (.ref C) a.pos) (fun v s3 => K.In s3.heap /\ ∃ e t dx, v = .ref e /\ s3.heap.get? e = some (zfi C dx t) /\ E (.ref e) s3) E s2) E s1) E s) :
 wpAny (model prog w) A (exec (.Raise (some (.Call (.Name y np) args [] cpos)) none pos) env) Q E s := by
 rw [arm_exec_Raise];have core : wpAny (model prog w) A (eval (.Call (.Name y np) args [] cpos) env) (fun v s3 => K.In s3.heap /\ ∃ e t dx, v = .ref e /\ s3.heap.get? e = some (zfi C dx t) /\ E (.ref e) s3) E s := by
  refine wpAny_Call_ofName (wpAny_mono h (fun f s1 z => ?_) fun _ _ z => z);obtain ⟨rfl, z⟩ := z;unfold callWith;refine wpAny_bind (wpAny_holding (wpAny_mono z (fun a s2 y2 => wpAny_bind (wpAny_standAt ?_)) fun _ _ z => z));obtain ⟨ap, ak⟩ := a;obtain ⟨e1, X, y2⟩ := y2;obtain rfl : ak = [] := e1;obtain ⟨bm, N, nm, qn, bs, hdct, sn, sub, ab, col, dd, k0, k1, k2, k3, k5, mN, gC, gN, gi, T⟩ := zh5 X q;obtain ⟨hp, g, d, tk, os⟩ := s2;simp only [hpl];refine wpAny_bind (wpAny_keeperOf_exc gC ?_);exact wpAny_bind (wpAny_mono y2 (fun v s3 z => wpAny_bind (wpAny_holding (wpAny_point (wpAny_pure z)))) fun _ _ z => z)
 exact wpAny_bind (wpAny_standAt (z45 q hd (wpAny_bind (wpAny_mono core (fun v s3 z => wpAny_bind (wpAny_standAt (wpAny_pure z))) fun _ _ z => z))))
end
end L2
namespace L2
open PySem PySem.Spec PyProof.Rows
def excO (x C : Addr) (dx : Option Addr) : HO := .ext fun h => ∃ t, h.get? x = some (zfi C dx t)
def unt (H : Hp) (a : Addr) : Hp := fun b => if b = a then none else H b
theorem zkx {H : Hp} {a b : Addr} (h : b ≠ a) : unt H a b = H b := by unfold unt; rw [if_neg h]
theorem zjo {H : Hp} {a : Addr} : unt H a a = none := by unfold unt; rw [if_pos rfl]
theorem z47 {H : Hp} {a : Addr} {o : HO} (e : H a = some o) : upd H a o = H := by
 funext b; unfold upd; split
 ·rename_i z; rw [z, e]
 ·rfl
section
variable {P : Program} {w : World} {H : Hp} {h h' : Heap} {x C d : Addr} {dx : Option Addr} {t : Addr} {fs fs' : List (Str × V)}
theorem zrj (e : h.get? x = some (zfi C dx t)) : zfb P w H h x (excO x C dx) := ⟨⟨t, e⟩, ⟨_, e⟩, fun _ _ z k => let ⟨t, e⟩ := z; ⟨t, k _ e⟩⟩
theorem zll (ok : HOk P w H h) (e : H x = some (excO x C dx)) : ∃ t, h.get? x = some (zfi C dx t) := (ok x _ e).1
theorem HOk.writeX (ok : HOk P w H h) (hd : H d = some (.xd fs)) (k : ∀ b u, b ≠ d -> h.get? b = some u -> h'.get? b = some u) (new : zfb P w (upd H d (.xd fs')) h' d (.xd fs')) : HOk P w (upd H d (.xd fs')) h' := fun b u q => by
 by_cases hb : b = d
 ·subst hb; rw [zaj] at q; cases q; exact new
 ·rw [zai hb] at q
  refine (ok b u q).stay (fun c v hc r => k c v ?_ r) (fun c r => ?_) fun c xs r => ?_
  ·rintro rfl
   rcases hc with z | z
   ·exact hb z.symm
   ·rw [hd] at z; cases z
  ·rw [zai]; exact r
   rintro rfl; rw [hd] at r; cases r
  ·rw [zai]; exact r
   rintro rfl; rw [hd] at r; cases r
theorem Un.writeX {fr ex : List Addr} (hd : H d = some (.xd fs)) (k : ∀ b u, b ≠ d -> h.get? b = some u -> h'.get? b = some u) (hdo : ∃ u, h'.get? d = some u) : Un fr ex H (upd H d (.xd fs')) h h' := by
 have ne : ∀ b, H b = none -> b ≠ d := fun b n z => by rw [z, hd] at n; cases n
 refine ⟨fun b u q n _ _ => k b u (ne b n) q, fun b u q n _ _ => ⟨u.slots, k b u (ne b n) q⟩, fun b u q n _ => by rw [zai (ne b n)]; exact n, fun b u q _ => ?_,
  fun b xs q => ?_, fun b u xs q => ?_, fun b ps q => ⟨#[], ?_⟩⟩
 ·by_cases z : b = d
  ·subst z; exact hdo
  ·exact ⟨u, k b u z q⟩
 ·rw [zai]; exact q
  rintro rfl; rw [hd] at q; cases q
 ·rw [zai]; exact q
  rintro rfl; rw [hd] at q; cases q
 ·rw [zai, q]; simp
  rintro rfl; rw [hd] at q; cases q
theorem HOk.unt (ok : HOk P w H h) {φ : Heap -> Prop} (e : H x = some (.ext φ)) : HOk P w (unt H x) h := fun b u q => by
 by_cases hb : b = x
 ·subst hb; rw [zjo] at q; cases q
 ·rw [zkx hb] at q
  refine (ok b u q).stay (fun _ _ _ z => z) (fun c r => ?_) fun c xs r => ?_
  ·rw [zkx]; exact r
   rintro rfl; rw [e] at r; cases r
  ·rw [zkx]; exact r
   rintro rfl; rw [e] at r; cases r
end
theorem mem_of_lookup {g : Str} {v : V} : ∀ {fs : List (Str × V)}, fs.lookup g = some v -> g ∈ fs.map (·.1)
 | (k, u) :: r, e => by
   by_cases z : g = k
   ·rw [z]; exact List.mem_cons_self
   ·have hb : (g == k) = false := beq_eq_false_iff_ne.mpr z
    rw [List.lookup, hb] at e;exact List.mem_cons_of_mem _ (mem_of_lookup e)
theorem zvw {fs : List (Str × V)} {mA : Str -> Option Value} (r : ∀ f, RelO (fs.lookup f) (mA f)) : PySem.Within mA (fs.map (·.1)) := fun g hg => by
 have z := r g;cases e : fs.lookup g with
 | some v => exact mem_of_lookup e
 | none =>
   rw [e] at z;cases q : mA g with
   | none => exact absurd q hg
   | some u => rw [q] at z; exact z.elim
def zvx (K : PySem.W.Frag) (t : TA) : TE := fun σ H Q => t σ H fun vs H1 => ∃ a m C fI dx, vs = [.ref a, m] /\ H1 a = some (excO a C dx) /\ zej K C fI = true /\ Q .non H1
section
variable {X : Cx} {E : XK} {B : Addr} {y f : Str} {np apos pos pos' : Pos} {e o value : Expr} {es : List Expr} {t : TA} {ta tv : TE}
theorem zoh {pl : Sem Bool} (hg : Gl X y) (hm : X.mg y = some (.ref B)) (h1 : PySem.W.specialIn X.K (.ref B) "__getattribute__" = some (some (.builtin "type.__getattribute__")))
 (h2 : PySem.W.readsIn X.K B (.type "type") = true) (h3 : PySem.W.findCls X.K (.ref B) (.type "type") "__init__" = some (.val (.builtin "ValueError.__init__"))) (ha : PA X (e :: es) t)
 (hdb : (y == ("__debug__" : Str)) = false := by decide) (hst : starEach (e :: es) X.env = (false, eval e X.env) :: starEach es X.env := by rfl) (hpl : (backTo pos (starEach es X.env)).any (·.1) = false := by rfl)
 (ht : eval (.Call (.Attribute (.Name y np) "__init__" apos) (e :: es) [] pos) X.env = (do
  let ov <- eval (.Name y np) X.env
  standAt apos.atName
  let (f, first) <- holding [ov] (getMethod ov "__init__" pl)
  callWith pos f first (backTo pos (starEach (e :: es) X.env)) (backToKw pos (keywordEach [] X.env))) := by rfl) :
 PE X (.Call (.Attribute (.Name y np) "__init__" apos) (e :: es) [] pos) (zvx X.K t) := by
 intro pins s σ H Q I h;refine PySem.W.methodCall_KW (pl := pl) (zhj I hg hm ?_ hdb) ht;refine zri I.kIn h1 h2 h3 ?_;refine PyProof.Rows.callWith_builtin1 (thn (ha pos pins _ σ H _ (I.tok _) h) fun us s1 hq_ => ?_) hst hpl;obtain ⟨vs, H1, I1, r1, a, m, C, fI, dx, ev, ea, q, z⟩ := hq_;subst ev;cases r1 with
 | cons ra rm =>
   cases rm with
   | cons rm0 rn =>
     cases rn;obtain rfl := (show _ = Value.ref a from ra);obtain ⟨t0, hx⟩ := zll I1.hok ea;refine zuf I1.kIn q hx fun h' t' tk' g k => ⟨.non, H1, ?_, rfl, z⟩;have I2 := I1.write (h' := h') (t' := tk') (x := a) (e := a) (o := excO a C dx) (by rw [ea]; exact trivial) (.inl rfl) k ⟨_, g⟩ (zrj g);rw [z47 ea] at I2;exact I2
def zyo (K : PySem.W.Frag) (ta tv : TE) (f : Str) : TS := fun D σ H => tv σ H fun y H1 => ta σ H1 fun x H2 => ∃ a C, x = .ref a /\ XCls K C /\ PySem.W.findIn K (.ref C) f = some none /\
 ((H2 a = some (excO a C none) /\ ∀ d, H2 d = none -> D.nx σ (upd (upd H2 a (excO a C (some d))) d (.xd [(f, y)]))) \/
  ∃ d fs, H2 a = some (excO a C (some d)) /\ H2 d = some (.xd fs) /\ fs.length < 1000 /\ D.nx σ (upd H2 d (.xd (putF f y fs))))
theorem zl3 (ha : PE X o ta) (hv : PE X value tv) (hs : swapsWith value (some (.Attribute o f pos')) pos.line X.env = pure false) : PS X (.Assign [.Attribute o f pos'] value pos) (zyo X.K ta tv f) := by
 intro pins s σ H D I h;refine plainObj_wpAny_Assign_Attribute (thn (hv pins s σ H _ I h) fun u s1 hq_ => ?_) hs;obtain ⟨y, H1, I1, ry, q⟩ := hq_;refine thn (ha pins s1 σ H1 _ I1 q) fun ov s2 hq_ => ?_;obtain ⟨x, H2, I2, rx, a, C, ex, c, n, q2⟩ := hq_;subst ex;obtain rfl : ov = Value.ref a := rx;rcases q2 with ⟨ea, q2⟩ | ⟨d, fs, ea, ed, hl, q2⟩
 ·obtain ⟨t, hx⟩ := zll I2.hok ea
  refine zvv I2.kIn c n hx fun h' n1 g k => ⟨σ, _, ?_, q2 s2.heap.objs.size (I2.hok.fresh (Nat.le_refl _))⟩;have ha' : a ≠ s2.heap.objs.size := Nat.ne_of_lt (Heap.lt_size hx);have hd0 : H2 s2.heap.objs.size = none := I2.hok.fresh (Nat.le_refl _);have na : ∀ b, H2 b = none -> b ≠ a := fun b z w => by rw [w, ea] at z; cases z
  have nd : ∀ b v, s2.heap.get? b = some v -> b ≠ s2.heap.objs.size := fun b v z => Nat.ne_of_lt (Heap.lt_size z);have nk : ∀ b v, H2 b = some v -> (∀ φ, v ≠ .ext φ) -> upd (upd H2 a (excO a C (some s2.heap.objs.size))) s2.heap.objs.size (.xd [(f, y)]) b = some v := fun b v z w => by
   rw [zai (fun q => by rw [q, hd0] at z; cases z), zai (fun q => by rw [q, ea] at z; cases z; exact w _ rfl)]; exact z
  have un : Un X.fs [] H2 (upd (upd H2 a (excO a C (some s2.heap.objs.size))) s2.heap.objs.size (.xd [(f, y)])) s2.heap h' :=
   ⟨fun b v z nn _ _ => k b v (na b nn) z, fun b v z nn _ _ => ⟨v.slots, k b v (na b nn) z⟩, fun b v z nn _ => by rw [zai (nd b v z), zai (na b nn)]; exact nn,
    fun b v z _ => (by
     by_cases w : b = a
     ·rw [w]; exact ⟨_, g⟩
     ·exact ⟨v, k b v w z⟩),
    fun b xs z => nk b _ z (by intro _ w; cases w), fun b v xs z => nk b _ z (by intro _ w; cases w), fun b ps z => ⟨#[], by rw [nk b _ z (by intro _ w; cases w)]; simp⟩⟩
  refine I2.un un fun b v z => ?_;by_cases w : b = s2.heap.objs.size
  ·subst w
   rw [zaj] at z; cases z;refine ⟨_, n1, fun g' => ?_⟩;show RelO (List.lookup g' [(f, y)]) (if g' = f then some u else none);by_cases z2 : g' = f
   ·have hb : (g' == f) = true := beq_iff_eq.mpr z2
    simp only [List.lookup, hb, if_pos z2]; exact ry
   ·have hb : (g' == f) = false := beq_eq_false_iff_ne.mpr z2
    simp only [List.lookup, hb, if_neg z2]; trivial
  ·rw [zai w] at z
   by_cases w2 : b = a
   ·subst w2
    rw [zaj] at z; cases z;exact zrj g
   ·rw [zai w2] at z
    refine (I2.hok b v z).stay (fun c' v' hc r => k c' v' ?_ r) (fun c' r => nk c' _ r (by intro _ w; cases w)) fun c' xs r => nk c' _ r (by intro _ w; cases w);rcases hc with q | q
    ·rw [q]; exact w2
    ·rintro rfl; rw [ea] at q; cases q
 ·obtain ⟨t, hx⟩ := zll I2.hok ea
  obtain ⟨mA, n1, r⟩ := I2.hok d _ ed;have hne : d ≠ a := fun z => by rw [z, ea] at ed; cases ed
  have wi := zvw r;refine zvu I2.kIn c n hx hne n1 wi (by rw [List.length_map, sizeLine_eq]; omega) fun h' n2 sb => ⟨σ, _, ?_, q2⟩;obtain ⟨od, _, _, hod, _⟩ := id n2;refine I2.un (Un.writeX ed (fun b v hb z => (sb.2 b hb).trans z) ⟨od, hod⟩) (I2.hok.writeX ed (fun b v hb z => (sb.2 b hb).trans z) ⟨_, n2, fun g => ?_⟩);show RelO ((putF f y fs).lookup g) (if g = f then some u else mA g);rw [zja];by_cases z : g = f
  ·rw [if_pos z, if_pos z]; exact ry
  ·rw [if_neg z, if_neg z]; exact r g
end
end L2
namespace L2
open PySem PySem.Spec PyProof.Rows
def zjp (X : Cx) (E : XK) : Prop := ∀ (pins : List (Addr × Obj)) (σ : St) (H1 : Hp) (s1 : Shared) (H : Hp) (s : Shared) (ea C t : Addr) (dx : Option Addr), Inv X pins σ H1 s1 -> s1.heap.objs.size <= ea -> Inv X pins σ H s ->
 H ea = some (excO ea C dx) -> s.heap.get? ea = some (zfi C dx t) -> E (.ref C) dx (unt H ea) -> X.xe (.ref ea) s
section
variable {P : Program} {w : World} {K : PySem.W.Frag} {mg : Str -> Option Value} {base : Heap} {N : List Str} {qual : Str} {scope : Scope} {f : Addr} {cd : Value} {A : Around} {outer : List Env} {s₀ : Shared} {H₀ : Hp} {E : XK}
theorem zkg : zjp (cxOf (CXE P w) P w K mg base N qual scope f cd A outer s₀ H₀ E) E := by
 intro pins σ H1 s1 H s ea C t dx I1 hea I eH he hE;let X := cxOf (CXE P w) P w K mg base N qual scope f cd A outer s₀ H₀ E;let B := PySem.W.hideAll s.heap (ea :: frs X.stack);have hfrl : ∀ b, b ∈ frs X.stack ↔ b = X.env.locals \/ b ∈ frs outer := fun b => by
  show b ∈ X.env.locals :: frs outer ↔ _;exact List.mem_cons
 have old : ∀ b o, s₀.heap.get? b = some o -> b ≠ ea := fun b o e => Nat.ne_of_lt (Nat.lt_of_lt_of_le (Heap.lt_size e) (Nat.le_trans I1.sz hea));have hF : s.heap.FunFrames B X.stack := PySem.W.funFrames_hide I.stack fun env hv a ha => List.mem_cons_of_mem _ (List.mem_filterMap.mpr ⟨env, hv, ha⟩);have hB : B.get? ea = none := PySem.W.hideAll_none _ List.mem_cons_self;have kB : ∀ b o, s.heap.get? b = some o -> b ≠ ea -> b ∉ frs X.stack -> B.get? b = some o := fun b o e n1 n2 => PySem.W.hideAll_get _ e fun m => (List.mem_cons.mp m).elim n1 n2;have ntr : ∀ b v, H b = some v -> (∀ φ, v ≠ .ext φ) -> unt H ea b = some v := fun b v z q => by
  rw [zkx (fun y => by rw [y, eH] at z; cases z; exact q _ rfl)]; exact z
 show wpAny (model P w) X.A (leaving X.env (.ref ea)) _ _ _;refine wpAny_mono (znq (e := ea) (d := dx) zke ⟨_, he, rfl⟩ (wpAny_leaving_firstW (Q := fun _ s2 => ∃ h1, s2 = { s with heap := h1 } /\ Heap.LeftW B X.stack ea (.ref C) (.ref t) s.heap h1)
  (base := B) (env := X.env) (outer := outer) (L := X.env.locals) (a0 := .ref t) I.ok.frames hF rfl he (fun b o q => PySem.W.of_hideAll _ q) hB rfl rfl rfl fun h1 k => ⟨h1, rfl, k⟩)) (fun _ s2 z => ?_) fun _ _ z => z.1
 obtain ⟨⟨h1, rfl, k1, ⟨_, _, k2⟩, k3, k4⟩, hd1⟩ := z;refine ⟨ea, .ref C, .ref t, B, unt H ea, dx, rfl, I.os, I.bare, ⟨k1, hB, k2, k3⟩, ?_, fun b o e n hb => ?_, fun b o e n hb => ?_, fun b o e n => ?_, fun b o e hb => ?_, fun b xs e => ?_, fun b o u e => ?_, fun b ps e => ?_, hd1, hE⟩
 ·refine HOk.hide (HOk.unt I.hok eH) fun b hb => ?_
  rcases List.mem_cons.mp hb with z | z
  ·rw [z]; exact zjo
  ·by_cases q : b = ea
   ·rw [q]; exact zjo
   ·rw [zkx q]; exact I.stkFree b z
 ·have hL : b ≠ X.env.locals := Nat.ne_of_lt (Nat.lt_of_lt_of_le (Heap.lt_size e) I.ok.above)
  refine kB b o (I.base.keep b o e n hb (by simp [cxOf])) (old b o e) fun m => ?_;rcases (hfrl b).mp m with z | z
  ·exact hL z
  ·exact hb z
 ·obtain ⟨sl, e1⟩ := I.base.slot b o e n hb (by simp [cxOf])
  obtain ⟨o', e', nd⟩ := (I.stack.mem ((hfrl b).mpr (.inr hb))).2;rw [e1] at e'; cases e';obtain ⟨sl', e2⟩ := k4 b _ e1 nd;exact ⟨sl', e2⟩
 ·rw [zkx (old b o e)]; exact I.base.free b o e n (by simp [cxOf])
 ·have hL : b ≠ X.env.locals := Nat.ne_of_lt (Nat.lt_of_lt_of_le (Heap.lt_size e) I.ok.above)
  obtain ⟨o', e1⟩ := I.base.there b o e (by simp [cxOf]);refine ⟨o', kB b o' e1 (old b o e) fun m => ?_⟩;rcases (hfrl b).mp m with z | z
  ·exact hL z
  ·exact hb z
 ·exact ntr b _ (I.base.tups b xs e) (by intro _ z; cases z)
 ·exact ntr b _ (I.base.frzs b o u e) (by intro _ z; cases z)
 ·obtain ⟨more, e1⟩ := I.base.tbls b ps e
  exact ⟨more, ntr b _ e1 (by intro _ z; cases z)⟩
end
def z13 (C : Addr) (sp : Sp) (E : XK) (t : TA) : TS := fun _ σ H => t σ H fun vs H1 => vs.length <= sizeLine /\ ∀ ea, H1 ea = none ->
 sp (.ref ea :: vs) (upd H1 ea (excO ea C none)) (fun v H2 => v = .non /\ ∃ dx, H2 ea = some (excO ea C dx) /\ E (.ref C) dx (unt H2 ea)) E0
section
variable {X : Cx} {E : XK} {k : Nat} {C fI : Addr} {fd : FuncData} {ps : List Str} {sp : Sp} {y : Str} {np cpos pos : Pos} {e : Expr} {es : List Expr} {t : TA}
theorem zpv (hx : zjp X E) (hp : zei (CXE X.prog X.w) X E0) (hc : X.calm = true) (q : zej X.K C fI = true) (hf : PySem.W.isFn X.K (.ref fI) = true) (F : FnOk X.prog X.w X.K X.mg X.base (CXE X.prog X.w) k fI fd ps sp) (hr : Room (k + 1) X.A) (hb : zfa X.K fd ps [])
 (hg : Gl X y) (hm : X.mg y = some (.ref C)) (ha : PA X (e :: es) t)
 (hdb : (y == ("__debug__" : Str)) = false := by decide) (he : starEach (e :: es) X.env = (false, eval e X.env) :: starEach es X.env := by rfl) (hpl : (backTo cpos (starEach es X.env)).any (·.1) = false := by rfl) :
 PS X (.Raise (some (.Call (.Name y np) (e :: es) [] cpos)) none pos) (z13 C sp E t) := by
 intro pins s σ H D I h;refine z46 (K := X.K) q (I.ok.hd hc) (by rw [he]; show (false || (backTo cpos (starEach es X.env)).any (·.1)) = false; rw [hpl]; rfl) (zhj I hg hm ⟨rfl, ?_⟩ hdb);have a := ha cpos pins s σ H _ I h;rw [he] at a ⊢;refine Calls.evalArgs_plain (thn a fun us s2 ⟨vs, H2, I2, r, l, z⟩ => ⟨rfl, I2.kIn, ?_⟩);obtain ⟨oI, g1, g2⟩ : ∃ oI, s2.heap.get? fI = some oI /\ oI.cls = .type "function" := by
  obtain ⟨o, ho, hc'⟩ := Option.map_eq_some_iff.mp (show (X.K.lookup fI).map (·.cls) = some (.type "function") from eq_of_beq hf);exact ⟨o, I2.kIn _ _ ho, hc'⟩
 refine z7m I2.kIn q g1 g2 (by show us.length <= sizeLine; rw [<- r.length]; exact l) fun h' ea mk => ?_;obtain ⟨t0, ht0⟩ := mk.obj;have I3 : Inv X pins σ (upd H2 ea (excO ea C none)) { s2 with heap := h' } := I2.laid (t' := s2.toks) mk.keeps mk.new (zrj ht0);have r2 : Vals (V.ref ea :: vs) (Value.ref ea :: us) := .cons rfl r;have sq := z ea (I2.hok.fresh mk.new);have hl : (Value.ref ea :: us ++ []).length = ps.length := by
  rw [List.append_nil, <- r2.length]; exact F.len _ _ _ _ sq
 have bb := hb { s2 with heap := h' } (Value.ref ea :: us) I3.kIn hl;rw [List.append_nil] at bb;refine wpAny_call (codeAny_mono (F.run _ X.stack _ _ ⟨Value.ref ea :: us, []⟩ (Value.ref ea :: us) _ _ E0 (hr.make C us []) (I3.env0.make C us []) bb r2 sq) fun r' s' hq => ?_);cases r' with
 | error ex => exact hp pins σ _ _ ex s' I3 hq
 | ok fl =>
   cases fl with
   | ret u =>
     obtain ⟨v, H', I4, rv, ev, dx, e4, q4⟩ := I3.after hq;subst ev;obtain ⟨t4, g4⟩ := zll I4.hok e4;exact ⟨rv, I4.kIn, ea, t4, dx, rfl, g4, hx pins σ H2 s2 H' s' ea C t4 dx I2 mk.new I4 e4 g4 q4⟩
   | next => exact False.elim hq
   | brk => exact False.elim hq
   | cont => exact False.elim hq
end
end L2
namespace L2
open PySem PySem.Spec PyProof.Rows PySem.Builtin PySem.Builtin.ObjectAttr
structure XGet (K : PySem.W.Frag) (C : Addr) : Prop where
 ga : PySem.W.findIn K (.ref C) "__getattribute__" = some (some (.builtin "BaseException.__getattribute__"))
 gh : PySem.W.findIn K (.ref C) "__getattr__" = some none
 hd : PySem.W.hasDictIn K C = true
 over : zkf K C = true
section
variable {prog : Program} {w : World} {A : Around} {E : Value -> Shared -> Prop} {s : Shared} {K : PySem.W.Frag} {x C : Addr}
theorem z7n {ox : Obj} {od : Option Obj} {name : Str} {tk : Tok} {fill expr : Bool} {Q : Value -> Shared -> Prop} (X : K.In s.heap) (c : XGet K C) (J : PySem.W.InstAt s.heap x ox C od)
 (h : wpAny (model prog w) A.in1 (Builtin.«object.__getattribute__» ⟨[.ref x, .str name tk], []⟩) (fun fin s' => match fin with | .done (.ret v) => wpAny (model prog w) A (handedOut v) Q E s' | _ => False) (fun _ _ => False) s) :
 wpAny (model prog w) A (getAttrBy (.ref x) (.str name tk) fill expr) Q E s := by
 have FB := PySem.F.attrBase_ValueError;have neq : (onTheHeap (Value.ref C) && Value.builtin "BaseException.__getattribute__" == Value.builtin "object.__getattribute__") = false := by
  rw [show (Value.builtin "BaseException.__getattribute__" == Value.builtin "object.__getattribute__") = false from by decide +kernel, Bool.and_false]
 obtain ⟨cd, gcd, gv⟩ := PySem.W.any_some c.over;have isB : PySem.W.Looks (model prog w) s.heap (isInstance (.ref x) (.type "BaseException")) true :=
  J.type.andThen (PySem.W.looks_mroIn X (by unfold PySem.W.mroIn; rw [gcd, Option.bind_some, if_neg (by rw [(zz9 gv).2.2]; decide), zvt gv (by decide +kernel)]))
 unfold getAttrBy;refine wpAny_holding (wpAny_bind (J.type.here (wpAny_bind ((PySem.W.looks_findIn X c.ga).here ?_))));dsimp only;rw [neq, if_neg (by decide)];unfold getAttrByItsOwn;refine wpAny_bind ((PySem.W.looks_hook (r := none) X (by rw [if_pos (by rfl)]; exact c.gh)).here (wpAny_bind (wpAny_attempt (wpAny_holding ?_))));unfold callGetattribute;rw [show (expr && onTheHeap (Value.builtin "BaseException.__getattribute__")) = false from by cases expr <;> rfl, if_neg (by decide)];unfold boundAndCalled;rw [FB.ga.bind];refine wpAny_bind (wpAny_pure ?_);show wpAny _ _ (call (.builtin "BaseException.__getattribute__") [.ref x, .str name tk]) _ _ _;refine wpAny_call (codeAny_call_builtin FB.ga.plain PySem.F.entry_bexc_ga ?_);refine @PySem.W.check_slot (model prog w) _ _ s "BaseException.__getattribute__" "BaseException" "__getattribute__" (.ref x) [.str name tk] [] _ (by decide +kernel) (by decide +kernel) isB (PySem.F.args_bexc_ga (.ref x) (.str name tk)) ?_;refine wpAny_mono h (fun fin s' z => ?_) fun _ _ z => z.elim;rcases fin with (_ | _ | _ | _) | _ <;> first | exact z | exact z.elim
structure XKit (K : PySem.W.Frag) (C : Addr) : Prop extends XGet K C where
 ha : PySem.W.findIn K (.ref C) "__class__" = some (some (.builtin "object.__class__"))
 hn : PySem.W.specialIn K (.builtin "object.__class__") "__get__" = some (some (.builtin "getset_descriptor.__get__"))
 htk : PySem.W.takesIn K (.builtin "object.__class__") = some true
 hm : PySem.W.mroIn K C (.type "object") = some true
theorem z48 {ox : Obj} {od : Option Obj} {Q : Option Value -> Shared -> Prop} (X : K.In s.heap) (c : XKit K C) (J : PySem.W.InstAt s.heap x ox C od) (h : Q (some (.ref C)) { s with toks := s.toks + 1 }) :
 wpAny (model prog w) A (getAttr? (.ref x) "__class__") Q E s := by
 have fo : PySem.W.findObj K C od "__class__" = some (.bind (.builtin "getset_descriptor.__get__") (.builtin "object.__class__")) := by
  obtain ⟨cd, hc, _⟩ := PySem.W.any_some c.hd;unfold PySem.W.findObj;rw [hc, Option.bind_some, c.ha, Option.bind_some];simp [c.hn, c.htk]
 have L := PySem.W.looks_find (M := model prog w) X J fo;unfold getAttr? getAttrBy?;refine wpAny_bind (wpAny_mkText (wpAny_bind (wpAny_attempt (z7n (s := { s with toks := s.toks + 1 }) X c.toXGet J ?_))));unfold Builtin.«object.__getattribute__»;refine wpAny_bind (wpAny_pure (wpAny_bind (wpAny_pure (wpAny_bind (PySem.W.Looks.here (s := { s with toks := s.toks + 1 }) J.type (wpAny_bind (PySem.W.Looks.here (s := { s with toks := s.toks + 1 }) L ?_)))))));unfold bindTo;refine wpAny_bind (wpAny_holding (wpAny_call (PySem.W.class_get (s := { s with toks := s.toks + 1 }) (ox := ox) (od := od) X J c.hm (wpAny_pure (PySem.W.handed_on rfl (wpAny_pure h))))))
theorem zyp {ox : Obj} {od : Option Obj} (c : XKit K C) : PySem.W.KitX K (.ref x) (.ref C) (fun h => PySem.W.InstAt h x ox C od) where
 ty := fun _ _ _ I => I.type
 it := fun _ _ X _ => by
  obtain ⟨cd, hc, _⟩ := PySem.W.any_some c.hd;unfold PySem.W.clsIn at hc
  split at hc
  case h_1 q =>
   intro A' Q' E' s' k z;unfold isType loadHead;exact wpAny_bind (wpAny_loadPart (k _ _ (X _ _ q)) (wpAny_pure z))
  case h_2 => cases hc
 ne := fun h tp dd its n sl X htp => by
  obtain ⟨cd, hc, _⟩ := PySem.W.any_some c.hd;refine Bool.eq_false_iff.mpr fun w => ?_;obtain rfl : C = tp := Value.ref.inj (beq_iff_eq.mp w);unfold PySem.W.clsIn at hc
  split at hc
  case h_1 q => cases (X _ _ q).symm.trans htp
  case h_2 => cases hc
 ca := fun X I k => z48 X c I k
end
def excL (x C : Addr) (dx : Option Addr) : HO := .ext fun h => ∃ o, h.get? x = some o /\ o.cls = .ref C /\ o.dict = dx /\ PySem.W.notCls o = true
theorem z14 {P : Program} {w : World} {H : Hp} {h : Heap} {x C : Addr} {dx : Option Addr} {o : Obj} (e : h.get? x = some o) (e1 : o.cls = .ref C) (e2 : o.dict = dx) (e3 : PySem.W.notCls o = true) : zfb P w H h x (excL x C dx) :=
 ⟨⟨o, e, e1, e2, e3⟩, ⟨o, e⟩, fun _ _ z k => let ⟨o, e, e1⟩ := z; ⟨o, k _ e, e1⟩⟩
theorem zyq {P : Program} {w : World} {H : Hp} {h : Heap} {x C : Addr} {dx : Option Addr} (ok : HOk P w H h) (e : H x = some (excL x C dx)) : ∃ o, h.get? x = some o /\ o.cls = .ref C /\ o.dict = dx /\ PySem.W.notCls o = true := (ok x _ e).1
def goes (i : Nat) (D : Ends) : Ends := { nx := fun σ H => D.nx (σ.set i none) H, bk := fun σ H => D.bk (σ.set i none) H, ct := fun σ H => D.ct (σ.set i none) H, rt := D.rt }
def z49 (K : PySem.W.Frag) (D : Addr) (i : Nat) (ts : TS) (tr : THd) : THd := fun cls dx ea En σ H => ∃ C bmC, cls = .ref C /\ zcu K C = some bmC /\
 if (Value.ref C :: bmC).contains (.ref D) = true then (H ea = none -> ts (goes i En) (σ.set i (some (.ref ea))) (upd H ea (excL ea C dx))) else tr cls dx ea En σ H
section
variable {X : Cx}
theorem zs0 {es : Array DictEntry} (sk : StrKeys es) {oc : Value} {od : Option Addr} {ep : Nat} {osl : Array (Option Value)} (y : Str) : nsLookByArray y ⟨oc, od, .dict es ep, osl⟩ = pure (nsFind es y) := by
 unfold nsLookByArray nsFind findBy;dsimp only;cases q : es.find? (fun e => e.key.isStr y) with
 | some en => rfl
 | none =>
   have noref : (es.any fun e => e.refKey) = false := by
    rw [Array.any_eq_false'];intro en hen;obtain ⟨_, _, z⟩ := sk en hen;simp [DictEntry.refKey, z]
   dsimp only;rw [noref]; rfl
theorem zuh {M : Model} {A : Around} {E : Value -> Shared -> Prop} {s : Shared} {a : Addr} {m : Str -> Option Value} {name : Str} {u : Value} {Q : Bool -> Shared -> Prop} (hn : s.heap.Ns a m) (hu : m name = some u)
 (hQ : ∀ h' m', h'.Ns a m' -> (∀ y, y ≠ name -> m' y = m y) -> Heap.SameBut a s.heap h' -> Q true { s with heap := h' }) : wpAny M A (nsDel a name) Q E s := by
 obtain ⟨o, es, ep, ho, hd, sk, look⟩ := hn;obtain ⟨en, gen, _⟩ := Option.map_eq_some_iff.mp (show (es.find? fun e => e.key.isStr name).map (·.val) = some u from (look name).trans hu);have gk : en.key.isStr name = true := by
  have := Array.find?_some (p := fun e : DictEntry => e.key.isStr name) gen;exact this
 have isIn : (es.any fun e => e.key.isStr name) = true := Array.any_eq_true'.mpr ⟨en, Array.mem_of_find?_eq_some gen, gk⟩;obtain ⟨j, hj⟩ : ∃ j, es.findIdx? (fun e => e.key.isStr name) = some j := by
  cases q : es.findIdx? (fun e => e.key.isStr name) with
  | some j => exact ⟨j, rfl⟩
  | none =>
    have := (Array.findIdx?_eq_none_iff.mp q) en (Array.mem_of_find?_eq_some gen);rw [gk] at this; cases this
 have has : nsHas name o = pure true := by
  rw [nsHas_eq]; unfold nsHasByArray; rw [hd];show (if (es.any fun e => e.key.isStr name) = true then _ else _) = _;rw [isIn]; rfl
 unfold nsDel;refine wpAny_bind (wpAny_loadPart ho ?_);rw [has];refine wpAny_bind (wpAny_pure (wpAny_bind (wpAny_updatePart ho (wpAny_pure ?_))));obtain ⟨oc, od, odt, osl⟩ := o;have hd : odt = .dict es ep := hd;subst hd;have e1 : Obj.dropName name ⟨oc, od, .dict es ep, osl⟩ = ⟨oc, od, .dict (es.eraseIdxIfInBounds j) (ep + 1), osl⟩ := by rw [Obj.dropName_eq]; simp only [Obj.dropNameByArray, hj]
 have sk2 := sk.erase j;refine hQ _ (nsFind (es.eraseIdxIfInBounds j)) ⟨_, _, _, Heap.get?_update_self _ ho (by rw [e1]; rfl), by rw [e1], sk2, fun _ => rfl⟩ (fun y hy => ?_) (Heap.SameBut.update ..);have l1 := nsLook_dropName hy ⟨oc, od, .dict es ep, osl⟩;rw [e1, nsLook_eq, zs0 sk2, zs0 sk] at l1;have l2 : nsFind (es.eraseIdxIfInBounds j) y = nsFind es y := by injection l1
 rw [l2, look]
theorem Inv.gone {pins : List (Addr × Obj)} {σ : St} {H : Hp} {s : Shared} {i : Nat} {x : Str} {h' : Heap} {t' : Nat} {m m' : Str -> Option Value} (I : Inv X pins σ H s) (hN : X.N.Nodup) (hi : X.N[i]? = some x) (hk : ∀ u : V, X.kn[i]? ≠ some (some u))
 (hm : ∀ (j : Nat) (y : Str) (v : V), X.N[j]? = some y -> σ[j]? = some (some v) -> Vis X.env.scope y -> ∃ u, RelV v u /\ Look X.env s.heap m y u)
 (hn : h'.Ns X.env.locals m') (oth : ∀ y, y ≠ x -> m' y = m y) (sb : Heap.SameBut X.env.locals s.heap h') : Inv X pins (σ.set i none) H { s with heap := h', toks := t' } := by
 have hL : ∀ b o, X.s₀.heap.get? b = some o -> b ≠ X.env.locals := fun b o e => Nat.ne_of_lt (Nat.lt_of_lt_of_le (Heap.lt_size e) I.ok.above);have hiσ : i < σ.length := by rw [I.len]; exact (List.getElem?_eq_some_iff.mp hi).1
 refine ⟨I.ok, I.os, I.bare, ⟨fun b o e n hb hx => (sb.2 b (hL b o e)).trans (I.base.keep b o e n hb hx), fun b o e n hb hx => ?_, I.base.free, fun b o e hx => ?_, I.base.tups, I.base.frzs, I.base.tbls⟩, ⟨m', hn, fun j y v e1 e2 e3 => ?_⟩, fun y c e => ?_, I.free, I.freeC, fun p hp => ?_, fun b ob e => ?_, ?_, fun j v e => ?_⟩
 ·obtain ⟨sl, e1⟩ := I.base.slot b o e n hb hx
  exact ⟨sl, (sb.2 b (hL b o e)).trans e1⟩
 ·obtain ⟨o', e1⟩ := I.base.there b o e hx
  exact ⟨o', (sb.2 b (hL b o e)).trans e1⟩
 ·by_cases hj : j = i
  ·subst hj
   rw [List.getElem?_set_self hiσ] at e2;cases e2
  ·rw [List.getElem?_set_ne (Ne.symm hj)] at e2
   obtain ⟨u', r', q⟩ := hm j y v e1 e2 e3;refine ⟨u', r', ?_⟩;rcases q with ⟨k, e⟩ | ⟨k, c, e, z⟩
   ·exact .inl ⟨k, by rw [oth y fun w => hj (zoa hN e1 (w ▸ hi))]; exact e⟩
   ·exact .inr ⟨k, c, e, z.sameBut sb (I.cne y c e)⟩
 ·obtain ⟨w', z⟩ := I.cell y c e
  exact ⟨w', z.sameBut sb (I.cne y c e)⟩
 ·obtain ⟨e, n, ne, nf, d⟩ := I.pin p hp
  exact ⟨(sb.2 p.1 ne).trans e, n, ne, nf, d⟩
 ·refine (I.hok b ob e).stay (fun c w' hc q => (sb.2 c ?_).trans q) (fun _ q => q) fun _ _ q => q
  rintro rfl;rcases hc with z | z
  ·rw [<- z, I.free] at e; cases e
  ·rw [I.free] at z; cases z
 ·show (σ.set i none).length = _
  rw [List.length_set]; exact I.len
 ·by_cases hj : j = i
  ·subst hj; exact absurd e (hk v)
  ·rw [List.getElem?_set_ne (Ne.symm hj)]; exact I.kn j v e
theorem zjq {pins : List (Addr × Obj)} {σ : St} {H : Hp} {s : Shared} {A : Around} {E : Value -> Shared -> Prop} {i : Nat} {x : Str} {pos : Pos} {Q : Unit -> Shared -> Prop} (I : Inv X pins σ H s) (hN : X.N.Nodup) (hi : X.N[i]? = some x) (hx : X.env.scope.names.lookup x = some .local) (hk : ∀ u : V, X.kn[i]? ≠ some (some u))
 (h : ∀ s', Inv X pins (σ.set i none) H s' -> Q () s') : wpAny (model X.prog X.w) A (do bindName X.env x .none; unbindBehindTheSuite X.env x pos) Q E s := by
 have nocls : (X.env.scope.kind == .class || (X.env.scope.kind == .module && X.env.locals != X.env.globals)) = false := by rw [I.ok.kind]; rfl
 have kx : X.env.kindOf x = some .local := hx;have hiσ : i < σ.length := by rw [I.len]; exact (List.getElem?_eq_some_iff.mp hi).1
 refine wpAny_bind (wpAny_bindName (zlh (v := .non) I hN hi (.inl hx) rfl (fun s1 I1 => ?_) (.inr hx) hk));obtain ⟨m, hn, hl⟩ := id I1.loc;obtain ⟨u, _, lk⟩ := hl i x .non hi (List.getElem?_set_self hiσ) (.inl hx);have hu : m x = some u := by
  rcases lk with ⟨_, z⟩ | ⟨z, _⟩
  ·exact z
  ·rw [kx] at z; rcases z with z | z <;> cases z
 unfold unbindBehindTheSuite unbindName deleteName;refine wpAny_onRaise (wpAny_bind (wpAny_point (wpAny_bind ?_)));simp only [kx, nocls];rw [if_neg (by decide)];refine wpAny_bind (zuh hn hu fun h' m' hn' oth sb => ?_);simp only [Bool.not_true, Bool.false_eq_true, if_false];refine wpAny_pure (wpAny_point ?_);have I2 := I1.gone (t' := s1.toks) hN hi hk hl hn' oth sb;rw [List.set_set] at I2;exact h _ I2
theorem zyr {D : Addr} {bmD : List Value} {i : Nat} {x n : Str} {np pos : Pos} {b₀ : Stmt} {suite : List Stmt} {rest : List ExceptHandler} {ts : TS} {tr : THd} (hg : Gl X x) (hm : X.mg x = some (.ref D)) (qD : zcu X.K D = some bmD) (hN : X.N.Nodup) (hi : X.N[i]? = some n) (hx : X.env.scope.names.lookup n = some .local) (hk : ∀ u : V, X.kn[i]? ≠ some (some u))
 (hs : ∀ ea, PSs (X.inExc ea) (b₀ :: suite) ts) (hr : PH X rest tr) (hdb : (x == ("__debug__" : Str)) = false := by decide) :
 PH X (.ExceptHandler (some (.Name x np)) (some n) (b₀ :: suite) pos :: rest) (z49 X.K D i ts tr) := by
 intro pins s σ H En ea cls a0 dx B ok car car2 fly hd h;obtain ⟨C, bmC, rfl, qC, h⟩ := h;have I : Inv X pins σ H s := car s.heap fly.1 (.refl _);have I' := I.inExc ea;obtain ⟨oe, hoe, hoc⟩ := fly.there;refine wpAny_handleBy_cons (codeAny_handlers_test ?_) (by intro q; cases q);refine zhj (X := X.inExc ea) I' hg hm ?_ hdb;refine ziz I.kIn qC qD hoe hoc ?_;cases c : (Value.ref C :: bmC).contains (.ref D) with
 | false =>
   rw [c] at h;exact hr pins s σ H En ea _ a0 dx B ok car car2 fly hd (by simpa using h)
 | true =>
   rw [c] at h;have h : H ea = none -> ts (goes i En) (σ.set i (some (.ref ea))) (upd H ea (excL ea C dx)) := by simpa using h
   refine codeAny_handlers_suite_as ?_;refine wpAny_mono (znq zl1 hd.1 (lands_againW (Q := fun _ s2 => ∃ h6, s2 = { s with heap := h6 } /\ Heap.FlyingW B X.stack ea (.ref C) a0 h6 /\ Heap.UpToSlots s.heap h6) fly fun h6 fly6 sm6 => ⟨h6, rfl, fly6, sm6⟩)) (fun _ s2 z => ?_) fun _ _ z => z.1;obtain ⟨⟨h6, rfl, fly6, sm6⟩, oh, go, gd⟩ := z;obtain ⟨o1, vs1, g1, g2, g3, _⟩ := fly6.first
   have go : h6.get? ea = some oh := go;rw [g1] at go; cases go;have I6 : Inv X pins σ (upd H ea (excL ea C dx)) { s with heap := h6 } := car2 h6 _ fly6.1 sm6 (z14 g1 g2 gd (by unfold PySem.W.notCls; rw [g3]));refine zlh (X := X.inExc ea) (v := .ref ea) (I6.inExc ea) hN hi (.inl hx) rfl (fun s3 I3 => ?_) (.inr hx) hk;refine wpAny_mono (hs ea pins s3 _ _ (goes i En) I3 (h hd.2)) (fun f s4 q => ?_) fun _ _ z => z.elim;cases f with
   | next => obtain ⟨a, b, c, d⟩ := q; exact zjq (c.outExc ok) hN hi hx hk fun s5 I5 => ⟨_, _, I5, d⟩
   | brk => obtain ⟨a, b, c, d⟩ := q; exact zjq (c.outExc ok) hN hi hx hk fun s5 I5 => ⟨_, _, I5, d⟩
   | cont => obtain ⟨a, b, c, d⟩ := q; exact zjq (c.outExc ok) hN hi hx hk fun s5 I5 => ⟨_, _, I5, d⟩
   | ret u => obtain ⟨v, a, b, c, r, d⟩ := q; exact zjq (c.outExc ok) hN hi hx hk fun s5 I5 => ⟨v, _, _, I5, r, d⟩
variable {e : Expr} {f : Str} {pos : Pos} {ta : TE}
theorem znr : zjl X (.builtin "isinstance") (fun xs H Q => ∃ a C dx c cu b, xs = [.ref a, c] /\ (∀ u, RelV c u -> u = cu) /\ H a = some (excL a C dx) /\ XKit X.K C /\ PySem.W.kitOne X.K (.ref C) cu = some b /\ (∀ d, dx = some d -> ∃ fs, H d = some (.xd fs)) /\ Q (.bl b) H) := by
 intro pins s σ H xs us Q I r h;obtain ⟨a, C, dx, c, cu, b, rfl, hu, ea, k, e, hdx, q⟩ := h;obtain ⟨u, w', rfl, rx, rc⟩ := z7a r;cases hu w' rc;cases (show u = Value.ref a from rx);obtain ⟨o, g1, g2, g3, g4⟩ := zyq I.hok ea;have J : ∃ od, PySem.W.InstAt s.heap a o C od := by
  cases dx with
  | none => exact ⟨none, g1, g2, g4, by rw [g3]; trivial⟩
  | some d =>
    obtain ⟨fs, ed⟩ := hdx d rfl;obtain ⟨od, ho⟩ := (I.hok d _ ed).there;exact ⟨some od, g1, g2, g4, by rw [g3]; exact ho⟩
 obtain ⟨od, J⟩ := J;exact PySem.W.kia_one (zyp k) I.kIn J e (fun z => nomatch z) fun tk => ⟨.bl b, H, I.tok tk, rfl, q⟩
end
end L2
namespace L2
open PySem PySem.Spec PyProof.Rows
section
variable {X : Cx} {pins : List (Addr × Obj)} {σ : St} {H : Hp} {s : Shared} {a : Addr}
theorem Inv.swap {o1 o2 : HO} (I : Inv X pins σ H s) (e : H a = some o1) (n1 : ∀ xs, o1 ≠ .tup xs) (n2 : ∀ x, o1 ≠ .own x) (n3 : ∀ ps, o1 ≠ .tbl ps) (hz : ∀ o u, X.H₀ a = some (.frz o u) -> o2 = .frz o u)
 (new : zfb X.prog X.w (upd H a o2) s.heap a o2) : Inv X pins σ (upd H a o2) s := by
 have hf : ∀ b, H b = none -> upd H a o2 b = none := fun b n => by rw [zai (by rintro rfl; rw [e] at n; cases n)]; exact n
 have tu : ∀ b xs, H b = some (.tup xs) -> upd H a o2 b = some (.tup xs) := fun b xs n => by rw [zai (by rintro rfl; rw [e] at n; exact n1 xs (Option.some.inj n))]; exact n
 refine ⟨I.ok, I.os, I.bare, ⟨I.base.keep, I.base.slot, fun b o q n hx => hf b (I.base.free b o q n hx), I.base.there, fun b xs q => tu b xs (I.base.tups b xs q), fun b o u q => ?_, fun b ps q => ?_⟩, I.loc, I.cell, hf _ I.free, fun x c q => hf c (I.freeC x c q), fun p hp => ?_, fun b u q => ?_, I.len, I.kn⟩
 ·by_cases hb : b = a
  ·subst hb; rw [zaj, hz o u q]
  ·rw [zai hb]; exact I.base.frzs b o u q
 ·obtain ⟨m, q'⟩ := I.base.tbls b ps q
  exact ⟨m, by rw [zai (by rintro rfl; rw [e] at q'; exact n3 _ (Option.some.inj q'))]; exact q'⟩
 ·obtain ⟨a1, a2, a3, a4, a5⟩ := I.pin p hp
  exact ⟨a1, hf _ a2, a3, a4, a5⟩
 ·by_cases hb : b = a
  ·subst hb; rw [zaj] at q; cases q; exact new
  ·rw [zai hb] at q
   exact (I.hok b u q).stay (fun _ _ _ z => z) (fun c z => by rw [zai (by rintro rfl; rw [e] at z; exact n2 _ (Option.some.inj z))]; exact z) tu
theorem Inv.freeze {kvs : List (Key × V)} (I : Inv X pins σ H s) (e : H a = some (.dK kvs)) : (∀ o u, X.H₀ a ≠ some (.frz o u)) /\ ∃ o, s.heap.get? a = some o /\ Inv X pins σ (upd H a (.frz o (.dK kvs))) s := by
 have nf : ∀ o u, X.H₀ a ≠ some (.frz o u) := fun o u q => by
  have z := I.base.frzs a o u q;rw [e] at z;cases z
 obtain ⟨z, y, vs, r, o, es, ep, q, c⟩ := I.hok a _ e;exact ⟨nf, o, q, I.swap e (fun _ h => nomatch h) (fun _ h => nomatch h) (fun _ h => nomatch h) (fun o u q => absurd q (nf o u)) ⟨q, z, y, vs, r, o, es, ep, q, c⟩⟩
theorem Inv.thaw {o : Obj} {kvs : List (Key × V)} (I : Inv X pins σ H s) (nf : ∀ o u, X.H₀ a ≠ some (.frz o u)) (e : H a = some (.frz o (.dK kvs))) : Inv X pins σ (upd H a (.dK kvs)) s := by
 obtain ⟨_, z⟩ := I.hok a _ e;exact I.swap e (fun _ h => nomatch h) (fun _ h => nomatch h) (fun _ h => nomatch h) (fun o u q => absurd q (nf o u)) z
theorem Inv.frozen {o : Obj} {kvs : List (Key × V)} {es : Array DictEntry} {ep : Nat} (I : Inv X pins σ H s) (e : H a = some (.frz o (.dK kvs))) (hd : o.data = .dict es ep) :
 kvs.length <= sizeLine /\ (a == sysModules) = false /\ ∃ vs, KV kvs vs /\ s.heap.DictAt (za7 X.prog X.w) a vs ep := by
 obtain ⟨q, z, y, vs, r, o', es', ep', q', c1, c2, c3⟩ := I.hok a _ e;rw [q] at q';cases q';rw [hd] at c2;cases c2;exact ⟨z, y, vs, r, o, es, q, c1, hd, c3⟩
end
theorem KV.at {kvs : List (Key × V)} {vs : List (Key × Value)} (r : KV kvs vs) {i : Nat} {k : Key} {v : V} (e : kvs[i]? = some (k, v)) : ∃ u, vs[i]? = some (k, u) /\ RelV v u := by
 induction r generalizing i with
 | nil => simp at e
 | cons p t ih =>
   cases i with
   | zero =>
     simp at e;rename_i a b _ _;obtain ⟨p1, p2⟩ := p;refine ⟨b.2, ?_, ?_⟩
     ·simp only [List.getElem?_cons_zero, Option.some.injEq]
      rw [e] at p1;exact Prod.ext p1.symm rfl
     ·rw [e] at p2; exact p2
   | succ j =>
     obtain ⟨u, h1, h2⟩ := ih (i := j) (by simpa using e);exact ⟨u, by simpa using h1, h2⟩
theorem zrk {P : Program} {w : World} {k : Key} {u : Value} (h : (za7 P w).is k u = true) : RelV (kV k) u := by
 rcases zbn h with ⟨i, t, rfl, rfl⟩ | ⟨x, t, rfl, rfl⟩
 ·exact ⟨t, rfl⟩
 ·exact ⟨t, rfl⟩
def Itd (a : Addr) (o : Obj) (kvs : List (Key × V)) : It :=
 ⟨fun i H => H a = some (.frz o (.dK kvs)) /\ i < kvs.length, fun i H x H' => ∃ p k v, kvs[i]? = some (k, v) /\ H p = none /\ x = .ref p /\ H' = upd H p (.tup [kV k, v]), fun i H => H a = some (.frz o (.dK kvs)) /\ kvs.length <= i⟩
def Itk (a : Addr) (o : Obj) (kvs : List (Key × V)) : It :=
 ⟨fun i H => H a = some (.frz o (.dK kvs)) /\ i < kvs.length, fun i H x H' => ∃ k v, kvs[i]? = some (k, v) /\ x = kV k /\ H' = H, fun i H => H a = some (.frz o (.dK kvs)) /\ kvs.length <= i⟩
theorem zui {P : Program} {w : World} {K : PySem.W.Frag} {elts : List Expr} {kk : Nat} {tp : Pos} {a it : Addr} {o : Obj} {es : Array DictEntry} {ep : Nat} {kvs : List (Key × V)} (hd : o.data = .dict es ep) :
 Turn P w K (.Tuple elts kk tp) (Itd a o kvs) [it] it (fun i h => ∃ ok ov, IsItemIter h it a i kvs.length ep ok ov) where
 mem := by simp
 obj := fun i h ⟨ok, ov, e⟩ b hb => by
  obtain rfl : b = it := by simpa using hb
  exact ⟨_, e, (fun v z => nomatch z)⟩
 keep := fun i h h' ⟨ok, ov, e⟩ k => ⟨ok, ov, k it (by simp) _ e⟩
 item := by
  intro X e1 e2 e3 hc i pins s σ H E I fp ⟨ok, ov, e⟩ ⟨hz, hi⟩;subst e1 e2 e3;obtain ⟨f1, f2, f3, f4, f5, f6⟩ := fp it (by simp);obtain ⟨zl, _, vs, r, da⟩ := I.frozen hz hd;obtain ⟨⟨k, v⟩, hk⟩ : ∃ p, kvs[i]? = some p := ⟨kvs[i], by simp [hi]⟩;obtain ⟨u, hu, ru⟩ := r.at hk;have hl : vs.length = kvs.length := r.length.symm;refine wpAny_pyNext_items_item (knd := za7 X.prog X.w) (kvs := vs) (ok := ok) (ov := ov) (by rw [hl]; exact e) da hu fun key h1 hkey io ht hsz keep => ⟨_, rfl, ?_⟩;refine wpAny_letOwnedTupleGo_items (i := i + 1) (n := vs.length) io fun h2 io2 sb => ?_;have hp : s.heap.objs.size ≠ it := Nat.ne_of_gt (Heap.lt_size e);have I1 : Inv X pins σ (upd H s.heap.objs.size (.tup [kV k, v])) { s with heap := s.heap.push { cls := .type "tuple", data := .seq #[key, u] } } :=
   I.laid (t' := s.toks) (fun b q z => Heap.get?_push_of_some _ z) (Nat.le_refl _) ⟨by show 2 <= sizeLine; decide, [key, u], .cons (zrk hkey) (.cons ru .nil), _, Heap.get?_push_size _ rfl, rfl, _, rfl⟩
  have I2 := I1.turned (h' := h2) (t' := s.toks) (it := it) (fun b q hb z => by
   refine sb.extBut b q hb ?_;by_cases hbp : b = s.heap.objs.size
   ·rw [hbp] at z ⊢
    rw [Heap.get?_push_size _ rfl] at z;cases z;exact ht
   ·exact keep b q hb (by
     have := Heap.lt_size z;rw [Heap.size_push] at this;have lt : b < s.heap.objs.size := Nat.lt_of_le_of_ne (Nat.le_of_lt_succ this) hbp;cases z' : s.heap.get? b with
     | some q' => rw [Heap.get?_push_of_some _ z'] at z; exact z
     | none =>
       exfalso;have : (s.heap.push { cls := .type "tuple", data := .seq #[key, u] }).get? b = none := by
        simp only [Heap.get?, Heap.push] at z' ⊢;rw [Array.getElem?_push_lt lt];rw [Array.getElem?_eq_getElem lt] at z';exact z'
       rw [this] at z; cases z)) (by rw [zai (Ne.symm hp)]; exact f1) f2 f4 f5 f6
  exact ⟨.ref s.heap.objs.size, _, I2, rfl, ⟨_, k, v, hk, I.hok.fresh (Nat.le_refl _), rfl, rfl⟩, ⟨_, _, by rw [<- hl]; exact io2⟩, fun b hb => by
   obtain rfl : b = it := by simpa using hb
   rw [zai (Ne.symm hp)]; exact f1⟩
 done := by
  intro X e1 e2 e3 hc i pins s σ H E I fp ⟨ok, ov, e⟩ ⟨hz, hi⟩;subst e1 e2 e3;obtain ⟨f1, f2, f3, f4, f5, f6⟩ := fp it (by simp);obtain ⟨zl, _, vs, r, da⟩ := I.frozen hz hd;have hl : vs.length = kvs.length := r.length.symm;exact wpAny_pyNext_items_end (knd := za7 X.prog X.w) (kvs := vs) (ok := ok) (ov := ov) (I.ok.hd hc) (by rw [hl]; exact e) da (List.getElem?_eq_none_iff.mpr (by omega)) fun h' hx => ⟨rfl, I.turned (t' := s.toks) (fun b q hb z => hx b q hb z) f1 f2 f4 f5 f6⟩
 self := fun A i s Q E ⟨ok, ov, e⟩ h => PySem.W.kcp_self e h
theorem zvy {P : Program} {w : World} {K : PySem.W.Frag} {tg : Expr} {a it : Addr} {o : Obj} {es : Array DictEntry} {ep : Nat} {kvs : List (Key × V)} (hd : o.data = .dict es ep) :
 Turn P w K tg (Itk a o kvs) [it] it (fun i h => h.IsKeyIter it a i kvs.length ep) where
 mem := by simp
 obj := fun i h ⟨q, e, c, d⟩ b hb => by
  obtain rfl : b = it := by simpa using hb
  exact ⟨_, e, fun v z => by rw [d] at z; cases z⟩
 keep := fun i h h' ⟨q, e, c⟩ k => ⟨q, k it (by simp) _ e, c⟩
 item := by
  intro X e1 e2 e3 hc i pins s σ H E I fp e ⟨hz, hi⟩;subst e1 e2 e3;obtain ⟨f1, f2, f3, f4, f5, f6⟩ := fp it (by simp);obtain ⟨zl, _, vs, r, da⟩ := I.frozen hz hd;obtain ⟨⟨k, v⟩, hk⟩ : ∃ p, kvs[i]? = some p := ⟨kvs[i], by simp [hi]⟩;obtain ⟨u, hu, ru⟩ := r.at hk;have hl : vs.length = kvs.length := r.length.symm;refine wpAny_pyNext_dict_item (knd := za7 X.prog X.w) (kvs := vs) (by rw [hl]; exact e) da hu fun key h1 hkey io sb => ⟨_, rfl, ?_⟩;have I2 : Inv X pins σ H { s with heap := h1 } := I.turned (h' := h1) (t' := s.toks) (it := it) (fun b q hb z => sb.extBut b q hb z) f1 f2 f4 f5 f6;refine PyProof.Rows.letGo_keyiter io ⟨kV k, H, I2, zrk hkey, ⟨k, v, hk, rfl, rfl⟩, by rw [<- hl]; exact io, fun b hb => ?_⟩;obtain rfl : b = it := by simpa using hb
  exact f1
 done := by
  intro X e1 e2 e3 hc i pins s σ H E I fp e ⟨hz, hi⟩;subst e1 e2 e3;obtain ⟨f1, f2, f3, f4, f5, f6⟩ := fp it (by simp);obtain ⟨zl, _, vs, r, da⟩ := I.frozen hz hd;have hl : vs.length = kvs.length := r.length.symm;exact wpAny_pyNext_dict_end (knd := za7 X.prog X.w) (kvs := vs) (I.ok.hd hc) (by rw [hl]; exact e) da (List.getElem?_eq_none_iff.mpr (by omega)) fun h' hx => ⟨rfl, I.turned (t' := s.toks) (fun b q hb z => hx b q hb z) f1 f2 f4 f5 f6⟩
 self := fun A i s Q E e h => wpAny_pyIter_keyiter e h
section
variable {X : Cx} {tg : Expr}
def z5a (X : Cx) (te : TE) : TI := fun σ H R => te σ H fun x H1 => ∃ a kvs, x = .ref a /\
 ((H1 a = some (.dK kvs) /\ ∀ o, (∀ o' u, X.H₀ a ≠ some (.frz o' u)) -> R (Itd a o kvs) (upd H1 a (.frz o (.dK kvs)))) \/ ∃ o, H1 a = some (.frz o (.dK kvs)) /\ R (Itd a o kvs) H1)
def z5b (X : Cx) (te : TE) : TI := fun σ H R => te σ H fun x H1 => ∃ a kvs, x = .ref a /\
 ((H1 a = some (.dK kvs) /\ ∀ o, (∀ o' u, X.H₀ a ≠ some (.frz o' u)) -> R (Itk a o kvs) (upd H1 a (.frz o (.dK kvs)))) \/ ∃ o, H1 a = some (.frz o (.dK kvs)) /\ R (Itk a o kvs) H1)
theorem zs1 {pins : List (Addr × Obj)} {σ : St} {H : Hp} {s : Shared} {a : Addr} {o : Obj} {kvs : List (Key × V)} (I : Inv X pins σ H s) (e : H a = some (.frz o (.dK kvs))) : s.heap.get? a = some o /\ ∃ es ep, o.data = .dict es ep := by
 obtain ⟨q, z, y, vs, r, o', es', ep', q', c1, c2, c3⟩ := I.hok a _ e;rw [q] at q';cases q';exact ⟨q, es', ep', c2⟩
theorem zvz {l : Expr} {tl : TE} (hl : PE X l tl) : PI X tg l (z5b X tl) := by
 intro pins s σ H R I h;refine thn (hl pins s σ H _ I h) fun u s1 hq_ => ?_;obtain ⟨x, H1, I1, r1, a, kvs, e, q⟩ := hq_;subst e;obtain rfl : u = Value.ref a := r1;have go : ∀ (o : Obj) (H2 : Hp), Inv X pins σ H2 s1 -> H2 a = some (.frz o (.dK kvs)) -> R (Itk a o kvs) H2 -> wpAny (model X.prog X.w) X.A (pyIter (.ref a)) (PIE X pins σ tg R) X.xe s1 := fun o H2 I2 e2 q2 => by
  obtain ⟨g, es, ep, hd⟩ := zs1 I2 e2;obtain ⟨zl, zm, vs, r, da⟩ := I2.frozen e2 hd;have hlen : vs.length = kvs.length := r.length.symm;refine wpAny_pyIter_dict (knd := za7 X.prog X.w) zm da ?_;have I3 := I2.kept (h' := s1.heap.push { cls := .type "dict_keyiterator", data := .fields #[.ref a, .int 0 0, .int vs.length 0, .int ep 0] }) (t' := s1.toks) fun b q z => Heap.get?_push_of_some _ z;refine ⟨s1.heap.objs.size, [s1.heap.objs.size], _, Itk a o kvs, H2, rfl, I3, zvy hd, ⟨_, Heap.get?_push_size _ rfl, rfl, by rw [hlen]; rfl⟩, fun b hb => ?_, q2⟩;obtain rfl : b = s1.heap.objs.size := by simpa using hb
  exact I2.fpOk (Nat.le_refl _) (I2.hok.fresh (Nat.le_refl _))
 rcases q with ⟨e1, q⟩ | ⟨o, e1, q⟩
 ·obtain ⟨nf, o, g, I2⟩ := I1.freeze e1
  exact go o _ I2 zaj (q o nf)
 ·exact go o _ I1 e1 q
theorem zys {l : Expr} {tl : TE} {elts : List Expr} {kk : Nat} {tp apos cpos : Pos} (hl : PE X l tl) (hbase : attributeBase l "items" X.env (eval l X.env) = eval l X.env := by rfl) (hline : (apos.endLine == cpos.line) = true := by rfl) :
 PI X (.Tuple elts kk tp) (.Call (.Attribute l "items" apos) [] [] cpos) (z5a X tl) := by
 intro pins s σ H R I h;refine wpAny_Call_method0_late hbase hline (thn (hl pins s σ H _ I h) fun u s1 hq_ => ?_);obtain ⟨x, H1, I1, r1, a, kvs, e, q⟩ := hq_;subst e;obtain rfl : u = Value.ref a := r1;have go : ∀ (o : Obj) (H2 : Hp), Inv X pins σ H2 s1 -> H2 a = some (.frz o (.dK kvs)) -> R (Itd a o kvs) H2 -> MethodOn X.prog X.w X.A "items" cpos (.ref a) [] (fun v s2 => wpAny (model X.prog X.w) X.A (pyIter v) (PIE X pins σ (.Tuple elts kk tp) R) X.xe s2) X.xe s1 := fun o H2 I2 e2 q2 => by
  obtain ⟨g, es, ep, hd⟩ := zs1 I2 e2;obtain ⟨zl, zm, vs, r, da⟩ := I2.frozen e2 hd;have hlen : vs.length = kvs.length := r.length.symm;obtain ⟨t1, t2, _⟩ := z4v I2 (.inl ⟨kvs, .inr ⟨o, e2⟩⟩);refine ⟨"dict", _, PySem.F.plainAttrs_dict, PySem.F.slot_dict_items, PySem.F.type_dict_items, t1, t2, Calls.callWith_builtin rfl (PySem.evalArgs_none ?_)⟩;refine call_meetsIn PySem.F.slot_dict_items t1 PySem.F.entry_dict_items (PySem.F.args_dict_items_1 _) (meets_dict_items (za7 X.prog X.w) a zm) ⟨⟨vs, da.dictOf⟩, ?_⟩;have I3 := I2.kept (h' := s1.heap.push { cls := .type "dict_items", data := .fields #[.ref a] }) (t' := s1.toks) fun b q z => Heap.get?_push_of_some _ z;refine wpAny_pyIter_items (d := a) (kvs := vs) (ep := ep) (knd := za7 X.prog X.w) ⟨_, Heap.get?_push_size _ rfl, rfl, rfl⟩ (da.push _) ?_;have I4 := I3.kept (h' := (s1.heap.push { cls := .type "dict_items", data := .fields #[.ref a] }).push { cls := .type "dict_itemiterator", data := .fields #[.none, .bool false, .ref a, .int 0 0, .int vs.length 0, .int ep 0, .none, .none] }) (t' := s1.toks) fun b q z => Heap.get?_push_of_some _ z;refine ⟨_, [_], _, Itd a o kvs, H2, rfl, I4, zui hd, ⟨.none, .none, by rw [<- hlen]; exact Heap.get?_push_size _ rfl⟩, fun b hb => ?_, q2⟩;rw [List.mem_singleton.mp hb];exact I3.fpOk (Nat.le_refl _) (I3.hok.fresh (Nat.le_refl _))
 rcases q with ⟨e1, q⟩ | ⟨o, e1, q⟩
 ·obtain ⟨nf, o, g, I2⟩ := I1.freeze e1
  exact go o _ I2 zaj (q o nf)
 ·exact go o _ I1 e1 q
def Th (X : Cx) (H : Hp) (R : Hp -> Prop) : Prop := ∃ a o kvs, H a = some (.frz o (.dK kvs)) /\ (∀ o' u, X.H₀ a ≠ some (.frz o' u)) /\ R (upd H a (.dK kvs))
theorem z15 {e : Expr} {t : TE} (h : PE X e t) : PE X e (fun σ H Q => t σ H fun v H' => Th X H' fun H'' => Q v H'') := by
 intro pins s σ H Q I q;refine thn (h pins s σ H _ I q) fun u s1 z => ?_;obtain ⟨v, H1, I1, rv, a, o, kvs, e, nf, r⟩ := z;exact ⟨v, _, I1.thaw nf e, rv, r⟩
end
end L2
namespace L2
open PySem PySem.Spec PyProof.Rows
def zpw (X : Cx) (scope : Scope) (cl : List (Str × Addr)) : List Str -> List Nat -> Prop
 | [], [] => True
 | x :: xs, j :: js => (X.N[j]? = some x /\ Vis X.env.scope x /\ (X.env.kindOf x = some .cell \/ X.env.kindOf x = some .free) /\ ((relabel scope X.env).names.lookup x = some .cell \/ (relabel scope X.env).names.lookup x = some .free) /\ cl.lookup x = X.env.cells.lookup x) /\ zpw X scope cl xs js
 | _, _ => False
def zpx (σ : St) (js : List Nat) : St := js.map fun j => (σ[j]?).join
theorem zpw.len {X : Cx} {scope : Scope} {cl : List (Str × Addr)} : ∀ {xs : List Str} {js : List Nat}, zpw X scope cl xs js -> xs.length = js.length
 | [], [], _ => rfl
 | _ :: xs, _ :: js, h => by simp [zpw.len h.2]
theorem zpw.get {X : Cx} {scope : Scope} {cl : List (Str × Addr)} : ∀ {xs : List Str} {js : List Nat} {k : Nat} {x : Str}, zpw X scope cl xs js -> xs[k]? = some x -> ∃ j, js[k]? = some j /\ X.N[j]? = some x /\ Vis X.env.scope x /\
 (X.env.kindOf x = some .cell \/ X.env.kindOf x = some .free) /\ ((relabel scope X.env).names.lookup x = some .cell \/ (relabel scope X.env).names.lookup x = some .free) /\ cl.lookup x = X.env.cells.lookup x
 | [], [], _, _, _, e => by simp at e
 | y :: xs, j :: js, 0, x, h, e => by
   simp at e;subst e;exact ⟨j, rfl, h.1⟩
 | y :: xs, j :: js, k + 1, x, h, e => by
   obtain ⟨j', h1, h2⟩ := zpw.get (k := k) h.2 (by simpa using e);exact ⟨j', by simpa using h1, h2⟩
abbrev za4 (X : Cx) (scope : Scope) (cl : List (Str × Addr)) (N' : List Str) (fp : List Addr) (s3 : Shared) (H2 : Hp) : Cx :=
 { X with N := N', s₀ := s3, H₀ := H2, env := compEnvC scope cl s3.heap.objs.size X.env, outer := X.stack, stack := X.stack, ex := fp, fn := fun _ => false, pn := [], xe := fun _ _ => False, kn := [] }
structure zf5 (X : Cx) (scope : Scope) (cl : List (Str × Addr)) (ts xs : List Str) (js : List Nat) : Prop where
 clos : closureFor scope X.env = pure cl
 ncell : ∀ y ∈ scope.names, y.2 ≠ .cell
 kind : scope.kind = .function
 names : ∀ y ∈ scope.names, y.2 = .local -> scope.names.lookup y.1 = some .local
 sub : ∀ p ∈ cl, X.env.cells.lookup p.1 = some p.2
 has : (scope.names.filter fun y => y.2 == .free).all (fun y => (cl.map (·.1)).contains y.1) = true
 cap : zpw X scope cl xs js
def tYes : TT := fun _ H Q => Q true H
def zs2 (p : Addr) (J : It) (g : TG) (tc : TT) (te : TE) (Q : VK) (W : Nat -> Nat -> St -> Hp -> List V -> Prop) : Prop :=
 ∀ i m σ2 H2 acc, W i m σ2 H2 acc -> H2 p = some (.lst acc) /\ ((J.stop i H2 /\ Q (.ref p) H2) \/ (J.go i H2 /\ ∃ N : St -> Hp -> List V -> Prop, (∀ σ' H' acc', N σ' H' acc' -> ∃ m', m' < m /\ W (i + 1) m' σ' H' acc') /\ ∀ x H3, J.yld i H2 x H3 -> g x σ2 H3 fun σ4 H4 => tc σ4 H4 fun ok H5 =>
     if ok = true then te σ4 H5 fun y H6 => H6 p = some (.lst acc) /\ acc.length < sizeLine /\ N σ4 (upd H6 p (.lst (acc ++ [y]))) (acc ++ [y]) else N σ4 H5 acc))
def zrl (nt : Nat) (js : List Nat) (wi : TI) (g : TG) (tc : TT) (te : TE) : TE := fun σ H Q => wi σ H fun J H1 => ∀ p, H1 p = none ->
 ∃ W : Nat -> Nat -> St -> Hp -> List V -> Prop, (∃ m, W 0 m (List.replicate nt none ++ zpx σ js) (upd H1 p (.lst [])) []) /\ zs2 p J g tc te Q W
section
variable {X : Cx} {pins : List (Addr × Obj)} {σ : St} {H1 : Hp} {s2 : Shared} {scope : Scope} {cl : List (Str × Addr)} {ts xs : List Str} {js : List Nat} {fp : List Addr} {it : Addr} {tn : Nat -> Heap -> Prop} {J : It} {tg : Expr}
theorem zns {s3 : Shared} {h4 : Heap} {tk : Nat} {H2 : Hp} (C : zf5 X scope cl ts xs js) (I3 : Inv X pins σ H2 s3) (fo : ∀ b ∈ fp, FpOk X pins H2 b) (fl : ∀ b ∈ fp, b < s3.heap.objs.size)
 (ns : ∃ m, h4.Ns s3.heap.objs.size m) (k : ∀ b o, s3.heap.get? b = some o -> h4.get? b = some o) :
 Inv (za4 X scope cl (ts ++ xs) fp s3 H2) [] (List.replicate ts.length none ++ zpx σ js) H2 { s3 with heap := h4, toks := tk } := by
 have lk : ∀ x c, cl.lookup x = some c -> X.env.cells.lookup x = some c := fun x c e => C.sub (x, c) (PySem.mem_of_lookup e);have clt : ∀ x c, X.env.cells.lookup x = some c -> c < s3.heap.objs.size := fun x c e => by
  obtain ⟨v, o, ho, _⟩ := I3.cell x c e;exact Heap.lt_size ho
 have hasC : ∀ x, ((relabel scope X.env).names.lookup x = some .cell \/ (relabel scope X.env).names.lookup x = some .free) -> ∃ c, cl.lookup x = some c := fun x h => by
  have hfree : (x, NameKind.free) ∈ scope.names := by
   obtain ⟨k, hk, hm⟩ : ∃ k, (k = .cell \/ k = .free) /\ (x, k) ∈ (relabel scope X.env).names := by
    rcases h with h | h
    ·exact ⟨_, .inl rfl, PySem.mem_of_lookup h⟩
    ·exact ⟨_, .inr rfl, PySem.mem_of_lookup h⟩
   obtain ⟨⟨n, k'⟩, hm', e⟩ := List.mem_map.mp hm;have nc := C.ncell _ hm';dsimp only at e nc
   split at e
   ·rename_i c
    cases e;simp only [Bool.and_eq_true, beq_iff_eq] at c;rw [<- c.1.1];exact hm'
   ·cases e
    rcases hk with rfl | rfl
    ·exact absurd rfl nc
    ·exact hm'
  have q := List.all_eq_true.mp C.has _ (List.mem_filter.mpr ⟨hfree, rfl⟩);have q : x ∈ cl.map (·.1) := by simpa using q
  obtain ⟨⟨y, c⟩, hy, rfl⟩ := List.mem_map.mp q;cases z : cl.lookup y with
  | some c' => exact ⟨c', rfl⟩
  | none =>
    exfalso;have := List.lookup_eq_none_iff.mp z (y, c) hy;simp at this
 obtain ⟨m, hm⟩ := ns;refine ⟨⟨I3.ok.mod, C.kind, I3.ok.glob, I3.ok.blt, Nat.le_refl _, fun x y c h1 h2 => I3.ok.inj x y c (lk x c h1) (lk y c h2), fun x h => hasC x h, (fun x c h => nomatch h), I3.ok.hd, I3.ok.frames, .inl rfl, fun b hb => ⟨Nat.ne_of_lt (fl b hb), fun x c e => (fo b hb).2.2.2.2.1 x c (lk x c e)⟩,
  I3.bs, Nat.le_trans I3.ok.bsz I3.sz, fun b o e hb => ?_, fun b hb hf => ?_, I3.stack, I3.stkFree⟩,
  rfl, I3.bare, Un.kept k, ⟨m, hm, fun i x v e1 e2 e3 => ?_⟩, fun x c e => ?_, I3.hok.fresh (Nat.le_refl _), fun x c e => I3.freeC x c (lk x c e), fun p hp => absurd hp (by simp), I3.hok.kept k, ?_, (fun i v e => nomatch (show (none : Option (Option V)) = some (some v) from e))⟩
 ·rcases (fo b hb).2.2.2.1 with z | z
  ·exact I3.ok.noex b o e z
  ·exact absurd (Nat.lt_of_lt_of_le (Heap.lt_size (I3.ok.bs b o e).1) z) (Nat.lt_irrefl _)
 ·rcases List.mem_cons.mp (I3.stkSub b hf) with z | z
  ·exact (fo b hb).2.1 z
  ·exact (fo b hb).2.2.1 z
 ·by_cases hi : i < ts.length
  ·rw [List.getElem?_append_left (by simpa using hi), List.getElem?_replicate] at e2
   split at e2 <;> cases e2
  ·have hi : ts.length <= i := Nat.not_lt.mp hi
   rw [List.getElem?_append_right hi] at e1;rw [List.getElem?_append_right (by simpa using hi), List.length_replicate] at e2;obtain ⟨j, hj, hN, hv, hk, hk2, hc⟩ := C.cap.get e1;unfold zpx at e2;rw [List.getElem?_map, hj] at e2;have e2 : (σ[j]?).join = some v := by simpa using e2
   have e4 : σ[j]? = some (some v) := by
    cases q : σ[j]? with
    | none => rw [q] at e2; cases e2
    | some o => rw [q] at e2; exact congrArg some e2
   obtain ⟨m0, _, hl⟩ := I3.loc;obtain ⟨u, ru, l⟩ := hl j x v hN e4 hv;refine ⟨u, ru, .inr ⟨hk2, ?_⟩⟩;rcases l with ⟨z, _⟩ | ⟨_, c, ec, cc⟩
   ·rcases hk with hk | hk <;> (rw [z] at hk; cases hk)
   ·obtain ⟨oc, ho, hd⟩ := cc
    exact ⟨c, hc.trans ec, oc, k _ _ ho, hd⟩
 ·obtain ⟨v, o, ho, hd⟩ := I3.cell x c (lk x c e)
  exact ⟨v, o, k _ _ ho, hd⟩
 ·show (List.replicate ts.length none ++ zpx σ js).length = (ts ++ xs).length
  rw [List.length_append, List.length_replicate, List.length_append, C.cap.len];simp [zpx]
theorem zs3 {s3 : Shared} {H2 H' : Hp} {s' : Shared} {σ' : St} (I3 : Inv X pins σ H2 s3) (fo : ∀ b ∈ fp, FpOk X pins H2 b) (Ic : Inv (za4 X scope cl (ts ++ xs) fp s3 H2) [] σ' H' s') :
 Inv X pins σ H' s' /\ (∃ m, s'.heap.Ns s3.heap.objs.size m) /\ H' s3.heap.objs.size = none :=
 ⟨I3.call' Ic.os Ic.base Ic.hok Ic.bare fun b hb => let ⟨_, f2, _, f4, f5, f6⟩ := fo b hb; ⟨f4, f2, f5, f6⟩, let ⟨m, hm, _⟩ := Ic.loc; ⟨m, hm⟩, Ic.free⟩
variable {elt iter c : Expr} {pos : Pos} {g : TG} {tc : TT} {te : TE} {Q : VK}
def zl4 (Xc : Cx) (fp : List Addr) (tn : Nat -> Heap -> Prop) (W : Nat -> Nat -> St -> Hp -> List V -> Prop) (n : Nat) (s' : Shared) : Prop :=
 ∃ i σ' H' acc, Inv Xc [] σ' H' s' /\ tn i s'.heap /\ (∀ b ∈ fp, H' b = none) /\ W i n σ' H' acc
theorem zpy {Xc : Cx} {p : Addr} {W : Nat -> Nat -> St -> Hp -> List V -> Prop} {n : Nat} {s' : Shared} {E : Value -> Shared -> Prop} {R : Option Value -> Shared -> Prop} (hc : Xc.calm = true) (T : Turn Xc.prog Xc.w Xc.K tg J fp it tn) (go : zs2 p J g tc te Q W)
 (hg : PG Xc tg g) (hxe : Xc.xe = fun _ _ => False) (fo : ∀ {H' : Hp} {b : Addr}, H' b = none -> b ∈ fp -> FpOk Xc [] H' b) (h : zl4 Xc fp tn W n s')
 (hend : ∀ σ' H' s1, Inv Xc [] σ' H' s1 -> Q (.ref p) H' -> R none s1)
 (hsome : ∀ v s1, wpAny (model Xc.prog Xc.w) Xc.A (letOwnedTupleGo tg (.ref it) v) (fun _ s2 => wpAny (model Xc.prog Xc.w) Xc.A (assign tg Xc.env v) (fun _ s3 => ∃ (i : Nat) (pins : List (Addr × Obj)) (acc : List V) (σ4 : St) (H4 : Hp) (N : St -> Hp -> List V -> Prop), Inv Xc pins σ4 H4 s3 /\ (∀ σ' H' acc', N σ' H' acc' -> ∃ m', m' < n /\ W (i + 1) m' σ' H' acc') /\
  (∀ b ∈ fp, ∃ o, (b, o) ∈ pins /\ s3.heap.get? b = some o) /\ (∀ h', (∀ b ∈ fp, ∀ o, s3.heap.get? b = some o -> h'.get? b = some o) -> tn (i + 1) h') /\
  tc σ4 H4 fun ok H5 => if ok = true then te σ4 H5 fun y H6 => H6 p = some (.lst acc) /\ acc.length < sizeLine /\ N σ4 (upd H6 p (.lst (acc ++ [y]))) (acc ++ [y]) else N σ4 H5 acc) E s2) E s1 -> R (some v) s1) :
 wpAny (model Xc.prog Xc.w) Xc.A (pyNext (.ref it)) R E s' := by
 obtain ⟨i, σ', H', acc, I, st, fr, w⟩ := h;obtain ⟨hp, cs⟩ := go i n σ' H' acc w;rcases cs with ⟨stop, q⟩ | ⟨gg, N, hN, step⟩
 ·refine thn (T.done Xc rfl rfl rfl hc i [] s' σ' H' E I (fun b hb => fo (fr b hb) hb) st stop) fun r s1 hq_ => ?_
  obtain ⟨hr, I1⟩ := hq_;subst hr;exact hend σ' H' s1 I1 q
 ·refine thn (T.item Xc rfl rfl rfl hc i [] s' σ' H' E I (fun b hb => fo (fr b hb) hb) st gg) fun r s1 hq_ => ?_
  obtain ⟨u, hr, h1⟩ := hq_;subst hr;refine hsome u s1 (thn h1 fun _ s2 hq_ => ?_);obtain ⟨x, H3, I3, r3, y3, st3, fr3⟩ := hq_;have I3' := I3.pinned (fun b hb => fo (fr3 b hb) hb) (T.obj _ _ st3);refine wpAny_mono (hg _ s2 σ' H3 x u _ I3' r3 (step x H3 y3)) (fun _ s3 ⟨σ4, H4, I4, q4⟩ => ?_) fun e s z => by rw [hxe] at z; exact z.elim
  have pn : ∀ b ∈ fp, ∀ o, s2.heap.get? b = some o -> s3.heap.get? b = some o := fun b hb o e => (I4.pin (b, o) (List.mem_append_right _ (List.mem_append_right _ (ziu hb e)))).1;refine ⟨i, _, acc, σ4, H4, N, I4, hN, fun b hb => ?_, fun h' k => T.keep _ _ _ st3 fun b hb o e => k b hb o (pn b hb o e), q4⟩;obtain ⟨o, e, _⟩ := T.obj _ _ st3 b hb;exact ⟨o, List.mem_append_right _ (ziu hb e), pn b hb o e⟩
theorem znt (hc : X.calm = true) (C : zf5 X scope cl ts xs js) (I2 : Inv X pins σ H1 s2) (T : Turn X.prog X.w X.K tg J fp it tn) (st : tn 0 s2.heap) (fo : ∀ b ∈ fp, FpOk X pins H1 b)
 (q : ∀ p, H1 p = none -> ∃ W : Nat -> Nat -> St -> Hp -> List V -> Prop, (∃ m, W 0 m (List.replicate ts.length none ++ zpx σ js) (upd H1 p (.lst [])) []) /\ zs2 p J g tc te Q W)
 (hg : ∀ fp s3 H2, PG (za4 X scope cl (ts ++ xs) fp s3 H2) tg g) (ht : ∀ fp s3 H2, PT (za4 X scope cl (ts ++ xs) fp s3 H2) c tc) (he : ∀ fp s3 H2, PE (za4 X scope cl (ts ++ xs) fp s3 H2) elt te)
 {RR : Value -> Addr -> Result -> Shared -> Prop} (hRR : ∀ p C H' s', Inv X pins σ H' s' -> (∃ m, s'.heap.Ns C m) -> H' C = none -> s2.heap.objs.size <= C -> Q (.ref p) H' -> RR (.ref p) C (.ok .next) s') :
 wpAny (model X.prog X.w) X.A (newList []) (fun acc s3 => wpAny (model X.prog X.w) X.A (newFunctionEnv scope X.env.globals cl [] X.env.qual none .none (some X.env)) (fun cenv s4 =>
  codeAny (model X.prog X.w) X.A (.compStart (.ListComp elt [⟨tg, iter, [c], 0⟩] scope pos) 0 (.ref it) acc { cenv with scope := relabel scope X.env }) (RR acc cenv.locals) s4) X.xe s3) X.xe s2 := by
 refine wpAny_newObj_type (wpAny_newFunctionEnv C.ncell (by intro y hy; simp at hy) (fun h4 ns4 sb4 => ?_) C.kind);dsimp only at ns4 sb4 ⊢;have I3 : Inv X pins σ (upd H1 s2.heap.objs.size (.lst [])) { s2 with heap := s2.heap.push { cls := .type "list", data := .seq ([] : List Value).toArray } } :=
  I2.laid (t' := s2.toks) (fun b o e => Heap.get?_push_of_some _ e) (Nat.le_refl _) ⟨Nat.zero_le _, [], _, .nil, Heap.get?_push_size _ rfl⟩
 generalize hs3 : ({ s2 with heap := s2.heap.push { cls := .type "list", data := .seq ([] : List Value).toArray } } : Shared) = s3 at I3;have hsz : s3.heap.objs.size = s2.heap.objs.size + 1 := by rw [<- hs3]; exact Heap.size_push ..
 have hp3 : s2.heap.push { cls := .type "list", data := .seq ([] : List Value).toArray } = s3.heap := by rw [<- hs3]
 obtain ⟨W, ⟨m0, w0⟩, go⟩ := q s2.heap.objs.size (I2.hok.fresh (Nat.le_refl _));have fl : ∀ b ∈ fp, b < s2.heap.objs.size := fun b hb => by
  obtain ⟨o, e, _⟩ := T.obj _ _ st b hb;exact Heap.lt_size e
 have fo3 : ∀ b ∈ fp, FpOk X pins (upd H1 s2.heap.objs.size (.lst [])) b := fun b hb => ⟨by rw [zai (Nat.ne_of_lt (fl b hb))]; exact (fo b hb).1, (fo b hb).2⟩;have k4 : ∀ b o, s3.heap.get? b = some o -> h4.get? b = some o := fun b o e => by
  have hb : b ≠ s3.heap.objs.size := Nat.ne_of_lt (Heap.lt_size e);rw [hp3] at sb4;exact sb4.extBut b o hb (Heap.get?_push_of_some _ e)
 rw [hp3] at ns4;have k24 : ∀ b o, s2.heap.get? b = some o -> h4.get? b = some o := fun b o e => k4 b o (by rw [<- hp3]; exact Heap.get?_push_of_some _ e);have st4 : tn 0 h4 := T.keep _ _ _ st fun b _ o e => k24 b o e;have Ic : Inv (za4 X scope cl (ts ++ xs) fp s3 (upd H1 s2.heap.objs.size (.lst []))) [] _ (upd H1 s2.heap.objs.size (.lst [])) { s3 with heap := h4, toks := s3.toks + ([] : List (Str × Value)).length } :=
  zns C I3 fo3 (fun b hb => by rw [hsz]; exact Nat.lt_succ_of_lt (fl b hb)) ⟨_, ns4⟩ k4
 have fo' : ∀ {H' : Hp} {b : Addr}, H' b = none -> b ∈ fp -> FpOk (za4 X scope cl (ts ++ xs) fp s3 (upd H1 s2.heap.objs.size (.lst []))) [] H' b := fun {H' b} n hb =>
  ⟨n, Nat.ne_of_lt (show b < s3.heap.objs.size by rw [hsz]; exact Nat.lt_succ_of_lt (fl b hb)), fun hf => (Ic.ok.exfs b hb) hf, .inl hb, fun x c e => (Ic.ok.exf b hb).2 x c e, fun p hp => absurd hp (by simp)⟩
 have loop : ∀ s4 : Shared, s4 = { s3 with heap := h4, toks := s3.toks + ([] : List (Str × Value)).length } -> codeAny (model X.prog X.w) X.A (.compLoop (.ListComp elt [⟨tg, iter, [c], 0⟩] scope pos) 0 (.ref it) (.ref s2.heap.objs.size) (compEnvC scope cl s3.heap.objs.size X.env)) (RR (.ref s2.heap.objs.size) s3.heap.objs.size) s4 := by
  rintro s4 rfl;refine PySem.W.kct_loop (zl4 (za4 X scope cl (ts ++ xs) fp s3 (upd H1 s2.heap.objs.size (.lst []))) fp tn W) (fun n s' hI => ?_) m0 ⟨0, _, _, [], Ic, st4, fun b hb => (fo3 b hb).1, w0⟩;refine zpy (Xc := za4 X scope cl (ts ++ xs) fp s3 (upd H1 s2.heap.objs.size (.lst []))) hc T go (hg _ _ _) rfl fo' hI (fun σ' H' s1 I1 q1 => ?_) (fun v s1 h1 => ?_)
  ·obtain ⟨J1, J2, J3⟩ := zs3 I3 fo3 I1
   exact hRR _ _ H' s1 J1 J2 J3 (by rw [hsz]; exact Nat.le_succ _) q1
  ·refine thn h1 fun _ s5 h5 => thn h5 fun _ s6 h6 => ?_
   obtain ⟨i, pins', acc, σ4, H4, N, I4, hN, pin4, keep4, q4⟩ := h6;have fin : ∀ {H7 : Hp} {s7 : Shared} {acc' : List V}, Inv (za4 X scope cl (ts ++ xs) fp s3 (upd H1 s2.heap.objs.size (.lst []))) pins' σ4 H7 s7 -> N σ4 H7 acc' -> ∃ m, m < n /\ zl4 (za4 X scope cl (ts ++ xs) fp s3 (upd H1 s2.heap.objs.size (.lst []))) fp tn W m s7 := fun {H7 s7 acc'} I7 n7 => by
    obtain ⟨m', hm, w7⟩ := hN _ _ _ n7;refine ⟨m', hm, i + 1, σ4, H7, acc', I7.pins_of (fun p hp => absurd hp (by simp)), keep4 _ fun b hb o e => ?_, fun b hb => ?_, w7⟩
    ·obtain ⟨o', hm', e'⟩ := pin4 b hb
     rw [e] at e';cases e';exact (I7.pin (b, o) (List.mem_append_right _ hm')).1
    ·obtain ⟨o', hm', e'⟩ := pin4 b hb
     exact (I7.pin (b, o') (List.mem_append_right _ hm')).2.1
   refine wpAny_mono (ht fp s3 _ pins' s6 σ4 H4 _ I4 q4) (fun ok s7 hq_ => ?_) fun _ _ z => z.elim;obtain ⟨H7, I7, q7⟩ := hq_;cases ok with
   | false =>
     have n7 : N σ4 H7 acc := by simpa using q7
     have := fin I7 n7;simpa using this
   | true =>
     have q7 := (if_pos (c := (true = true)) rfl).mp q7;show wpAny _ _ (eval elt _) _ _ _;refine wpAny_mono (he fp s3 _ pins' s7 σ4 H7 _ I7 q7) (fun y s8 hq_ => ?_) fun _ _ z => z.elim;obtain ⟨yv, H8, I8, ry, e8, l8, n8⟩ := hq_;refine wpAny_mono (zlz (X := za4 X scope cl (ts ++ xs) fp s3 (upd H1 s2.heap.objs.size (.lst []))) pins' s8 σ4 H8 (.ref s2.heap.objs.size) [yv] (.ref s2.heap.objs.size) [y] (fun _ H9 => H9 = upd H8 s2.heap.objs.size (.lst (acc ++ [yv]))) I8 rfl (.cons ry .nil) ⟨_, acc, yv, rfl, rfl, e8, l8, rfl⟩) (fun _ s9 hq_ => ?_) fun _ _ z => z.elim;obtain ⟨_, H9, I9, _, e9⟩ := hq_;subst e9;exact fin I9 n8
 have hself := T.self X.A 0 { s3 with heap := h4, toks := s3.toks + ([] : List (Str × Value)).length } (fun it' s' => codeAny (model X.prog X.w) X.A (.compLoop (.ListComp elt [⟨tg, iter, [c], 0⟩] scope pos) 0 it' (.ref s2.heap.objs.size) (compEnvC scope cl s3.heap.objs.size X.env)) (RR (.ref s2.heap.objs.size) s3.heap.objs.size) s') (notedBy (model X.prog X.w) X.A (compEnvC scope cl s3.heap.objs.size X.env) fun x s' => RR (.ref s2.heap.objs.size) s3.heap.objs.size (.error x) s') st4 (loop _ rfl);subst hs3;exact codeAny_compStart_list (loop _ rfl) hself
theorem znu (hc : X.calm = true) (C : zf5 X scope cl ts xs js) (I2 : Inv X pins σ H1 s2) (T : Turn X.prog X.w X.K tg J fp it tn) (st : tn 0 s2.heap) (fo : ∀ b ∈ fp, FpOk X pins H1 b)
 (q : ∀ p, H1 p = none -> ∃ W : Nat -> Nat -> St -> Hp -> List V -> Prop, (∃ m, W 0 m (List.replicate ts.length none ++ zpx σ js) (upd H1 p (.lst [])) []) /\ zs2 p J g tYes te Q W)
 (hg : ∀ fp s3 H2, PG (za4 X scope cl (ts ++ xs) fp s3 H2) tg g) (he : ∀ fp s3 H2, PE (za4 X scope cl (ts ++ xs) fp s3 H2) elt te)
 {RR : Value -> Addr -> Result -> Shared -> Prop} (hRR : ∀ p C H' s', Inv X pins σ H' s' -> (∃ m, s'.heap.Ns C m) -> H' C = none -> s2.heap.objs.size <= C -> Q (.ref p) H' -> RR (.ref p) C (.ok .next) s') :
 wpAny (model X.prog X.w) X.A (newList []) (fun acc s3 => wpAny (model X.prog X.w) X.A (newFunctionEnv scope X.env.globals cl [] X.env.qual none .none (some X.env)) (fun cenv s4 =>
  codeAny (model X.prog X.w) X.A (.compStart (.ListComp elt [⟨tg, iter, [], 0⟩] scope pos) 0 (.ref it) acc { cenv with scope := relabel scope X.env }) (RR acc cenv.locals) s4) X.xe s3) X.xe s2 := by
 refine wpAny_newObj_type (wpAny_newFunctionEnv C.ncell (by intro y hy; simp at hy) (fun h4 ns4 sb4 => ?_) C.kind);dsimp only at ns4 sb4 ⊢;have I3 : Inv X pins σ (upd H1 s2.heap.objs.size (.lst [])) { s2 with heap := s2.heap.push { cls := .type "list", data := .seq ([] : List Value).toArray } } :=
  I2.laid (t' := s2.toks) (fun b o e => Heap.get?_push_of_some _ e) (Nat.le_refl _) ⟨Nat.zero_le _, [], _, .nil, Heap.get?_push_size _ rfl⟩
 generalize hs3 : ({ s2 with heap := s2.heap.push { cls := .type "list", data := .seq ([] : List Value).toArray } } : Shared) = s3 at I3;have hsz : s3.heap.objs.size = s2.heap.objs.size + 1 := by rw [<- hs3]; exact Heap.size_push ..
 have hp3 : s2.heap.push { cls := .type "list", data := .seq ([] : List Value).toArray } = s3.heap := by rw [<- hs3]
 obtain ⟨W, ⟨m0, w0⟩, go⟩ := q s2.heap.objs.size (I2.hok.fresh (Nat.le_refl _));have fl : ∀ b ∈ fp, b < s2.heap.objs.size := fun b hb => by
  obtain ⟨o, e, _⟩ := T.obj _ _ st b hb;exact Heap.lt_size e
 have fo3 : ∀ b ∈ fp, FpOk X pins (upd H1 s2.heap.objs.size (.lst [])) b := fun b hb => ⟨by rw [zai (Nat.ne_of_lt (fl b hb))]; exact (fo b hb).1, (fo b hb).2⟩;have k4 : ∀ b o, s3.heap.get? b = some o -> h4.get? b = some o := fun b o e => by
  have hb : b ≠ s3.heap.objs.size := Nat.ne_of_lt (Heap.lt_size e);rw [hp3] at sb4;exact sb4.extBut b o hb (Heap.get?_push_of_some _ e)
 rw [hp3] at ns4;have k24 : ∀ b o, s2.heap.get? b = some o -> h4.get? b = some o := fun b o e => k4 b o (by rw [<- hp3]; exact Heap.get?_push_of_some _ e);have st4 : tn 0 h4 := T.keep _ _ _ st fun b _ o e => k24 b o e;have Ic : Inv (za4 X scope cl (ts ++ xs) fp s3 (upd H1 s2.heap.objs.size (.lst []))) [] _ (upd H1 s2.heap.objs.size (.lst [])) { s3 with heap := h4, toks := s3.toks + ([] : List (Str × Value)).length } :=
  zns C I3 fo3 (fun b hb => by rw [hsz]; exact Nat.lt_succ_of_lt (fl b hb)) ⟨_, ns4⟩ k4
 have fo' : ∀ {H' : Hp} {b : Addr}, H' b = none -> b ∈ fp -> FpOk (za4 X scope cl (ts ++ xs) fp s3 (upd H1 s2.heap.objs.size (.lst []))) [] H' b := fun {H' b} n hb =>
  ⟨n, Nat.ne_of_lt (show b < s3.heap.objs.size by rw [hsz]; exact Nat.lt_succ_of_lt (fl b hb)), fun hf => (Ic.ok.exfs b hb) hf, .inl hb, fun x c e => (Ic.ok.exf b hb).2 x c e, fun p hp => absurd hp (by simp)⟩
 have loop : ∀ s4 : Shared, s4 = { s3 with heap := h4, toks := s3.toks + ([] : List (Str × Value)).length } -> codeAny (model X.prog X.w) X.A (.compLoop (.ListComp elt [⟨tg, iter, [], 0⟩] scope pos) 0 (.ref it) (.ref s2.heap.objs.size) (compEnvC scope cl s3.heap.objs.size X.env)) (RR (.ref s2.heap.objs.size) s3.heap.objs.size) s4 := by
  rintro s4 rfl;refine PySem.W.kcp_loop (zl4 (za4 X scope cl (ts ++ xs) fp s3 (upd H1 s2.heap.objs.size (.lst []))) fp tn W) (fun n s' hI => ?_) m0 ⟨0, _, _, [], Ic, st4, fun b hb => (fo3 b hb).1, w0⟩;refine zpy (Xc := za4 X scope cl (ts ++ xs) fp s3 (upd H1 s2.heap.objs.size (.lst []))) hc T go (hg _ _ _) rfl fo' hI (fun σ' H' s1 I1 q1 => ?_) (fun v s1 h1 => ?_)
  ·obtain ⟨J1, J2, J3⟩ := zs3 I3 fo3 I1
   exact hRR _ _ H' s1 J1 J2 J3 (by rw [hsz]; exact Nat.le_succ _) q1
  ·refine thn h1 fun _ s5 h5 => thn h5 fun _ s6 h6 => ?_
   obtain ⟨i, pins', acc, σ4, H4, N, I4, hN, pin4, keep4, q4⟩ := h6;have fin : ∀ {H7 : Hp} {s7 : Shared} {acc' : List V}, Inv (za4 X scope cl (ts ++ xs) fp s3 (upd H1 s2.heap.objs.size (.lst []))) pins' σ4 H7 s7 -> N σ4 H7 acc' -> ∃ m, m < n /\ zl4 (za4 X scope cl (ts ++ xs) fp s3 (upd H1 s2.heap.objs.size (.lst []))) fp tn W m s7 := fun {H7 s7 acc'} I7 n7 => by
    obtain ⟨m', hm, w7⟩ := hN _ _ _ n7;refine ⟨m', hm, i + 1, σ4, H7, acc', I7.pins_of (fun p hp => absurd hp (by simp)), keep4 _ fun b hb o e => ?_, fun b hb => ?_, w7⟩
    ·obtain ⟨o', hm', e'⟩ := pin4 b hb
     rw [e] at e';cases e';exact (I7.pin (b, o) (List.mem_append_right _ hm')).1
    ·obtain ⟨o', hm', e'⟩ := pin4 b hb
     exact (I7.pin (b, o') (List.mem_append_right _ hm')).2.1
   have q4 : te σ4 H4 (fun y H6 => H6 s2.heap.objs.size = some (.lst acc) /\ acc.length < sizeLine /\ N σ4 (upd H6 s2.heap.objs.size (.lst (acc ++ [y]))) (acc ++ [y])) := by
    have z := q4;unfold tYes at z;dsimp only at z;rw [if_pos rfl] at z;exact z
   refine wpAny_mono (he fp s3 _ pins' s6 σ4 H4 _ I4 q4) (fun y s8 hq_ => ?_) fun _ _ z => z.elim;obtain ⟨yv, H8, I8, ry, e8, l8, n8⟩ := hq_;refine wpAny_mono (zlz (X := za4 X scope cl (ts ++ xs) fp s3 (upd H1 s2.heap.objs.size (.lst []))) pins' s8 σ4 H8 (.ref s2.heap.objs.size) [yv] (.ref s2.heap.objs.size) [y] (fun _ H9 => H9 = upd H8 s2.heap.objs.size (.lst (acc ++ [yv]))) I8 rfl (.cons ry .nil) ⟨_, acc, yv, rfl, rfl, e8, l8, rfl⟩) (fun _ s9 hq_ => ?_) fun _ _ z => z.elim;obtain ⟨_, H9, I9, _, e9⟩ := hq_;subst e9;exact fin I9 n8
 have hself := T.self X.A 0 { s3 with heap := h4, toks := s3.toks + ([] : List (Str × Value)).length } (fun it' s' => codeAny (model X.prog X.w) X.A (.compLoop (.ListComp elt [⟨tg, iter, [], 0⟩] scope pos) 0 it' (.ref s2.heap.objs.size) (compEnvC scope cl s3.heap.objs.size X.env)) (RR (.ref s2.heap.objs.size) s3.heap.objs.size) s') (notedBy (model X.prog X.w) X.A (compEnvC scope cl s3.heap.objs.size X.env) fun x s' => RR (.ref s2.heap.objs.size) s3.heap.objs.size (.error x) s') st4 (loop _ rfl);subst hs3;exact codeAny_compStart_list (loop _ rfl) hself
theorem znv {C : Addr} {H' : Hp} {s' : Shared} {h' : Heap} (I2 : Inv X pins σ H1 s2) (I : Inv X pins σ H' s') (n : H' C = none) (hC : s2.heap.objs.size <= C) (hs : Heap.SameBut C s'.heap h') : Inv X pins σ H' { s' with heap := h' } := by
 refine I.turned (t' := s'.toks) (it := C) (fun b o hb e => hs.extBut b o hb e) n (Nat.ne_of_gt (Nat.lt_of_lt_of_le I2.lt hC)) (.inr (Nat.le_trans I2.sz hC)) (fun x c e => ?_) fun p hp => ?_
 ·obtain ⟨v, o, ho, _⟩ := I2.cell x c e
  exact Nat.ne_of_lt (Nat.lt_of_lt_of_le (Heap.lt_size ho) hC)
 ·exact Nat.ne_of_lt (Nat.lt_of_lt_of_le (Heap.lt_size (I2.pin p hp).1) hC)
end
section
variable {X : Cx} {elt iter c tg : Expr} {pos : Pos} {g : TG} {tc : TT} {te : TE} {wi : TI} {scope : Scope} {cl : List (Str × Addr)} {ts xs : List Str} {js : List Nat}
theorem zs4 (hc : X.calm = true) (C : zf5 X scope cl ts xs js) (hi : PI X tg iter wi) (hg : ∀ fp s3 H2, PG (za4 X scope cl (ts ++ xs) fp s3 H2) tg g) (ht : ∀ fp s3 H2, PT (za4 X scope cl (ts ++ xs) fp s3 H2) c tc) (he : ∀ fp s3 H2, PE (za4 X scope cl (ts ++ xs) fp s3 H2) elt te)
 (hs : ∀ x, foldedSetIterable iter X.env x = pure x := by intro _; rfl) : PE X (.ListComp elt [⟨tg, iter, [c], 0⟩] scope pos) (zrl ts.length js wi g tc te) := by
 intro pins s σ H Q I h;rw [eval_ListComp];refine wpAny_comprehension_free (use := none) rfl hs C.clos C.kind C.names (thn (hi pins s σ H _ I h) fun xv s1 h1 => thn h1 fun itv s2 h2 => ?_);obtain ⟨it, fp, tn, J, H1, rfl, I2, T, st2, fo, q⟩ := h2;exact znt (RR := compPost (model X.prog X.w) X.A X.xe none (EP X pins σ Q)) hc C I2 T st2 fo q hg ht he fun p D H' s' I' ns n hD q' => by
  obtain ⟨m, hm⟩ := ns;exact ⟨m, hm, fun h' sb => ⟨.ref p, H', znv I2 I' n hD sb, rfl, q'⟩⟩
theorem z16 (hc : X.calm = true) (C : zf5 X scope cl ts xs js) (hi : PI X tg iter wi) (hg : ∀ fp s3 H2, PG (za4 X scope cl (ts ++ xs) fp s3 H2) tg g) (he : ∀ fp s3 H2, PE (za4 X scope cl (ts ++ xs) fp s3 H2) elt te)
 (hs : ∀ x, foldedSetIterable iter X.env x = pure x := by intro _; rfl) : PE X (.ListComp elt [⟨tg, iter, [], 0⟩] scope pos) (zrl ts.length js wi g tYes te) := by
 intro pins s σ H Q I h;rw [eval_ListComp];refine wpAny_comprehension_free (use := none) rfl hs C.clos C.kind C.names (thn (hi pins s σ H _ I h) fun xv s1 h1 => thn h1 fun itv s2 h2 => ?_);obtain ⟨it, fp, tn, J, H1, rfl, I2, T, st2, fo, q⟩ := h2;exact znu (RR := compPost (model X.prog X.w) X.A X.xe none (EP X pins σ Q)) hc C I2 T st2 fo q hg he fun p D H' s' I' ns n hD q' => by
  obtain ⟨m, hm⟩ := ns;exact ⟨m, hm, fun h' sb => ⟨.ref p, H', znv I2 I' n hD sb, rfl, q'⟩⟩
theorem zuj {i : Nat} {y : Str} {py spos : Pos} (hc : X.calm = true) (C : zf5 X scope cl ts xs js) (hi : PI X tg iter wi) (hg : ∀ fp s3 H2, PG (za4 X scope cl (ts ++ xs) fp s3 H2) tg g) (he : ∀ fp s3 H2, PE (za4 X scope cl (ts ++ xs) fp s3 H2) elt te)
 (hN : X.N.Nodup) (hy : X.N[i]? = some y) (hx : Loc X.env.scope y) (hkn : ∀ u : V, X.kn[i]? ≠ some (some u)) (hf : X.fn y = true \/ X.env.scope.names.lookup y = some .local := by first | exact .inl rfl | exact .inr rfl | assumption)
 (hsw : swapsWith (.ListComp elt [⟨tg, iter, [], 0⟩] scope pos) (some (.Name y py)) spos.line X.env = pure true := by rfl)
 (hs : ∀ x, foldedSetIterable iter X.env x = pure x := by intro _; rfl) : PS X (.Assign [.Name y py] (.ListComp elt [⟨tg, iter, [], 0⟩] scope pos) spos) (tAsg (zrl ts.length js wi g tYes te) (zm6 i)) := by
 intro pins s σ H D I h;rw [exec_Assign_Name_used _ _ _ _ hsw];refine wpAny_bind (wpAny_standAt (wpAny_bind ?_));show wpAny _ X.A (do let _ <- comprehension (.ListComp elt [⟨tg, iter, [], 0⟩] scope pos) scope X.env _ (newList []) false (eval iter X.env) (some (assign (.Name y py) X.env))) _ _ s;refine wpAny_bind (wpAny_mono (wpAny_comprehension_free (use := some (assign (.Name y py) X.env)) (Q := fun _ s' => SP X pins D .next s') rfl hs C.clos C.kind C.names (thn (hi pins s σ H _ I h) fun xv s1 h1 => thn h1 fun itv s2 h2 => ?_)) (fun _ s' hq => wpAny_pure (wpAny_pure hq)) fun _ _ e => e);obtain ⟨it, fp, tn, J, H1, rfl, I2, T, st2, fo, q⟩ := h2;refine znu (Q := fun x H1 => zm6 i x σ H1 D.nx) (g := g) (te := te) (RR := compPost (model X.prog X.w) X.A X.xe (some (assign (.Name y py) X.env)) (fun _ s' => SP X pins D .next s')) hc C I2 T st2 fo q hg he fun p E H' s' I' ns n hE q' => ?_;obtain ⟨m, hm⟩ := ns;show wpAny _ X.A (assign (.Name y py) X.env (.ref p)) _ _ _;refine wpAny_assign_Name (zlt I' hN hy hx (show RelV (.ref p) (.ref p) from rfl) (fun s3 I3 hq_ => ?_) hf hkn);obtain ⟨b, sb, hb⟩ := hq_;refine ⟨m, hm.sameBut sb (fun z => ?_), fun h' sb' => ⟨_, H', ?_, q'⟩⟩
 ·rcases hb with hb | hb
  ·exact absurd (Nat.lt_of_lt_of_le I2.lt hE) (by rw [z, hb]; exact Nat.lt_irrefl _)
  ·obtain ⟨v, o, ho, _⟩ := I2.cell y b hb
   exact absurd (Nat.lt_of_lt_of_le (Heap.lt_size ho) hE) (by rw [z]; exact Nat.lt_irrefl _)
 ·refine I3.turned (t' := s3.toks) (it := E) (fun b o hb e => sb'.extBut b o hb e) n (Nat.ne_of_gt (Nat.lt_of_lt_of_le I2.lt hE)) (.inr (Nat.le_trans I2.sz hE)) (fun x c e => ?_) fun p hp => ?_
  ·obtain ⟨v, o, ho, _⟩ := I2.cell x c e
   exact Nat.ne_of_lt (Nat.lt_of_lt_of_le (Heap.lt_size ho) hE)
  ·exact Nat.ne_of_lt (Nat.lt_of_lt_of_le (Heap.lt_size (I2.pin p hp).1) hE)
end
end L2
namespace L2
open PySem PySem.Spec PyProof.Rows
section
variable {X : Cx}
theorem zi0 (hc : X.calm = true) : zjl X (.type "list") (fun xs H Q => ∃ a kvs, xs = [.ref a] /\ Rd H a (.dK kvs) /\ ∀ l, H l = none -> Q (.ref l) (upd H l (.lst (kvs.map fun p => kV p.1)))) := by
 intro pins s σ H xs us Q I r h;obtain ⟨a, kvs, rfl, rd, q⟩ := h;obtain ⟨u, rfl, ru⟩ := zt5 r;cases ru;obtain ⟨zl, zm, vs, rv, d⟩ := zoe I.hok rd;obtain ⟨ep, da⟩ := d.dictAt;have hl : kvs.length = vs.length := rv.length;refine PySem.W.kdl_call (PySem.W.kdl_dict (knd := za7 X.prog X.w) (kvs := vs) (ep := ep) zm) (I.ok.hd hc) da (by omega) fun h' tk acc c k e items => ?_;refine ⟨.ref s.heap.objs.size, _, I.laid (t' := tk) (o := .lst (kvs.map fun p => kV p.1)) k (Nat.le_refl _) ⟨by rw [List.length_map]; exact zl, acc.toList, c, ?_, by simpa using e⟩, rfl, q _ (I.hok.fresh (Nat.le_refl _))⟩;obtain ⟨n1, n2⟩ := items;have go : ∀ (ks : List (Key × V)) (as : List Value), ks.length = as.length -> (∀ (j : Nat) (u : Value), as[j]? = some u -> ∃ p : Key × V, ks[j]? = some p /\ RelV (kV p.1) u) -> Vals (ks.map fun p => kV p.1) as := by
  intro ks
  induction ks with
  | nil => intro as hl _; cases as with | nil => exact .nil | cons _ _ => simp at hl
  | cons p ks ih =>
    intro as hl h;cases as with
    | nil => simp at hl
    | cons u as =>
      obtain ⟨p', e1, r1⟩ := h 0 u rfl;simp at e1;subst e1;exact .cons r1 (ih as (by simpa using hl) fun j w' e => by simpa using h (j + 1) w' (by simpa using e))
 refine go kvs acc.toList (by have z : acc.toList.length = acc.size := Array.length_toList; omega) fun j u e => ?_;obtain ⟨k', x', e1, e2⟩ := n2 j u (by rw [<- Array.getElem?_toList]; exact e);have hj : j < kvs.length := by rw [hl]; exact (List.getElem?_eq_some_iff.mp e1).1
 obtain ⟨w', e3, _⟩ := rv.at (i := j) (k := (kvs[j]).1) (v := (kvs[j]).2) (by simp [hj]);rw [e1] at e3;cases e3;exact ⟨kvs[j], by simp [hj], zrk e2⟩
theorem zoi {e : Expr} {te : TE} {pos : Pos} (he : PE X e te) : PE X (.FormattedValue e 114 none pos) (fun σ H Q => te σ H fun v H1 => ∃ y, v = .str y /\ (reprText y).length <= sizeLine /\ Q (.str (reprText y)) H1) := by
 intro pins s σ H Q I h;refine wpAny_FormattedValue_repr (thn (he pins s σ H _ I h) fun v s1 hq_ => ?_);obtain ⟨x, H1, I1, r, y, e, l, q⟩ := hq_;subst e;obtain ⟨t, rfl⟩ := r;refine wpAny_pyReprObj_str (hsz := l) ?_;exact formatField_str (hsz := l) fun t' tk => ⟨.str _, H1, I1.tok tk, ⟨t', rfl⟩, q⟩
def tJ : Str -> List TE -> TE
 | acc, [] => fun _ H Q => acc.length <= sizeLine /\ Q (.str acc) H
 | acc, t :: ts => fun σ H Q => t σ H fun v H1 => ∃ y, v = .str y /\ (acc ++ y).length <= sizeLine /\ tJ (acc ++ y) ts σ H1 Q
inductive PJ (X : Cx) : List Expr -> List TE -> Prop where
 | nil : PJ X [] []
 | cons {e : Expr} {es : List Expr} {t : TE} {ts : List TE} : PE X e t -> PJ X es ts -> PJ X (e :: es) (t :: ts)
theorem zyt {es : List Expr} {ts : List TE} (hj : PJ X es ts) : ∀ {acc : Str} {pins : List (Addr × Obj)} {s : Shared} {σ : St} {H : Hp} {Q : VK}, Inv X pins σ H s -> tJ acc ts σ H Q ->
 wpAny (model X.prog X.w) X.A (joinParts acc (evalEach es X.env)) (EP X pins σ Q) X.xe s := by
 induction hj with
 | nil => intro acc pins s σ H Q I h; exact joinParts_nil (hsz := h.1) ⟨.str acc, H, I.tok _, ⟨_, rfl⟩, h.2⟩
 | @cons e es t ts he hj ih =>
   intro acc pins s σ H Q I h;show wpAny _ _ (joinParts acc (eval e X.env :: evalEach es X.env)) _ _ _;refine joinParts_cons (thn (he pins s σ H _ I h) fun v s1 hq_ => ?_);obtain ⟨x, H1, I1, r, y, e, l, q⟩ := hq_;subst e;obtain ⟨tk, rfl⟩ := r;exact ⟨l, ih I1 q⟩
theorem zjr {a b : Expr} {r : List Expr} {ts : List TE} {pos : Pos} (h : PJ X (a :: b :: r) ts) : PE X (.JoinedStr (a :: b :: r) pos) (tJ Str.empty ts) := fun pins s σ H Q I q => JoinedStr_many (zyt h I q)
end
end L2
namespace L2
open PySem PySem.Spec PyProof.Rows
theorem zv0 {prog : Program} {w : World} {A : Around} {E : Value -> Shared -> Prop} {s : Shared} {Q : Int -> Shared -> Prop} (h : Q 0xFCA86420 { s with toks := s.toks + 1 }) : wpAny (model prog w) A (pyHash .none) Q E s := by
 have hT : s.TypeIs .none "NoneType" := rfl;show wpAny _ _ (pyHashByItsType .none) Q E s;unfold pyHashByItsType;refine wpAny_bind ?_;rw [cRoomFor, if_neg (by decide)];refine wpAny_pure ?_;refine wpAny_bind (wpAny_specialOf hT PySem.F.slot_NoneType_hash.lookup ?_);rw [if_neg (by decide)];refine wpAny_bind (wpAny_specialOf hT PySem.F.slot_NoneType_hash.lookup ?_);show wpAny _ _ (callSpecialIfBoundUnlessNone? .none "__hash__" _ >>= _) Q E s;refine wpAny_bind (wpAny_callSpecialIfBoundUnlessNone?_slot hT PySem.F.slot_NoneType_hash (wpAny_call_entry PySem.F.slot_NoneType_hash hT PySem.F.entry_NoneType_hash
  (show wpAny _ _ (do ret (<- mkInt 0xFCA86420)) _ _ s from wpAny_ret_mkInt ?_) (PySem.F.args_NoneType_hash_1 _)))
 show wpAny _ _ (if (decide (-(2 : Int) ^ 63 <= 0xFCA86420) && decide ((0xFCA86420 : Int) < 2 ^ 63)) = true then _ else _) Q E _;rw [if_pos (by decide)];exact wpAny_pure h
def z17 : Option Key -> Value -> Bool
 | none, .none => true
 | none, _ => false
 | some k, v => zpe k v
def optH (w : World) : Option Key -> Int
 | none => 0xFCA86420
 | some k => keyH w k
theorem zex {v : Value} (h : z17 none v = true) : v = .none := by
 cases v <;> first | rfl | cases h
theorem zoj {k : Key} (h : zpe k .none = true) : False := by
 rcases zbn h with ⟨_, _, _, e⟩ | ⟨_, _, _, e⟩ <;> cases e
def zrm (prog : Program) (w : World) : PySem.KeyKind prog w (Option Key) where
 is := z17
 hash := optH w
 inj := fun v a b ha hb => by
  cases a with
  | none =>
    cases b with
    | none => rfl
    | some b => cases zex ha; exact (zoj hb).elim
  | some a =>
    cases b with
    | none => cases zex hb; exact (zoj ha).elim
    | some b => exact congrArg some ((za7 prog w).inj v a b ha hb)
 byValue := fun k v h => by
  cases k with
  | none => cases zex h; rfl
  | some k => exact (za7 prog w).byValue k v h
 pyHash := fun {A E s k v Q} hv h => by
  cases k with
  | none => cases zex hv; exact zv0 h
  | some k => exact (za7 prog w).pyHash (k := k) hv h
 eqBool := fun {A E s a b u v Q} hu hv h => by
  cases a with
  | none =>
    cases zex hu;cases b with
    | none => cases zex hv; exact SeqAt.EqAt.same _ _ _ _ _ (by simpa using h)
    | some b =>
      rcases zbn hv with ⟨i, t, rfl, rfl⟩ | ⟨x, t, rfl, rfl⟩
      ·exact SeqAt.EqAt.none_int _ _ _ _ _ _ (by simpa using h)
      ·exact SeqAt.EqAt.none_str _ _ _ _ _ _ (by simpa using h)
  | some a =>
    cases b with
    | none =>
      cases zex hv;rcases zbn hu with ⟨i, t, rfl, rfl⟩ | ⟨x, t, rfl, rfl⟩
      ·exact SeqAt.EqAt.int_none _ _ _ _ _ _ (by simpa using h)
      ·exact SeqAt.EqAt.str_none _ _ _ _ _ _ (by simpa using h)
    | some b => exact (za7 prog w).eqBool (a := a) (b := b) hu hv (by simpa using h)
 «strs» := fun k x t v h => by
  cases k with
  | none => cases h
  | some k => exact (za7 prog w).strs k x t v h
theorem z18 {P : Program} {w : World} {h : Heap} {a : Addr} {vs : List (Key × Value)} (d : h.DictOf (za7 P w) a vs) : ∃ f, h.MapOf (zrm P w) a f /\ f none = none := by
 obtain ⟨o, es, ep, ho, ex, hd, keys, r⟩ := id d;refine ⟨fun k => findBy (zrm P w).is es k, ⟨o, es, ep, ho, ex, hd, fun e he => ?_, fun k => rfl⟩, ?_⟩
 ·obtain ⟨k, h1, h2⟩ := keys e he
  exact ⟨some k, h1, h2⟩
 ·show findBy z17 es none = none
  unfold findBy;rw [Option.map_eq_none_iff, Array.find?_eq_none];intro e he z;obtain ⟨k, h1, _⟩ := keys e he;rw [zex z] at h1;exact zoj h1
section
variable {X : Cx} {o i : Expr} {td ty : TE}
def z7o (ty td : TE) : TE := fun σ H Q => ty σ H fun y H1 => td σ H1 fun x H2 => ∃ a, x = .ref a /\ ((∃ r, DGet H2 a y r /\ Q (.bl r.isSome) H2) \/ (y = .non /\ (∃ kvs, Rd H2 a (.dK kvs)) /\ Q (.bl false) H2))
theorem zv1 (hu : X.A.units + 1 < cLine) (hi : PE X i ty) (ho : PE X o td) : PC X .In i o (z7o ty td) := by
 intro pins s σ H Q I h;refine thn (hi pins s σ H _ I h) fun v s1 hq_ => ?_;obtain ⟨y, H1, I1, ry, q1⟩ := hq_;refine thn (ho pins s1 σ H1 _ I1 q1) fun u s2 hq_ => ?_;obtain ⟨x, H2, I2, rx, a, ex, q2⟩ := hq_;subst ex;cases (show u = Value.ref a from rx);rcases q2 with ⟨r, g, q⟩ | ⟨ey, ⟨kvs, rd⟩, q⟩
 ·exact d_in hu I2 g ry fun s' I' => ⟨.bl _, H2, I', rfl, q⟩
 ·subst ey
  cases (show v = Value.none from ry);obtain ⟨z, hd, vs, rel, dd⟩ := zoe I2.hok rd;obtain ⟨f, mf, fn⟩ := z18 dd;refine wpAny_in_of (knd := zrm X.prog X.w) (k := none) (f := f) rfl hd mf ?_;rw [fn];exact ⟨.bl false, H2, I2.tok _, rfl, q⟩
end
end L2
namespace L2
open PySem PySem.Spec PyProof.Rows
section
variable {X : Cx}
theorem z5c : OpR X (compareOp .Is) (fun x y H Q => ∃ a b, x = .bl a /\ y = .bl b /\ Q (.bl (a == b)) H) := by
 intro pins s σ H x y v u Q I rx ry h;obtain ⟨a, b, rfl, rfl, q⟩ := h;cases rx;cases ry;refine wpAny_is_plain rfl ⟨.bl (a == b), H, I, ?_, q⟩;show Value.bool (Value.bool a == Value.bool b) = Value.bool (a == b);cases a <;> cases b <;> rfl
end
end L2
namespace L2
open PySem PySem.Spec PyProof.Rows
section
variable {X : Cx}
theorem zok {xs : List V} {i : Nat} {z : V} (f : xs.all zgo = true) (h : xs[i]? = some z) : zgo z = true := List.all_eq_true.mp f z (List.mem_of_getElem? h)
theorem Vals.at : ∀ {xs : List V} {us : List Value}, Vals xs us -> ∀ {i : Nat} {u : Value}, us[i]? = some u -> ∃ x, xs[i]? = some x /\ RelV x u
 | _, _, .nil, i, u, h => by simp at h
 | _, _, .cons r t, 0, u, h => by
   simp at h;subst h;exact ⟨_, rfl, r⟩
 | _, _, .cons r t, i + 1, u, h => by
   obtain ⟨x, h1, h2⟩ := Vals.at t (i := i) (u := u) (by simpa using h);exact ⟨x, by simpa using h1, h2⟩
end
section
variable {X : Cx} {elt iter c tg : Expr} {pos : Pos} {g : TG} {tc : TT} {te : TE} {wi : TI} {scope : Scope} {cl : List (Str × Addr)} {ts xs : List Str} {js : List Nat}
theorem zrn {i : Nat} {y : Str} {py spos : Pos} (hc : X.calm = true) (C : zf5 X scope cl ts xs js) (hi : PI X tg iter wi) (hg : ∀ fp s3 H2, PG (za4 X scope cl (ts ++ xs) fp s3 H2) tg g) (ht : ∀ fp s3 H2, PT (za4 X scope cl (ts ++ xs) fp s3 H2) c tc) (he : ∀ fp s3 H2, PE (za4 X scope cl (ts ++ xs) fp s3 H2) elt te)
 (hN : X.N.Nodup) (hy : X.N[i]? = some y) (hx : Loc X.env.scope y) (hkn : ∀ u : V, X.kn[i]? ≠ some (some u)) (hf : X.fn y = true \/ X.env.scope.names.lookup y = some .local := by first | exact .inl rfl | exact .inr rfl | assumption)
 (hsw : swapsWith (.ListComp elt [⟨tg, iter, [c], 0⟩] scope pos) (some (.Name y py)) spos.line X.env = pure true := by rfl)
 (hs : ∀ x, foldedSetIterable iter X.env x = pure x := by intro _; rfl) : PS X (.Assign [.Name y py] (.ListComp elt [⟨tg, iter, [c], 0⟩] scope pos) spos) (tAsg (zrl ts.length js wi g tc te) (zm6 i)) := by
 intro pins s σ H D I h;rw [exec_Assign_Name_used _ _ _ _ hsw];refine wpAny_bind (wpAny_standAt (wpAny_bind ?_));show wpAny _ X.A (do let _ <- comprehension (.ListComp elt [⟨tg, iter, [c], 0⟩] scope pos) scope X.env _ (newList []) false (eval iter X.env) (some (assign (.Name y py) X.env))) _ _ s;refine wpAny_bind (wpAny_mono (wpAny_comprehension_free (use := some (assign (.Name y py) X.env)) (Q := fun _ s' => SP X pins D .next s') rfl hs C.clos C.kind C.names (thn (hi pins s σ H _ I h) fun xv s1 h1 => thn h1 fun itv s2 h2 => ?_)) (fun _ s' hq => wpAny_pure (wpAny_pure hq)) fun _ _ e => e);obtain ⟨it, fp, tn, J, H1, rfl, I2, T, st2, fo, q⟩ := h2;refine znt (Q := fun x H1 => zm6 i x σ H1 D.nx) (g := g) (tc := tc) (te := te) (RR := compPost (model X.prog X.w) X.A X.xe (some (assign (.Name y py) X.env)) (fun _ s' => SP X pins D .next s')) hc C I2 T st2 fo q hg ht he fun p E H' s' I' ns n hE q' => ?_;obtain ⟨m, hm⟩ := ns;show wpAny _ X.A (assign (.Name y py) X.env (.ref p)) _ _ _;refine wpAny_assign_Name (zlt I' hN hy hx (show RelV (.ref p) (.ref p) from rfl) (fun s3 I3 hq_ => ?_) hf hkn);obtain ⟨b, sb, hb⟩ := hq_;refine ⟨m, hm.sameBut sb (fun z => ?_), fun h' sb' => ⟨_, H', ?_, q'⟩⟩
 ·rcases hb with hb | hb
  ·exact absurd (Nat.lt_of_lt_of_le I2.lt hE) (by rw [z, hb]; exact Nat.lt_irrefl _)
  ·obtain ⟨v, o, ho, _⟩ := I2.cell y b hb
   exact absurd (Nat.lt_of_lt_of_le (Heap.lt_size ho) hE) (by rw [z]; exact Nat.lt_irrefl _)
 ·refine I3.turned (t' := s3.toks) (it := E) (fun b o hb e => sb'.extBut b o hb e) n (Nat.ne_of_gt (Nat.lt_of_lt_of_le I2.lt hE)) (.inr (Nat.le_trans I2.sz hE)) (fun x c e => ?_) fun p hp => ?_
  ·obtain ⟨v, o, ho, _⟩ := I2.cell x c e
   exact Nat.ne_of_lt (Nat.lt_of_lt_of_le (Heap.lt_size ho) hE)
  ·exact Nat.ne_of_lt (Nat.lt_of_lt_of_le (Heap.lt_size (I2.pin p hp).1) hE)
end
end L2
namespace MF
open PySem L2
inductive T where
 | non | bl (b : Bool) | int (i : Int) | str (x : Str) | lst (ts : List T) | tup (ts : List T) | dic (kvs : List (Key × T)) | obj (k : Nat)
inductive Cell where
 | lst (ts : List T) | dic (kvs : List (Key × T)) | ins (C : Addr) (fs : List (Str × T)) | exc (C : Addr) (fs : Option (List (Str × T))) | lck (kvs : List (Key × T))
abbrev Sto := List Cell
structure Wd where
 HS : Hp
 μ : Nat -> Addr
 n : Nat
 Z : Addr -> Option (Obj × HO)
 P : Hp
structure Wd.le (W W' : Wd) : Prop where
 hs : ∀ a o, W.HS a = some o -> W'.HS a = some o
 z : ∀ a o, W.Z a = some o -> W'.Z a = some o
 p : ∀ a o, W.P a = some o -> W'.P a = some o
 n : W.n <= W'.n
 μ : ∀ k, k < W.n -> W'.μ k = W.μ k
theorem Wd.le.refl (W : Wd) : W.le W := ⟨fun _ _ h => h, fun _ _ h => h, fun _ _ h => h, Nat.le_refl _, fun _ _ => rfl⟩
theorem Wd.le.trans {W W1 W2 : Wd} (a : W.le W1) (b : W1.le W2) : W.le W2 :=
 ⟨fun x o h => b.hs x o (a.hs x o h), fun x o h => b.z x o (a.z x o h), fun x o h => b.p x o (a.p x o h), Nat.le_trans a.n b.n, fun k h => (b.μ k (Nat.lt_of_lt_of_le h a.n)).trans (a.μ k h)⟩
mutual
def Den (W : Wd) : T -> V -> Prop
 | .non, v => v = .non
 | .bl b, v => v = .bl b
 | .int i, v => v = .int i
 | .str x, v => v = .str x
 | .lst ts, v => ∃ a vs, v = .ref a /\ W.HS a = some (.lst vs) /\ Dens W ts vs
 | .tup ts, v => ∃ a vs, v = .ref a /\ W.HS a = some (.tup vs) /\ Dens W ts vs
 | .dic kvs, v => ∃ a ks, v = .ref a /\ W.HS a = some (.dK ks) /\ DenK W kvs ks
 | .obj k, v => v = .ref (W.μ k) /\ k < W.n
def Dens (W : Wd) : List T -> List V -> Prop
 | [], vs => vs = []
 | t :: ts, vs => ∃ v r, vs = v :: r /\ Den W t v /\ Dens W ts r
def DenK (W : Wd) : List (Key × T) -> List (Key × V) -> Prop
 | [], vs => vs = []
 | (k, t) :: ts, vs => ∃ v r, vs = (k, v) :: r /\ Den W t v /\ DenK W ts r
end
mutual
theorem Den.mono {W W' : Wd} (l : W.le W') : ∀ (t : T) (v : V), Den W t v -> Den W' t v
 | .non, _, h => by simpa [Den] using h
 | .bl _, _, h => by simpa [Den] using h
 | .int _, _, h => by simpa [Den] using h
 | .str _, _, h => by simpa [Den] using h
 | .lst ts, v, h => by
   obtain ⟨a, vs, e, h1, h2⟩ := (by simpa only [Den] using h : ∃ a vs, v = .ref a /\ W.HS a = some (.lst vs) /\ Dens W ts vs);simp only [Den]; exact ⟨a, vs, e, l.hs _ _ h1, Dens.mono l ts vs h2⟩
 | .tup ts, v, h => by
   obtain ⟨a, vs, e, h1, h2⟩ := (by simpa only [Den] using h : ∃ a vs, v = .ref a /\ W.HS a = some (.tup vs) /\ Dens W ts vs);simp only [Den]; exact ⟨a, vs, e, l.hs _ _ h1, Dens.mono l ts vs h2⟩
 | .dic ks, v, h => by
   obtain ⟨a, vs, e, h1, h2⟩ := (by simpa only [Den] using h : ∃ a vs, v = .ref a /\ W.HS a = some (.dK vs) /\ DenK W ks vs);simp only [Den]; exact ⟨a, vs, e, l.hs _ _ h1, DenK.mono l ks vs h2⟩
 | .obj k, v, h => by
   obtain ⟨e, h1⟩ := (by simpa only [Den] using h : v = .ref (W.μ k) /\ k < W.n);simp only [Den]; exact ⟨by rw [l.μ k h1]; exact e, Nat.lt_of_lt_of_le h1 l.n⟩
theorem Dens.mono {W W' : Wd} (l : W.le W') : ∀ (ts : List T) (vs : List V), Dens W ts vs -> Dens W' ts vs
 | [], vs, h => by simpa only [Dens] using h
 | t :: ts, vs, h => by
   obtain ⟨v, r, e, h1, h2⟩ := (by simpa only [Dens] using h : ∃ v r, vs = v :: r /\ Den W t v /\ Dens W ts r);simp only [Dens]; exact ⟨v, r, e, Den.mono l t v h1, Dens.mono l ts r h2⟩
theorem DenK.mono {W W' : Wd} (l : W.le W') : ∀ (ts : List (Key × T)) (vs : List (Key × V)), DenK W ts vs -> DenK W' ts vs
 | [], vs, h => by simpa only [DenK] using h
 | (k, t) :: ts, vs, h => by
   obtain ⟨v, r, e, h1, h2⟩ := (by simpa only [DenK] using h : ∃ v r, vs = (k, v) :: r /\ Den W t v /\ DenK W ts r);simp only [DenK]; exact ⟨v, r, e, Den.mono l t v h1, DenK.mono l ts r h2⟩
end
section
variable {W : Wd}
theorem zcf {v : V} : Den W .non v ↔ v = .non := by simp only [Den]
theorem zbq {b : Bool} {v : V} : Den W (.bl b) v ↔ v = .bl b := by simp only [Den]
theorem za2 {i : Int} {v : V} : Den W (.int i) v ↔ v = .int i := by simp only [Den]
theorem zbj {x : Str} {v : V} : Den W (.str x) v ↔ v = .str x := by simp only [Den]
theorem zew {ts : List T} {v : V} : Den W (.lst ts) v ↔ ∃ a vs, v = .ref a /\ W.HS a = some (.lst vs) /\ Dens W ts vs := by simp only [Den]
theorem zfk {ts : List T} {v : V} : Den W (.tup ts) v ↔ ∃ a vs, v = .ref a /\ W.HS a = some (.tup vs) /\ Dens W ts vs := by simp only [Den]
theorem zhk {ts : List (Key × T)} {v : V} : Den W (.dic ts) v ↔ ∃ a vs, v = .ref a /\ W.HS a = some (.dK vs) /\ DenK W ts vs := by simp only [Den]
theorem zco {k : Nat} {v : V} : Den W (.obj k) v ↔ v = .ref (W.μ k) /\ k < W.n := by simp only [Den]
theorem zbk {vs : List V} : Dens W [] vs ↔ vs = [] := by simp only [Dens]
theorem za1 {t : T} {ts : List T} {vs : List V} : Dens W (t :: ts) vs ↔ ∃ v r, vs = v :: r /\ Den W t v /\ Dens W ts r := by simp only [Dens]
theorem zdb {vs : List (Key × V)} : DenK W [] vs ↔ vs = [] := by simp only [DenK]
theorem zcn {k : Key} {t : T} {ts : List (Key × T)} {vs : List (Key × V)} : DenK W ((k, t) :: ts) vs ↔ ∃ v r, vs = (k, v) :: r /\ Den W t v /\ DenK W ts r := by simp only [DenK]
theorem Dens.nil' : Dens W [] [] := zbk.mpr rfl
theorem Dens.cons' {t : T} {ts : List T} {v : V} {vs : List V} (h : Den W t v) (r : Dens W ts vs) : Dens W (t :: ts) (v :: vs) := za1.mpr ⟨v, vs, rfl, h, r⟩
theorem Dens.length : ∀ {ts : List T} {vs : List V}, Dens W ts vs -> ts.length = vs.length
 | [], vs, h => by rw [zbk.mp h]; rfl
 | t :: ts, vs, h => by
   obtain ⟨v, r, e, _, h2⟩ := za1.mp h;subst e;simp [Dens.length h2]
theorem Dens.get : ∀ {ts : List T} {vs : List V} {i : Nat} {t : T}, Dens W ts vs -> ts[i]? = some t -> ∃ v, vs[i]? = some v /\ Den W t v
 | [], _, _, _, _, e => by simp at e
 | t0 :: ts, vs, i, t, h, e => by
   obtain ⟨v, r, rfl, h1, h2⟩ := za1.mp h;cases i with
   | zero => simp at e; subst e; exact ⟨v, rfl, h1⟩
   | succ i =>
     obtain ⟨v', e1, e2⟩ := Dens.get (i := i) h2 (by simpa using e);exact ⟨v', by simpa using e1, e2⟩
theorem Dens.get' : ∀ {ts : List T} {vs : List V} {i : Nat} {v : V}, Dens W ts vs -> vs[i]? = some v -> ∃ t, ts[i]? = some t /\ Den W t v
 | [], _, _, _, h, e => by rw [zbk.mp h] at e; simp at e
 | t0 :: ts, vs, i, v', h, e => by
   obtain ⟨v, r, rfl, h1, h2⟩ := za1.mp h;cases i with
   | zero => simp at e; subst e; exact ⟨t0, rfl, h1⟩
   | succ i =>
     obtain ⟨t, e1, e2⟩ := Dens.get' (i := i) h2 (by simpa using e);exact ⟨t, by simpa using e1, e2⟩
theorem Dens.append : ∀ {ts us : List T} {vs ws : List V}, Dens W ts vs -> Dens W us ws -> Dens W (ts ++ us) (vs ++ ws)
 | [], _, _, _, h, g => by rw [zbk.mp h]; exact g
 | t :: ts, us, vs, ws, h, g => by
   obtain ⟨v, r, rfl, h1, h2⟩ := za1.mp h;exact Dens.cons' h1 (Dens.append h2 g)
theorem Dens.set {t : T} {v : V} (hv : Den W t v) : ∀ {ts : List T} {vs : List V} (i : Nat), Dens W ts vs -> Dens W (ts.set i t) (vs.set i v)
 | [], _, _, h => by rw [zbk.mp h]; exact Dens.nil'
 | t :: ts, vs, i, h => by
   obtain ⟨v, r, rfl, h1, h2⟩ := za1.mp h;cases i with
   | zero => exact Dens.cons' hv h2
   | succ i => exact Dens.cons' h1 (Dens.set hv i h2)
theorem Dens.take : ∀ {ts : List T} {vs : List V} (i : Nat), Dens W ts vs -> Dens W (ts.take i) (vs.take i)
 | ts, vs, 0, _ => by simpa using Dens.nil'
 | [], _, _, h => by rw [zbk.mp h]; simpa using Dens.nil'
 | t :: ts, vs, i + 1, h => by
   obtain ⟨v, r, rfl, h1, h2⟩ := za1.mp h;exact Dens.cons' h1 (Dens.take i h2)
theorem Dens.eraseIdx : ∀ {ts : List T} {vs : List V} (i : Nat), Dens W ts vs -> Dens W (ts.eraseIdx i) (vs.eraseIdx i)
 | [], _, _, h => by rw [zbk.mp h]; simpa using Dens.nil'
 | t :: ts, vs, i, h => by
   obtain ⟨v, r, rfl, h1, h2⟩ := za1.mp h;cases i with
   | zero => exact h2
   | succ i => exact Dens.cons' h1 (Dens.eraseIdx i h2)
theorem DenK.length : ∀ {ts : List (Key × T)} {vs : List (Key × V)}, DenK W ts vs -> ts.length = vs.length
 | [], vs, h => by rw [zdb.mp h]; rfl
 | (k, t) :: ts, vs, h => by
   obtain ⟨v, r, e, _, h2⟩ := zcn.mp h;subst e;simp [DenK.length h2]
theorem DenK.nil' : DenK W [] [] := zdb.mpr rfl
theorem DenK.cons' {k : Key} {t : T} {ts : List (Key × T)} {v : V} {vs : List (Key × V)} (h : Den W t v) (r : DenK W ts vs) : DenK W ((k, t) :: ts) ((k, v) :: vs) := zcn.mpr ⟨v, vs, rfl, h, r⟩
end
def DenF (W : Wd) : List (Str × T) -> List (Str × V) -> Prop
 | [], vs => vs = []
 | (k, t) :: ts, vs => ∃ v r, vs = (k, v) :: r /\ Den W t v /\ DenF W ts r
theorem DenF.mono {W W' : Wd} (l : W.le W') : ∀ {ts : List (Str × T)} {vs : List (Str × V)}, DenF W ts vs -> DenF W' ts vs
 | [], _, h => h
 | (k, t) :: ts, vs, h => by
   obtain ⟨v, r, e, h1, h2⟩ := h;exact ⟨v, r, e, Den.mono l _ _ h1, DenF.mono l h2⟩
theorem DenF.length {W : Wd} : ∀ {ts : List (Str × T)} {vs : List (Str × V)}, DenF W ts vs -> ts.length = vs.length
 | [], _, h => by rw [show _ = [] from h]; rfl
 | (k, t) :: ts, vs, h => by
   obtain ⟨v, r, rfl, h1, h2⟩ := h;simp [DenF.length h2]
def XP (W : Wd) : Option Addr -> Option (List (Str × T)) -> Prop
 | none, none => True
 | some d, some fs => ∃ ks, W.P d = some (.xd ks) /\ DenF W fs ks
 | _, _ => False
theorem XP.mono {W W' : Wd} (l : W.le W') : ∀ {dx : Option Addr} {fs : Option (List (Str × T))}, XP W dx fs -> XP W' dx fs
 | none, none, _ => trivial
 | some _, some _, ⟨ks, h1, h2⟩ => ⟨ks, l.p _ _ h1, DenF.mono l h2⟩
 | none, some _, h => h.elim
 | some _, none, h => h.elim
def zb8 (W : Wd) (H : Hp) (a : Addr) : Cell -> Prop
 | .lst ts => ∃ vs, H a = some (.lst vs) /\ Dens W ts vs
 | .dic kvs => ∃ ks, H a = some (.dK ks) /\ DenK W kvs ks
 | .ins C fs => ∃ dx ks, H a = some (.ins C dx ks) /\ DenF W fs ks
 | .exc C fs => ∃ dx, H a = some (excL a C dx) /\ XP W dx fs
 | .lck kvs => ∃ o ks, H a = some (.frz o (.dK ks)) /\ DenK W kvs ks
theorem zb8.mono {W W' : Wd} (l : W.le W') {H : Hp} {a : Addr} : ∀ {c : Cell}, zb8 W H a c -> zb8 W' H a c
 | .lst ts, ⟨vs, h1, h2⟩ => ⟨vs, h1, Dens.mono l _ _ h2⟩
 | .dic ts, ⟨vs, h1, h2⟩ => ⟨vs, h1, DenK.mono l _ _ h2⟩
 | .ins C ts, ⟨dx, vs, h1, h2⟩ => ⟨dx, vs, h1, DenF.mono l h2⟩
 | .exc C fs, ⟨dx, h1, h2⟩ => ⟨dx, h1, h2.mono l⟩
 | .lck ts, ⟨o, vs, h1, h2⟩ => ⟨o, vs, h1, DenK.mono l _ _ h2⟩
theorem zb8.at {W : Wd} {H H' : Hp} {a : Addr} (e : H' a = H a) : ∀ {c : Cell}, zb8 W H a c -> zb8 W H' a c
 | .lst ts, ⟨vs, h1, h2⟩ => ⟨vs, e.trans h1, h2⟩
 | .dic ts, ⟨vs, h1, h2⟩ => ⟨vs, e.trans h1, h2⟩
 | .ins C ts, ⟨dx, vs, h1, h2⟩ => ⟨dx, vs, e.trans h1, h2⟩
 | .exc C ts, ⟨dx, h1, h2⟩ => ⟨dx, e.trans h1, h2⟩
 | .lck ts, ⟨o, vs, h1, h2⟩ => ⟨o, vs, e.trans h1, h2⟩
theorem zb8.some {W : Wd} {H : Hp} {a : Addr} : ∀ {c : Cell}, zb8 W H a c -> ∃ o, H a = some o /\ ∀ y, o ≠ .own y
 | .lst ts, ⟨vs, h1, h2⟩ => ⟨_, h1, (by intro _ z; cases z)⟩
 | .dic ts, ⟨vs, h1, h2⟩ => ⟨_, h1, (by intro _ z; cases z)⟩
 | .ins C ts, ⟨dx, vs, h1, h2⟩ => ⟨_, h1, (by intro _ z; cases z)⟩
 | .exc C ts, ⟨dx, h1, h2⟩ => ⟨_, h1, (by intro _ z; cases z)⟩
 | .lck ts, ⟨o, vs, h1, h2⟩ => ⟨_, h1, (by intro _ z; cases z)⟩
def zyu : HO -> Prop
 | .frz _ _ => False
 | _ => True
def RdX (H : Hp) (a : Addr) (o : HO) : Prop := H a = some o \/ ((∃ q, H a = some (.frz q o)) /\ ∀ xs, o ≠ .tup xs)
theorem RdX.rd {H : Hp} {a : Addr} {o : HO} (h : RdX H a o) : Rd H a o := by
 rcases h with h | ⟨h, _⟩
 ·exact .inl h
 ·exact .inr h
theorem RdX.ex {H : Hp} {a : Addr} {o : HO} (h : RdX H a o) : ∃ u, H a = some u := by
 rcases h with h | ⟨⟨q, h⟩, _⟩
 ·exact ⟨_, h⟩
 ·exact ⟨_, h⟩
theorem RdX.at {H H' : Hp} {a : Addr} {o : HO} (e : H' a = H a) (h : RdX H a o) : RdX H' a o := by
 rcases h with h | ⟨⟨q, h⟩, n⟩
 ·exact .inl (e.trans h)
 ·exact .inr ⟨⟨q, e.trans h⟩, n⟩
structure Rep (W : Wd) (S : Sto) (H : Hp) : Prop where
 sub : ∀ a o, W.HS a = some o -> RdX H a o /\ zyu o
 len : S.length = W.n
 cell : ∀ k c, S[k]? = some c -> zb8 W H (W.μ k) c /\ W.HS (W.μ k) = none
 inj : ∀ j k, j < W.n -> k < W.n -> W.μ j = W.μ k -> j = k
 zed : ∀ a q, W.Z a = some q -> H a = some (.frz q.1 q.2)
 prv : ∀ a o, W.P a = some o -> H a = some o /\ W.HS a = none /\ ∀ k, k < W.n -> W.μ k ≠ a
theorem Rep.lt {W : Wd} {S : Sto} {H : Hp} (r : Rep W S H) {k : Nat} {c : Cell} (h : S[k]? = some c) : k < W.n := by
 rw [<- r.len]; exact (List.getElem?_eq_some_iff.mp h).1
inductive R (α : Type) where
 | ok (a : α) (S : Sto)
 | exc (C : Addr) (fs : Option (List (Str × T))) (S : Sto)
 | bad
abbrev M (α : Type) := Sto -> R α
def M.pure {α : Type} (a : α) : M α := fun S => .ok a S
def M.bind {α β : Type} (m : M α) (f : α -> M β) : M β := fun S => match m S with
 | .ok a S' => f a S'
 | .exc C fs S' => .exc C fs S'
 | .bad => .bad
def M.bad {α : Type} : M α := fun _ => .bad
def XOk (W : Wd) (H : Hp) : Option Addr -> Option (List (Str × T)) -> Prop
 | none, none => True
 | some d, some fs => ∃ ks, H d = some (.xd ks) /\ W.HS d = none /\ DenF W fs ks
 | _, _ => False
def Post {α : Type} (E : XK) (W : Wd) (Q : α -> Wd -> Sto -> Hp -> Prop) : R α -> Prop
 | .ok a S' => ∀ W' H', W.le W' -> Rep W' S' H' -> Q a W' S' H'
 | .exc C fs S' => ∀ W' H' dx, W.le W' -> Rep W' S' H' -> XOk W' H' dx fs -> E (.ref C) dx H'
 | .bad => False
theorem Post.imp {α : Type} {E : XK} {W : Wd} {Q Q' : α -> Wd -> Sto -> Hp -> Prop} {r : R α} (h : Post E W Q r) (f : ∀ a W' S' H', W.le W' -> Rep W' S' H' -> Q a W' S' H' -> Q' a W' S' H') : Post E W Q' r := by
 cases r with
 | ok a S => exact fun W' H' l rp => f a W' S H' l rp (h W' H' l rp)
 | exc C fs S => exact h
 | bad => exact h
theorem Post.bind {α β : Type} {E : XK} {W : Wd} {Q : β -> Wd -> Sto -> Hp -> Prop} {m : M α} {f : α -> M β} {S : Sto} (h : Post E W Q (M.bind m f S)) :
 Post E W (fun a W1 S1 _ => Post E W1 Q (f a S1)) (m S) := by
 unfold M.bind at h;cases e : m S with
 | ok a S1 =>
   rw [e] at h;have h : Post E W Q (f a S1) := h;intro W1 H1 l _;show Post E W1 Q (f a S1);cases e2 : f a S1 with
   | ok b S2 => rw [e2] at h; exact fun W2 H2 l2 rp => h W2 H2 (l.trans l2) rp
   | exc C fs S2 => rw [e2] at h; exact fun W2 H2 dx l2 rp => h W2 H2 dx (l.trans l2) rp
   | bad => rw [e2] at h; exact h
 | exc C fs S1 => rw [e] at h; exact h
 | bad => rw [e] at h; exact h
abbrev Ev := List (Option T)
def zpz (W : Wd) : Option T -> Option V -> Prop
 | none, _ => True
 | some t, some v => Den W t v
 | some _, none => False
def za8 (W : Wd) : Ev -> St -> Prop
 | [], σ => σ = []
 | o :: ρ, σ => ∃ s r, σ = s :: r /\ zpz W o s /\ za8 W ρ r
theorem zpz.mono {W W' : Wd} (l : W.le W') : ∀ {o : Option T} {s : Option V}, zpz W o s -> zpz W' o s
 | none, _, _ => trivial
 | some t, some v, h => Den.mono l t v h
theorem za8.mono {W W' : Wd} (l : W.le W') : ∀ {ρ : Ev} {σ : St}, za8 W ρ σ -> za8 W' ρ σ
 | [], _, h => h
 | o :: ρ, σ, ⟨s, r, e, h1, h2⟩ => ⟨s, r, e, h1.mono l, h2.mono l⟩
theorem za8.get {W : Wd} : ∀ {ρ : Ev} {σ : St} {i : Nat} {t : T}, za8 W ρ σ -> ρ[i]? = some (some t) -> ∃ v, σ[i]? = some (some v) /\ Den W t v
 | [], _, _, _, _, e => by simp at e
 | o :: ρ, σ, i, t, ⟨s, r, e0, h1, h2⟩, e => by
   subst e0;cases i with
   | zero =>
     simp at e;subst e;cases s with
     | none => exact h1.elim
     | some v => exact ⟨v, rfl, h1⟩
   | succ i =>
     obtain ⟨v, e1, e2⟩ := za8.get (i := i) h2 (by simpa using e);exact ⟨v, by simpa using e1, e2⟩
theorem za8.set {W : Wd} {t : T} {v : V} (hv : Den W t v) : ∀ {ρ : Ev} {σ : St} (i : Nat), za8 W ρ σ -> za8 W (ρ.set i (some t)) (σ.set i (some v))
 | [], σ, i, h => by rw [show σ = [] from h]; exact rfl
 | o :: ρ, σ, i, ⟨s, r, e0, h1, h2⟩ => by
   subst e0;cases i with
   | zero => exact ⟨_, _, rfl, hv, h2⟩
   | succ i => exact ⟨_, _, rfl, h1, za8.set hv i h2⟩
theorem za8.append {W : Wd} : ∀ {ρ ρ' : Ev} {σ σ' : St}, za8 W ρ σ -> za8 W ρ' σ' -> za8 W (ρ ++ ρ') (σ ++ σ')
 | [], _, σ, _, h, g => by rw [show σ = [] from h]; exact g
 | o :: ρ, ρ', σ, σ', ⟨s, r, e0, h1, h2⟩, g => by
   subst e0;exact ⟨_, _, rfl, h1, za8.append h2 g⟩
theorem za8.nones {W : Wd} {σ : St} : ∀ (n : Nat), σ.length = n -> za8 W (List.replicate n none) σ := by
 induction σ with
 | nil => intro n h; subst h; exact rfl
 | cons s σ ih =>
   intro n h;subst h;exact ⟨s, σ, rfl, trivial, ih _ rfl⟩
theorem za8.ofDens {W : Wd} : ∀ {ts : List T} {vs : List V}, Dens W ts vs -> za8 W (ts.map some) (vs.map some)
 | [], vs, h => by rw [zbk.mp h]; exact rfl
 | t :: ts, vs, h => by
   obtain ⟨v, r, rfl, h1, h2⟩ := za1.mp h;exact ⟨_, _, rfl, h1, za8.ofDens h2⟩
theorem za8.cap {W : Wd} {ρ : Ev} {σ : St} (h : za8 W ρ σ) : ∀ (js : List Nat), za8 W (js.map fun j => (ρ[j]?).join) (zpx σ js)
 | [] => rfl
 | j :: js => by
   refine ⟨_, _, rfl, ?_, za8.cap h js⟩;show zpz W ((ρ[j]?).join) ((σ[j]?).join);cases e : ρ[j]? with
   | none => exact trivial
   | some o =>
     cases o with
     | none => exact trivial
     | some t =>
       obtain ⟨v, e1, h1⟩ := h.get e;rw [e1];exact h1
abbrev DE := Ev -> M T
abbrev DT := Ev -> M Bool
abbrev DA := Ev -> M (List T)
inductive Fl where
 | nx (ρ : Ev) | rt (t : T) | bk (ρ : Ev) | ct (ρ : Ev)
abbrev DS := Ev -> M Fl
abbrev QV (Q : VK) : T -> Wd -> Sto -> Hp -> Prop := fun t W' _ H' => ∀ v, Den W' t v -> Q v H'
def RE (E : XK) (f : DE) : TE := fun σ H Q => ∃ W S ρ, Rep W S H /\ za8 W ρ σ /\ Post E W (QV Q) (f ρ S)
def RT (E : XK) (f : DT) : TT := fun σ H Q => ∃ W S ρ, Rep W S H /\ za8 W ρ σ /\ Post E W (fun b _ _ H' => Q b H') (f ρ S)
def RA (E : XK) (f : DA) : TA := fun σ H Q => ∃ W S ρ, Rep W S H /\ za8 W ρ σ /\ Post E W (fun ts W' _ H' => ∀ vs, Dens W' ts vs -> Q vs H') (f ρ S)
def QF (D : Ends) : Fl -> Wd -> Sto -> Hp -> Prop
 | .nx ρ', W', _, H' => ∀ σ', za8 W' ρ' σ' -> D.nx σ' H'
 | .rt t, W', _, H' => ∀ v, Den W' t v -> D.rt v H'
 | .bk ρ', W', _, H' => ∀ σ', za8 W' ρ' σ' -> D.bk σ' H'
 | .ct ρ', W', _, H' => ∀ σ', za8 W' ρ' σ' -> D.ct σ' H'
def RS (E : XK) (f : DS) : TS := fun D σ H => ∃ W S ρ, Rep W S H /\ za8 W ρ σ /\ Post E W (QF D) (f ρ S)
theorem zcv {X : Cx} {e : Expr} {t t' : TE} (h : PE X e t) (w : ∀ σ H Q, t' σ H Q -> t σ H Q) : PE X e t' := fun pins s σ H Q I q => h pins s σ H Q I (w σ H Q q)
theorem zv2 {X : Cx} {e : Expr} {t t' : TT} (h : PT X e t) (w : ∀ σ H Q, t' σ H Q -> t σ H Q) : PT X e t' := fun pins s σ H Q I q => h pins s σ H Q I (w σ H Q q)
theorem z5d {X : Cx} {e : List Expr} {t t' : TA} (h : PA X e t) (w : ∀ σ H Q, t' σ H Q -> t σ H Q) : PA X e t' := fun p pins s σ H Q I q => h p pins s σ H Q I (w σ H Q q)
theorem zjd {X : Cx} {st : Stmt} {t t' : TS} (h : PS X st t) (w : ∀ D σ H, t' D σ H -> t D σ H) : PS X st t' := fun pins s σ H D I q => h pins s σ H D I (w D σ H q)
theorem z0a {X : Cx} {st : List Stmt} {t t' : TS} (h : PSs X st t) (w : ∀ D σ H, t' D σ H -> t D σ H) : PSs X st t' := fun pins s σ H D I q => h pins s σ H D I (w D σ H q)
end MF
namespace MF
open PySem L2
section
variable {W : Wd} {S : Sto} {H : Hp}
theorem Rep.hsNone (r : Rep W S H) {p : Addr} (h : H p = none) : W.HS p = none := by
 cases e : W.HS p with
 | none => rfl
 | some o =>
   obtain ⟨u, z⟩ := (r.sub p o e).1.ex;rw [h] at z;cases z
theorem Rep.cellAt (r : Rep W S H) {k : Nat} (h : k < W.n) : ∃ c, S[k]? = some c := by
 rw [<- r.len] at h;exact ⟨S[k], List.getElem?_eq_getElem h⟩
theorem Rep.μne (r : Rep W S H) {p : Addr} (h : H p = none) {k : Nat} (hk : k < W.n) : W.μ k ≠ p := by
 intro e;obtain ⟨c, hc⟩ := r.cellAt hk;obtain ⟨o, ho, _⟩ := (r.cell k c hc).1.some;rw [e, h] at ho;cases ho
def Wd.frz (W : Wd) (p : Addr) (o : HO) : Wd := ⟨upd W.HS p o, W.μ, W.n, W.Z, W.P⟩
theorem Wd.frz_le {p : Addr} {o : HO} (h : W.HS p = none) : W.le (W.frz p o) := ⟨fun a u e => by
 show upd W.HS p o a = some u;rw [zai (fun z => by rw [z, h] at e; cases e)]; exact e, fun _ _ e => e, fun _ _ e => e, Nat.le_refl _, fun _ _ => rfl⟩
theorem RdX.upd {p a : Addr} {o u : HO} (hp : H p = none) (h : RdX H a u) : RdX (upd H p o) a u := by
 obtain ⟨w, z⟩ := h.ex;exact h.at (zai (zbu z hp))
theorem Rep.extra (r : Rep W S H) {p : Addr} (hp : H p = none) (o : HO) : Rep W S (upd H p o) where
 sub := fun a u e => ⟨RdX.upd hp (r.sub a u e).1, (r.sub a u e).2⟩
 len := r.len
 cell := fun k c e => ⟨(r.cell k c e).1.at (zai (r.μne hp (r.lt e))), (r.cell k c e).2⟩
 inj := r.inj
 zed := fun a q e => by
  have h2 := r.zed a q e;rw [zai (zbu h2 hp)]; exact h2
 prv := fun a q e => by
  obtain ⟨h1, h2⟩ := r.prv a q e;exact ⟨by rw [zai (zbu h1 hp)]; exact h1, h2⟩
theorem Rep.frz (r : Rep W S H) {p : Addr} (hp : H p = none) (o : HO) (no : zyu o) : Rep (W.frz p o) S (upd H p o) where
 sub := fun a u e => by
  by_cases z : a = p
  ·subst z
   have e : upd W.HS a o a = some u := e;rw [zaj] at e;cases e;exact ⟨.inl zaj, no⟩
  ·have e : upd W.HS p o a = some u := e
   rw [zai z] at e;exact ⟨RdX.upd hp (r.sub a u e).1, (r.sub a u e).2⟩
 len := r.len
 cell := fun k c e => ⟨((r.cell k c e).1.at (zai (r.μne hp (r.lt e)))).mono (Wd.frz_le (r.hsNone hp)), by
  show upd W.HS p o (W.μ k) = none;rw [zai (r.μne hp (r.lt e))]; exact (r.cell k c e).2⟩
 inj := r.inj
 zed := fun a q e => by
  have h2 := r.zed a q e;rw [zai (zbu h2 hp)]; exact h2
 prv := fun a q e => by
  obtain ⟨h1, h2, h3⟩ := r.prv a q e;have ne := zbu h1 hp;exact ⟨by rw [zai ne]; exact h1, by show upd W.HS p o a = none; rw [zai ne]; exact h2, h3⟩
def Wd.add (W : Wd) (p : Addr) : Wd := ⟨W.HS, fun k => if k = W.n then p else W.μ k, W.n + 1, W.Z, W.P⟩
theorem Wd.add_le {p : Addr} : W.le (W.add p) := ⟨fun _ _ e => e, fun _ _ e => e, fun _ _ e => e, Nat.le_succ _, fun k h => by
 show (if k = W.n then p else W.μ k) = W.μ k;rw [if_neg (Nat.ne_of_lt h)]⟩
theorem Wd.add_at {p : Addr} : (W.add p).μ W.n = p := by show (if W.n = W.n then p else _) = p; rw [if_pos rfl]
theorem Wd.add_old {p : Addr} {k : Nat} (h : k < W.n) : (W.add p).μ k = W.μ k := Wd.add_le.μ k h
theorem Rep.cellNew' (r : Rep W S H) {p : Addr} {H' : Hp} (hp : H p = none) (keep : ∀ a o, H a = some o -> H' a = some o) (c : Cell) (hc : zb8 (W.add p) H' p c) : Rep (W.add p) (S ++ [c]) H' where
 sub := fun a u e => by
  obtain ⟨h1, h2⟩ := r.sub a u e;obtain ⟨w, z⟩ := h1.ex;exact ⟨h1.at ((keep _ _ z).trans z.symm), h2⟩
 len := by rw [List.length_append, List.length_singleton, r.len]; rfl
 cell := fun k c' e => by
  by_cases z : k < S.length
  ·rw [List.getElem?_append_left z] at e
   have hk : k < W.n := r.len ▸ z;rw [Wd.add_old hk];obtain ⟨h1, h2⟩ := r.cell k c' e;obtain ⟨o, ho, _⟩ := h1.some;exact ⟨(h1.at ((keep _ _ ho).trans ho.symm)).mono Wd.add_le, h2⟩
  ·have hk : k = W.n := by
    have := (List.getElem?_eq_some_iff.mp e).1;rw [List.length_append, List.length_singleton] at this;have l := r.len;omega
   subst hk;rw [<- r.len, List.getElem?_append_right (Nat.le_refl _), Nat.sub_self] at e;have e : c = c' := by simpa using e
   subst e;rw [Wd.add_at];exact ⟨hc, r.hsNone hp⟩
 inj := fun j k hj hk e => by
  have hj : j < W.n + 1 := hj;have hk : k < W.n + 1 := hk;by_cases z : j < W.n
  ·by_cases y : k < W.n
   ·rw [Wd.add_old z, Wd.add_old y] at e; exact r.inj j k z y e
   ·have : k = W.n := by omega
    subst this;rw [Wd.add_old z, Wd.add_at] at e;exact absurd e (r.μne hp z)
  ·have : j = W.n := by omega
   subst this;by_cases y : k < W.n
   ·rw [Wd.add_old y, Wd.add_at] at e
    exact absurd e.symm (r.μne hp y)
   ·omega
 zed := fun a q e => by
  exact keep _ _ (r.zed a q e)
 prv := fun a q e => by
  obtain ⟨h1, h2, h3⟩ := r.prv a q e;refine ⟨keep _ _ h1, h2, fun k hk z => ?_⟩;have hk : k < W.n + 1 := hk;by_cases y : k < W.n
  ·rw [Wd.add_old y] at z; exact h3 k y z
  ·have : k = W.n := by omega
   subst this;rw [Wd.add_at] at z;rw [z, h1] at hp;cases hp
theorem Rep.cellNew (r : Rep W S H) {p : Addr} (hp : H p = none) (c : Cell) (o : HO) (hc : zb8 (W.add p) (upd H p o) p c) : Rep (W.add p) (S ++ [c]) (upd H p o) :=
 r.cellNew' hp (fun a u e => by rw [zai (zbu e hp)]; exact e) c hc
theorem Rep.noZ (r : Rep W S H) {k : Nat} {c : Cell} (h : S[k]? = some c) (nl : ∀ kvs, c ≠ .lck kvs) : W.Z (W.μ k) = none := by
 cases e : W.Z (W.μ k) with
 | none => rfl
 | some q =>
   have z := r.zed _ _ e;have y := (r.cell k c h).1;cases c with
   | lst ts => obtain ⟨_, h1, _⟩ := y; rw [z] at h1; cases h1
   | dic ts => obtain ⟨_, h1, _⟩ := y; rw [z] at h1; cases h1
   | ins _ ts => obtain ⟨_, _, h1, _⟩ := y; rw [z] at h1; cases h1
   | exc _ ts => obtain ⟨_, h1, _⟩ := y; rw [z] at h1; cases h1
   | lck ts => exact absurd rfl (nl ts)
theorem Rep.cellSet (r : Rep W S H) {k : Nat} {c : Cell} (h : S[k]? = some c) (c' : Cell) (o : HO) (hc : zb8 W (upd H (W.μ k) o) (W.μ k) c') (nz : W.Z (W.μ k) = none := by
 exact Rep.noZ (by assumption) (by assumption) (by intro _ z; cases z)) : Rep W (S.set k c') (upd H (W.μ k) o) where
 sub := fun a u e => by
  have ne : a ≠ W.μ k := fun z => by rw [z, (r.cell k c h).2] at e; cases e
  exact ⟨(r.sub a u e).1.at (zai ne), (r.sub a u e).2⟩
 len := by rw [List.length_set]; exact r.len
 cell := fun j c2 e => by
  by_cases z : j = k
  ·subst z
   have hj := r.lt h;rw [List.getElem?_set_self (by rw [r.len]; exact hj)] at e;cases e;exact ⟨hc, (r.cell j c h).2⟩
  ·rw [List.getElem?_set_ne (Ne.symm z)] at e
   have hj := r.lt e;exact ⟨(r.cell j c2 e).1.at (zai fun y => z (r.inj j k hj (r.lt h) y)), (r.cell j c2 e).2⟩
 inj := r.inj
 zed := fun a q e => by
  rw [zai fun z => by rw [z, nz] at e; cases e]; exact r.zed a q e
 prv := fun a q e => by
  obtain ⟨h1, h2, h3⟩ := r.prv a q e;exact ⟨by rw [zai (Ne.symm (h3 k (r.lt h)))]; exact h1, h2, h3⟩
def Wd.priv (W : Wd) (p : Addr) (o : HO) : Wd := ⟨W.HS, W.μ, W.n, W.Z, upd W.P p o⟩
theorem Wd.priv_le {p : Addr} {o : HO} (h : W.P p = none) : W.le (W.priv p o) := ⟨fun _ _ e => e, fun _ _ e => e, fun a u e => by
 show upd W.P p o a = some u;rw [zai (fun z => by rw [z, h] at e; cases e)]; exact e, Nat.le_refl _, fun _ _ => rfl⟩
theorem Rep.prvNone (r : Rep W S H) {p : Addr} (h : H p = none) : W.P p = none := by
 cases e : W.P p with
 | none => rfl
 | some o => rw [(r.prv p o e).1] at h; cases h
theorem Rep.samePriv {W' : Wd} {H' : Hp} (r : Rep W S H) (hs : W'.HS = W.HS) (hμ : W'.μ = W.μ) (hn : W'.n = W.n) (hz : W'.Z = W.Z) (c : ∀ {k : Nat} {c : Cell}, S[k]? = some c -> zb8 W H (W.μ k) c -> zb8 W' H' (W.μ k) c)
 (sub : ∀ a o, W.HS a = some o -> RdX H a o -> RdX H' a o) (z : ∀ a o u, W.Z a = some (o, u) -> H a = some (.frz o u) -> H' a = some (.frz o u))
 (prv : ∀ a o, W'.P a = some o -> H' a = some o /\ W.HS a = none /\ ∀ k, k < W.n -> W.μ k ≠ a) : Rep W' S H' where
 sub := fun a o e => by rw [hs] at e; exact ⟨sub a o e (r.sub a o e).1, (r.sub a o e).2⟩
 len := by rw [hn]; exact r.len
 cell := fun k c' e => by rw [hs, hμ]; exact ⟨c e (r.cell k c' e).1, (r.cell k c' e).2⟩
 inj := by rw [hn, hμ]; exact r.inj
 zed := fun a o e => by
  rw [hz] at e;exact z a o.1 o.2 e (r.zed a o e)
 prv := fun a o e => by rw [hs, hn, hμ]; exact prv a o e
mutual
theorem Den.hs {W W' : Wd} (hs : W'.HS = W.HS) (hμ : W'.μ = W.μ) (hn : W'.n = W.n) : ∀ (t : T) (v : V), Den W t v -> Den W' t v
 | .non, _, h => zcf.mpr (zcf.mp h)
 | .bl _, _, h => zbq.mpr (zbq.mp h)
 | .int _, _, h => za2.mpr (za2.mp h)
 | .str _, _, h => zbj.mpr (zbj.mp h)
 | .lst ts, v, h => by obtain ⟨a, vs, e, h1, h2⟩ := zew.mp h; exact zew.mpr ⟨a, vs, e, by rw [hs]; exact h1, Dens.hs hs hμ hn ts vs h2⟩
 | .tup ts, v, h => by obtain ⟨a, vs, e, h1, h2⟩ := zfk.mp h; exact zfk.mpr ⟨a, vs, e, by rw [hs]; exact h1, Dens.hs hs hμ hn ts vs h2⟩
 | .dic ts, v, h => by obtain ⟨a, vs, e, h1, h2⟩ := zhk.mp h; exact zhk.mpr ⟨a, vs, e, by rw [hs]; exact h1, DenK.hs hs hμ hn ts vs h2⟩
 | .obj k, v, h => by obtain ⟨e, h1⟩ := zco.mp h; exact zco.mpr ⟨by rw [hμ]; exact e, by rw [hn]; exact h1⟩
theorem Dens.hs {W W' : Wd} (hs : W'.HS = W.HS) (hμ : W'.μ = W.μ) (hn : W'.n = W.n) : ∀ (ts : List T) (vs : List V), Dens W ts vs -> Dens W' ts vs
 | [], vs, h => zbk.mpr (zbk.mp h)
 | t :: ts, vs, h => by obtain ⟨v, r, e, h1, h2⟩ := za1.mp h; exact za1.mpr ⟨v, r, e, Den.hs hs hμ hn t v h1, Dens.hs hs hμ hn ts r h2⟩
theorem DenK.hs {W W' : Wd} (hs : W'.HS = W.HS) (hμ : W'.μ = W.μ) (hn : W'.n = W.n) : ∀ (ts : List (Key × T)) (vs : List (Key × V)), DenK W ts vs -> DenK W' ts vs
 | [], vs, h => zdb.mpr (zdb.mp h)
 | (k, t) :: ts, vs, h => by obtain ⟨v, r, e, h1, h2⟩ := zcn.mp h; exact zcn.mpr ⟨v, r, e, Den.hs hs hμ hn t v h1, DenK.hs hs hμ hn ts r h2⟩
end
theorem DenF.hs {W W' : Wd} (hs : W'.HS = W.HS) (hμ : W'.μ = W.μ) (hn : W'.n = W.n) : ∀ {ts : List (Str × T)} {vs : List (Str × V)}, DenF W ts vs -> DenF W' ts vs
 | [], _, h => h
 | (k, t) :: ts, vs, ⟨v, r, e, h1, h2⟩ => ⟨v, r, e, Den.hs hs hμ hn t v h1, DenF.hs hs hμ hn h2⟩
theorem zb8.hs {W W' : Wd} (hs : W'.HS = W.HS) (hμ : W'.μ = W.μ) (hn : W'.n = W.n) (hp : ∀ d ks, W.P d = Option.some (.xd ks) -> W'.P d = Option.some (.xd ks)) {a : Addr} : ∀ {c : Cell}, zb8 W H a c -> zb8 W' H a c
 | .lst ts, ⟨vs, h1, h2⟩ => ⟨vs, h1, Dens.hs hs hμ hn _ _ h2⟩
 | .dic ts, ⟨vs, h1, h2⟩ => ⟨vs, h1, DenK.hs hs hμ hn _ _ h2⟩
 | .ins C ts, ⟨dx, vs, h1, h2⟩ => ⟨dx, vs, h1, DenF.hs hs hμ hn h2⟩
 | .lck ts, ⟨o, vs, h1, h2⟩ => ⟨o, vs, h1, DenK.hs hs hμ hn _ _ h2⟩
 | .exc C none, ⟨none, h1, h2⟩ => ⟨none, h1, trivial⟩
 | .exc C (Option.some fs), ⟨Option.some d, h1, ⟨ks, h2, h3⟩⟩ => ⟨Option.some d, h1, ks, hp d ks h2, DenF.hs hs hμ hn h3⟩
 | .exc C none, ⟨Option.some _, _, h2⟩ => h2.elim
 | .exc C (Option.some _), ⟨none, _, h2⟩ => h2.elim
theorem Rep.privNew (r : Rep W S H) {p : Addr} (hp : H p = none) (o : HO) : Rep (W.priv p o) S (upd H p o) :=
 r.samePriv rfl rfl rfl rfl (fun e c => zb8.hs (W := W) (W' := W.priv p o) rfl rfl rfl (fun d ks z => by
  show upd W.P p o d = _;rw [zai (fun q => by have y := (r.prv d _ z).1; rw [q, hp] at y; cases y)]; exact z) (zb8.at (zai (r.μne hp (r.lt e))) c)) (fun a u _ h => RdX.upd hp h) (fun a q u _ h => by rw [zai (zbu h hp)]; exact h) fun a u e => by
  have e : upd W.P p o a = some u := e;by_cases z : a = p
  ·subst z
   rw [zaj] at e;cases e;exact ⟨zaj, r.hsNone hp, fun k hk => r.μne hp hk⟩
  ·rw [zai z] at e ⊢
   exact r.prv a u e
theorem Rep.privSet (r : Rep W S H) {p : Addr} {o : HO} (hp : W.P p = some o) (nx : ∀ ks, o ≠ .xd ks) (nfz : ∀ q u, o ≠ .frz q u) (o' : HO) : Rep (W.priv p o') S (upd H p o') := by
 obtain ⟨h1, h2, h3⟩ := r.prv p o hp;have ne : ∀ a u, W.HS a = some u -> a ≠ p := fun a u e z => by rw [z, h2] at e; cases e
 refine r.samePriv rfl rfl rfl rfl (fun e c => zb8.hs (W := W) (W' := W.priv p o') rfl rfl rfl (fun d ks z => by
  show upd W.P p o' d = _;rw [zai (fun q => by rw [q, hp] at z; cases z; exact nx _ rfl)]; exact z) (zb8.at (zai (h3 _ (r.lt e))) c)) (fun a u e h => h.at (zai (ne a u e))) (fun a q u e h => by rw [zai (fun z => by rw [z, h1] at h; cases h; exact nfz _ _ rfl)]; exact h) fun a u e => ?_
 have e : upd W.P p o' a = some u := e;by_cases z : a = p
 ·subst z
  rw [zaj] at e;cases e;exact ⟨zaj, h2, h3⟩
 ·rw [zai z] at e ⊢
  exact r.prv a u e
def Wd.unp (W : Wd) (p : Addr) : Wd := ⟨W.HS, W.μ, W.n, W.Z, fun a => if a = p then none else W.P a⟩
theorem Rep.unp (r : Rep W S H) (p : Addr) (nx : ∀ ks, W.P p ≠ some (.xd ks)) : Rep (W.unp p) S H :=
 r.samePriv rfl rfl rfl rfl (fun e c => zb8.hs (W := W) (W' := W.unp p) rfl rfl rfl (fun d ks z => by
  show (if d = p then none else W.P d) = _;rw [if_neg (fun q => by rw [q] at z; exact nx _ z)]; exact z) c) (fun a u _ h => h) (fun a q u _ h => h) fun a u e => by
  have e : (if a = p then none else W.P a) = some u := e;by_cases z : a = p
  ·rw [if_pos z] at e; cases e
  ·rw [if_neg z] at e; exact r.prv a u e
theorem Rep.privFrz (r : Rep W S H) {p : Addr} {o : HO} (hp : W.P p = some o) (no : zyu o) (nx : ∀ ks, o ≠ .xd ks) : Rep ((W.unp p).frz p o) S H := by
 obtain ⟨h1, h2, h3⟩ := r.prv p o hp;have r' := r.unp p (fun ks z => by rw [hp] at z; cases z; exact nx _ rfl);have l : (W.unp p).le ((W.unp p).frz p o) := Wd.frz_le h2;refine ⟨fun a u e => ?_, r.len, fun k c e => ⟨(r'.cell k c e).1.mono l, ?_⟩, r.inj, fun a q e => ?_, fun a u e => ?_⟩
 ·have e : upd W.HS p o a = some u := e
  by_cases z : a = p
  ·subst z
   rw [zaj] at e;cases e;exact ⟨.inl h1, no⟩
  ·rw [zai z] at e; exact r.sub a u e
 ·show upd W.HS p o (W.μ k) = none
  rw [zai (h3 k (r.lt e))]; exact (r.cell k c e).2
 ·exact r'.zed a q e
 ·obtain ⟨g1, g2, g3⟩ := r'.prv a u e
  refine ⟨g1, ?_, g3⟩;show upd W.HS p o a = none;by_cases z : a = p
  ·have e : (if a = p then none else W.P a) = some u := e
   rw [if_pos z] at e; cases e
  ·rw [zai z]; exact g2
end
def za6 (S : Sto) : T -> Option (List T)
 | .lst ts => some ts
 | .obj k => match S[k]? with
   | some (.lst ts) => some ts
   | _ => none
 | _ => none
def zf6 (S : Sto) : T -> Option (List T)
 | .tup ts => some ts
 | t => za6 S t
def zgc (S : Sto) : T -> Option (List (Key × T))
 | .dic ts => some ts
 | .obj k => match S[k]? with
   | some (.dic ts) => some ts
   | _ => none
 | _ => none
section
variable {W : Wd} {S : Sto} {H : Hp}
theorem zp0 {k : Nat} {ts : List T} (h : za6 S (.obj k) = some ts) : S[k]? = some (.lst ts) := by
 unfold za6 at h;cases e : S[k]? with
 | none => simp [e] at h
 | some c => cases c <;> simp [e] at h; subst h; rfl
theorem zv3 {k : Nat} {ts : List (Key × T)} (h : zgc S (.obj k) = some ts) : S[k]? = some (.dic ts) := by
 unfold zgc at h;cases e : S[k]? with
 | none => simp [e] at h
 | some c => cases c <;> simp [e] at h; subst h; rfl
theorem Rep.list (r : Rep W S H) {t : T} {v : V} {ts : List T} (d : Den W t v) (h : za6 S t = some ts) : ∃ a vs, v = .ref a /\ Rd H a (.lst vs) /\ Dens W ts vs := by
 cases t with
 | lst xs =>
   have e : xs = ts := by simpa [za6] using h
   subst e;obtain ⟨a, vs, rfl, h1, h2⟩ := zew.mp d;exact ⟨a, vs, rfl, (r.sub a _ h1).1.rd, h2⟩
 | obj k =>
   obtain ⟨rfl, hk⟩ := zco.mp d;obtain ⟨⟨vs, h1, h2⟩, _⟩ := r.cell k _ (zp0 h);exact ⟨_, vs, rfl, .inl h1, h2⟩
 | _ => simp [za6] at h
theorem Rep.seq (r : Rep W S H) {t : T} {v : V} {ts : List T} (d : Den W t v) (h : zf6 S t = some ts) : ∃ a vs, v = .ref a /\ (Rd H a (.lst vs) \/ Rd H a (.tup vs)) /\ Dens W ts vs := by
 cases t with
 | tup xs =>
   have e : xs = ts := by simpa [zf6] using h
   subst e;obtain ⟨a, vs, rfl, h1, h2⟩ := zfk.mp d;exact ⟨a, vs, rfl, .inr (r.sub a _ h1).1.rd, h2⟩
 | lst xs => obtain ⟨a, vs, e, h1, h2⟩ := r.list d (by simpa [zf6] using h); exact ⟨a, vs, e, .inl h1, h2⟩
 | obj k => obtain ⟨a, vs, e, h1, h2⟩ := r.list d (by simpa [zf6] using h); exact ⟨a, vs, e, .inl h1, h2⟩
 | _ => simp [zf6, za6] at h
theorem Rep.dict (r : Rep W S H) {t : T} {v : V} {ts : List (Key × T)} (d : Den W t v) (h : zgc S t = some ts) : ∃ a vs, v = .ref a /\ Rd H a (.dK vs) /\ DenK W ts vs := by
 cases t with
 | dic xs =>
   have e : xs = ts := by simpa [zgc] using h
   subst e;obtain ⟨a, vs, rfl, h1, h2⟩ := zhk.mp d;exact ⟨a, vs, rfl, (r.sub a _ h1).1.rd, h2⟩
 | obj k =>
   obtain ⟨rfl, hk⟩ := zco.mp d;obtain ⟨⟨vs, h1, h2⟩, _⟩ := r.cell k _ (zv3 h);exact ⟨_, vs, rfl, .inl h1, h2⟩
 | _ => simp [zgc] at h
end
def eVar (i : Nat) : DE := fun ρ => match ρ[i]? with
 | some (some t) => M.pure t
 | _ => M.bad
def eC (t : T) : DE := fun _ => M.pure t
def e2 (g : T -> T -> M T) (fa fb : DE) : DE := fun ρ => (fa ρ).bind fun x => (fb ρ).bind fun y => g x y
def e1 (g : T -> M T) (fa : DE) : DE := fun ρ => (fa ρ).bind g
def aNil : DA := fun _ => M.pure []
def zac (fa : DE) (r : DA) : DA := fun ρ => (fa ρ).bind fun t => (r ρ).bind fun ts => M.pure (t :: ts)
section
variable {X : Cx} {E : XK} {a b e : Expr} {es : List Expr} {fa fb : DE} {fr : DA} {pos : Pos}
theorem z5e {i : Nat} {σ : St} {H : Hp} {Q : VK} (h : RE E (eVar i) σ H Q) : tVar i σ H Q := by
 obtain ⟨W, S, ρ, r, env, p⟩ := h;unfold eVar at p;cases e : ρ[i]? with
 | none => rw [e] at p; exact p.elim
 | some o =>
   cases o with
   | none => rw [e] at p; exact p.elim
   | some t =>
     rw [e] at p;obtain ⟨v, e1, d⟩ := env.get e;exact ⟨v, e1, p W H (Wd.le.refl W) r v d⟩
theorem ev (i : Nat) {x : Str} (hN : X.N[i]? = some x := by rfl) (hv : Vis X.env.scope x := by first | exact Or.inl rfl | exact Or.inr (Or.inl rfl) | exact Or.inr (Or.inr rfl)) (hd : (x == ("__debug__" : Str)) = false := by decide)
 (hcd : (x == ("__classdict__" : Str)) = false := by decide) : PE X (.Name x pos) (RE E (eVar i)) := zcv (pv i hN hv hd hcd) fun _ _ _ => z5e
theorem re_c {t : T} {v : V} (hd : ∀ W, Den W t v) {σ : St} {H : Hp} {Q : VK} (h : RE E (eC t) σ H Q) : Q v H := by
 obtain ⟨W, S, ρ, r, env, p⟩ := h;exact p W H (Wd.le.refl W) r v (hd W)
theorem zaq {i j} : PE X (.Constant (.int i) j pos) (RE E (eC (.int i))) := zcv z36 fun _ _ _ => re_c fun W => za2.mpr rfl
theorem zk6 {i j} : PE X (.Constant (.bool i) j pos) (RE E (eC (.bl i))) := zcv z60 fun _ _ _ => re_c fun W => zbq.mpr rfl
theorem zam {i j} : PE X (.Constant (.str i) j pos) (RE E (eC (.str i))) := zcv zpf fun _ _ _ => re_c fun W => zbj.mpr rfl
theorem zi1 {j} : PE X (.Constant .none j pos) (RE E (eC .non)) := zcv z37 fun _ _ _ => re_c fun W => zcf.mpr rfl
def G2 (E : XK) (r : R2) (g : T -> T -> M T) : Prop := ∀ (tx ty : T) (W : Wd) (S : Sto) (H : Hp) (x y : V) (Q : VK), Rep W S H -> Den W tx x -> Den W ty y -> Post E W (QV Q) (g tx ty S) -> r x y H Q
theorem re2 {r : R2} {g : T -> T -> M T} (hg : G2 E r g) {σ : St} {H : Hp} {Q : VK} (h : RE E (e2 g fa fb) σ H Q) : tOp r (RE E fa) (RE E fb) σ H Q := by
 obtain ⟨W, S, ρ, rp, env, p⟩ := h;refine ⟨W, S, ρ, rp, env, (Post.bind p).imp fun tx W1 S1 H1 l1 r1 p1 x dx => ?_⟩;refine ⟨W1, S1, ρ, r1, env.mono l1, (Post.bind p1).imp fun ty W2 S2 H2 l2 r2 p2 y dy => ?_⟩;exact hg tx ty W2 S2 H2 x y Q r2 (Den.mono l2 _ _ dx) dy p2
def G1 (E : XK) (r : V -> Hp -> VK -> Prop) (g : T -> M T) : Prop := ∀ (tx : T) (W : Wd) (S : Sto) (H : Hp) (x : V) (Q : VK), Rep W S H -> Den W tx x -> Post E W (QV Q) (g tx S) -> r x H Q
theorem re1 {r : V -> Hp -> VK -> Prop} {g : T -> M T} (hg : G1 E r g) {σ : St} {H : Hp} {Q : VK} (h : RE E (e1 g fa) σ H Q) : RE E fa σ H (fun x H1 => r x H1 Q) := by
 obtain ⟨W, S, ρ, rp, env, p⟩ := h;exact ⟨W, S, ρ, rp, env, (Post.bind p).imp fun tx W1 S1 H1 l1 r1 p1 x dx => hg tx W1 S1 H1 x Q r1 dx p1⟩
theorem zad : PA X [] (RA E aNil) := z5d ziy fun σ H Q h => by
 obtain ⟨W, S, ρ, r, env, p⟩ := h;exact p W H (Wd.le.refl W) r [] Dens.nil'
theorem zaa (ha : PE X e (RE E fa)) (hr : PA X es (RA E fr)) (hs : starEach (e :: es) X.env = (false, eval e X.env) :: starEach es X.env := by rfl) : PA X (e :: es) (RA E (zac fa fr)) :=
 z5d (zev ha hr hs) fun σ H Q h => by
  obtain ⟨W, S, ρ, rp, env, p⟩ := h;refine ⟨W, S, ρ, rp, env, (Post.bind p).imp fun tx W1 S1 H1 l1 r1 p1 x dx => ?_⟩;refine ⟨W1, S1, ρ, r1, env.mono l1, (Post.bind p1).imp fun ts W2 S2 H2 l2 r2 p2 vs dvs => ?_⟩;exact p2 W2 H2 (Wd.le.refl _) r2 _ (Dens.cons' (Den.mono l2 _ _ dx) dvs)
end
def gI (f : Int -> Int -> Option T) (x y : T) : M T := fun S => match x, y with
 | .int i, .int j => (match f i j with
   | some t => .ok t S
   | none => .bad)
 | _, _ => .bad
theorem z5f {E : XK} {W : Wd} {S : Sto} {f : Int -> Int -> Option T} {tx ty : T} {Q : T -> Wd -> Sto -> Hp -> Prop} (p : Post E W Q (gI f tx ty S)) : ∃ i j t, tx = .int i /\ ty = .int j /\ f i j = some t /\ Post E W Q (.ok t S) := by
 unfold gI at p;cases tx with
 | int i =>
   cases ty with
   | int j =>
     cases e : f i j with
     | none => simp only [e] at p; exact p.elim
     | some t => simp only [e] at p; exact ⟨i, j, t, rfl, rfl, e, p⟩
   | _ => exact p.elim
 | _ => exact p.elim
def fDiv (i j : Int) : Option T := if 0 < j /\ j < 1073741824 then some (.int (i / j)) else none
def fMod (i j : Int) : Option T := if 0 < j then some (.int (i % j)) else none
def fLt (i j : Int) : Option T := some (.bl (decide (i < j)))
def fGe (i j : Int) : Option T := some (.bl (decide (j <= i)))
section
variable {X : Cx} {E : XK} {a b e : Expr} {fa fb : DE} {pos : Pos}
theorem now {E : XK} {W : Wd} {S : Sto} {H : Hp} {t : T} {v : V} {Q : VK} (p : Post E W (QV Q) (.ok t S)) (r : Rep W S H) (d : Den W t v) : Q v H := p W H (Wd.le.refl W) r v d
theorem z5g {f : Int -> Int -> V} {g : Int -> Int -> Option T} (h : ∀ i j t, g i j = some t -> ∀ W, Den W t (f i j)) : G2 E (rI0 f) (gI g) := by
 intro tx ty W S H x y Q r dx dy p;obtain ⟨i, j, t, rfl, rfl, e, p⟩ := z5f p;exact ⟨i, j, za2.mp dx, za2.mp dy, now p r (h i j t e W)⟩
theorem g2_I {C : Int -> Int -> Prop} {f : Int -> Int -> V} {g : Int -> Int -> Option T} (h : ∀ i j t, g i j = some t -> C i j /\ ∀ W, Den W t (f i j)) : G2 E (rI C f) (gI g) := by
 intro tx ty W S H x y Q r dx dy p;obtain ⟨i, j, t, rfl, rfl, e, p⟩ := z5f p;exact ⟨i, j, za2.mp dx, za2.mp dy, (h i j t e).1, now p r ((h i j t e).2 W)⟩
theorem z5h (ha : PE X a (RE E fa)) (hb : PE X b (RE E fb)) : PE X (.BinOp a .FloorDiv b pos) (RE E (e2 (gI fDiv) fa fb)) := zcv (z1d z1e ha hb) fun _ _ _ => re2 (g2_I fun i j t e => by
 unfold fDiv at e; split at e
 ·rename_i h; cases e; exact ⟨h, fun W => za2.mpr rfl⟩
 ·cases e)
theorem zgq (ha : PE X a (RE E fa)) (hb : PE X b (RE E fb)) : PE X (.BinOp a .Mod b pos) (RE E (e2 (gI fMod) fa fb)) := zcv (z1d z4k ha hb) fun _ _ _ => re2 (g2_I fun i j t e => by
 unfold fMod at e; split at e
 ·rename_i h; cases e; exact ⟨h, fun W => za2.mpr rfl⟩
 ·cases e)
def gAdd (x y : T) : M T := fun S => match x, y with
 | .int i, .int j => .ok (.int (i + j)) S
 | .str i, .str j => if i.length + j.length <= 1000 then .ok (.str (i ++ j)) S else .bad
 | _, _ => match za6 S x, za6 S y with
   | some xs, some ys => if xs.length + ys.length <= 1000 then .ok (.lst (xs ++ ys)) S else .bad
   | _, _ => .bad
theorem z19 : OpR X (binaryOp .Add) (fun x y H Q => ∃ l b xs zs, x = .ref l /\ y = .ref b /\ Rd H l (.lst xs) /\ Rd H b (.lst zs) /\ xs.length + zs.length <= sizeLine /\ ∀ p, H p = none -> Q (.ref p) (upd H p (.lst (xs ++ zs)))) := by
 intro pins s σ H x y v u Q I rx ry h;obtain ⟨l, b, xs, zs, rfl, rfl, hH, hB, hz, q⟩ := h;cases rx;cases ry;obtain ⟨z, its, n, r, e⟩ := hH.ok I.hok;obtain ⟨z2, its2, n2, r2, e2⟩ := hB.ok I.hok;have hl := r.length;have hl2 := r2.length;refine PySem.P.add_list e e2 ?_ (by rw [List.size_toArray, List.size_toArray]; omega);have ea : its.toArray ++ its2.toArray = (its ++ its2).toArray := by simp
 rw [ea];exact ⟨.ref _, _, I.lnew (t' := s.toks) (r.append r2) (by rw [List.length_append]; omega), rfl, q _ I.fresh⟩
theorem big {n : Nat} (h : n <= 1000) : n <= sizeLine := Nat.le_of_lt (zpt h)
theorem zv4 {E : XK} {W : Wd} {S : Sto} {H : Hp} {Q : VK} {ts : List T} {vs : List V} (p : Post E W (QV Q) (.ok (.lst ts) S)) (r : Rep W S H) (d : Dens W ts vs) : ∀ a, H a = none -> Q (.ref a) (upd H a (.lst vs)) := fun a ha => by
 have l : W.le (W.frz a (.lst vs)) := Wd.frz_le (r.hsNone ha);exact p (W.frz a (.lst vs)) _ l (r.frz ha _ trivial) _ (zew.mpr ⟨a, vs, rfl, zaj, Dens.mono l _ _ d⟩)
theorem z2a {E : XK} {W : Wd} {S : Sto} {H : Hp} {Q : VK} {ts : List T} {vs : List V} (p : Post E W (QV Q) (.ok (.tup ts) S)) (r : Rep W S H) (d : Dens W ts vs) : ∀ a, H a = none -> Q (.ref a) (upd H a (.tup vs)) := fun a ha => by
 have l : W.le (W.frz a (.tup vs)) := Wd.frz_le (r.hsNone ha);exact p (W.frz a (.tup vs)) _ l (r.frz ha _ trivial) _ (zfk.mpr ⟨a, vs, rfl, zaj, Dens.mono l _ _ d⟩)
theorem zs5 {E : XK} {W : Wd} {S : Sto} {H : Hp} {Q : VK} {ts : List T} {vs : List V} (p : Post E W (QV Q) (.ok (.obj S.length) (S ++ [.lst ts]))) (r : Rep W S H) (d : Dens W ts vs) : ∀ a, H a = none -> Q (.ref a) (upd H a (.lst vs)) := fun a ha => by
 refine p (W.add a) _ Wd.add_le (r.cellNew ha (.lst ts) _ ⟨vs, zaj, Dens.mono Wd.add_le _ _ d⟩) _ (zco.mpr ⟨?_, ?_⟩)
 ·rw [r.len, Wd.add_at]
 ·rw [r.len]; exact Nat.lt_succ_self _
theorem z5i : G2 E (fun x y H Q => (rI0 (fun i j => .int (i + j)) x y H Q \/ (∃ i j, x = .str i /\ y = .str j /\ i.length + j.length <= sizeLine /\ Q (.str (i ++ j)) H)) \/ (∃ l b xs zs, x = .ref l /\ y = .ref b /\ Rd H l (.lst xs) /\ Rd H b (.lst zs) /\ xs.length + zs.length <= sizeLine /\ ∀ p, H p = none -> Q (.ref p) (upd H p (.lst (xs ++ zs))))) gAdd := by
 intro tx ty W S H x y Q r dx dy p;have lists : ∀ {tx ty : T}, Den W tx x -> Den W ty y -> Post E W (QV Q) (match za6 S tx, za6 S ty with | some xs, some ys => if xs.length + ys.length <= 1000 then .ok (.lst (xs ++ ys)) S else .bad | _, _ => .bad) -> (∃ l b xs zs, x = .ref l /\ y = .ref b /\ Rd H l (.lst xs) /\ Rd H b (.lst zs) /\ xs.length + zs.length <= sizeLine /\ ∀ p, H p = none -> Q (.ref p) (upd H p (.lst (xs ++ zs)))) := by
  intro tx ty dx dy p;cases e1 : za6 S tx with
  | none => simp only [e1] at p; exact p.elim
  | some xs =>
    cases e2 : za6 S ty with
    | none => simp only [e1, e2] at p; exact p.elim
    | some ys =>
      simp only [e1, e2] at p
      split at p
      ·rename_i hl
       obtain ⟨a, vs, rfl, h1, h2⟩ := r.list dx e1;obtain ⟨b, ws, rfl, h3, h4⟩ := r.list dy e2;refine ⟨a, b, vs, ws, rfl, rfl, h1, h3, big (by rw [<- h2.length, <- h4.length]; exact hl), zv4 p r (h2.append h4)⟩
      ·exact p.elim
 unfold gAdd at p
 split at p
 ·exact .inl (.inl ⟨_, _, za2.mp dx, za2.mp dy, now p r (za2.mpr rfl)⟩)
 ·split at p
  ·rename_i hl
   exact .inl (.inr ⟨_, _, zbj.mp dx, zbj.mp dy, big hl, now p r (zbj.mpr rfl)⟩)
  ·exact p.elim
 ·exact .inr (lists dx dy p)
theorem zv5 (ha : PE X a (RE E fa)) (hb : PE X b (RE E fb)) : PE X (.BinOp a .Add b pos) (RE E (e2 gAdd fa fb)) := zcv (z1d ((z4j.or zt4).or z19) ha hb) fun _ _ _ => re2 z5i
end
end MF
namespace MF
open PySem L2 PySem.SeqAt
mutual
def pd : T -> Option PyData
 | .non => some .none
 | .bl b => some (.bool b)
 | .int i => some (.int i)
 | .str x => some (.str x)
 | .lst ts => (pds ts).map .list
 | .tup ts => (pds ts).map .tuple
 | .dic _ => none
 | .obj _ => none
def pds : List T -> Option (List PyData)
 | [] => some []
 | t :: ts => match pd t, pds ts with
   | some d, some ds => some (d :: ds)
   | _, _ => none
end
mutual
def RdD (H : Hp) : PyData -> V -> Prop
 | .none, v => v = .non
 | .bool b, v => v = .bl b
 | .int i, v => v = .int i
 | .str x, v => v = .str x
 | .list ds, v => ∃ a vs, v = .ref a /\ Rd H a (.lst vs) /\ RdDs H ds vs
 | .tuple ds, v => ∃ a vs, v = .ref a /\ Rd H a (.tup vs) /\ RdDs H ds vs
 | .dict _, _ => False
def RdDs (H : Hp) : List PyData -> List V -> Prop
 | [], vs => vs = []
 | d :: ds, vs => ∃ v r, vs = v :: r /\ RdD H d v /\ RdDs H ds r
end
section
variable {W : Wd} {S : Sto} {H : Hp}
mutual
theorem zv6 (r : Rep W S H) : ∀ (t : T) (v : V) (d : PyData), Den W t v -> pd t = some d -> RdD H d v
 | .non, v, d, h, e => by simp only [pd] at e; cases e; simp only [RdD]; exact zcf.mp h
 | .bl _, v, d, h, e => by simp only [pd] at e; cases e; simp only [RdD]; exact zbq.mp h
 | .int _, v, d, h, e => by simp only [pd] at e; cases e; simp only [RdD]; exact za2.mp h
 | .str _, v, d, h, e => by simp only [pd] at e; cases e; simp only [RdD]; exact zbj.mp h
 | .lst ts, v, d, h, e => by
   simp only [pd] at e;obtain ⟨ds, e1, rfl⟩ := Option.map_eq_some_iff.mp e;obtain ⟨a, vs, rfl, h1, h2⟩ := zew.mp h;simp only [RdD];exact ⟨a, vs, rfl, (r.sub _ _ h1).1.rd, rdDs_of r ts vs ds h2 e1⟩
 | .tup ts, v, d, h, e => by
   simp only [pd] at e;obtain ⟨ds, e1, rfl⟩ := Option.map_eq_some_iff.mp e;obtain ⟨a, vs, rfl, h1, h2⟩ := zfk.mp h;simp only [RdD];exact ⟨a, vs, rfl, (r.sub _ _ h1).1.rd, rdDs_of r ts vs ds h2 e1⟩
 | .dic _, v, d, h, e => by simp only [pd] at e; cases e
 | .obj _, v, d, h, e => by simp only [pd] at e; cases e
theorem rdDs_of (r : Rep W S H) : ∀ (ts : List T) (vs : List V) (ds : List PyData), Dens W ts vs -> pds ts = some ds -> RdDs H ds vs
 | [], vs, ds, h, e => by simp only [pds] at e; cases e; simp only [RdDs]; exact zbk.mp h
 | t :: ts, vs, ds, h, e => by
   obtain ⟨v, q, rfl, h1, h2⟩ := za1.mp h;simp only [pds] at e;cases e1 : pd t with
   | none => simp [e1] at e
   | some d =>
     cases e2 : pds ts with
     | none => simp [e1, e2] at e
     | some ds' =>
       simp [e1, e2] at e;subst e;simp only [RdDs];exact ⟨v, q, rfl, zv6 r t v d h1 e1, rdDs_of r ts q ds' h2 e2⟩
end
end
mutual
theorem reads_of {P : Program} {w : World} {H : Hp} {h : Heap} (ok : HOk P w H h) : ∀ (d : PyData) (v : V) (u : Value), RdD H d v -> RelV v u -> ∃ as, Reads h u d as
 | .none, v, u, q, r => by simp only [RdD] at q; subst q; cases r; exact ⟨_, .none⟩
 | .bool b, v, u, q, r => by simp only [RdD] at q; subst q; cases r; exact ⟨_, .bool b⟩
 | .int i, v, u, q, r => by simp only [RdD] at q; subst q; obtain ⟨t, rfl⟩ := r; exact ⟨_, .int i t⟩
 | .str i, v, u, q, r => by simp only [RdD] at q; subst q; obtain ⟨t, rfl⟩ := r; exact ⟨_, .str i t⟩
 | .list ds, v, u, q, r => by
   simp only [RdD] at q;obtain ⟨a, vs, rfl, h1, h2⟩ := q;cases r;obtain ⟨_, its, n, r, e⟩ := h1.ok ok;obtain ⟨as, ra⟩ := readsAll_of ok ds vs its h2 r;exact ⟨_, .list e rfl rfl (by simpa using ra)⟩
 | .tuple ds, v, u, q, r => by
   simp only [RdD] at q;obtain ⟨a, vs, rfl, h1, h2⟩ := q;cases r;obtain ⟨_, its, r, o, e, hc, n, hd⟩ := h1.ok ok;obtain ⟨as, ra⟩ := readsAll_of ok ds vs its h2 r;exact ⟨_, .tuple e hc hd (by simpa using ra)⟩
 | .dict _, v, u, q, r => by simp only [RdD] at q
theorem readsAll_of {P : Program} {w : World} {H : Hp} {h : Heap} (ok : HOk P w H h) : ∀ (ds : List PyData) (vs : List V) (us : List Value), RdDs H ds vs -> Vals vs us -> ∃ as, ReadsAll h us ds as
 | [], vs, us, q, r => by simp only [RdDs] at q; subst q; cases r; exact ⟨_, .nil⟩
 | d :: ds, vs, us, q, r => by
   simp only [RdDs] at q;obtain ⟨v, vr, rfl, h1, h2⟩ := q;cases r with
   | cons r1 r2 =>
     obtain ⟨as, ra⟩ := reads_of ok d v _ h1 r1;obtain ⟨bs, rb⟩ := readsAll_of ok ds vr _ h2 r2;exact ⟨_, .cons ra rb⟩
end
def pdS (S : Sto) : T -> Option PyData
 | .obj k => match S[k]? with
   | some (.lst ts) => (pds ts).map .list
   | _ => none
 | t => pd t
theorem z0b {W : Wd} {S : Sto} {H : Hp} (r : Rep W S H) {t : T} {v : V} {d : PyData} (h : Den W t v) (e : pdS S t = some d) : RdD H d v := by
 cases t with
 | obj k =>
   obtain ⟨rfl, hk⟩ := zco.mp h;unfold pdS at e;cases e0 : S[k]? with
   | none => simp [e0] at e
   | some c =>
     cases c with
     | lst ts =>
       simp only [e0] at e;obtain ⟨ds, e1, rfl⟩ := Option.map_eq_some_iff.mp e;obtain ⟨⟨vs, h1, h2⟩, _⟩ := r.cell k _ e0;simp only [RdD];exact ⟨_, vs, rfl, .inl h1, rdDs_of r ts vs ds h2 e1⟩
     | dic _ => simp [e0] at e
     | ins _ _ => simp [e0] at e
     | exc _ _ => simp [e0] at e
     | lck _ => simp [e0] at e
 | _ => exact zv6 r _ v d h (by simpa [pdS] using e)
def toV : T -> Option V
 | .non => some .non
 | .bl b => some (.bl b)
 | .int i => some (.int i)
 | .str x => some (.str x)
 | _ => none
theorem zl5 {W : Wd} {t : T} {v u : V} (h : Den W t v) (e : toV t = some u) : v = u := by
 cases t <;> simp only [toV, Option.some.injEq] at e <;> first | (subst e; first | exact zcf.mp h | exact zbq.mp h | exact za2.mp h | exact zbj.mp h) | cases e
def eqS (S : Sto) (x y : T) : Option Bool := match toV x, toV y with
 | some u, some v => if scal u v = true then some (decide (u = v)) else none
 | _, _ => match pdS S x, pdS S y with
   | some a, some b => if (a.canLay0 && b.canLay0 && decide (a.depth <= 50)) = true then some (PyData.eqv a b) else none
   | _, _ => none
def gEq (x y : T) : M T := fun S => match eqS S x y with
 | some b => .ok (.bl b) S
 | none => .bad
def gNe (x y : T) : M T := fun S => match eqS S x y with
 | some b => .ok (.bl (!b)) S
 | none => .bad
def rEqD (neg : Bool) : R2 := fun x y H Q => ∃ a b, RdD H a x /\ RdD H b y /\ a.canLay0 = true /\ b.canLay0 = true /\ a.depth <= 50 /\ Q (.bl (if neg then !PyData.eqv a b else PyData.eqv a b)) H
section
variable {X : Cx} {E : XK} {a b e : Expr} {es : List Expr} {fa fb fc : DE} {fr : DA} {pos : Pos}
theorem z0c (hu : X.A.units + 64 < cLine) : OpR X (compareOp .Eq) (rEqD false) := by
 intro pins s σ H x y v u Q I rx ry h;obtain ⟨a, b, ra, rb, ca, cb, hd, q⟩ := h;obtain ⟨as, qa⟩ := reads_of I.hok a x v ra rx;obtain ⟨bs, qb⟩ := reads_of I.hok b y u rb ry;exact compareEq_reads qa qb ca cb (by have := Nat.min_le_left a.depth b.depth; omega) ⟨.bl _, H, I, rfl, q⟩
theorem z5j (hu : X.A.units + 64 < cLine) : OpR X (compareOp .NotEq) (rEqD true) := by
 intro pins s σ H x y v u Q I rx ry h;obtain ⟨a, b, ra, rb, ca, cb, hd, q⟩ := h;obtain ⟨as, qa⟩ := reads_of I.hok a x v ra rx;obtain ⟨bs, qb⟩ := reads_of I.hok b y u rb ry;exact compareNe_reads qa qb ca cb (by have := Nat.min_le_left a.depth b.depth; omega) ⟨.bl _, H, I, rfl, q⟩
theorem z0d {W : Wd} {S : Sto} {H : Hp} {tx ty : T} {x y : V} {c : Bool} (r : Rep W S H) (dx : Den W tx x) (dy : Den W ty y) (e : eqS S tx ty = some c) :
 (scal x y = true /\ c = decide (x = y)) \/ ∃ a b, RdD H a x /\ RdD H b y /\ a.canLay0 = true /\ b.canLay0 = true /\ a.depth <= 50 /\ c = PyData.eqv a b := by
 have data : (match pdS S tx, pdS S ty with | some a, some b => if (a.canLay0 && b.canLay0 && decide (a.depth <= 50)) = true then some (PyData.eqv a b) else none | _, _ => none) = some c -> ∃ a b, RdD H a x /\ RdD H b y /\ a.canLay0 = true /\ b.canLay0 = true /\ a.depth <= 50 /\ c = PyData.eqv a b := fun e => by
  cases e1 : pdS S tx with
  | none => simp [e1] at e
  | some a =>
    cases e2 : pdS S ty with
    | none => simp [e1, e2] at e
    | some b =>
      simp only [e1, e2] at e
      split at e
      ·rename_i hc
       simp only [Bool.and_eq_true, decide_eq_true_eq] at hc;cases e;exact ⟨a, b, z0b r dx e1, z0b r dy e2, hc.1.1, hc.1.2, hc.2, rfl⟩
      ·cases e
 unfold eqS at e;cases e1 : toV tx with
 | none => simp only [e1] at e; exact .inr (data e)
 | some u =>
   cases e2 : toV ty with
   | none => simp only [e1, e2] at e; exact .inr (data e)
   | some v =>
     simp only [e1, e2] at e
     split at e
     ·rename_i hs
      cases e;have h1 := zl5 dx e1;have h2 := zl5 dy e2;subst h1 h2;exact .inl ⟨hs, rfl⟩
     ·cases e
theorem z5k : G2 E (fun x y H Q => rEq x y H Q \/ rEqD false x y H Q) gEq := by
 intro tx ty W S H x y Q r dx dy p;unfold gEq at p;cases e : eqS S tx ty with
 | none => simp only [e] at p; exact p.elim
 | some c =>
   simp only [e] at p;rcases z0d r dx dy e with ⟨h1, rfl⟩ | ⟨a, b, h1, h2, h3, h4, h5, rfl⟩
   ·exact .inl ⟨h1, now p r (zbq.mpr rfl)⟩
   ·exact .inr ⟨a, b, h1, h2, h3, h4, h5, now p r (zbq.mpr rfl)⟩
theorem z7p : G2 E (fun x y H Q => rNe x y H Q \/ rEqD true x y H Q) gNe := by
 intro tx ty W S H x y Q r dx dy p;unfold gNe at p;cases e : eqS S tx ty with
 | none => simp only [e] at p; exact p.elim
 | some c =>
   simp only [e] at p;rcases z0d r dx dy e with ⟨h1, rfl⟩ | ⟨a, b, h1, h2, h3, h4, h5, rfl⟩
   ·exact .inl ⟨h1, now p r (zbq.mpr rfl)⟩
   ·exact .inr ⟨a, b, h1, h2, h3, h4, h5, now p r (zbq.mpr rfl)⟩
theorem e_eq (hu : X.A.units + 64 < cLine) (ha : PE X a (RE E fa)) (hb : PE X b (RE E fb)) : PE X (.Compare a [.Eq] [b] pos) (RE E (e2 gEq fa fb)) := zcv (z1g (z4m.or (z0c hu)) ha hb (zlu _)) fun _ _ _ => re2 z5k
def inF (x : T) (ts : List T) : Option Bool := match toV x, ts.mapM toV with
 | some u, some vs => if (zgo u && vs.all zgo) = true then some (inV u vs) else none
 | _, _ => none
def inS (S : Sto) (x y : T) : Option Bool := match zf6 S y with
 | some ts => (match inF x ts with
   | some b => some b
   | none => match pd x, pds ts with
     | some d, some ds => if (d.canLay0 && PyData.canLayAll0 ds && decide (d.depth <= 20) && decide (PyData.depthAll ds <= 20)) = true then some (ds.any fun z => PyData.eqv z d) else none
     | _, _ => none)
 | none => none
def gIn (x y : T) : M T := fun S => match inS S x y with
 | some b => .ok (.bl b) S
 | none => .bad
def zl6 (x y : T) : M T := fun S => match inS S x y with
 | some b => .ok (.bl (!b)) S
 | none => .bad
theorem zol {W : Wd} : ∀ {ts : List T} {vs us : List V}, Dens W ts vs -> ts.mapM toV = some us -> vs = us
 | [], vs, us, h, e => by
   have e : some [] = some us := by simpa using e
   rw [zbk.mp h, <- Option.some.inj e]
 | t :: ts, vs, us, h, e => by
   obtain ⟨v, r, rfl, h1, h2⟩ := za1.mp h;rw [List.mapM_cons] at e;cases e1 : toV t with
   | none => simp [e1] at e
   | some u =>
     cases e2 : ts.mapM toV with
     | none => simp [e1, e2] at e
     | some ws =>
       simp [e1, e2] at e;subst e;rw [zl5 h1 e1, zol h2 e2]
def rInD (neg : Bool) : R2 := fun x y H Q => ∃ p xs ds d, y = .ref p /\ (Rd H p (.lst xs) \/ Rd H p (.tup xs)) /\ RdDs H ds xs /\ RdD H d x /\ PyData.canLayAll0 ds = true /\ d.canLay0 = true /\ d.depth <= 20 /\ PyData.depthAll ds <= 20 /\
 Q (.bl (if neg then !(ds.any fun z => PyData.eqv z d) else ds.any fun z => PyData.eqv z d)) H
theorem z0e {W : Wd} {S : Sto} {H : Hp} {tx ty : T} {x y : V} {c : Bool} (K : PySem.W.Frag) (r : Rep W S H) (dx : Den W tx x) (dy : Den W ty y) (e : inS S tx ty = some c) :
 (∃ p xs, y = .ref p /\ (SqL K H p xs \/ SqT K H p xs) /\ zgo x = true /\ xs.all zgo = true /\ c = inV x xs) \/
 ∃ p xs ds d, y = .ref p /\ (Rd H p (.lst xs) \/ Rd H p (.tup xs)) /\ RdDs H ds xs /\ RdD H d x /\ PyData.canLayAll0 ds = true /\ d.canLay0 = true /\ d.depth <= 20 /\ PyData.depthAll ds <= 20 /\ c = ds.any fun z => PyData.eqv z d := by
 unfold inS at e;cases e0 : zf6 S ty with
 | none => simp only [e0] at e; cases e
 | some ts =>
   obtain ⟨p, xs, rfl, h1, h2⟩ := r.seq dy e0;simp only [e0] at e;cases ef : inF tx ts with
   | some b =>
     simp only [ef] at e;cases e;unfold inF at ef;cases e1 : toV tx with
     | none => simp [e1] at ef
     | some u =>
       cases e2 : ts.mapM toV with
       | none => simp [e1, e2] at ef
       | some us =>
         simp only [e1, e2] at ef
         split at ef
         ·rename_i hf
          rw [Bool.and_eq_true] at hf;cases ef;have q1 := zl5 dx e1;have q2 := zol h2 e2;subst q1 q2;refine .inl ⟨p, xs, rfl, ?_, hf.1, hf.2, rfl⟩;rcases h1 with h1 | h1
          ·exact .inl (.inl h1)
          ·exact .inr (.inl h1)
         ·cases ef
   | none =>
     simp only [ef] at e;cases e1 : pd tx with
     | none => simp [e1] at e
     | some d =>
       cases e2 : pds ts with
       | none => simp [e1, e2] at e
       | some ds =>
         simp only [e1, e2] at e
         split at e
         ·rename_i hc
          simp only [Bool.and_eq_true, decide_eq_true_eq] at hc;cases e;exact .inr ⟨p, xs, ds, d, rfl, h1, rdDs_of r _ _ _ h2 e2, zv6 r _ _ _ dx e1, hc.1.1.2, hc.1.1.1, hc.1.2, hc.2, rfl⟩
         ·cases e
theorem z5l (hu : X.A.units + 64 < cLine) : OpR X (compareOp .In) (rInD false) := by
 intro pins s σ H x y v u Q I rx ry h;obtain ⟨p, xs, ds, d, rfl, hp, rs, rd, cs, cd, hd, hds, q⟩ := h;cases ry;obtain ⟨bs, qb⟩ := reads_of I.hok d x v rd rx;rcases hp with hp | hp
 ·obtain ⟨as, qa⟩ := reads_of I.hok (.list ds) (.ref p) (.ref p) (by simp only [RdD]; exact ⟨p, xs, rfl, hp, rs⟩) rfl
  exact in_list_reads qa qb cs cd (by omega) ⟨.bl _, H, I, rfl, q⟩
 ·obtain ⟨as, qa⟩ := reads_of I.hok (.tuple ds) (.ref p) (.ref p) (by simp only [RdD]; exact ⟨p, xs, rfl, hp, rs⟩) rfl
  exact in_tuple_reads qa qb cs cd (by omega) ⟨.bl _, H, I, rfl, q⟩
theorem zv7 (hu : X.A.units + 64 < cLine) : OpR X (compareOp .NotIn) (rInD true) := by
 intro pins s σ H x y v u Q I rx ry h;obtain ⟨p, xs, ds, d, rfl, hp, rs, rd, cs, cd, hd, hds, q⟩ := h;cases ry;obtain ⟨bs, qb⟩ := reads_of I.hok d x v rd rx;rcases hp with hp | hp
 ·obtain ⟨as, qa⟩ := reads_of I.hok (.list ds) (.ref p) (.ref p) (by simp only [RdD]; exact ⟨p, xs, rfl, hp, rs⟩) rfl
  exact notIn_list_reads qa qb cs cd (by omega) ⟨.bl _, H, I, rfl, q⟩
 ·obtain ⟨as, qa⟩ := reads_of I.hok (.tuple ds) (.ref p) (.ref p) (by simp only [RdD]; exact ⟨p, xs, rfl, hp, rs⟩) rfl
  exact notIn_tuple_reads qa qb cs cd (by omega) ⟨.bl _, H, I, rfl, q⟩
theorem z7q (K : PySem.W.Frag) : G2 E (fun x y H Q => rIn K false x y H Q \/ rInD false x y H Q) gIn := by
 intro tx ty W S H x y Q r dx dy p;unfold gIn at p;cases e : inS S tx ty with
 | none => simp only [e] at p; exact p.elim
 | some c =>
   simp only [e] at p;rcases z0e K r dx dy e with ⟨q, xs, rfl, h1, h2, h3, rfl⟩ | ⟨q, xs, ds, d, rfl, h1, h2, h3, h4, h5, h6, h7, rfl⟩
   ·exact .inl ⟨q, xs, rfl, h1, h2, h3, now p r (zbq.mpr rfl)⟩
   ·exact .inr ⟨q, xs, ds, d, rfl, h1, h2, h3, h4, h5, h6, h7, now p r (zbq.mpr rfl)⟩
theorem zyv (K : PySem.W.Frag) : G2 E (fun x y H Q => rIn K true x y H Q \/ rInD true x y H Q) zl6 := by
 intro tx ty W S H x y Q r dx dy p;unfold zl6 at p;cases e : inS S tx ty with
 | none => simp only [e] at p; exact p.elim
 | some c =>
   simp only [e] at p;rcases z0e K r dx dy e with ⟨q, xs, rfl, h1, h2, h3, rfl⟩ | ⟨q, xs, ds, d, rfl, h1, h2, h3, h4, h5, h6, h7, rfl⟩
   ·exact .inl ⟨q, xs, rfl, h1, h2, h3, now p r (zbq.mpr rfl)⟩
   ·exact .inr ⟨q, xs, ds, d, rfl, h1, h2, h3, h4, h5, h6, h7, now p r (zbq.mpr rfl)⟩
end
end MF
namespace MF
open PySem L2
def z2b (t : T) : M Bool := fun S => match t with
 | .bl b => .ok b S
 | _ => .bad
def truM (t : T) : M Bool := fun S => match t with
 | .non => .ok false S
 | .bl b => .ok b S
 | .int i => .ok (i != 0) S
 | .str x => if x.length <= 1000 then .ok ((x.length : Int) != 0) S else .bad
 | t => match zf6 S t with
   | some ts => .ok (!ts.isEmpty) S
   | none => .bad
def tst (f : DE) : DT := fun ρ => (f ρ).bind z2b
def tru (f : DE) : DT := fun ρ => (f ρ).bind truM
def zyw (f g : DT) : DT := fun ρ => (f ρ).bind fun c => if c = true then g ρ else M.pure false
def tOrD (f g : DT) : DT := fun ρ => (f ρ).bind fun c => if c = true then M.pure true else g ρ
def zuk (f : DT) : DT := fun ρ => (f ρ).bind fun c => M.pure (!c)
section
variable {X : Cx} {E : XK} {a b c e : Expr} {es : List Expr} {fa fb fc : DE} {ta tb : DT} {fr : DA} {pos : Pos}
theorem zv8 {f : DE} {σ : St} {H : Hp} {Q : Bool -> Hp -> Prop} (h : RT E (tst f) σ H Q) : RE E f σ H (fun x H' => ∃ k, x = .bl k /\ Q k H') := by
 obtain ⟨W, S, ρ, rp, env, p⟩ := h;refine ⟨W, S, ρ, rp, env, (Post.bind p).imp fun t W1 S1 H1 l1 r1 p1 v dv => ?_⟩;cases t with
 | bl k => exact ⟨k, zbq.mp dv, p1 W1 H1 (Wd.le.refl _) r1⟩
 | _ => exact p1.elim
theorem zp1 {op : CmpOp} {r : R2} {g : T -> T -> M T} (ho : OpR X (compareOp op) r) (hg : G2 E r g) (ha : PE X a (RE E fa)) (hb : PE X b (RE E fb)) (hm : behindInMarks op b = false) : PT X (.Compare a [op] [b] pos) (RT E (tst (e2 g fa fb))) :=
 zv2 (z1h ho ha hb hm) fun σ H Q h => re2 hg (zv8 h)
theorem t_eq (hu : X.A.units + 64 < cLine) (ha : PE X a (RE E fa)) (hb : PE X b (RE E fb)) : PT X (.Compare a [.Eq] [b] pos) (RT E (tst (e2 gEq fa fb))) := zp1 (z4m.or (z0c hu)) z5k ha hb (zlu _)
theorem t_ne (hu : X.A.units + 64 < cLine) (ha : PE X a (RE E fa)) (hb : PE X b (RE E fb)) : PT X (.Compare a [.NotEq] [b] pos) (RT E (tst (e2 gNe fa fb))) := zp1 (z66.or (z5j hu)) z7p ha hb (zlu _)
theorem t_lt (ha : PE X a (RE E fa)) (hb : PE X b (RE E fb)) : PT X (.Compare a [.Lt] [b] pos) (RT E (tst (e2 (gI fLt) fa fb))) := zp1 z67 (z5g fun i j t e W => by cases e; exact zbq.mpr rfl) ha hb (zlu _)
theorem t_ge (ha : PE X a (RE E fa)) (hb : PE X b (RE E fb)) : PT X (.Compare a [.GtE] [b] pos) (RT E (tst (e2 (gI fGe) fa fb))) := zp1 z68 (z5g fun i j t e W => by cases e; exact zbq.mpr rfl) ha hb (zlu _)
theorem t_in (hu : X.A.units + 64 < cLine) (ha : PE X a (RE E fa)) (hb : PE X b (RE E fb)) (hm : behindInMarks .In b = false := by with_unfolding_all rfl) : PT X (.Compare a [.In] [b] pos) (RT E (tst (e2 gIn fa fb))) := zp1 (zvk.or (z5l hu)) (z7q X.K) ha hb hm
theorem z2c (hu : X.A.units + 64 < cLine) (ha : PE X a (RE E fa)) (hb : PE X b (RE E fb)) (hm : behindInMarks .NotIn b = false := by with_unfolding_all rfl) : PT X (.Compare a [.NotIn] [b] pos) (RT E (tst (e2 zl6 fa fb))) := zp1 (zpr.or (zv7 hu)) (zyv X.K) ha hb hm
theorem z0f {W : Wd} {S : Sto} {H : Hp} {t : T} {v : V} {Q : Bool -> Hp -> Prop} {K : PySem.W.Frag} (r : Rep W S H) (d : Den W t v) (p : Post E W (fun b _ _ H' => Q b H') (truM t S)) : ∃ k, TruV K v H k /\ Q k H := by
 have go : ∀ {k : Bool}, Post E W (fun b _ _ H' => Q b H') (.ok k S) -> Q k H := fun p => p W H (Wd.le.refl _) r;have sq : ∀ {t : T}, Den W t v -> Post E W (fun b _ _ H' => Q b H') (match zf6 S t with | some ts => .ok (!ts.isEmpty) S | none => .bad) -> ∃ k, TruV K v H k /\ Q k H := fun {t} d p => by
  cases e : zf6 S t with
  | none => simp only [e] at p; exact p.elim
  | some ts =>
    simp only [e] at p;obtain ⟨a, vs, rfl, h1, h2⟩ := r.seq d e;have hl : (!ts.isEmpty) = !vs.isEmpty := by
     have := h2.length;cases ts <;> cases vs <;> simp_all
    refine ⟨_, ?_, go p⟩;rcases h1 with h1 | h1
    ·exact .inl ⟨vs, .inl h1, hl⟩
    ·exact .inr (.inl ⟨vs, .inl h1, hl⟩)
 unfold truM at p
 split at p
 ·rw [zcf.mp d]; exact ⟨_, rfl, go p⟩
 ·rw [zbq.mp d]; exact ⟨_, rfl, go p⟩
 ·rw [za2.mp d]; exact ⟨_, rfl, go p⟩
 ·split at p
  ·rename_i hl; rw [zbj.mp d]; exact ⟨_, ⟨big hl, rfl⟩, go p⟩
  ·exact p.elim
 ·exact sq d p
theorem zk7 (ha : PE X a (RE E fa)) (he : ∀ whole, isTrue a X.env whole = (do let v <- whole; standAt a.pos; holding [v] (truthy v)) := by intro _; rfl) : PT X a (RT E (tru fa)) :=
 zv2 (zx8 ha he) fun σ H Q h => by
  obtain ⟨W, S, ρ, rp, env, p⟩ := h;exact ⟨W, S, ρ, rp, env, (Post.bind p).imp fun t W1 S1 H1 l1 r1 p1 v dv => z0f r1 dv p1⟩
theorem z5m {e : Expr} {t t' : TT} (h : PW X e t) (w : ∀ σ H Q, t' σ H Q -> t σ H Q) : PW X e t' := fun wh pins s σ H Q I q => h wh pins s σ H Q I (w σ H Q q)
theorem z0g (ha : PT X a (RT E ta)) : PW X (.BoolOp .And [a] pos) (RT E ta) := z06 ha
theorem z7r (ha : PT X a (RT E ta)) : PW X (.BoolOp .Or [a] pos) (RT E ta) := z39 ha
theorem zv9 {c : Bool} {σ : St} {H : Hp} {Q : Bool -> Hp -> Prop} (h : RT E (fun _ => M.pure c) σ H Q) : Q c H := by
 obtain ⟨W, S, ρ, rp, env, p⟩ := h;exact p W H (Wd.le.refl _) rp
theorem z5n (ha : PT X a (RT E ta)) (hb : PW X (.BoolOp .And (b :: es) pos) (RT E tb)) : PW X (.BoolOp .And (a :: b :: es) pos) (RT E (zyw ta tb)) :=
 z5m (z4a ha hb) fun σ H Q h => by
  obtain ⟨W, S, ρ, rp, env, p⟩ := h;refine ⟨W, S, ρ, rp, env, (Post.bind p).imp fun c W1 S1 H1 l1 r1 p1 => ?_⟩;cases c with
  | true => exact iteT ⟨W1, S1, ρ, r1, env.mono l1, p1⟩
  | false => exact iteF (p1 W1 H1 (Wd.le.refl _) r1)
theorem t_or (ha : PT X a (RT E ta)) (hb : PW X (.BoolOp .Or (b :: es) pos) (RT E tb)) : PW X (.BoolOp .Or (a :: b :: es) pos) (RT E (tOrD ta tb)) :=
 z5m (z61 ha hb) fun σ H Q h => by
  obtain ⟨W, S, ρ, rp, env, p⟩ := h;refine ⟨W, S, ρ, rp, env, (Post.bind p).imp fun c W1 S1 H1 l1 r1 p1 => ?_⟩;cases c with
  | false => exact iteF ⟨W1, S1, ρ, r1, env.mono l1, p1⟩
  | true => exact iteT (p1 W1 H1 (Wd.le.refl _) r1)
theorem zyx (ha : PT X a (RT E ta)) : PT X (.UnaryOp .Not a pos) (RT E (zuk ta)) := zv2 (z4b ha) fun σ H Q h => by
 obtain ⟨W, S, ρ, rp, env, p⟩ := h;exact ⟨W, S, ρ, rp, env, (Post.bind p).imp fun c W1 S1 H1 l1 r1 p1 => p1 W1 H1 (Wd.le.refl _) r1⟩
def eNot (f : DE) : DE := fun ρ => (f ρ).bind fun x => (truM x).bind fun b => M.pure (.bl (!b))
def eIf (c : DT) (f g : DE) : DE := fun ρ => (c ρ).bind fun b => if b = true then f ρ else g ρ
theorem z2d {ta : TE} (ha : PE X a ta) : PE X (.UnaryOp .Not a pos) (fun σ H Q => ta σ H fun x H1 => ∃ k, TruV X.K x H1 k /\ Q (.bl (!k)) H1) := by
 intro pins s σ H Q I h;refine PyProof.Rows.UnaryOp_ (thn (ha pins s σ H _ I h) fun v s1 hq_ => ?_);obtain ⟨x, H1, I1, r1, k, tr, q1⟩ := hq_;refine PyProof.Rows.not_of ?_;exact thn (zz0 pins s1 σ H1 x v (fun b H' => Q (.bl (!b)) H') I1 r1 ⟨k, tr, q1⟩) fun b s2 ⟨H2, I2, q2⟩ => ⟨.bl (!b), H2, I2, rfl, q2⟩
theorem z7s (ha : PE X a (RE E fa)) : PE X (.UnaryOp .Not a pos) (RE E (eNot fa)) := zcv (z2d ha) fun σ H Q h => by
 obtain ⟨W, S, ρ, rp, env, p⟩ := h;refine ⟨W, S, ρ, rp, env, (Post.bind p).imp fun t W1 S1 H1 l1 r1 p1 v dv => ?_⟩;refine z0f (Q := fun k H' => Q (.bl (!k)) H') r1 dv ((Post.bind p1).imp fun b W2 S2 H2 l2 r2 p2 => now p2 r2 (zbq.mpr rfl))
theorem z2e (hc : PT X c (RT E ta)) (ha : PE X a (RE E fa)) (hb : PE X b (RE E fb)) : PE X (.IfExp c a b pos) (RE E (eIf ta fa fb)) := zcv (zx5 hc ha hb) fun σ H Q h => by
 obtain ⟨W, S, ρ, rp, env, p⟩ := h;refine ⟨W, S, ρ, rp, env, (Post.bind p).imp fun k W1 S1 H1 l1 r1 p1 => ?_⟩;cases k with
 | true => exact iteT ⟨W1, S1, ρ, r1, env.mono l1, p1⟩
 | false => exact iteF ⟨W1, S1, ρ, r1, env.mono l1, p1⟩
def zm8 : T -> Bool
 | .non => true
 | _ => false
theorem zp2 {W : Wd} {t : T} {v : V} (d : Den W t v) : decide (v = .non) = zm8 t := by
 cases t with
 | non => rw [zcf.mp d]; rfl
 | bl _ => rw [zbq.mp d]; rfl
 | int _ => rw [za2.mp d]; rfl
 | str _ => rw [zbj.mp d]; rfl
 | lst _ => obtain ⟨a, vs, rfl, _⟩ := zew.mp d; rfl
 | tup _ => obtain ⟨a, vs, rfl, _⟩ := zfk.mp d; rfl
 | dic _ => obtain ⟨a, vs, rfl, _⟩ := zhk.mp d; rfl
 | obj _ => obtain ⟨rfl, _⟩ := zco.mp d; rfl
def gIs (x y : T) : M T := fun S => match y with
 | .non => .ok (.bl (zm8 x)) S
 | .bl b => (match x with
   | .bl a => .ok (.bl (a == b)) S
   | _ => .bad)
 | _ => .bad
def zl7 (x y : T) : M T := fun S => match y with
 | .non => .ok (.bl (!zm8 x)) S
 | .bl b => (match x with
   | .bl a => .ok (.bl (!(a == b))) S
   | _ => .bad)
 | _ => .bad
theorem zwa : OpR X (compareOp .IsNot) (fun x y H Q => ∃ a b, x = .bl a /\ y = .bl b /\ Q (.bl (!(a == b))) H) := by
 intro pins s σ H x y v u Q I rx ry h;obtain ⟨a, b, rfl, rfl, q⟩ := h;cases rx;cases ry;refine wpAny_isNot_plain rfl ⟨.bl (!(a == b)), H, I, ?_, q⟩;show Value.bool (!(Value.bool a == Value.bool b)) = Value.bool (!(a == b));cases a <;> cases b <;> rfl
theorem z7t : G2 E (fun x y H Q => (y = .non /\ Q (.bl (decide (x = .non))) H) \/ (∃ a b, x = .bl a /\ y = .bl b /\ Q (.bl (a == b)) H)) gIs := by
 intro tx ty W S H x y Q r dx dy p;unfold gIs at p
 split at p
 ·exact .inl ⟨zcf.mp dy, by rw [zp2 dx]; exact now p r (zbq.mpr rfl)⟩
 ·split at p
  ·exact .inr ⟨_, _, zbq.mp dx, zbq.mp dy, now p r (zbq.mpr rfl)⟩
  ·exact p.elim
 ·exact p.elim
theorem zyy : G2 E (fun x y H Q => (y = .non /\ Q (.bl (!decide (x = .non))) H) \/ (∃ a b, x = .bl a /\ y = .bl b /\ Q (.bl (!(a == b))) H)) zl7 := by
 intro tx ty W S H x y Q r dx dy p;unfold zl7 at p
 split at p
 ·exact .inl ⟨zcf.mp dy, by rw [zp2 dx]; exact now p r (zbq.mpr rfl)⟩
 ·split at p
  ·exact .inr ⟨_, _, zbq.mp dx, zbq.mp dy, now p r (zbq.mpr rfl)⟩
  ·exact p.elim
 ·exact p.elim
theorem t_is (ha : PE X a (RE E fa)) (hb : PE X b (RE E fb)) : PT X (.Compare a [.Is] [b] pos) (RT E (tst (e2 gIs fa fb))) := zp1 (z4n.or z5c) z7t ha hb (zlu _)
theorem z2f (ha : PE X a (RE E fa)) (hb : PE X b (RE E fb)) : PT X (.Compare a [.IsNot] [b] pos) (RT E (tst (e2 zl7 fa fb))) := zp1 (z1f.or zwa) zyy ha hb (zlu _)
theorem Dens.atI {W : Wd} {ts : List T} {vs : List V} {i : Int} {t : T} (h : Dens W ts vs) (e : atI ts i = some t) : ∃ v, L2.atI vs i = some v /\ Den W t v := by
 unfold L2.atI at e ⊢;rw [<- h.length];cases e1 : ixN ts.length i with
 | none => rw [e1] at e; cases e
 | some j =>
   rw [e1] at e;exact h.get e
def gIx (x y : T) : M T := fun S => match y with
 | .int i => (match zf6 S x with
   | some ts => (match atI ts i with
     | some t => .ok t S
     | none => .bad)
   | none => match x with
     | .str z => if z.length <= 1000 then (match atI z.cps.toList i with
       | some c => .ok (.str ⟨#[c]⟩) S
       | none => .bad) else .bad
     | _ => .bad)
 | _ => .bad
theorem z7u (K : PySem.W.Frag) : G2 E (rIx K) gIx := by
 intro tx ty W S H x y Q r dx dy p;unfold gIx at p
 split at p
 ·rename_i i
  cases e : zf6 S tx with
  | some ts =>
    simp only [e] at p;cases e2 : atI ts i with
    | none => simp only [e2] at p; exact p.elim
    | some t =>
      simp only [e2] at p;obtain ⟨a, vs, rfl, h1, h2⟩ := r.seq dx e;obtain ⟨v, e3, dv⟩ := h2.atI e2;rcases h1 with h1 | h1
      ·exact .inl ⟨a, vs, i, v, rfl, za2.mp dy, .inl h1, e3, now p r dv⟩
      ·exact .inr (.inl ⟨a, vs, i, v, rfl, za2.mp dy, .inl h1, e3, now p r dv⟩)
  | none =>
    simp only [e] at p
    split at p
    ·rename_i z
     split at p
     ·rename_i hl
      cases e2 : atI z.cps.toList i with
      | none => simp only [e2] at p; exact p.elim
      | some c =>
        simp only [e2] at p;exact .inr (.inr ⟨z, i, c, zbj.mp dx, za2.mp dy, big hl, e2, now p r (zbj.mpr rfl)⟩)
     ·exact p.elim
    ·exact p.elim
 ·exact p.elim
theorem e_ix (ha : PE X a (RE E fa)) (hb : PE X b (RE E fb)) (hs : zvj b := by exact fun _ _ => rfl) : PE X (.Subscript a b pos) (RE E (e2 gIx fa fb)) := zcv (z7i z4y ha hb hs) fun _ _ _ => re2 (z7u X.K)
def keyT : T -> Option Key
 | .int i => some (.inl i)
 | .str x => some (.inr x)
 | _ => none
theorem zom {W : Wd} {t : T} {v : V} {k : Key} (d : Den W t v) (e : keyT t = some k) : v = kV k := by
 cases t with
 | int i => cases e; exact za2.mp d
 | str i => cases e; exact zbj.mp d
 | _ => cases e
def valT (kvs : List (Key × T)) (k : Key) : Option T := (kvs.find? fun kv => decide (kv.1 = k)).map (·.2)
def putT (kvs : List (Key × T)) (k : Key) (v : T) : List (Key × T) :=
 if (kvs.any fun kv => decide (kv.1 = k)) = true then kvs.map (fun kv => if kv.1 = k then (kv.1, v) else kv) else kvs ++ [(k, v)]
theorem DenK.val {W : Wd} : ∀ {kvs : List (Key × T)} {ks : List (Key × V)} (k : Key), DenK W kvs ks -> (∀ t, valT kvs k = some t -> ∃ v, valV ks k = some v /\ Den W t v) /\ (valT kvs k = none -> valV ks k = none)
 | [], ks, k, h => by rw [zdb.mp h]; exact ⟨(fun t e => by cases e), fun _ => rfl⟩
 | (k', t) :: kvs, ks, k, h => by
   obtain ⟨v, r, rfl, h1, h2⟩ := zcn.mp h;have ih := DenK.val k h2;by_cases e : k' = k
   ·have a : valT ((k', t) :: kvs) k = some t := by simp [valT, List.find?_cons, e]
    have b : valV ((k', v) :: r) k = some v := zli e;rw [a, b];exact ⟨fun t' e' => by cases e'; exact ⟨v, rfl, h1⟩, fun z => by cases z⟩
   ·have a : valT ((k', t) :: kvs) k = valT kvs k := by simp [valT, List.find?_cons, e]
    have b : valV ((k', v) :: r) k = valV r k := zlj e;rw [a, b];exact ih
theorem DenK.any {W : Wd} : ∀ {kvs : List (Key × T)} {ks : List (Key × V)} (k : Key), DenK W kvs ks -> (kvs.any fun kv => decide (kv.1 = k)) = ks.any fun kv => decide (kv.1 = k)
 | [], ks, k, h => by rw [zdb.mp h]; rfl
 | (k', t) :: kvs, ks, k, h => by
   obtain ⟨v, r, rfl, h1, h2⟩ := zcn.mp h;rw [List.any_cons, List.any_cons, DenK.any k h2]
theorem DenK.repl {W : Wd} {t0 : T} {v0 : V} (d : Den W t0 v0) : ∀ {kvs : List (Key × T)} {ks : List (Key × V)} (k : Key), DenK W kvs ks -> DenK W (kvs.map (fun kv => if kv.1 = k then (kv.1, t0) else kv)) (ks.map (fun kv => if kv.1 = k then (kv.1, v0) else kv))
 | [], ks, k, h => by rw [zdb.mp h]; exact DenK.nil'
 | (k', t) :: kvs, ks, k, h => by
   obtain ⟨v, r, rfl, h1, h2⟩ := zcn.mp h;have ih := DenK.repl d k h2;rw [List.map_cons, List.map_cons];by_cases e : k' = k
   ·rw [if_pos e, if_pos e]; exact DenK.cons' d ih
   ·rw [if_neg e, if_neg e]; exact DenK.cons' h1 ih
theorem DenK.snoc {W : Wd} {t0 : T} {v0 : V} (d : Den W t0 v0) : ∀ {kvs : List (Key × T)} {ks : List (Key × V)} (k : Key), DenK W kvs ks -> DenK W (kvs ++ [(k, t0)]) (ks ++ [(k, v0)])
 | [], ks, k, h => by rw [zdb.mp h]; exact DenK.cons' d DenK.nil'
 | (k', t) :: kvs, ks, k, h => by
   obtain ⟨v, r, rfl, h1, h2⟩ := zcn.mp h;exact DenK.cons' h1 (DenK.snoc d k h2)
theorem DenK.put {W : Wd} {t0 : T} {v0 : V} (d : Den W t0 v0) {kvs : List (Key × T)} {ks : List (Key × V)} (k : Key) (h : DenK W kvs ks) : DenK W (putT kvs k t0) (putK ks k v0) := by
 unfold putT putK;rw [h.any k];by_cases e : (ks.any fun kv => decide (kv.1 = k)) = true
 ·rw [if_pos e, if_pos e]; exact DenK.repl d k h
 ·rw [if_neg e, if_neg e]; exact DenK.snoc d k h
def gDix (x y : T) : M T := fun S => match zgc S x, keyT y with
 | some kvs, some k => (match valT kvs k with
   | some t => .ok t S
   | none => .bad)
 | _, _ => .bad
def gDin (y x : T) : M T := fun S => match zgc S x with
 | some kvs => (match keyT y with
   | some k => .ok (.bl (valT kvs k).isSome) S
   | none => match y with
     | .non => .ok (.bl false) S
     | _ => .bad)
 | none => .bad
def zeh (y x : T) : M T := fun S => match zgc S x, keyT y with
 | some kvs, some k => .ok (.bl (!(valT kvs k).isSome)) S
 | _, _ => .bad
theorem zro {W : Wd} {S : Sto} {H : Hp} (r : Rep W S H) {tx ty : T} {x y : V} {kvs : List (Key × T)} {k : Key} (dx : Den W tx x) (dy : Den W ty y) (e1 : zgc S tx = some kvs) (e2 : keyT ty = some k) :
 ∃ a o, x = .ref a /\ DGet H a y o /\ (∀ t, valT kvs k = some t -> ∃ v, o = some v /\ Den W t v) /\ (valT kvs k).isSome = o.isSome := by
 obtain ⟨a, ks, rfl, h1, h2⟩ := r.dict dx e1;obtain ⟨q1, q2⟩ := h2.val k;refine ⟨a, valV ks k, rfl, .inl ⟨ks, k, h1, zom dy e2, rfl⟩, q1, ?_⟩;cases e : valT kvs k with
 | none => rw [q2 e]; rfl
 | some t => obtain ⟨v, e3, _⟩ := q1 t e; rw [e3]; rfl
theorem zul (hu : X.A.units + 1 < cLine) (ha : PE X a (RE E fa)) (hb : PE X b (RE E fb)) (hs : NoSl b := by exact fun _ _ => rfl) : PE X (.Subscript a b pos) (RE E (e2 gDix fa fb)) :=
 zcv (z1t hu ha hb hs) fun σ H Q h => re2 (r := fun x y H Q => ∃ a v, x = .ref a /\ DGet H a y (some v) /\ Q v H) (fun tx ty W S H x y Q r dx dy p => by
  unfold gDix at p;cases e1 : zgc S tx with
  | none => simp only [e1] at p; exact p.elim
  | some kvs =>
    cases e2 : keyT ty with
    | none => simp only [e1, e2] at p; exact p.elim
    | some k =>
      simp only [e1, e2] at p;cases e3 : valT kvs k with
      | none => simp only [e3] at p; exact p.elim
      | some t =>
        simp only [e3] at p;obtain ⟨a, o, rfl, g, q1, _⟩ := zro r dx dy e1 e2;obtain ⟨v, rfl, dv⟩ := q1 t e3;exact ⟨a, v, rfl, g, now p r dv⟩) h
theorem z0h : G2 E (fun y x H Q => ∃ a, x = .ref a /\ ((∃ r, DGet H a y r /\ Q (.bl r.isSome) H) \/ (y = .non /\ (∃ kvs, Rd H a (.dK kvs)) /\ Q (.bl false) H))) gDin := by
 intro ty tx W S H y x Q r dy dx p;unfold gDin at p;cases e1 : zgc S tx with
 | none => simp only [e1] at p; exact p.elim
 | some kvs =>
   simp only [e1] at p;cases e2 : keyT ty with
   | some k =>
     simp only [e2] at p;obtain ⟨a, o, rfl, g, _, q⟩ := zro r dx dy e1 e2;exact ⟨a, rfl, .inl ⟨o, g, by rw [<- q]; exact now p r (zbq.mpr rfl)⟩⟩
   | none =>
     simp only [e2] at p
     split at p
     ·obtain ⟨a, ks, rfl, h1, h2⟩ := r.dict dx e1
      exact ⟨a, rfl, .inr ⟨zcf.mp dy, ⟨ks, h1⟩, now p r (zbq.mpr rfl)⟩⟩
     ·exact p.elim
theorem zwb : G2 E (fun y x H Q => ∃ a o, x = .ref a /\ DGet H a y o /\ Q (.bl (!o.isSome)) H) zeh := by
 intro ty tx W S H y x Q r dy dx p;unfold zeh at p;cases e1 : zgc S tx with
 | none => simp only [e1] at p; exact p.elim
 | some kvs =>
   cases e2 : keyT ty with
   | none => simp only [e1, e2] at p; exact p.elim
   | some k =>
     simp only [e1, e2] at p;obtain ⟨a, o, rfl, g, _, q⟩ := zro r dx dy e1 e2;exact ⟨a, o, rfl, g, by rw [<- q]; exact now p r (zbq.mpr rfl)⟩
theorem z7v (hu : X.A.units + 1 < cLine) (ha : PE X a (RE E fa)) (hb : PE X b (RE E fb)) (hm : behindInMarks .In b = false := by with_unfolding_all rfl) : PE X (.Compare a [.In] [b] pos) (RE E (e2 gDin fa fb)) := zcv (z38 (zv1 hu ha hb) hm) fun σ H Q h => re2 z0h h
theorem zwc (hu : X.A.units + 1 < cLine) (ha : PE X a (RE E fa)) (hb : PE X b (RE E fb)) (hm : behindInMarks .In b = false := by with_unfolding_all rfl) : PT X (.Compare a [.In] [b] pos) (RT E (tst (e2 gDin fa fb))) := zv2 (zzy (zv1 hu ha hb) hm) fun σ H Q h => re2 z0h (zv8 h)
theorem zlm (hu : X.A.units + 1 < cLine) (ha : PE X a (RE E fa)) (hb : PE X b (RE E fb)) (hm : behindInMarks .NotIn b = false := by with_unfolding_all rfl) : PT X (.Compare a [.NotIn] [b] pos) (RT E (tst (e2 zeh fa fb))) := zv2 (zzy (zvh hu ha hb) hm) fun σ H Q h => re2 zwb (zv8 h)
end
end MF
namespace MF
open PySem L2
def lstF (ts : List T) : M T := fun S => if ts.length <= 1000 then .ok (.lst ts) S else .bad
def lstC (ts : List T) : M T := fun S => if ts.length <= 1000 then .ok (.obj S.length) (S ++ [.lst ts]) else .bad
def tupF (ts : List T) : M T := fun S => if ts.length <= 1000 then .ok (.tup ts) S else .bad
def eA (g : List T -> M T) (f : DA) : DE := fun ρ => (f ρ).bind g
def zl8 : DE := fun _ S => .ok (.obj S.length) (S ++ [.dic []])
section
variable {X : Cx} {E : XK} {a b c e o : Expr} {es : List Expr} {fa fb fc : DE} {ta tb : DT} {fr : DA} {pos : Pos}
theorem reA {g : List T -> M T} {r : List V -> Hp -> VK -> Prop} (hg : ∀ (ts : List T) (W : Wd) (S : Sto) (H : Hp) (vs : List V) (Q : VK), Rep W S H -> Dens W ts vs -> Post E W (QV Q) (g ts S) -> r vs H Q) {σ : St} {H : Hp} {Q : VK}
 (h : RE E (eA g fr) σ H Q) : RA E fr σ H (fun vs H1 => r vs H1 Q) := by
 obtain ⟨W, S, ρ, rp, env, p⟩ := h;exact ⟨W, S, ρ, rp, env, (Post.bind p).imp fun ts W1 S1 H1 l1 r1 p1 vs dv => hg ts W1 S1 H1 vs Q r1 dv p1⟩
theorem zhb (h : PA X es (RA E fr)) : PE X (.List es pos) (RE E (eA lstF fr)) := zcv (zz1 h) fun σ H Q q => reA (r := fun vs H Q => vs.length <= sizeLine /\ ∀ p, H p = none -> Q (.ref p) (upd H p (.lst vs))) (fun ts W S H vs Q r d p => by
 unfold lstF at p
 split at p
 ·rename_i hl; exact ⟨big (by rw [<- d.length]; exact hl), zv4 p r d⟩
 ·exact p.elim) q
theorem zh6 (h : PA X es (RA E fr)) : PE X (.List es pos) (RE E (eA lstC fr)) := zcv (zz1 h) fun σ H Q q => reA (r := fun vs H Q => vs.length <= sizeLine /\ ∀ p, H p = none -> Q (.ref p) (upd H p (.lst vs))) (fun ts W S H vs Q r d p => by
 unfold lstC at p
 split at p
 ·rename_i hl; exact ⟨big (by rw [<- d.length]; exact hl), zs5 p r d⟩
 ·exact p.elim) q
theorem zm9 {k} (h : PA X es (RA E fr)) : PE X (.Tuple es k pos) (RE E (eA tupF fr)) := zcv (z4q h) fun σ H Q q => reA (r := fun vs H Q => vs.length <= sizeLine /\ ∀ p, H p = none -> Q (.ref p) (upd H p (.tup vs))) (fun ts W S H vs Q r d p => by
 unfold tupF at p
 split at p
 ·rename_i hl; exact ⟨big (by rw [<- d.length]; exact hl), z2a p r d⟩
 ·exact p.elim) q
theorem zl9 : PE X (.Dict [] [] pos) (RE E zl8) := zcv zye fun σ H Q h a ha => by
 obtain ⟨W, S, ρ, r, env, p⟩ := h;refine p (W.add a) _ Wd.add_le (r.cellNew ha (.dic []) _ ⟨[], zaj, DenK.nil'⟩) _ (zco.mpr ⟨?_, ?_⟩)
 ·rw [r.len, Wd.add_at]
 ·rw [r.len]; exact Nat.lt_succ_self _
def gLen (t : T) : M T := fun S => match zf6 S t with
 | some ts => .ok (.int ts.length) S
 | none => match t with
   | .str x => if x.length <= 1000 then .ok (.int x.length) S else .bad
   | _ => .bad
theorem zhl {W : Wd} {t : T} {vs : List V} (h : Dens W [t] vs) : ∃ v, vs = [v] /\ Den W t v := by
 obtain ⟨v, r, rfl, h1, h2⟩ := za1.mp h;rw [zbk.mp h2];exact ⟨v, rfl, h1⟩
theorem zrp {x : Str} {id : String} {p : Pos} {r : List V -> Hp -> VK -> Prop} {g : T -> M T} (hc : zjl X (.builtin id) r) (hg : ∀ (t : T) (W : Wd) (S : Sto) (H : Hp) (v : V) (Q : VK), Rep W S H -> Den W t v -> Post E W (QV Q) (g t S) -> r [v] H Q)
 (gl : Gl X x) (hm : X.mg x = none) (hv : bootBuiltins x = some (.builtin id)) (ha : PE X e (RE E fa)) (hn : x ≠ "__name__") (hdb : (x == ("__debug__" : Str)) = false)
 (he : starEach [e] X.env = (false, eval e X.env) :: starEach [] X.env) (hpl : (backTo pos (starEach [] X.env)).any (·.1) = false) : PE X (.Call (.Name x p) [e] [] pos) (RE E (e1 g fa)) :=
 zcv (zod hc gl hm hv (zev ha ziy he) hn hdb he hpl) fun σ H Q h => re1 (r := fun x H Q => r [x] H Q) hg h
theorem zwd {x : Str} {id : String} {p : Pos} {r : List V -> Hp -> VK -> Prop} {g : T -> M T} (hc : zjl X (.type id) r) (hg : ∀ (t : T) (W : Wd) (S : Sto) (H : Hp) (v : V) (Q : VK), Rep W S H -> Den W t v -> Post E W (QV Q) (g t S) -> r [v] H Q)
 (gl : Gl X x) (hm : X.mg x = none) (hv : bootBuiltins x = some (.type id)) (ha : PE X e (RE E fa)) (hn : x ≠ "__name__") (hdb : (x == ("__debug__" : Str)) = false)
 (he : starEach [e] X.env = (false, eval e X.env) :: starEach [] X.env) (hpl : (backTo pos (starEach [] X.env)).any (·.1) = false) : PE X (.Call (.Name x p) [e] [] pos) (RE E (e1 g fa)) :=
 zcv (zpn hc gl hm hv (zev ha ziy he) hn hdb he hpl) fun σ H Q h => re1 (r := fun x H Q => r [x] H Q) hg h
theorem z7w (K : PySem.W.Frag) (t : T) (W : Wd) (S : Sto) (H : Hp) (v : V) (Q : VK) (r : Rep W S H) (d : Den W t v) (p : Post E W (QV Q) (gLen t S)) : ∃ x n, [v] = [x] /\ LenV K x H n /\ Q (.int n) H := by
 unfold gLen at p;cases e : zf6 S t with
 | some ts =>
   simp only [e] at p;obtain ⟨a, vs, rfl, h1, h2⟩ := r.seq d e;refine ⟨_, ts.length, rfl, ?_, now p r (za2.mpr rfl)⟩;rcases h1 with h1 | h1
   ·exact .inl ⟨vs, .inl h1, h2.length⟩
   ·exact .inr ⟨vs, .inl h1, h2.length⟩
 | none =>
   simp only [e] at p
   split at p
   ·split at p
    ·rename_i hl; rw [zbj.mp d]; exact ⟨_, _, rfl, ⟨big hl, rfl⟩, now p r (za2.mpr rfl)⟩
    ·exact p.elim
   ·exact p.elim
theorem z7x {p : Pos} (gl : Gl X "len") (hm : X.mg "len" = none) (ha : PE X e (RE E fa))
 (he : starEach [e] X.env = (false, eval e X.env) :: starEach [] X.env := by rfl) (hpl : (backTo pos (starEach [] X.env)).any (·.1) = false := by rfl) : PE X (.Call (.Name "len" p) [e] [] pos) (RE E (e1 gLen fa)) :=
 zrp zx9 (z7w X.K) gl hm PySem.boot_len ha (by decide) (by decide) he hpl
def zk8 (t : T) : M T := fun S => match t with
 | .obj k => (match S[k]? with
   | some (.dic kvs) => .ok (.int kvs.length) S
   | _ => .bad)
 | _ => .bad
theorem z0i {p : Pos} (gl : Gl X "len") (hm : X.mg "len" = none) (ha : PE X e (RE E fa))
 (he : starEach [e] X.env = (false, eval e X.env) :: starEach [] X.env := by rfl) (hpl : (backTo pos (starEach [] X.env)).any (·.1) = false := by rfl) : PE X (.Call (.Name "len" p) [e] [] pos) (RE E (e1 zk8 fa)) :=
 zrp zvo (fun t W S H v Q r d p => by
  unfold zk8 at p
  split at p
  ·rename_i k
   split at p
   ·rename_i kvs e
    obtain ⟨rfl, _⟩ := zco.mp d;obtain ⟨⟨ks, h1, h2⟩, _⟩ := r.cell k _ e;exact ⟨_, ks, rfl, h1, by rw [<- h2.length]; exact now p r (za2.mpr rfl)⟩
   ·exact p.elim
  ·exact p.elim) gl hm PySem.boot_len ha (by decide) (by decide) he hpl
def kT : Key -> T
 | .inl i => .int i
 | .inr x => .str x
theorem z0j {W : Wd} (k : Key) : Den W (kT k) (kV k) := by
 cases k with
 | inl i => exact za2.mpr rfl
 | inr i => exact zbj.mpr rfl
def zf7 (S : Sto) (t : T) : Option (List T) := match zf6 S t with
 | some ts => some ts
 | none => (zgc S t).map fun kvs => kvs.map fun p => kT p.1
def zum (t : T) : M T := fun S => match zf7 S t with
 | some ts => .ok (.lst ts) S
 | none => .bad
def zjs (t : T) : M T := fun S => match zf7 S t with
 | some ts => .ok (.obj S.length) (S ++ [.lst ts])
 | none => .bad
theorem zon {W : Wd} : ∀ {kvs : List (Key × T)} {ks : List (Key × V)}, DenK W kvs ks -> Dens W (kvs.map fun p => kT p.1) (ks.map fun p => kV p.1)
 | [], ks, h => by rw [zdb.mp h]; exact Dens.nil'
 | (k, t) :: kvs, ks, h => by
   obtain ⟨v, r, rfl, h1, h2⟩ := zcn.mp h;exact Dens.cons' (z0j k) (zon h2)
abbrev z7y (K : PySem.W.Frag) : List V -> Hp -> VK -> Prop := fun xs H Q => (∃ p ys, xs = [.ref p] /\ (SqL K H p ys \/ SqT K H p ys) /\ ∀ l, H l = none -> Q (.ref l) (upd H l (.lst ys))) \/
 (∃ a kvs, xs = [.ref a] /\ Rd H a (.dK kvs) /\ ∀ l, H l = none -> Q (.ref l) (upd H l (.lst (kvs.map fun p => kV p.1))))
theorem zs6 {K : PySem.W.Frag} {W : Wd} {S : Sto} {H : Hp} {t : T} {v : V} {ts : List T} {Q : VK} (r : Rep W S H) (d : Den W t v) (e : zf7 S t = some ts) (h : ∀ vs, Dens W ts vs -> ∀ l, H l = none -> Q (.ref l) (upd H l (.lst vs))) : z7y K [v] H Q := by
 unfold zf7 at e;cases e1 : zf6 S t with
 | some us =>
   simp only [e1] at e;cases e;obtain ⟨a, vs, rfl, h1, h2⟩ := r.seq d e1;refine .inl ⟨a, vs, rfl, ?_, h vs h2⟩;rcases h1 with h1 | h1
   ·exact .inl (.inl h1)
   ·exact .inr (.inl h1)
 | none =>
   simp only [e1] at e;obtain ⟨kvs, e2, rfl⟩ := Option.map_eq_some_iff.mp e;obtain ⟨a, ks, rfl, h1, h2⟩ := r.dict d e2;exact .inr ⟨a, ks, rfl, h1, h _ (zon h2)⟩
theorem z5o : bootBuiltins "list" = some (.type "list") := by decide +kernel
theorem z0k {p : Pos} (hc : X.calm = true) (gl : Gl X "list") (hm : X.mg "list" = none) (ha : PE X e (RE E fa))
 (he : starEach [e] X.env = (false, eval e X.env) :: starEach [] X.env := by rfl) (hpl : (backTo pos (starEach [] X.env)).any (·.1) = false := by rfl) : PE X (.Call (.Name "list" p) [e] [] pos) (RE E (e1 zum fa)) :=
 zwd (zh4.or (zi0 hc)) (fun t W S H v Q r d p => by
  unfold zum at p;cases e : zf7 S t with
  | none => simp only [e] at p; exact p.elim
  | some ts => simp only [e] at p; exact zs6 r d e fun vs dv => zv4 p r dv) gl hm z5o ha (by decide) (by decide) he hpl
theorem zwe {p : Pos} (hc : X.calm = true) (gl : Gl X "list") (hm : X.mg "list" = none) (ha : PE X e (RE E fa))
 (he : starEach [e] X.env = (false, eval e X.env) :: starEach [] X.env := by rfl) (hpl : (backTo pos (starEach [] X.env)).any (·.1) = false := by rfl) : PE X (.Call (.Name "list" p) [e] [] pos) (RE E (e1 zjs fa)) :=
 zwd (zh4.or (zi0 hc)) (fun t W S H v Q r d p => by
  unfold zjs at p;cases e : zf7 S t with
  | none => simp only [e] at p; exact p.elim
  | some ts => simp only [e] at p; exact zs6 r d e fun vs dv => zs5 p r dv) gl hm z5o ha (by decide) (by decide) he hpl
theorem zwf : bootBuiltins "isinstance" = some (.builtin "isinstance") := by decide +kernel
end
end MF
namespace MF
open PySem L2
def zma (f : Str) (v : T) : List (Str × T) -> List (Str × T)
 | [] => [(f, v)]
 | (g, x) :: r => if g = f then (g, v) :: r else (g, x) :: zma f v r
theorem DenF.look {W : Wd} {f : Str} : ∀ {fs : List (Str × T)} {ks : List (Str × V)}, DenF W fs ks -> (∀ t, fs.lookup f = some t -> ∃ v, ks.lookup f = some v /\ Den W t v) /\ (fs.lookup f = none -> ks.lookup f = none)
 | [], ks, h => by rw [show ks = [] from h]; exact ⟨(fun t e => by cases e), fun _ => rfl⟩
 | (g, t) :: fs, ks, h => by
   obtain ⟨v, r, rfl, h1, h2⟩ := h;have ih := DenF.look (f := f) h2;by_cases e : f = g
   ·have b : (f == g) = true := beq_iff_eq.mpr e
    simp only [List.lookup, b];exact ⟨fun t' e' => by cases e'; exact ⟨v, rfl, h1⟩, fun z => by cases z⟩
   ·have b : (f == g) = false := beq_eq_false_iff_ne.mpr e
    simp only [List.lookup, b];exact ih
theorem DenF.put {W : Wd} {f : Str} {t0 : T} {v0 : V} (d : Den W t0 v0) : ∀ {fs : List (Str × T)} {ks : List (Str × V)}, DenF W fs ks -> DenF W (zma f t0 fs) (putF f v0 ks)
 | [], ks, h => by rw [show ks = [] from h]; exact ⟨_, _, rfl, d, rfl⟩
 | (g, t) :: fs, ks, h => by
   obtain ⟨v, r, rfl, h1, h2⟩ := h;have ih := DenF.put (f := f) d h2;rw [show zma f t0 ((g, t) :: fs) = (if g = f then (g, t0) :: fs else (g, t) :: zma f t0 fs) from rfl, show putF f v0 ((g, v) :: r) = (if g = f then (g, v0) :: r else (g, v) :: putF f v0 r) from rfl];by_cases e : g = f
   ·rw [if_pos e, if_pos e]; exact ⟨_, _, rfl, d, h2⟩
   ·rw [if_neg e, if_neg e]; exact ⟨_, _, rfl, h1, ih⟩
def zg3 (S : Sto) (C : Addr) : T -> Option (Nat × List (Str × T))
 | .obj k => match S[k]? with
   | some (.ins C' fs) => if C' = C then some (k, fs) else none
   | _ => none
 | _ => none
theorem Rep.inst {W : Wd} {S : Sto} {H : Hp} (r : Rep W S H) {C : Addr} {t : T} {v : V} {k : Nat} {fs : List (Str × T)} (d : Den W t v) (h : zg3 S C t = some (k, fs)) :
 ∃ dx ks, v = .ref (W.μ k) /\ S[k]? = some (.ins C fs) /\ H (W.μ k) = some (.ins C dx ks) /\ DenF W fs ks := by
 cases t with
 | obj j =>
   obtain ⟨rfl, hj⟩ := zco.mp d;unfold zg3 at h;cases e : S[j]? with
   | none => simp [e] at h
   | some c =>
     cases c with
     | ins C' fs' =>
       simp only [e] at h
       split at h
       ·rename_i hc
        cases h;subst hc;obtain ⟨⟨dx, ks, h1, h2⟩, _⟩ := r.cell _ _ e;exact ⟨dx, ks, rfl, e, h1, h2⟩
       ·cases h
     | lst _ => simp [e] at h
     | dic _ => simp [e] at h
     | exc _ _ => simp [e] at h
     | lck _ => simp [e] at h
 | _ => simp [zg3] at h
def gFld (C : Addr) (f : Str) (t : T) : M T := fun S => match zg3 S C t with
 | some (_, fs) => (match fs.lookup f with
   | some u => .ok u S
   | none => .bad)
 | none => .bad
def zf0 (C : Addr) (f : Str) (fo fv : DE) : DS := fun ρ => (fv ρ).bind fun t => (fo ρ).bind fun o => fun S => match zg3 S C o with
 | some (k, fs) => if fs.length < 900 then .ok (.nx ρ) (S.set k (.ins C (zma f t fs))) else .bad
 | none => .bad
def zna (fd fk fv : DE) : DS := fun ρ => (fv ρ).bind fun t => (fd ρ).bind fun d => (fk ρ).bind fun k => fun S => match d, keyT k with
 | .obj j, some key => (match S[j]? with
   | some (.dic kvs) => if kvs.length <= 900 then .ok (.nx ρ) (S.set j (.dic (putT kvs key t))) else .bad
   | _ => .bad)
 | _, _ => .bad
def z89 (fl fi fv : DE) : DS := fun ρ => (fv ρ).bind fun t => (fl ρ).bind fun l => (fi ρ).bind fun i => fun S => match l, i with
 | .obj j, .int n => (match S[j]? with
   | some (.lst ts) => (match ixN ts.length n with
     | some m => .ok (.nx ρ) (S.set j (.lst (ts.set m t)))
     | none => .bad)
   | _ => .bad)
 | _, _ => .bad
section
variable {X : Cx} {E : XK} {a b c e o i value : Expr} {es : List Expr} {fa fb fc fo fv fi : DE} {ta tb : DT} {fr : DA} {pos pos' : Pos} {f : Str} {C : Addr}
theorem zdy (cl : Cls X.K C) (na : zce X.K C f) (ha : PE X e (RE E fa)) (hb : attributeBase e f X.env (eval e X.env) = eval e X.env := by rfl) : PE X (.Attribute e f pos) (RE E (e1 (gFld C f) fa)) :=
 zcv (z4o ha hb) fun σ H Q h => re1 (r := fun x H1 Q => ∃ a C dx fs v, x = .ref a /\ H1 a = some (.ins C dx fs) /\ Cls X.K C /\ zce X.K C f /\ fs.lookup f = some v /\ Q v H1) (fun t W S H v Q r d p => by
  unfold gFld at p;cases e : zg3 S C t with
  | none => simp only [e] at p; exact p.elim
  | some q =>
    obtain ⟨k, fs⟩ := q;simp only [e] at p;cases e2 : fs.lookup f with
    | none => simp only [e2] at p; exact p.elim
    | some u =>
      simp only [e2] at p;obtain ⟨dx, ks, rfl, h0, h1, h2⟩ := r.inst d e;obtain ⟨v, e3, dv⟩ := h2.look.1 u e2;exact ⟨_, C, dx, ks, v, rfl, h1, cl, na, e3, now p r dv⟩) h
theorem zgd (cl : Cls X.K C) (na : zce X.K C f) (ho : PE X o (RE E fo)) (hv : PE X value (RE E fv)) (hs : swapsWith value (some (.Attribute o f pos')) pos.line X.env = pure false := by rfl) : PS X (.Assign [.Attribute o f pos'] value pos) (RS E (zf0 C f fo fv)) :=
 zjd (z4p ho hv hs) fun D σ H h => by
  obtain ⟨W, S, ρ, rp, env, p⟩ := h;refine ⟨W, S, ρ, rp, env, (Post.bind p).imp fun t W1 S1 H1 l1 r1 p1 y dy => ?_⟩;refine ⟨W1, S1, ρ, r1, env.mono l1, (Post.bind p1).imp fun o W2 S2 H2 l2 r2 p2 x dx => ?_⟩;cases e : zg3 S2 C o with
  | none => simp only [e] at p2; exact p2.elim
  | some q =>
    obtain ⟨k, fs⟩ := q;simp only [e] at p2
    split at p2
    ·rename_i hl
     obtain ⟨d', ks, rfl, h0, h1, h2⟩ := r2.inst dx e;refine ⟨_, C, d', ks, rfl, h1, cl, na, by rw [<- h2.length]; omega, ?_⟩;exact p2 W2 _ (Wd.le.refl _) (r2.cellSet h0 _ _ ⟨d', _, zaj, h2.put (Den.mono l2 _ _ dy)⟩) σ (env.mono (l1.trans l2))
    ·exact p2.elim
theorem zmb (hu : X.A.units + 1 < cLine) (ho : PE X o (RE E fo)) (hi : PE X i (RE E fi)) (hv : PE X value (RE E fv)) (hs : swapsWith value (some (.Subscript o i pos')) pos.line X.env = pure false := by rfl) : PS X (.Assign [.Subscript o i pos'] value pos) (RS E (zna fo fi fv)) :=
 zjd (z1u hu ho hi hv hs) fun D σ H h => by
  obtain ⟨W, S, ρ, rp, env, p⟩ := h;refine ⟨W, S, ρ, rp, env, (Post.bind p).imp fun t W1 S1 H1 l1 r1 p1 v dv => ?_⟩;refine ⟨W1, S1, ρ, r1, env.mono l1, (Post.bind p1).imp fun d W2 S2 H2 l2 r2 p2 x dx => ?_⟩;refine ⟨W2, S2, ρ, r2, env.mono (l1.trans l2), (Post.bind p2).imp fun k W3 S3 H3 l3 r3 p3 y dy => ?_⟩;have dx := Den.mono l3 _ _ dx;have dv := Den.mono (l2.trans l3) _ _ dv
  split at p3
  ·rename_i e2
   split at p3
   ·rename_i kvs e
    split at p3
    ·rename_i hl
     obtain ⟨rfl, _⟩ := zco.mp dx;obtain ⟨⟨ks, h1, h2⟩, _⟩ := r3.cell _ _ e;refine ⟨_, _, rfl, .inl ⟨ks, _, h1, zom dy ‹keyT k = some _›, zpt (by rw [<- h2.length]; omega), rfl⟩, ?_⟩;exact p3 W3 _ (Wd.le.refl _) (r3.cellSet e _ _ ⟨_, zaj, h2.put dv _⟩) σ (env.mono (l1.trans (l2.trans l3)))
    ·exact p3.elim
   ·exact p3.elim
  ·exact p3.elim
def eMt (ok : Sto -> T -> Bool) (g : T -> List T -> M T) (fo : DE) (fr : DA) : DE := fun ρ => (fo ρ).bind fun t => fun S => if ok S t = true then ((fr ρ).bind fun ts => g t ts) S else .bad
def okL (S : Sto) (t : T) : Bool := (za6 S t).isSome
def okS (_ : Sto) : T -> Bool
 | .str _ => true
 | _ => false
def GM (E : XK) (r : V -> List V -> Hp -> VK -> Prop) (g : T -> List T -> M T) : Prop := ∀ (t : T) (ts : List T) (W : Wd) (S : Sto) (H : Hp) (v : V) (vs : List V) (Q : VK), Rep W S H -> Den W t v -> Dens W ts vs -> Post E W (QV Q) (g t ts S) -> r v vs H Q
theorem znw {K : PySem.W.Frag} {W : Wd} {S : Sto} {H : Hp} {t : T} {v : V} (r : Rep W S H) (d : Den W t v) (h : okL S t = true) : tyV K "list" v H := by
 obtain ⟨ts, e⟩ := Option.isSome_iff_exists.mp h;obtain ⟨a, vs, rfl, h1, _⟩ := r.list d e;exact .inl ⟨rfl, vs, .inl h1⟩
theorem e_mt {ok : Sto -> T -> Bool} {T' id : String} {name : Str} {r : V -> List V -> Hp -> VK -> Prop} {g : T -> List T -> M T} {apos : Pos} (pa : PlainAttrs T') (slot : Slot T' name id) (hty : typeOf (.builtin id) = pure (.type "method_descriptor")) (hm : MtR X id r)
 (hok : ∀ {W : Wd} {S : Sto} {H : Hp} {t : T} {v : V}, Rep W S H -> Den W t v -> ok S t = true -> tyV X.K T' v H) (hg : GM E r g) (ho : PE X o (RE E fo)) (ha : PA X (e :: es) (RA E fr))
 (hbase : attributeBase o name X.env (eval o X.env) = eval o X.env := by rfl)
 (hfew : ((backTo pos (starEach (e :: es) X.env)).all (fun x => !x.1) && (backToKw pos (keywordEach [] X.env)).all (fun x => x.1.isSome)
  && decide ((e :: es).length + ([] : List Keyword).length + (if ([] : List Keyword).isEmpty then 0 else 1) < 30)) = true := by rfl)
 (hline : (apos.endLine == pos.line) = true := by rfl) (hs : starEach (e :: es) X.env = (false, eval e X.env) :: starEach es X.env := by rfl) (hplain : (backTo pos (starEach es X.env)).any (·.1) = false := by rfl) :
 PE X (.Call (.Attribute o name apos) (e :: es) [] pos) (RE E (eMt ok g fo fr)) :=
 zcv (z7j pa slot hty hm ho ha hbase hfew hline hs hplain) fun σ H Q h => by
  obtain ⟨W, S, ρ, rp, env, p⟩ := h;refine ⟨W, S, ρ, rp, env, (Post.bind p).imp fun t W1 S1 H1 l1 r1 p1 v dv => ?_⟩
  split at p1
  ·rename_i h
   refine ⟨hok r1 dv h, W1, S1, ρ, r1, env.mono l1, (Post.bind p1).imp fun ts W2 S2 H2 l2 r2 p2 vs dvs => ?_⟩;exact hg t ts W2 S2 H2 v vs Q r2 (Den.mono l2 _ _ dv) dvs p2
  ·exact p1.elim
theorem z5p {ok : Sto -> T -> Bool} {T' id : String} {name : Str} {r : V -> List V -> Hp -> VK -> Prop} {g : T -> List T -> M T} {apos : Pos} (pa : PlainAttrs T') (slot : Slot T' name id) (hty : typeOf (.builtin id) = pure (.type "method_descriptor")) (hm : MtR X id r)
 (hok : ∀ {W : Wd} {S : Sto} {H : Hp} {t : T} {v : V}, Rep W S H -> Den W t v -> ok S t = true -> tyV X.K T' v H) (hg : GM E r g) (ho : PE X o (RE E fo))
 (hbase : attributeBase o name X.env (eval o X.env) = eval o X.env := by rfl) (hline : (apos.endLine == pos.line) = true := by rfl) :
 PE X (.Call (.Attribute o name apos) [] [] pos) (RE E (eMt ok g fo aNil)) :=
 zcv (z4z pa slot hty hm ho hbase hline) fun σ H Q h => by
  obtain ⟨W, S, ρ, rp, env, p⟩ := h;refine ⟨W, S, ρ, rp, env, (Post.bind p).imp fun t W1 S1 H1 l1 r1 p1 v dv => ?_⟩
  split at p1
  ·rename_i h
   exact ⟨hok r1 dv h, hg t [] W1 S1 H1 v [] Q r1 dv Dens.nil' p1⟩
  ·exact p1.elim
def cellL (S : Sto) : T -> Option (Nat × List T)
 | .obj k => match S[k]? with
   | some (.lst ts) => some (k, ts)
   | _ => none
 | _ => none
theorem Rep.cellL {W : Wd} {S : Sto} {H : Hp} (r : Rep W S H) {t : T} {v : V} {k : Nat} {ts : List T} (d : Den W t v) (h : cellL S t = some (k, ts)) : ∃ vs, v = .ref (W.μ k) /\ S[k]? = some (.lst ts) /\ H (W.μ k) = some (.lst vs) /\ Dens W ts vs := by
 cases t with
 | obj j =>
   obtain ⟨rfl, hj⟩ := zco.mp d;unfold MF.cellL at h;cases e : S[j]? with
   | none => simp [e] at h
   | some c =>
     cases c with
     | lst us =>
       simp only [e] at h;cases h;obtain ⟨⟨vs, h1, h2⟩, _⟩ := r.cell _ _ e;exact ⟨vs, rfl, e, h1, h2⟩
     | dic _ => simp [e] at h
     | ins _ _ => simp [e] at h
     | exc _ _ => simp [e] at h
     | lck _ => simp [e] at h
 | _ => simp [MF.cellL] at h
def gApp (t : T) (as : List T) : M T := fun S => match cellL S t, as with
 | some (k, ts), [y] => if ts.length < 1000 then .ok .non (S.set k (.lst (ts ++ [y]))) else .bad
 | _, _ => .bad
def gExt (t : T) (as : List T) : M T := fun S => match cellL S t, as with
 | some (k, ts), [y] => (match za6 S y with
   | some us => if ts.length + us.length <= 1000 then .ok .non (S.set k (.lst (ts ++ us))) else .bad
   | none => .bad)
 | _, _ => .bad
def zp3 (t : T) (as : List T) : M T := fun S => match cellL S t, as with
 | some (k, _), [] => .ok .non (S.set k (.lst []))
 | _, _ => .bad
def gPop (t : T) (as : List T) : M T := fun S => match cellL S t, as with
 | some (k, ts), [] => (match ts[ts.length - 1]? with
   | some y => .ok y (S.set k (.lst ts.dropLast))
   | none => .bad)
 | _, _ => .bad
def znx (t : T) (as : List T) : M T := fun S => match cellL S t, as with
 | some (k, ts), [.int i] => if 0 <= i /\ i < 1000 then (match ts[i.toNat]? with
   | some y => .ok y (S.set k (.lst (ts.eraseIdx i.toNat)))
   | none => .bad) else .bad
 | _, _ => .bad
theorem z5q : GM E zvl gApp := by
 intro t as W S H v vs Q r d da p;unfold gApp at p
 split at p
 ·rename_i k ts y e
  split at p
  ·rename_i hl
   obtain ⟨us, rfl, h0, h1, h2⟩ := r.cellL d e;obtain ⟨w, rfl, dw⟩ := zhl da;exact ⟨_, us, w, rfl, rfl, h1, Nat.lt_of_lt_of_le (by rw [<- h2.length]; exact hl) (big (Nat.le_refl _)), p W _ (Wd.le.refl _) (r.cellSet h0 _ _ ⟨_, zaj, h2.append (Dens.cons' dw Dens.nil')⟩) _ (zcf.mpr rfl)⟩
  ·exact p.elim
 ·exact p.elim
def zs7 : V -> List V -> Hp -> VK -> Prop := fun x vs H Q => ∃ l b xs zs, x = .ref l /\ vs = [.ref b] /\ H l = some (.lst xs) /\ Rd H b (.lst zs) /\ xs.length + zs.length <= sizeLine /\ Q .non (upd H l (.lst (xs ++ zs)))
theorem zun : MtR X "list.extend" zs7 := by
 intro pins s σ H x vs v us Q I rx rv h;obtain ⟨l, b, xs, zs, rfl, rfl, hH, hB, hz, q⟩ := h;cases rx;obtain ⟨u, rfl, ru⟩ := rv.one;cases ru;obtain ⟨z, its, n, r, hl, e⟩ := I.lstM hH;obtain ⟨z2, its2, n2, r2, e2⟩ := hB.ok I.hok;have hl2 := r2.length;have hsz : its.toArray.size + its2.toArray.size <= sizeLine := by rw [List.size_toArray, List.size_toArray]; omega
 have hlong : ¬ (!its.toArray.isEmpty && Builtin.List.listTooLong (its.toArray.size + its2.toArray.size)) = true := by
  rw [zyh hsz, Bool.and_false];exact Bool.false_ne_true
 refine call_meets F.slot_list_extend ⟨_, e, rfl⟩ F.entry_list_extend (F.args_list_extend_2 _ _)
  (AutoSeq1.list_extend_list_list_0 l its.toArray n b its2.toArray n2 hlong (by rw [List.size_toArray]; omega) (by omega)) ⟨e, e2, ?_⟩
 refine ⟨.non, _, I.lset (its' := its ++ its2) hH e (by simp) (r.append r2) ?_, rfl, q⟩;rw [List.length_append];omega
theorem z5r : GM E zs7 gExt := by
 intro t as W S H v vs Q r d da p;unfold gExt at p
 split at p
 ·rename_i k ts y e
  cases e2 : za6 S y with
  | none => simp only [e2] at p; exact p.elim
  | some zs =>
    simp only [e2] at p
    split at p
    ·rename_i hl
     obtain ⟨us, rfl, h0, h1, h2⟩ := r.cellL d e;obtain ⟨w, rfl, dw⟩ := zhl da;obtain ⟨b, ws, rfl, h3, h4⟩ := r.list dw e2;exact ⟨_, b, us, ws, rfl, rfl, h1, h3, big (by rw [<- h2.length, <- h4.length]; exact hl), p W _ (Wd.le.refl _) (r.cellSet h0 _ _ ⟨_, zaj, h2.append h4⟩) _ (zcf.mpr rfl)⟩
    ·exact p.elim
 ·exact p.elim
theorem zyz : GM E zz6 zp3 := by
 intro t as W S H v vs Q r d da p;unfold zp3 at p
 split at p
 ·rename_i k ts e
  obtain ⟨us, rfl, h0, h1, h2⟩ := r.cellL d e;rw [zbk.mp da];exact ⟨_, us, rfl, rfl, h1, p W _ (Wd.le.refl _) (r.cellSet h0 _ _ ⟨_, zaj, Dens.nil'⟩) _ (zcf.mpr rfl)⟩
 ·exact p.elim
theorem Dens.dropLast {W : Wd} {ts : List T} {vs : List V} (h : Dens W ts vs) : Dens W ts.dropLast vs.dropLast := by
 rw [List.dropLast_eq_take, List.dropLast_eq_take, h.length];exact h.take _
theorem z5s : GM E rPop gPop := by
 intro t as W S H v vs Q r d da p;unfold gPop at p
 split at p
 ·rename_i k ts e
  cases e2 : ts[ts.length - 1]? with
  | none => simp only [e2] at p; exact p.elim
  | some y =>
    simp only [e2] at p;obtain ⟨us, rfl, h0, h1, h2⟩ := r.cellL d e;rw [zbk.mp da];obtain ⟨w, e3, dw⟩ := h2.get e2;exact ⟨_, us, w, rfl, rfl, h1, by rw [<- h2.length]; exact e3, p W _ (Wd.le.refl _) (r.cellSet h0 _ _ ⟨_, zaj, h2.dropLast⟩) _ dw⟩
 ·exact p.elim
theorem zy0 : GM E zz5 znx := by
 intro t as W S H v vs Q r d da p;unfold znx at p
 split at p
 ·rename_i k ts i e
  split at p
  ·rename_i hi
   cases e2 : ts[i.toNat]? with
   | none => simp only [e2] at p; exact p.elim
   | some y =>
     simp only [e2] at p;obtain ⟨us, rfl, h0, h1, h2⟩ := r.cellL d e;obtain ⟨w0, rfl, dw0⟩ := zhl da;obtain ⟨w, e3, dw⟩ := h2.get e2;have hlt : i.toNat < us.length := (List.getElem?_eq_some_iff.mp e3).1;refine ⟨_, us, i, i.toNat, w, rfl, by rw [za2.mp dw0], h1, ?_, ?_, seqIndex_of hi.1 (by omega), e3, p W _ (Wd.le.refl _) (r.cellSet h0 _ _ ⟨_, zaj, h2.eraseIdx _⟩) _ dw⟩
     ·have := hi.1; omega
     ·have := hi.2; omega
  ·exact p.elim
 ·exact p.elim
def zi2 : List T -> Option (List Str)
 | [] => some []
 | .str x :: ts => (zi2 ts).map (x :: ·)
 | _ :: _ => none
theorem zs8 {W : Wd} : ∀ {ts : List T} {vs : List V} {ys : List Str}, Dens W ts vs -> zi2 ts = some ys -> vs = ys.map V.str
 | [], vs, ys, h, e => by cases e; exact zbk.mp h
 | t :: ts, vs, ys, h, e => by
   obtain ⟨v, r, rfl, h1, h2⟩ := za1.mp h;cases t with
   | str x =>
     simp only [zi2] at e;obtain ⟨zs, e1, rfl⟩ := Option.map_eq_some_iff.mp e;rw [zbj.mp h1, zs8 h2 e1];rfl
   | _ => simp [zi2] at e
theorem z5t {apos : Pos} (ho : PE X o (RE E fo)) (ha : PA X [e] (RA E fr)) (hbase : attributeBase o "append" X.env (eval o X.env) = eval o X.env := by rfl)
 (hline : (apos.endLine == pos.line) = true := by rfl) (hs : starEach [e] X.env = (false, eval e X.env) :: starEach [] X.env := by rfl)
 (hfew : ((backTo pos (starEach [e] X.env)).all (fun x => !x.1) && (backToKw pos (keywordEach [] X.env)).all (fun x => x.1.isSome) && decide ([e].length + ([] : List Keyword).length + (if ([] : List Keyword).isEmpty then 0 else 1) < 30)) = true := by rfl) : PE X (.Call (.Attribute o "append" apos) [e] [] pos) (RE E (eMt okL gApp fo fr)) :=
 e_mt PySem.F.plainAttrs_list PySem.F.slot_list_append PySem.F.type_list_append zlz znw z5q ho ha hbase hfew hline hs rfl
theorem zrq {apos : Pos} (ho : PE X o (RE E fo)) (ha : PA X [e] (RA E fr)) (hbase : attributeBase o "extend" X.env (eval o X.env) = eval o X.env := by rfl)
 (hline : (apos.endLine == pos.line) = true := by rfl) (hs : starEach [e] X.env = (false, eval e X.env) :: starEach [] X.env := by rfl)
 (hfew : ((backTo pos (starEach [e] X.env)).all (fun x => !x.1) && (backToKw pos (keywordEach [] X.env)).all (fun x => x.1.isSome) && decide ([e].length + ([] : List Keyword).length + (if ([] : List Keyword).isEmpty then 0 else 1) < 30)) = true := by rfl) : PE X (.Call (.Attribute o "extend" apos) [e] [] pos) (RE E (eMt okL gExt fo fr)) :=
 e_mt PySem.F.plainAttrs_list PySem.F.slot_list_extend PySem.F.type_list_extend zun znw z5r ho ha hbase hfew hline hs rfl
theorem z2g {apos : Pos} (ho : PE X o (RE E fo)) (ha : PA X [e] (RA E fr)) (hbase : attributeBase o "pop" X.env (eval o X.env) = eval o X.env := by rfl)
 (hline : (apos.endLine == pos.line) = true := by rfl) (hs : starEach [e] X.env = (false, eval e X.env) :: starEach [] X.env := by rfl)
 (hfew : ((backTo pos (starEach [e] X.env)).all (fun x => !x.1) && (backToKw pos (keywordEach [] X.env)).all (fun x => x.1.isSome) && decide ([e].length + ([] : List Keyword).length + (if ([] : List Keyword).isEmpty then 0 else 1) < 30)) = true := by rfl) : PE X (.Call (.Attribute o "pop" apos) [e] [] pos) (RE E (eMt okL znx fo fr)) :=
 e_mt PySem.F.plainAttrs_list PySem.F.slot_list_pop PySem.F.type_list_pop zyi znw zy0 ho ha hbase hfew hline hs rfl
theorem z2h {apos : Pos} (ho : PE X o (RE E fo)) (hbase : attributeBase o "clear" X.env (eval o X.env) = eval o X.env := by rfl) (hline : (apos.endLine == pos.line) = true := by rfl) : PE X (.Call (.Attribute o "clear" apos) [] [] pos) (RE E (eMt okL zp3 fo aNil)) :=
 z5p PySem.F.plainAttrs_list PySem.F.slot_list_clear PySem.F.type_list_clear zyj znw zyz ho hbase hline
theorem z7z {apos : Pos} (ho : PE X o (RE E fo)) (hbase : attributeBase o "pop" X.env (eval o X.env) = eval o X.env := by rfl) (hline : (apos.endLine == pos.line) = true := by rfl) : PE X (.Call (.Attribute o "pop" apos) [] [] pos) (RE E (eMt okL gPop fo aNil)) :=
 z5p PySem.F.plainAttrs_list PySem.F.slot_list_pop PySem.F.type_list_pop z40 znw z5s ho hbase hline
end
end MF
namespace MF
open PySem L2
def sNx : DS := fun ρ => M.pure (.nx ρ)
def sSeq (f g : DS) : DS := fun ρ => (f ρ).bind fun x => match x with
 | .nx ρ' => g ρ'
 | o => M.pure o
def sRet (f : DE) : DS := fun ρ => (f ρ).bind fun t => M.pure (.rt t)
def z2i : DS := fun _ => M.pure (.rt .non)
def za3 (f : DE) : DS := fun ρ => (f ρ).bind fun _ => M.pure (.nx ρ)
def sSet (i : Nat) (f : DE) : DS := fun ρ => (f ρ).bind fun t => M.pure (.nx (ρ.set i (some t)))
def sIf (c : DT) (f g : DS) : DS := fun ρ => (c ρ).bind fun b => if b = true then f ρ else g ρ
theorem zmc {α : Type} {E : XK} {W W' : Wd} {Q : α -> Wd -> Sto -> Hp -> Prop} {r : R α} (h : Post E W Q r) (l : W.le W') : Post E W' Q r := by
 cases r with
 | ok a S => exact fun W2 H2 l2 rp => h W2 H2 (l.trans l2) rp
 | exc C fs S => exact fun W2 H2 dx l2 rp => h W2 H2 dx (l.trans l2) rp
 | bad => exact h
section
variable {X : Cx} {E : XK} {a b c e o : Expr} {es : List Expr} {fa fb fc : DE} {tc : DT} {fr : DA} {pos : Pos} {st : Stmt} {rest sa sb : List Stmt} {f g : DS}
theorem z70 {D : Ends} {σ : St} {H : Hp} (h : RS E sNx D σ H) : D.nx σ H := by
 obtain ⟨W, S, ρ, rp, env, p⟩ := h;exact p W H (Wd.le.refl _) rp σ env
theorem zdw : PSs X [] (RS E sNx) := z0a z07 fun D σ H h => z70 h
theorem z5u {D : Ends} {σ : St} {H : Hp} (h : RS E (sSeq f g) D σ H) : tSeq (RS E f) (RS E g) D σ H := by
 obtain ⟨W, S, ρ, rp, env, p⟩ := h;refine ⟨W, S, ρ, rp, env, (Post.bind p).imp fun x W1 S1 H1 l1 r1 p1 => ?_⟩;cases x with
 | nx ρ' => exact fun σ' e' => ⟨W1, S1, ρ', r1, e', p1⟩
 | rt t => exact p1 W1 H1 (Wd.le.refl _) r1
 | bk ρ' => exact p1 W1 H1 (Wd.le.refl _) r1
 | ct ρ' => exact p1 W1 H1 (Wd.le.refl _) r1
theorem zae (h1 : PS X st (RS E f)) (h2 : PSs X rest (RS E g)) : PSs X (st :: rest) (RS E (sSeq f g)) := z0a (zit h1 h2) fun D σ H h => z5u h
theorem zaf (h1 : PS X st (RS E f)) : PSs X [st] (RS E f) := zob h1
theorem zfe (ha : PE X e (RE E fa)) : PS X (.Return (some e) pos) (RS E (sRet fa)) := zjd (z4c ha) fun D σ H h => by
 obtain ⟨W, S, ρ, rp, env, p⟩ := h;exact ⟨W, S, ρ, rp, env, (Post.bind p).imp fun t W1 S1 H1 l1 r1 p1 v dv => p1 W1 H1 (Wd.le.refl _) r1 v dv⟩
theorem z5v : PS X (.Return none pos) (RS E z2i) := zjd z09 fun D σ H h => by
 obtain ⟨W, S, ρ, rp, env, p⟩ := h;exact p W H (Wd.le.refl _) rp .non (zcf.mpr rfl)
theorem zat (ha : PE X e (RE E fa)) (hs : swapsWith e none pos.line X.env = pure false := by rfl) : PS X (.Expr e pos) (RS E (za3 fa)) := zjd (zoc ha hs) fun D σ H h => by
 obtain ⟨W, S, ρ, rp, env, p⟩ := h;exact ⟨W, S, ρ, rp, env, (Post.bind p).imp fun t W1 S1 H1 l1 r1 p1 v dv => p1 W1 H1 (Wd.le.refl _) r1 σ (env.mono l1)⟩
theorem zwg {i : Nat} {D : Ends} {σ : St} {H : Hp} (h : RS E (sSet i fa) D σ H) : tAsg (RE E fa) (zm6 i) D σ H := by
 obtain ⟨W, S, ρ, rp, env, p⟩ := h;exact ⟨W, S, ρ, rp, env, (Post.bind p).imp fun t W1 S1 H1 l1 r1 p1 v dv => p1 W1 H1 (Wd.le.refl _) r1 _ ((env.mono l1).set dv i)⟩
theorem zcw {i : Nat} {x : Str} {pos' : Pos} (hN : X.N.Nodup) (hi : X.N[i]? = some x) (hx : Loc X.env.scope x) (he : PE X e (RE E fa)) (hs : swapsWith e (some (.Name x pos')) pos.line X.env = pure false := by rfl) (hf : X.fn x = true \/ X.env.scope.names.lookup x = some .local := by first | exact .inl rfl | exact .inr rfl | assumption)
 (hkn : ∀ u : V, X.kn[i]? ≠ some (some u) := by first | assumption | exact fun u h => nomatch (show (none : Option (Option V)) = some (some u) from h) | exact fun u h => nomatch (Option.some.inj (show some (none : Option V) = some (some u) from h))) :
 PS X (.Assign [.Name x pos'] e pos) (RS E (sSet i fa)) := zjd (z4e hN hi hx he hs hf hkn) fun D σ H h => zwg h
theorem s_if (hc : PT X c (RT E tc)) (ha : PSs X sa (RS E f)) (hb : PSs X sb (RS E g)) : PS X (.If c sa sb pos) (RS E (sIf tc f g)) := zjd (z64 hc ha hb) fun D σ H h => by
 obtain ⟨W, S, ρ, rp, env, p⟩ := h;refine ⟨W, S, ρ, rp, env, (Post.bind p).imp fun k W1 S1 H1 l1 r1 p1 => ?_⟩;cases k with
 | true => exact iteT ⟨W1, S1, ρ, r1, env.mono l1, p1⟩
 | false => exact iteF ⟨W1, S1, ρ, r1, env.mono l1, p1⟩
abbrev DG := T -> Ev -> Option Ev
def GT (gl : TG) (g : DG) : Prop := ∀ (W : Wd) (S : Sto) (H : Hp) (t : T) (x : V) (ρ ρ2 : Ev) (σ : St) (Q : St -> Hp -> Prop), Rep W S H -> Den W t x -> za8 W ρ σ -> g t ρ = some ρ2 -> (∀ σ2, za8 W ρ2 σ2 -> Q σ2 H) -> gl x σ H Q
def zb0 (i : Nat) : DG := fun t ρ => some (ρ.set i (some t))
theorem zdv (i : Nat) : GT (zm6 i) (zb0 i) := fun W S H t x ρ ρ2 σ Q r d env e h => by
 cases e;exact h _ (env.set d i)
def zuo (i j : Nat) : DG := fun t ρ => match t with
 | .tup [a, b] => some ((ρ.set i (some a)).set j (some b))
 | _ => none
theorem z2j (K : PySem.W.Frag) (i j : Nat) : GT (gTup K 2 (z1a (zm6 i) (z1a (zm6 j) gNil))) (zuo i j) := fun W S H t x ρ ρ2 σ Q r d env e h => by
 unfold zuo at e
 split at e
 ·cases e
  obtain ⟨p, vs, rfl, h1, h2⟩ := zfk.mp d;obtain ⟨v, r1, rfl, d1, h3⟩ := za1.mp h2;obtain ⟨w, rfl, d2⟩ := zhl h3;exact ⟨p, _, rfl, .inl (r.sub _ _ h1).1.rd, rfl, v, _, rfl, w, _, rfl, rfl, h _ ((env.set d1 i).set d2 j)⟩
 ·cases e
structure ItOk (W1 : Wd) (ts : List T) (st : Sto -> Prop) (J : It) : Prop where
 go : ∀ i W' S' H', W1.le W' -> Rep W' S' H' -> st S' -> i < ts.length -> J.go i H' /\ ∀ x H'', J.yld i H' x H'' -> ∃ W'' t, W'.le W'' /\ Rep W'' S' H'' /\ ts[i]? = some t /\ Den W'' t x
 stop : ∀ i W' S' H', W1.le W' -> Rep W' S' H' -> st S' -> i = ts.length -> J.stop i H'
abbrev DI := Ev -> M (List T × (Sto -> Prop))
def RI (E : XK) (it : DI) (wi : TI) : Prop := ∀ (σ : St) (H : Hp) (R : It -> Hp -> Prop), (∃ W S ρ, Rep W S H /\ za8 W ρ σ /\ Post E W (fun q W1 S1 H1 => ∀ J W2 H2, W1.le W2 -> Rep W2 S1 H2 -> ItOk W2 q.1 q.2 J -> R J H2) (it ρ S)) -> wi σ H R
def iL (f : DE) : DI := fun ρ => (f ρ).bind fun t => fun S => match za6 S t with
 | some ts => .ok (ts, fun S' => za6 S' t = some ts) S
 | none => .bad
theorem zfl (K : PySem.W.Frag) : RI E (iL fa) (z4g K (RE E fa)) := fun σ H R h => by
 obtain ⟨W, S, ρ, rp, env, p⟩ := h;refine ⟨W, S, ρ, rp, env, (Post.bind p).imp fun t W1 S1 H1 l1 r1 p1 v dv => ?_⟩;cases e : za6 S1 t with
 | none => simp only [e] at p1; exact p1.elim
 | some ts =>
   simp only [e] at p1;obtain ⟨a, vs, rfl, h1, h2⟩ := r1.list dv e;refine ⟨a, rfl, ⟨vs, .inl h1⟩, p1 W1 H1 (Wd.le.refl _) r1 _ W1 H1 (Wd.le.refl _) r1 ⟨fun i W' S' H' l r' st hi => ?_, fun i W' S' H' l r' st hi => ?_⟩⟩
   ·obtain ⟨a', us, ea, g1, g2⟩ := r'.list (Den.mono l _ _ dv) st
    cases ea;have hi' : i < us.length := g2.length ▸ hi;refine ⟨⟨us, us[i], .inl g1, List.getElem?_eq_getElem hi'⟩, fun x H'' y => ?_⟩;obtain ⟨rfl, y⟩ := y;have ex := y us (.inl g1);obtain ⟨t', e1, d1⟩ := g2.get' ex;exact ⟨W', t', Wd.le.refl _, r', e1, d1⟩
   ·obtain ⟨a', us, ea, g1, g2⟩ := r'.list (Den.mono l _ _ dv) st
    cases ea;exact ⟨us, .inl g1, by rw [<- g2.length]; exact Nat.le_of_eq hi.symm⟩
def zk9 (lo : Int) (n : Nat) : List T := (List.range n).map fun (k : Nat) => T.int (lo + k)
theorem zp4 (lo : Int) (n : Nat) : (zk9 lo n).length = n := by simp [zk9]
theorem zy1 {lo : Int} {n i : Nat} (h : i < n) : (zk9 lo n)[i]? = some (.int (lo + i)) := by simp [zk9, h]
def iR1 (f : DA) : DI := fun ρ => (f ρ).bind fun ts => fun S => match ts with
 | [.int j] => if -1000000 <= j /\ j <= 1000000 then .ok (zk9 0 j.toNat, fun _ => True) S else .bad
 | _ => .bad
theorem zy2 (W : Wd) (lo : Int) (n : Nat) : ItOk W (zk9 lo n) (fun _ => True) (Itr lo n) := ⟨fun i W' S' H' l r' _ hi => by
 rw [zp4] at hi;refine ⟨hi, fun x H'' y => ?_⟩;obtain ⟨rfl, rfl⟩ := y;exact ⟨W', _, Wd.le.refl _, r', zy1 hi, za2.mpr rfl⟩, fun i W' S' H' l r' _ hi => by
 rw [zp4] at hi;exact Nat.le_of_eq hi.symm⟩
theorem zwh : RI E (iR1 fr) (z4h (RA E fr)) := fun σ H R h => by
 obtain ⟨W, S, ρ, rp, env, p⟩ := h;refine ⟨W, S, ρ, rp, env, (Post.bind p).imp fun ts W1 S1 H1 l1 r1 p1 vs dv => ?_⟩
 split at p1
 ·rename_i j
  split at p1
  ·rename_i hj
   obtain ⟨v, rfl, d1⟩ := zhl dv;exact ⟨j, by rw [za2.mp d1], by omega, by omega, p1 W1 H1 (Wd.le.refl _) r1 _ W1 H1 (Wd.le.refl _) r1 (zy2 W1 0 _)⟩
  ·exact p1.elim
 ·exact p1.elim
def iK (f : DE) : DI := fun ρ => (f ρ).bind fun t => fun S => match t with
 | .dic kvs => .ok (kvs.map fun p => kT p.1, fun _ => True) S
 | _ => .bad
def Wd.zed (W : Wd) (a : Addr) (o : Obj × HO) : Wd := ⟨W.HS, W.μ, W.n, fun b => if b = a then some o else W.Z b, W.P⟩
theorem Rep.zedNew {W : Wd} {S : Sto} {H : Hp} {a : Addr} {u : HO} {o : Obj} (r : Rep W S H) (hs : W.HS a = some u) (hH : H a = some u) (nt : ∀ xs, u ≠ .tup xs) (no : zyu u) : Rep (W.zed a (o, u)) S (upd H a (.frz o u)) /\ W.le (W.zed a (o, u)) := by
 have zn : W.Z a = none := by
  cases e : W.Z a with
  | none => rfl
  | some q =>
    have h2 := r.zed a q e;rw [hH] at h2;cases h2;exact no.elim
 have l : W.le (W.zed a (o, u)) := ⟨fun _ _ e => e, fun b q e => by
  show (if b = a then some (o, u) else W.Z b) = some q;by_cases z : b = a
  ·rw [z, zn] at e; cases e
  ·rw [if_neg z]; exact e, fun _ _ e => e, Nat.le_refl _, fun _ _ => rfl⟩
 refine ⟨⟨fun b w e => ?_, r.len, fun k c e => ?_, r.inj, fun b q e => ?_, fun b w e => ?_⟩, l⟩
 ·by_cases z : b = a
  ·subst z
   have e : W.HS b = some w := e;rw [hs] at e;cases e;exact ⟨.inr ⟨⟨o, zaj⟩, nt⟩, no⟩
  ·exact ⟨(r.sub b w e).1.at (zai z), (r.sub b w e).2⟩
 ·have ne : W.μ k ≠ a := fun z => by have := (r.cell k c e).2; rw [z, hs] at this; cases this
  exact ⟨((r.cell k c e).1.at (zai ne)).mono l, (r.cell k c e).2⟩
 ·have e : (if b = a then some (o, u) else W.Z b) = some q := e
  by_cases z : b = a
  ·rw [if_pos z] at e
   cases e;subst z;exact zaj
  ·rw [if_neg z] at e
   rw [zai z]; exact r.zed b q e
 ·obtain ⟨h1, h2, h3⟩ := r.prv b w e
  have ne : b ≠ a := fun z => by rw [z, hs] at h2; cases h2
  exact ⟨by rw [zai ne]; exact h1, h2, h3⟩
theorem Rep.zedOld {W : Wd} {S : Sto} {H : Hp} {a : Addr} {u : HO} {o : Obj} (r : Rep W S H) (hs : W.HS a = some u) (hH : H a = some (.frz o u)) : Rep (W.zed a (o, u)) S H /\ W.le (W.zed a (o, u)) := by
 have l : W.le (W.zed a (o, u)) := ⟨fun _ _ e => e, fun b q e => by
  show (if b = a then some (o, u) else W.Z b) = some q;by_cases z : b = a
  ·have h2 := r.zed b q e
   rw [z, hH] at h2;obtain ⟨q1, q2⟩ := q;cases h2;rw [if_pos z]
  ·rw [if_neg z]; exact e, fun _ _ e => e, Nat.le_refl _, fun _ _ => rfl⟩
 refine ⟨⟨r.sub, r.len, fun k c e => ⟨(r.cell k c e).1.mono l, (r.cell k c e).2⟩, r.inj, fun b q e => ?_, r.prv⟩, l⟩;have e : (if b = a then some (o, u) else W.Z b) = some q := e;by_cases z : b = a
 ·rw [if_pos z] at e
  cases e;subst z;exact hH
 ·rw [if_neg z] at e
  exact r.zed b q e
theorem zwi {W : Wd} {a : Addr} {o : Obj} {kvs : List (Key × T)} {ks : List (Key × V)} (hz : W.Z a = some (o, .dK ks)) (d : DenK W kvs ks) : ItOk W (kvs.map fun p => kT p.1) (fun _ => True) (Itk a o ks) := ⟨fun i W' S' H' l r' _ hi => by
 have h2 := r'.zed a _ (l.z a _ hz);rw [List.length_map, d.length] at hi;refine ⟨⟨h2, hi⟩, fun x H'' y => ?_⟩;obtain ⟨k, v, e1, rfl, rfl⟩ := y;have dk := zon d;obtain ⟨t, e2, d2⟩ := dk.get' (i := i) (v := kV k) (by rw [List.getElem?_map, e1]; rfl);exact ⟨W', t, Wd.le.refl _, r', e2, Den.mono l _ _ d2⟩, fun i W' S' H' l r' _ hi => by
 have h2 := r'.zed a _ (l.z a _ hz);rw [List.length_map, d.length] at hi;exact ⟨h2, Nat.le_of_eq hi.symm⟩⟩
theorem zwj : RI E (iK fa) (z5b X (RE E fa)) := fun σ H R h => by
 obtain ⟨W, S, ρ, rp, env, p⟩ := h;refine ⟨W, S, ρ, rp, env, (Post.bind p).imp fun t W1 S1 H1 l1 r1 p1 v dv => ?_⟩
 split at p1
 ·rename_i kvs
  obtain ⟨a, ks, rfl, h1, h2⟩ := zhk.mp dv;refine ⟨a, ks, rfl, ?_⟩;rcases (r1.sub a _ h1).1 with g | ⟨⟨o, g⟩, _⟩
  ·refine .inl ⟨g, fun o _ => ?_⟩
   obtain ⟨r2, l2⟩ := r1.zedNew (o := o) h1 g (by intro xs z; cases z) trivial;exact p1 W1 H1 (Wd.le.refl _) r1 _ _ _ l2 r2 (zwi (by show (if a = a then some (o, HO.dK ks) else _) = some (o, HO.dK ks); rw [if_pos rfl]) (DenK.mono l2 _ _ h2))
  ·refine .inr ⟨o, g, ?_⟩
   obtain ⟨r2, l2⟩ := r1.zedOld h1 g;exact p1 W1 H1 (Wd.le.refl _) r1 _ _ _ l2 r2 (zwi (by show (if a = a then some (o, HO.dK ks) else _) = some (o, HO.dK ks); rw [if_pos rfl]) (DenK.mono l2 _ _ h2))
 ·exact p1.elim
end
open Classical in
def zcx (st : Sto -> Prop) (g : DG) (body : DS) : List T -> Ev -> M Fl
 | [], ρ => fun S => if st S then .ok (.nx ρ) S else .bad
 | t :: ts, ρ => fun S => if st S then (match g t ρ with
   | some ρ1 => (body ρ1).bind (fun x => match x with
     | .nx ρ2 => zcx st g body ts ρ2
     | .ct ρ2 => zcx st g body ts ρ2
     | .bk ρ2 => M.pure (.nx ρ2)
     | .rt t => M.pure (.rt t)) S
   | none => .bad) else .bad
def sFor (it : DI) (g : DG) (body : DS) : DS := fun ρ => (it ρ).bind fun q => zcx q.2 g body q.1 ρ
section
variable {X : Cx} {E : XK} {tg iter : Expr} {body : List Stmt} {it : DI} {wi : TI} {gl : TG} {g : DG} {fb : DS} {pos : Pos}
theorem zy3 (hG : GT gl g) {D : Ends} {σ : St} {H2 : Hp} {W2 : Wd} {S1 : Sto} {ρ : Ev} {ts : List T} {st : Sto -> Prop} {J : It} (r2 : Rep W2 S1 H2) (env : za8 W2 ρ σ) (ok : ItOk W2 ts st J) (p1 : Post E W2 (QF D) (zcx st g fb ts ρ S1)) :
 tFor (fun _ _ R => R J H2) gl (RS E fb) D σ H2 := by
 refine ⟨fun i m σ H => i <= ts.length /\ m = ts.length - i /\ ∃ W S ρ, W2.le W /\ Rep W S H /\ za8 W ρ σ /\ Post E W (QF D) (zcx st g fb (ts.drop i) ρ S), ⟨_, Nat.zero_le _, rfl, W2, S1, ρ, Wd.le.refl _, r2, env, ?_⟩, ?_⟩
 ·rw [List.drop_zero]
  exact p1
 ·rintro i m σ H ⟨hi, rfl, W3, S3, ρ3, l3, r3, e3, p3⟩
  by_cases hlt : i < ts.length
  ·rw [List.drop_eq_getElem_cons hlt] at p3
   unfold zcx at p3
   split at p3
   ·rename_i hst
    obtain ⟨go, yl⟩ := ok.go i W3 S3 H l3 r3 hst hlt;refine .inr ⟨go, _, fun σ' H' n => ⟨ts.length - (i + 1), by omega, hlt, rfl, n⟩, fun x H' y => ?_⟩;obtain ⟨W4, t, l4, r4, et, dt⟩ := yl x H' y;rw [List.getElem?_eq_getElem hlt] at et;cases et;cases e : g ts[i] ρ3 with
    | none => simp only [e] at p3; exact p3.elim
    | some ρ4 =>
      simp only [e] at p3;refine hG W4 S3 H' _ x ρ3 ρ4 σ _ r4 dt (e3.mono l4) e fun σ2 e4 => ⟨W4, S3, ρ4, r4, e4, (Post.bind (zmc p3 l4)).imp fun fl W5 S5 H5 l5 r5 p5 => ?_⟩;cases fl with
      | nx ρ5 => exact fun σ5 e5 => ⟨W5, S5, ρ5, l3.trans (l4.trans l5), r5, e5, p5⟩
      | ct ρ5 => exact fun σ5 e5 => ⟨W5, S5, ρ5, l3.trans (l4.trans l5), r5, e5, p5⟩
      | bk ρ5 => exact p5 W5 H5 (Wd.le.refl _) r5
      | rt t => exact p5 W5 H5 (Wd.le.refl _) r5
   ·exact p3.elim
  ·have e : i = ts.length := by omega
   subst e;rw [List.drop_length] at p3;unfold zcx at p3
   split at p3
   ·rename_i hst
    exact .inl ⟨ok.stop _ W3 S3 H l3 r3 hst rfl, p3 W3 H (Wd.le.refl _) r3 σ e3⟩
   ·exact p3.elim
theorem znb (hp : PassesOwn (model X.prog X.w) X.A X.env X.xe) (hc : X.calm = true) (hi : PI X tg iter wi) (hI : RI E it wi) (hg : PG X tg gl) (hG : GT gl g) (hb : PSs X body (RS E fb))
 (hs : ∀ x, foldedSetIterable iter X.env x = pure x := by intro _; rfl) : PS X (.For tg iter body [] pos) (RS E (sFor it g fb)) :=
 zjd (z4i hp hc hi hg hb hs) fun D σ H h => by
  obtain ⟨W, S, ρ, rp, env, p⟩ := h;exact hI σ H _ ⟨W, S, ρ, rp, env, (Post.bind p).imp fun q W1 S1 H1 l1 r1 p1 J W2 H2 l2 r2 ok => zy3 hG r2 (env.mono (l1.trans l2)) ok (zmc p1 l2)⟩
end
end MF
namespace MF
open PySem L2
def zf1 (c : DT) (body : DS) : Nat -> Ev -> M Fl
 | 0, _ => M.bad
 | n + 1, ρ => (c ρ).bind fun b => if b = true then (body ρ).bind (fun x => match x with
     | .nx ρ2 => zf1 c body n ρ2
     | .ct ρ2 => zf1 c body n ρ2
     | .bk ρ2 => M.pure (.nx ρ2)
     | .rt t => M.pure (.rt t)) else M.pure (.nx ρ)
def zhw (c : DT) (body : DS) : DS := zf1 c body 1000
section
variable {X : Cx} {E : XK} {c : Expr} {body : List Stmt} {tc : DT} {fb : DS} {pos : Pos}
theorem zoo (hp : PassesOwn (model X.prog X.w) X.A X.env X.xe) (hc : PT X c (RT E tc)) (hb : PSs X body (RS E fb)) : PS X (.While c body [] pos) (RS E (zhw tc fb)) :=
 zjd (zx6 hp hc hb) fun D σ H h => by
  obtain ⟨W, S, ρ, rp, env, p⟩ := h;refine ⟨fun m σ H => ∃ W S ρ, Rep W S H /\ za8 W ρ σ /\ Post E W (QF D) (zf1 tc fb m ρ S), ⟨1000, W, S, ρ, rp, env, p⟩, ?_⟩;rintro m σ H ⟨W1, S1, ρ1, r1, e1, p1⟩;cases m with
  | zero => exact p1.elim
  | succ n =>
    refine ⟨W1, S1, ρ1, r1, e1, (Post.bind p1).imp fun b W2 S2 H2 l2 r2 p2 => ?_⟩;cases b with
    | false => exact iteF (p2 W2 H2 (Wd.le.refl _) r2 σ (e1.mono l2))
    | true =>
      refine iteT ⟨fun σ H => ∃ W S ρ, Rep W S H /\ za8 W ρ σ /\ Post E W (QF D) (zf1 tc fb n ρ S), fun σ' H' q => ⟨n, Nat.lt_succ_self _, q⟩, W2, S2, ρ1, r2, e1.mono l2, ?_⟩;refine (Post.bind (show Post E W2 (QF D) (M.bind (fb ρ1) _ S2) from p2)).imp fun fl W5 S5 H5 l5 r5 p5 => ?_;cases fl with
      | nx ρ5 => exact fun σ5 e5 => ⟨W5, S5, ρ5, r5, e5, p5⟩
      | ct ρ5 => exact fun σ5 e5 => ⟨W5, S5, ρ5, r5, e5, p5⟩
      | bk ρ5 => exact p5 W5 H5 (Wd.le.refl _) r5
      | rt t => exact p5 W5 H5 (Wd.le.refl _) r5
end
def noX {α : Type} (m : M α) : M α := fun S => match m S with
 | .exc _ _ _ => .bad
 | r => r
theorem zy4 {α : Type} {E E' : XK} {W : Wd} {Q : α -> Wd -> Sto -> Hp -> Prop} {m : M α} {S : Sto} (h : Post E W Q (noX m S)) : Post E' W Q (m S) := by
 unfold noX at h;cases e : m S with
 | ok a S1 => rw [e] at h; exact h
 | exc C fs S1 => rw [e] at h; exact h.elim
 | bad => rw [e] at h; exact h.elim
def yesD : DT := fun _ => M.pure true
open Classical in
def zgx (st : Sto -> Prop) (g : DG) (tc : DT) (te : DE) : List T -> Ev -> List T -> M (List T)
 | [], _, acc => fun S => if st S then .ok acc S else .bad
 | t :: ts, ρ, acc => fun S => if st S then (match g t ρ with
   | some ρ1 => ((tc ρ1).bind fun ok => if ok = true then (te ρ1).bind fun y => if acc.length < 1000 then zgx st g tc te ts ρ1 (acc ++ [y]) else M.bad else zgx st g tc te ts ρ1 acc) S
   | none => .bad) else .bad
def zgr (nt : Nat) (js : List Nat) (it : DI) (g : DG) (tc : DT) (te : DE) (fin : List T -> M T) : DE := fun ρ =>
 (it ρ).bind fun q => (noX (zgx q.2 g tc te q.1 (List.replicate nt none ++ js.map fun j => (ρ[j]?).join) [])).bind fin
def finF (ts : List T) : M T := M.pure (.lst ts)
theorem z5w (W : Wd) (p : Addr) : (W.unp p).le W := ⟨fun _ _ e => e, fun _ _ e => e, fun a o e => by
 have e : (if a = p then none else W.P a) = some o := e;by_cases z : a = p
 ·rw [if_pos z] at e; cases e
 ·rw [if_neg z] at e; exact e, Nat.le_refl _, fun _ _ => rfl⟩
theorem zs9 {W W' : Wd} (l : W.le W') (p : Addr) : (W.unp p).le (W'.unp p) := ⟨l.hs, l.z, fun a o e => by
 have e : (if a = p then none else W.P a) = some o := e;show (if a = p then none else W'.P a) = some o;by_cases z : a = p
 ·rw [if_pos z] at e; cases e
 ·rw [if_neg z] at e ⊢; exact l.p a o e, l.n, l.μ⟩
theorem zta {W : Wd} {p : Addr} {o : HO} : (W.unp p).le ((W.priv p o).unp p) := ⟨fun _ _ e => e, fun _ _ e => e, fun a u e => by
 have e : (if a = p then none else W.P a) = some u := e;show (if a = p then none else upd W.P p o a) = some u;by_cases z : a = p
 ·rw [if_pos z] at e; cases e
 ·rw [if_neg z] at e ⊢; rw [zai z]; exact e, Nat.le_refl _, fun _ _ => rfl⟩
theorem z5x {W : Wd} {p : Addr} (h : W.P p = none) : W.le (W.unp p) := ⟨fun _ _ e => e, fun _ _ e => e, fun a u e => by
 show (if a = p then none else W.P a) = some u;rw [if_neg (fun z => by rw [z, h] at e; cases e)]; exact e, Nat.le_refl _, fun _ _ => rfl⟩
theorem za8.hs {W W' : Wd} (hs : W'.HS = W.HS) (hμ : W'.μ = W.μ) (hn : W'.n = W.n) : ∀ {ρ : Ev} {σ : St}, za8 W ρ σ -> za8 W' ρ σ
 | [], _, h => h
 | none :: ρ, σ, ⟨s, r, e, h1, h2⟩ => ⟨s, r, e, trivial, za8.hs hs hμ hn h2⟩
 | some t :: ρ, σ, ⟨none, r, e, h1, h2⟩ => h1.elim
 | some t :: ρ, σ, ⟨some v, r, e, h1, h2⟩ => ⟨some v, r, e, Den.hs hs hμ hn t v h1, za8.hs hs hμ hn h2⟩
def zp5 (E : XK) (fin : List T -> M T) : Prop := ∀ (acc : List V) (ts : List T) (W1 W3 : Wd) (S : Sto) (H : Hp) (p : Addr) (Q : VK), W1.le (W3.unp p) -> W3.P p = some (.lst acc) -> Rep W3 S H -> Dens W3 ts acc -> Post E W1 (QV Q) (fin ts S) -> Q (.ref p) H
theorem zop {E : XK} : zp5 E finF := fun acc ts W1 W3 S H p Q l hp r d h => by
 have l2 : (W3.unp p).le ((W3.unp p).frz p (.lst acc)) := Wd.frz_le (r.prv p _ hp).2.1;have d1 : Dens (W3.unp p) ts acc := Dens.hs (W := W3) (W' := W3.unp p) rfl rfl rfl ts acc d;exact h _ _ (l.trans l2) (r.privFrz hp trivial (by intro _ z; cases z)) _ (zew.mpr ⟨p, acc, rfl, zaj, Dens.mono l2 _ _ d1⟩)
section
variable {X : Cx} {E : XK} {elt iter c tg : Expr} {it : DI} {wi : TI} {gl : TG} {g : DG} {tc : DT} {tcl : TT} {te : DE} {fin : List T -> M T} {nt : Nat} {js : List Nat}
theorem Post.bindAt {α β : Type} {E : XK} {W W2 : Wd} {Q : β -> Wd -> Sto -> Hp -> Prop} {m : M α} {f : α -> M β} {S : Sto} (h : Post E W2 Q (M.bind m f S)) (l : W2.le W) : Post E W (fun a _ S1 _ => Post E W2 Q (f a S1)) (m S) := by
 unfold M.bind at h;cases e : m S with
 | ok a S1 => rw [e] at h; exact fun _ _ _ _ => h
 | exc C fs S1 => rw [e] at h; exact fun W' H' dx l' => h W' H' dx (l.trans l')
 | bad => rw [e] at h; exact h
theorem zp6 (hG : GT gl g) (htc : ∀ σ H Q, RT E0 tc σ H Q -> tcl σ H Q) {PF : List T -> Sto -> Prop} {σ : St} {H2 : Hp} {Q : VK} {W2 : Wd} {S1 : Sto} {ρ : Ev} {ts : List T} {st : Sto -> Prop} {J : It} (r2 : Rep W2 S1 H2) (env : za8 W2 ρ σ) (ok : ItOk W2 ts st J)
 (hend : ∀ (acc : List V) (us : List T) (W3 : Wd) (S3 : Sto) (H3 : Hp) (p : Addr), W3.P p = some (.lst acc) -> Rep W3 S3 H3 -> Dens W3 us acc -> W2.le (W3.unp p) -> PF us S3 -> Q (.ref p) H3)
 (p1 : Post E0 W2 (fun res _ S' _ => PF res S') (zgx st g tc te ts (List.replicate nt none ++ js.map fun j => (ρ[j]?).join) [] S1)) : zrl nt js (fun _ _ R => R J H2) gl tcl (RE E0 te) σ H2 Q := by
 intro a ha;have pn : W2.P a = none := r2.prvNone ha;refine ⟨fun i m σ2 H acc => i <= ts.length /\ m = ts.length - i /\ ∃ W3 S ρ accT, W2.le (W3.unp a) /\ W3.P a = some (.lst acc) /\ Rep W3 S H /\ za8 W3 ρ σ2 /\ Dens W3 accT acc /\
  Post E0 W2 (fun res _ S' _ => PF res S') (zgx st g tc te (ts.drop i) ρ accT S), ⟨_, Nat.zero_le _, rfl, W2.priv a (.lst []), S1, List.replicate nt none ++ js.map fun j => (ρ[j]?).join, [], ?_, zaj, r2.privNew ha _, ?_, Dens.nil', ?_⟩, ?_⟩
 ·exact (z5x pn).trans zta
 ·refine za8.append (za8.nones nt (List.length_replicate ..)) ?_
  exact (za8.cap env js).mono (Wd.priv_le pn)
 ·rw [List.drop_zero]; exact p1
 ·rintro i m σ2 H acc ⟨hi, rfl, W3, S3, ρ3, accT, l3, hp, r3, e3, dacc, p3⟩
  have l23 : W2.le W3 := l3.trans (z5w W3 a);refine ⟨(r3.prv a _ hp).1, ?_⟩;by_cases hlt : i < ts.length
  ·rw [List.drop_eq_getElem_cons hlt] at p3
   unfold zgx at p3
   split at p3
   ·rename_i hst
    obtain ⟨go, yl⟩ := ok.go i W3 S3 H l23 r3 hst hlt;refine .inr ⟨go, _, fun σ' H' acc' n => ⟨ts.length - (i + 1), by omega, hlt, rfl, n⟩, fun x H' y => ?_⟩;obtain ⟨W4, t, l4, r4, et, dt⟩ := yl x H' y;rw [List.getElem?_eq_getElem hlt] at et;cases et;cases e : g ts[i] ρ3 with
    | none => simp only [e] at p3; exact p3.elim
    | some ρ4 =>
      simp only [e] at p3;refine hG W4 S3 H' _ x ρ3 ρ4 σ2 _ r4 dt (e3.mono l4) e fun σ4 e4 => ?_;refine htc _ _ _ ⟨W4, S3, ρ4, r4, e4, (Post.bindAt p3 (l23.trans l4)).imp fun b W5 S5 H5 l5 r5 p5 => ?_⟩;have l35 : W3.le W5 := l4.trans l5;cases b with
      | false => exact iteF ⟨W5, S5, ρ4, accT, l3.trans (zs9 l35 a), l35.p a _ hp, r5, e4.mono l5, Dens.mono l35 _ _ dacc, p5⟩
      | true =>
        refine iteT ⟨W5, S5, ρ4, r5, e4.mono l5, (Post.bindAt (show Post E0 W2 _ (M.bind (te ρ4) _ S5) from p5) (l23.trans l35)).imp fun ty W6 S6 H6 l6 r6 p6 y dy => ?_⟩;have l36 : W3.le W6 := l35.trans l6;have hp6 := l36.p a _ hp
        split at p6
        ·rename_i hl
         have hla : acc.length < 1000 := by rw [<- dacc.length]; exact hl
         refine ⟨(r6.prv a _ hp6).1, Nat.lt_of_lt_of_le hla (big (Nat.le_refl _)), W6.priv a (.lst (acc ++ [y])), S6, ρ4, accT ++ [ty], (l3.trans (zs9 l36 a)).trans zta, zaj, r6.privSet hp6 (by intro _ z; cases z) (by intro _ _ z; cases z) _, ?_, ?_, p6⟩
         ·exact za8.hs (W := W6) (W' := W6.priv a (.lst (acc ++ [y]))) rfl rfl rfl ((e4.mono l5).mono l6)
         ·exact Dens.hs (W := W6) (W' := W6.priv a (.lst (acc ++ [y]))) rfl rfl rfl _ _ ((Dens.mono l36 _ _ dacc).append (Dens.cons' dy Dens.nil'))
        ·exact p6.elim
   ·exact p3.elim
  ·have e : i = ts.length := by omega
   subst e;rw [List.drop_length] at p3;unfold zgx at p3
   split at p3
   ·rename_i hst
    exact .inl ⟨ok.stop _ W3 S3 H l23 r3 hst rfl, hend acc accT W3 S3 H a hp r3 dacc l3 (p3 (W3.unp a) H l3 (r3.unp a (by rw [hp]; intro _ z; cases z)))⟩
   ·exact p3.elim
theorem zoq (hI : RI E it wi) (hG : GT gl g) (htc : ∀ σ H Q, RT E0 tc σ H Q -> tcl σ H Q) (hf : zp5 E fin) {σ : St} {H : Hp} {Q : VK} (h : RE E (zgr nt js it g tc te fin) σ H Q) : zrl nt js wi gl tcl (RE E0 te) σ H Q := by
 obtain ⟨W, S, ρ, rp, env, p⟩ := h;refine hI σ H _ ⟨W, S, ρ, rp, env, (Post.bind p).imp fun q W1 S1 H1 l1 r1 p1 J W2 H2 l2 r2 ok => ?_⟩;exact zp6 (PF := fun us S3 => Post E W2 (QV Q) (fin us S3)) hG htc r2 (env.mono (l1.trans l2)) ok (fun acc us W3 S3 H3 a hp r3 dacc l3 p4 => hf acc us W2 W3 S3 H3 a Q l3 hp r3 dacc p4) (zy4 (E' := E0) (Post.bindAt (zmc p1 l2) (Wd.le.refl _)))
variable {scope : Scope} {cl : List (Str × Addr)} {nts xs : List Str} {pos : Pos}
theorem z0l (hc : X.calm = true) (C : zf5 X scope cl nts xs js) (hi : PI X tg iter wi) (hI : RI E it wi) (hg : ∀ fp s3 H2, PG (za4 X scope cl (nts ++ xs) fp s3 H2) tg gl) (hG : GT gl g) (he : ∀ fp s3 H2, PE (za4 X scope cl (nts ++ xs) fp s3 H2) elt (RE E0 te)) (hf : zp5 E fin)
 (hs : ∀ x, foldedSetIterable iter X.env x = pure x := by intro _; rfl) : PE X (.ListComp elt [⟨tg, iter, [], 0⟩] scope pos) (RE E (zgr nts.length js it g yesD te fin)) :=
 zcv (z16 hc C hi hg he hs) fun σ H Q h => zoq hI hG (fun σ H Q h => zv9 h) hf h
theorem zrr (hc : X.calm = true) (C : zf5 X scope cl nts xs js) (hi : PI X tg iter wi) (hI : RI E it wi) (hg : ∀ fp s3 H2, PG (za4 X scope cl (nts ++ xs) fp s3 H2) tg gl) (hG : GT gl g) (ht : ∀ fp s3 H2, PT (za4 X scope cl (nts ++ xs) fp s3 H2) c (RT E0 tc)) (he : ∀ fp s3 H2, PE (za4 X scope cl (nts ++ xs) fp s3 H2) elt (RE E0 te)) (hf : zp5 E fin)
 (hs : ∀ x, foldedSetIterable iter X.env x = pure x := by intro _; rfl) : PE X (.ListComp elt [⟨tg, iter, [c], 0⟩] scope pos) (RE E (zgr nts.length js it g tc te fin)) :=
 zcv (zs4 hc C hi hg ht he hs) fun σ H Q h => zoq hI hG (fun σ H Q h => h) hf h
theorem z0m {i : Nat} {y : Str} {py spos : Pos} (hc : X.calm = true) (C : zf5 X scope cl nts xs js) (hi : PI X tg iter wi) (hI : RI E it wi) (hg : ∀ fp s3 H2, PG (za4 X scope cl (nts ++ xs) fp s3 H2) tg gl) (hG : GT gl g) (he : ∀ fp s3 H2, PE (za4 X scope cl (nts ++ xs) fp s3 H2) elt (RE E0 te)) (hf : zp5 E fin)
 (hN : X.N.Nodup) (hy : X.N[i]? = some y) (hx : Loc X.env.scope y) (hkn : ∀ u : V, X.kn[i]? ≠ some (some u)) (hff : X.fn y = true \/ X.env.scope.names.lookup y = some .local := by first | exact .inl rfl | exact .inr rfl | assumption)
 (hsw : swapsWith (.ListComp elt [⟨tg, iter, [], 0⟩] scope pos) (some (.Name y py)) spos.line X.env = pure true := by rfl)
 (hs : ∀ x, foldedSetIterable iter X.env x = pure x := by intro _; rfl) : PS X (.Assign [.Name y py] (.ListComp elt [⟨tg, iter, [], 0⟩] scope pos) spos) (RS E (sSet i (zgr nts.length js it g yesD te fin))) :=
 zjd (zuj hc C hi hg he hN hy hx hkn hff hsw hs) fun D σ H h => zoq hI hG (fun σ H Q h => zv9 h) hf (zwg h)
theorem z2k {i : Nat} {y : Str} {py spos : Pos} (hc : X.calm = true) (C : zf5 X scope cl nts xs js) (hi : PI X tg iter wi) (hI : RI E it wi) (hg : ∀ fp s3 H2, PG (za4 X scope cl (nts ++ xs) fp s3 H2) tg gl) (hG : GT gl g) (ht : ∀ fp s3 H2, PT (za4 X scope cl (nts ++ xs) fp s3 H2) c (RT E0 tc)) (he : ∀ fp s3 H2, PE (za4 X scope cl (nts ++ xs) fp s3 H2) elt (RE E0 te)) (hf : zp5 E fin)
 (hN : X.N.Nodup) (hy : X.N[i]? = some y) (hx : Loc X.env.scope y) (hkn : ∀ u : V, X.kn[i]? ≠ some (some u)) (hff : X.fn y = true \/ X.env.scope.names.lookup y = some .local := by first | exact .inl rfl | exact .inr rfl | assumption)
 (hsw : swapsWith (.ListComp elt [⟨tg, iter, [c], 0⟩] scope pos) (some (.Name y py)) spos.line X.env = pure true := by rfl)
 (hs : ∀ x, foldedSetIterable iter X.env x = pure x := by intro _; rfl) : PS X (.Assign [.Name y py] (.ListComp elt [⟨tg, iter, [c], 0⟩] scope pos) spos) (RS E (sSet i (zgr nts.length js it g tc te fin))) :=
 zjd (zrn hc C hi hg ht he hN hy hx hkn hff hsw hs) fun D σ H h => zoq hI hG (fun σ H Q h => h) hf (zwg h)
end
end MF
namespace MF
open PySem PySem.Spec PyProof.Rows L2
abbrev Fn := List T -> M T
def spM (n : Nat) (F : Fn) : Sp := fun vs H Q E => ∃ W S ts, Rep W S H /\ Dens W ts vs /\ ts.length = n /\ Post E W (QV Q) (F ts S)
def runD (n : Nat) (d : DS) : Fn := fun ts => (d (ts.map some ++ List.replicate (n - ts.length) none)).bind fun x => match x with
 | .rt t => M.pure t
 | .nx _ => M.pure .non
 | _ => M.bad
section
variable {P : Program} {w : World} {K : PySem.W.Frag} {mg : Str -> Option Value} {base : Heap}
theorem z71 {x qual : Str} {st : Stmt} {dV : Value} {f : Addr} {fd : FuncData} {N ps : List Str} {k : Nat} {d : DS} (F : FunV K x qual st dV f fd) (S : zao N ps (zab st))
 (hbody : ∀ (cdv : Value) (A : Around) (outer : List Env) (s : Shared) (H : Hp) (E : XK), Room k (A.deeper (envOfC qual (zab st) s.heap.objs.size f cdv)) ->
  PSs (cxOf (CXE P w) P w K mg base N qual (zab st) f cdv A outer s H E) (zal st) (RS E d)) : FnOk P w K mg base (CXE P w) (k + 1) f fd ps (spM ps.length (runD N.length d)) := by
 refine F.okE S (fun vs H Q E h => ?_) fun cdv A outer s H vs Q E hr h => ⟨RS E d, hbody cdv A outer s H E hr, ?_⟩
 ·obtain ⟨W, S, ts, _, d, e, _⟩ := h
  rw [<- d.length]; exact e
 ·obtain ⟨W, S0, ts, rp, dn, e, p⟩ := h
  refine ⟨W, S0, ts.map some ++ List.replicate (N.length - ts.length) none, rp, ?_, (Post.bind p).imp fun x W1 S1 H1 l1 r1 p1 => ?_⟩
  ·unfold L2.start
   rw [<- dn.length];exact za8.append (za8.ofDens dn) (za8.nones _ (List.length_replicate ..))
  ·cases x with
   | rt t => exact p1 W1 H1 (Wd.le.refl _) r1
   | nx ρ => exact fun σ' _ => p1 W1 H1 (Wd.le.refl _) r1 .non (zcf.mpr rfl)
   | bk ρ => exact p1.elim
   | ct ρ => exact p1.elim
end
mutual
def HB (n : Nat) : T -> Prop
 | .lst ts => HBs n ts
 | .tup ts => HBs n ts
 | .dic kvs => HBk n kvs
 | .obj k => k < n
 | .non => True
 | .bl _ => True
 | .int _ => True
 | .str _ => True
def HBs (n : Nat) : List T -> Prop
 | [] => True
 | t :: ts => HB n t /\ HBs n ts
def HBk (n : Nat) : List (Key × T) -> Prop
 | [] => True
 | (_, t) :: ts => HB n t /\ HBk n ts
end
def HBf (n : Nat) : List (Str × T) -> Prop
 | [] => True
 | (_, t) :: ts => HB n t /\ HBf n ts
mutual
theorem z2l {W : Wd} : ∀ (t : T) (v : V), Den W t v -> HB W.n t
 | .non, _, _ => by simp only [HB]
 | .bl _, _, _ => by simp only [HB]
 | .int _, _, _ => by simp only [HB]
 | .str _, _, _ => by simp only [HB]
 | .lst ts, v, h => by obtain ⟨a, vs, _, _, h2⟩ := zew.mp h; simp only [HB]; exact hbs_of ts vs h2
 | .tup ts, v, h => by obtain ⟨a, vs, _, _, h2⟩ := zfk.mp h; simp only [HB]; exact hbs_of ts vs h2
 | .dic ts, v, h => by obtain ⟨a, vs, _, _, h2⟩ := zhk.mp h; simp only [HB]; exact hbk_of ts vs h2
 | .obj k, v, h => by simp only [HB]; exact (zco.mp h).2
theorem hbs_of {W : Wd} : ∀ (ts : List T) (vs : List V), Dens W ts vs -> HBs W.n ts
 | [], _, _ => by simp only [HBs]
 | t :: ts, vs, h => by obtain ⟨v, r, _, h1, h2⟩ := za1.mp h; simp only [HBs]; exact ⟨z2l t v h1, hbs_of ts r h2⟩
theorem hbk_of {W : Wd} : ∀ (ts : List (Key × T)) (vs : List (Key × V)), DenK W ts vs -> HBk W.n ts
 | [], _, _ => by simp only [HBk]
 | (k, t) :: ts, vs, h => by obtain ⟨v, r, _, h1, h2⟩ := zcn.mp h; simp only [HBk]; exact ⟨z2l t v h1, hbk_of ts r h2⟩
end
theorem zwk {W : Wd} : ∀ {ts : List (Str × T)} {vs : List (Str × V)}, DenF W ts vs -> HBf W.n ts
 | [], _, _ => trivial
 | (k, t) :: ts, vs, ⟨v, r, _, h1, h2⟩ => ⟨z2l t v h1, zwk h2⟩
structure Cut (W W' : Wd) (n : Nat) : Prop where
 hs : ∀ a o, W.HS a = some o -> W'.HS a = some o
 μ : ∀ k, k < n -> W'.μ k = W.μ k
 n : W'.n = n
 p : ∀ a o, W.P a = some o -> W'.P a = some o
mutual
theorem Den.cut {W W' : Wd} {n : Nat} (c : Cut W W' n) : ∀ (t : T) (v : V), HB n t -> Den W t v -> Den W' t v
 | .non, _, _, h => zcf.mpr (zcf.mp h)
 | .bl _, _, _, h => zbq.mpr (zbq.mp h)
 | .int _, _, _, h => za2.mpr (za2.mp h)
 | .str _, _, _, h => zbj.mpr (zbj.mp h)
 | .lst ts, v, b, h => by obtain ⟨a, vs, e, h1, h2⟩ := zew.mp h; simp only [HB] at b; exact zew.mpr ⟨a, vs, e, c.hs _ _ h1, Dens.cut c ts vs b h2⟩
 | .tup ts, v, b, h => by obtain ⟨a, vs, e, h1, h2⟩ := zfk.mp h; simp only [HB] at b; exact zfk.mpr ⟨a, vs, e, c.hs _ _ h1, Dens.cut c ts vs b h2⟩
 | .dic ts, v, b, h => by obtain ⟨a, vs, e, h1, h2⟩ := zhk.mp h; simp only [HB] at b; exact zhk.mpr ⟨a, vs, e, c.hs _ _ h1, DenK.cut c ts vs b h2⟩
 | .obj k, v, b, h => by obtain ⟨e, h1⟩ := zco.mp h; simp only [HB] at b; exact zco.mpr ⟨by rw [c.μ k b]; exact e, by rw [c.n]; exact b⟩
theorem Dens.cut {W W' : Wd} {n : Nat} (c : Cut W W' n) : ∀ (ts : List T) (vs : List V), HBs n ts -> Dens W ts vs -> Dens W' ts vs
 | [], vs, _, h => zbk.mpr (zbk.mp h)
 | t :: ts, vs, b, h => by obtain ⟨v, r, e, h1, h2⟩ := za1.mp h; simp only [HBs] at b; exact za1.mpr ⟨v, r, e, Den.cut c t v b.1 h1, Dens.cut c ts r b.2 h2⟩
theorem DenK.cut {W W' : Wd} {n : Nat} (c : Cut W W' n) : ∀ (ts : List (Key × T)) (vs : List (Key × V)), HBk n ts -> DenK W ts vs -> DenK W' ts vs
 | [], vs, _, h => zdb.mpr (zdb.mp h)
 | (k, t) :: ts, vs, b, h => by obtain ⟨v, r, e, h1, h2⟩ := zcn.mp h; simp only [HBk] at b; exact zcn.mpr ⟨v, r, e, Den.cut c t v b.1 h1, DenK.cut c ts r b.2 h2⟩
end
theorem DenF.cut {W W' : Wd} {n : Nat} (c : Cut W W' n) : ∀ {ts : List (Str × T)} {vs : List (Str × V)}, HBf n ts -> DenF W ts vs -> DenF W' ts vs
 | [], _, _, h => h
 | (k, t) :: ts, vs, b, ⟨v, r, e, h1, h2⟩ => ⟨v, r, e, Den.cut c t v b.1 h1, DenF.cut c b.2 h2⟩
def HBc (n : Nat) : Cell -> Prop
 | .lst ts => HBs n ts
 | .dic ts => HBk n ts
 | .ins _ fs => HBf n fs
 | .lck ts => HBk n ts
 | .exc _ none => True
 | .exc _ (some fs) => HBf n fs
theorem z5y {W : Wd} {H : Hp} {a : Addr} : ∀ {c : Cell}, zb8 W H a c -> HBc W.n c
 | .lst _, ⟨_, _, h⟩ => hbs_of _ _ h
 | .dic _, ⟨_, _, h⟩ => hbk_of _ _ h
 | .ins _ _, ⟨_, _, _, h⟩ => zwk h
 | .lck _, ⟨_, _, _, h⟩ => hbk_of _ _ h
 | .exc _ none, _ => trivial
 | .exc _ (some _), ⟨some _, _, _, _, h⟩ => zwk h
 | .exc _ (some _), ⟨none, _, h⟩ => h.elim
theorem zb8.cut {W W' : Wd} {H : Hp} {a : Addr} {n : Nat} (c : Cut W W' n) : ∀ {q : Cell}, HBc n q -> zb8 W H a q -> zb8 W' H a q
 | .lst _, b, ⟨_, h1, h⟩ => ⟨_, h1, Dens.cut c _ _ b h⟩
 | .dic _, b, ⟨_, h1, h⟩ => ⟨_, h1, DenK.cut c _ _ b h⟩
 | .ins _ _, b, ⟨_, _, h1, h⟩ => ⟨_, _, h1, DenF.cut c b h⟩
 | .lck _, b, ⟨_, _, h1, h⟩ => ⟨_, _, h1, DenK.cut c _ _ b h⟩
 | .exc _ none, b, ⟨none, h1, _⟩ => ⟨none, h1, trivial⟩
 | .exc _ (Option.some _), b, ⟨Option.some _, h1, ks, h2, h⟩ => ⟨_, h1, ks, c.p _ _ h2, DenF.cut c b h⟩
 | .exc _ none, _, ⟨Option.some _, _, h⟩ => h.elim
 | .exc _ (Option.some _), _, ⟨none, _, h⟩ => h.elim
def mapO {α β : Type} (f : α -> Option β) : List α -> Option (List β)
 | [] => some []
 | a :: r => match f a, mapO f r with
   | some b, some bs => some (b :: bs)
   | _, _ => none
open Classical in
def fz (S : Sto) (n : Nat) : Nat -> T -> Option T
 | 0, t => if HB n t then some t else none
 | f + 1, t => if HB n t then some t else match t with
   | .obj k => (match S[k]? with
     | some (.lst ts) => (mapO (fz S n f) ts).map .lst
     | some (.dic kvs) => (mapO (fun p => (fz S n f p.2).map fun t => (p.1, t)) kvs).map .dic
     | _ => none)
   | .lst ts => (mapO (fz S n f) ts).map .lst
   | .tup ts => (mapO (fz S n f) ts).map .tup
   | _ => none
open Classical in
def frzF (F : Fn) : Fn := fun ts S => match F ts S with
 | .ok t S' => if S'.take S.length = S then (match fz S' S.length 6 t with
   | some t' => .ok t' S
   | none => .bad) else .bad
 | .exc C none S' => if S'.take S.length = S then .exc C none S else .bad
 | .exc C (some fs) S' => if S'.take S.length = S then (match mapO (fun p => (fz S' S.length 6 p.2).map fun t => (p.1, t)) fs with
   | some fs' => .exc C (some fs') S
   | none => .bad) else .bad
 | .bad => .bad
section
variable {W : Wd} {S : Sto} {H : Hp}
def unF : HO -> HO
 | .frz _ u => u
 | o => o
open Classical in
def Wd.cut (W : Wd) (H : Hp) (n : Nat) : Wd := ⟨fun a => if W.HS a ≠ none then W.HS a else if (∃ k, n <= k /\ k < W.n /\ W.μ k = a) then (H a).map unF else none, W.μ, n, W.Z, W.P⟩
open Classical in
theorem ztb {n : Nat} {a : Addr} {o : HO} (h : W.HS a = some o) : (W.cut H n).HS a = some o := by
 show (if W.HS a ≠ none then W.HS a else _) = some o;rw [if_pos (by rw [h]; intro z; cases z)]; exact h
open Classical in
theorem zwl {n k : Nat} (r : Rep W S H) (hk : n <= k) (hn : k < W.n) : (W.cut H n).HS (W.μ k) = (H (W.μ k)).map unF := by
 obtain ⟨c, hc⟩ := r.cellAt hn;show (if W.HS (W.μ k) ≠ none then _ else if (∃ j, n <= j /\ j < W.n /\ W.μ j = W.μ k) then (H (W.μ k)).map unF else none) = _;rw [if_neg (by rw [(r.cell k c hc).2]; exact fun z => z rfl), if_pos ⟨k, hk, hn, rfl⟩]
theorem zwm {n : Nat} : Cut W (W.cut H n) n := ⟨fun _ _ h => ztb h, fun _ _ => rfl, rfl, fun _ _ h => h⟩
theorem zwn {W0 : Wd} {n : Nat} (l : W0.le W) (hn : W0.n = n) : W0.le (W.cut H n) := ⟨fun a o h => ztb (l.hs a o h), l.z, l.p, Nat.le_of_eq hn, l.μ⟩
open Classical in
theorem Rep.cut (r : Rep W S H) {n : Nat} (hn : n <= W.n) (hb : ∀ k c, k < n -> S[k]? = some c -> HBc n c) : Rep (W.cut H n) (S.take n) H where
 sub := fun a o e => by
  have e : (if W.HS a ≠ none then W.HS a else if (∃ k, n <= k /\ k < W.n /\ W.μ k = a) then (H a).map unF else none) = some o := e
  split at e
  ·exact r.sub a o e
  ·split at e
   ·rename_i hk
    obtain ⟨k, h1, h2, rfl⟩ := hk;obtain ⟨c, hc⟩ := r.cellAt h2;have z := (r.cell k c hc).1;cases c with
    | lst ts => obtain ⟨_, h1, _⟩ := z; rw [h1] at e; cases e; exact ⟨.inl h1, trivial⟩
    | dic ts => obtain ⟨_, h1, _⟩ := z; rw [h1] at e; cases e; exact ⟨.inl h1, trivial⟩
    | ins _ ts => obtain ⟨_, _, h1, _⟩ := z; rw [h1] at e; cases e; exact ⟨.inl h1, trivial⟩
    | exc _ ts => obtain ⟨_, h1, _⟩ := z; rw [h1] at e; cases e; exact ⟨.inl h1, trivial⟩
    | lck ts => obtain ⟨q, _, h1, _⟩ := z; rw [h1] at e; cases e; exact ⟨.inr ⟨⟨q, h1⟩, by intro _ y; cases y⟩, trivial⟩
   ·cases e
 len := by rw [List.length_take, r.len]; exact Nat.min_eq_left hn
 cell := fun k c e => by
  have hk : k < n := by
   have := (List.getElem?_eq_some_iff.mp e).1;rw [List.length_take] at this;omega
  rw [List.getElem?_take_of_lt hk] at e;refine ⟨(r.cell k c e).1.cut zwm (hb k c hk e), ?_⟩;show (if W.HS (W.μ k) ≠ none then _ else if (∃ j, n <= j /\ j < W.n /\ W.μ j = W.μ k) then _ else none) = none;rw [if_neg (by rw [(r.cell k c e).2]; exact fun z => z rfl), if_neg];rintro ⟨j, h1, h2, h3⟩;have := r.inj j k h2 (r.lt e) h3;omega
 inj := fun j k hj hk e => r.inj j k (Nat.lt_of_lt_of_le hj hn) (Nat.lt_of_lt_of_le hk hn) e
 zed := r.zed
 prv := fun a o e => by
  obtain ⟨h1, h2, h3⟩ := r.prv a o e;refine ⟨h1, ?_, fun k hk => h3 k (Nat.lt_of_lt_of_le hk hn)⟩;show (if W.HS a ≠ none then _ else if (∃ k, n <= k /\ k < W.n /\ W.μ k = a) then _ else none) = none;rw [if_neg (by rw [h2]; exact fun z => z rfl), if_neg];rintro ⟨j, _, h5, h6⟩;exact h3 j h5 h6
theorem zor {n : Nat} {g : T -> Option T} (hg : ∀ t t' v, g t = some t' -> Den W t v -> Den (W.cut H n) t' v) : ∀ {ts ts' : List T} {vs : List V}, mapO g ts = some ts' -> Dens W ts vs -> Dens (W.cut H n) ts' vs
 | [], ts', vs, e, h => by cases e; exact zbk.mpr (zbk.mp h)
 | t :: ts, ts', vs, e, h => by
   obtain ⟨v, r, rfl, h1, h2⟩ := za1.mp h;unfold mapO at e;cases e1 : g t with
   | none => simp [e1] at e
   | some t' =>
     cases e2 : mapO g ts with
     | none => simp [e1, e2] at e
     | some ts2 =>
       simp [e1, e2] at e;subst e;exact Dens.cons' (hg t t' v e1 h1) (zor hg e2 h2)
theorem zwo {n : Nat} {g : T -> Option T} (hg : ∀ t t' v, g t = some t' -> Den W t v -> Den (W.cut H n) t' v) : ∀ {ts ts' : List (Key × T)} {vs : List (Key × V)}, mapO (fun p => (g p.2).map fun t => (p.1, t)) ts = some ts' -> DenK W ts vs -> DenK (W.cut H n) ts' vs
 | [], ts', vs, e, h => by cases e; exact zdb.mpr (zdb.mp h)
 | (k, t) :: ts, ts', vs, e, h => by
   obtain ⟨v, r, rfl, h1, h2⟩ := zcn.mp h;unfold mapO at e;cases e1 : g t with
   | none => simp [e1] at e
   | some t' =>
     cases e2 : mapO (fun p => (g p.2).map fun t => (p.1, t)) ts with
     | none => simp [e1, e2] at e
     | some ts2 =>
       simp [e1, e2] at e;subst e;exact DenK.cons' (hg t t' v e1 h1) (zwo hg e2 h2)
theorem zwp {n : Nat} {g : T -> Option T} (hg : ∀ t t' v, g t = some t' -> Den W t v -> Den (W.cut H n) t' v) : ∀ {ts ts' : List (Str × T)} {vs : List (Str × V)}, mapO (fun p => (g p.2).map fun t => (p.1, t)) ts = some ts' -> DenF W ts vs -> DenF (W.cut H n) ts' vs
 | [], ts', vs, e, h => by cases e; exact h
 | (k, t) :: ts, ts', vs, e, ⟨v, r, e0, h1, h2⟩ => by
   unfold mapO at e;cases e1 : g t with
   | none => simp [e1] at e
   | some t' =>
     cases e2 : mapO (fun p => (g p.2).map fun t => (p.1, t)) ts with
     | none => simp [e1, e2] at e
     | some ts2 =>
       simp [e1, e2] at e;subst e;exact ⟨v, r, e0, hg t t' v e1 h1, zwp hg e2 h2⟩
open Classical in
theorem z5z {n : Nat} {d : Addr} {ks : List (Str × V)} (r : Rep W S H) (hd : H d = some (.xd ks)) (h0 : W.HS d = none) : (W.cut H n).HS d = none := by
 show (if W.HS d ≠ none then W.HS d else if (∃ k, n <= k /\ k < W.n /\ W.μ k = d) then (H d).map unF else none) = none;rw [if_neg (by rw [h0]; exact fun z => z rfl), if_neg];rintro ⟨k, _, hk, rfl⟩;obtain ⟨c, hc⟩ := r.cellAt hk;have z := (r.cell k c hc).1;cases c with
 | lst ts => obtain ⟨_, h1, _⟩ := z; rw [hd] at h1; cases h1
 | dic ts => obtain ⟨_, h1, _⟩ := z; rw [hd] at h1; cases h1
 | ins _ ts => obtain ⟨_, _, h1, _⟩ := z; rw [hd] at h1; cases h1
 | exc _ ts => obtain ⟨_, h1, _⟩ := z; rw [hd] at h1; cases h1
 | lck ts => obtain ⟨_, _, h1, _⟩ := z; rw [hd] at h1; cases h1
theorem zny (r : Rep W S H) {n : Nat} : ∀ (f : Nat) (t t' : T) (v : V), fz S n f t = some t' -> Den W t v -> Den (W.cut H n) t' v
 | 0, t, t', v, e, d => by
   unfold fz at e
   split at e
   ·rename_i h; cases e; exact Den.cut zwm _ _ h d
   ·cases e
 | f + 1, t, t', v, e, d => by
   unfold fz at e
   split at e
   ·rename_i h; cases e; exact Den.cut zwm _ _ h d
   ·rename_i hnb
    split at e
    ·rename_i k
     obtain ⟨rfl, hk⟩ := zco.mp d;have hnk : n <= k := by
      simp only [HB] at hnb; omega
     split at e
     ·rename_i ts ec
      obtain ⟨ts', e1, rfl⟩ := Option.map_eq_some_iff.mp e;obtain ⟨⟨vs, h1, h2⟩, _⟩ := r.cell k _ ec;exact zew.mpr ⟨_, vs, rfl, (zwl r hnk hk).trans (by rw [h1]; rfl), zor (zny r f) e1 h2⟩
     ·rename_i kvs ec
      obtain ⟨ts', e1, rfl⟩ := Option.map_eq_some_iff.mp e;obtain ⟨⟨vs, h1, h2⟩, _⟩ := r.cell k _ ec;exact zhk.mpr ⟨_, vs, rfl, (zwl r hnk hk).trans (by rw [h1]; rfl), zwo (zny r f) e1 h2⟩
     ·cases e
    ·rename_i ts
     obtain ⟨ts', e1, rfl⟩ := Option.map_eq_some_iff.mp e;obtain ⟨a, vs, rfl, h1, h2⟩ := zew.mp d;exact zew.mpr ⟨a, vs, rfl, ztb h1, zor (zny r f) e1 h2⟩
    ·rename_i ts
     obtain ⟨ts', e1, rfl⟩ := Option.map_eq_some_iff.mp e;obtain ⟨a, vs, rfl, h1, h2⟩ := zfk.mp d;exact zfk.mpr ⟨a, vs, rfl, ztb h1, zor (zny r f) e1 h2⟩
    ·cases e
end
theorem z2m {n : Nat} {F : Fn} {vs : List V} {H : Hp} {Q : VK} {E : XK} (h : spM n (frzF F) vs H Q E) : spM n F vs H Q E := by
 obtain ⟨W, S, ts, rp, d, hl, p⟩ := h;refine ⟨W, S, ts, rp, d, hl, ?_⟩;have old : ∀ {S' : Sto} {W' : Wd} {H' : Hp}, S'.take S.length = S -> W.le W' -> Rep W' S' H' -> Rep (W'.cut H' W.n) S H' := fun {S' W' H'} e l r => by
  have := r.cut (n := W.n) l.n (fun k c hk ec => by
   have e2 : S[k]? = some c := by rw [<- e, List.getElem?_take_of_lt (by rw [rp.len]; exact hk)]; exact ec
   exact z5y (rp.cell k c e2).1)
  rw [<- rp.len] at this;rw [e] at this;rw [<- rp.len];exact this
 unfold frzF at p;cases e : F ts S with
 | bad => rw [e] at p; exact p.elim
 | ok t S' =>
   rw [e] at p;simp only at p
   split at p
   ·rename_i es
    cases ez : fz S' S.length 6 t with
    | none => rw [ez] at p; exact p.elim
    | some t' =>
      rw [ez] at p;intro W' H' l r v dv;refine p (W'.cut H' W.n) H' (zwn l rfl) (old es l r) v ?_;rw [rp.len] at ez;exact zny r 6 t t' v ez dv
   ·exact p.elim
 | exc C fs S' =>
   rw [e] at p;cases fs with
   | some fs =>
     simp only at p
     split at p
     ·rename_i es
      split at p
      ·rename_i fs' ef
       intro W' H' dx l r x;refine p (W'.cut H' W.n) H' dx (zwn l rfl) (old es l r) ?_;cases dx with
       | none => exact x.elim
       | some d =>
         obtain ⟨ks, x1, x2, x3⟩ := x;exact ⟨ks, x1, z5z r x1 x2, zwp (zny r 6) (by rw [<- rp.len]; exact ef) x3⟩
      ·exact p.elim
     ·exact p.elim
   | none =>
     simp only at p
     split at p
     ·rename_i es
      intro W' H' dx l r x;refine p (W'.cut H' W.n) H' dx (zwn l rfl) (old es l r) ?_;cases dx with
      | none => exact trivial
      | some _ => exact x.elim
     ·exact p.elim
theorem FnOk.frz {P : Program} {w : World} {K : PySem.W.Frag} {mg : Str -> Option Value} {base : Heap} {CX : CXT} {k : Nat} {f : Addr} {fd : FuncData} {ps : List Str} {n : Nat} {F : Fn} (h : FnOk P w K mg base CX k f fd ps (spM n F)) : FnOk P w K mg base CX k f fd ps (spM n (frzF F)) :=
 h.imp fun vs H Q E q => z2m q
end MF
namespace MF
open PySem PySem.Spec L2
structure FnAt (P : Program) (w : World) (K : PySem.W.Frag) (mg : Str -> Option Value) (base : Heap) (k : Nat) (x : Str) (ps : List Str) (F : Fn) (f : Addr) (fd : FuncData) : Prop where
 ok : FnOk P w K mg base (CXE P w) k f fd ps (spM ps.length F)
 m : mg x = some (.ref f)
 kp : PySem.W.keepIn K (.ref f) = true
 b : zfa K fd ps []
structure MeAt (P : Program) (w : World) (K : PySem.W.Frag) (mg : Str -> Option Value) (base : Heap) (k : Nat) (C : Addr) (m : Str) (ps : List Str) (F : Fn) (f : Addr) (fd : FuncData) : Prop where
 ok : FnOk P w K mg base (CXE P w) k f fd ps (spM ps.length F)
 cl : Cls K C
 me : Meth K C m f
 b : zfa K fd ps []
structure MkAt (P : Program) (w : World) (K : PySem.W.Frag) (mg : Str -> Option Value) (base : Heap) (k : Nat) (x : Str) (C : Addr) (ps : List Str) (F : Fn) (f : Addr) (fd : FuncData) : Prop where
 ok : FnOk P w K mg base (CXE P w) k f fd ps (spM ps.length F)
 m : mg x = some (.ref C)
 mk1 : Mk K C f
 b : zfa K fd ps []
def zbl (F : Fn) (ds : List T) (fr : DA) : DE := fun ρ => (fr ρ).bind fun ts => F (ts ++ ds)
def zbr (C : Addr) (m : Str) (F : Fn) (ds : List T) (fo : DE) (fr : DA) : DE := fun ρ => (fo ρ).bind fun o => fun S => match zg3 S C o with
 | some (_, fs) => if (fs.lookup m).isNone = true then ((fr ρ).bind fun ts => F (o :: (ts ++ ds))) S else .bad
 | none => .bad
def zp7 (C : Addr) (F : Fn) (ds : List T) (fr : DA) : DE := fun ρ => (fr ρ).bind fun ts => fun S => M.bind (F (.obj S.length :: (ts ++ ds))) (fun t => match t with
 | .non => M.pure (.obj S.length)
 | _ => M.bad) (S ++ [.ins C []])
theorem ztc {P : Program} {w : World} {X : Cx} : zei (CXE P w) X E0 := fun pins σ H s e s' I h => by
 obtain ⟨_, _, _, _, _, _, _, _, _, _, _, _, _, _, _, _, _, _, _, z⟩ := h;exact z.elim
section
variable {X : Cx} {E : XK} {k : Nat} {f C : Addr} {fd : FuncData} {ps : List Str} {F : Fn} {x m : Str} {p pos apos : Pos} {e o : Expr} {es : List Expr} {fo : DE} {fr : DA} {ds : List T} {dvs : List V} {dus : List Value}
def lenF (n : Nat) (F : Fn) : Fn := fun ts S => if ts.length = n then F ts S else .bad
theorem zy5 (hd : ∀ W, Dens W ds dvs) {σ : St} {H : Hp} {Q : VK} (h : RE E (zbl (lenF ps.length F) ds fr) σ H Q) : z4r (spM ps.length F) dvs E (RA E fr) σ H Q := by
 obtain ⟨W, S, ρ, rp, env, q⟩ := h;refine ⟨W, S, ρ, rp, env, (Post.bind q).imp fun ts W1 S1 H1 l1 r1 p1 vs dv => ?_⟩;unfold lenF at p1
 split at p1
 ·rename_i z; exact ⟨W1, S1, ts ++ ds, r1, dv.append (hd W1), z, p1⟩
 ·exact p1.elim
theorem zaz {n : Nat} (G : FnAt X.prog X.w X.K X.mg X.base k x ps F f fd) (hr : Room k X.A) (hg : Gl X x) (hx : zei (CXE X.prog X.w) X E) (ha : PA X (e :: es) (RA E fr))
 (hdb : (x == ("__debug__" : Str)) = false := by decide) (he : starEach (e :: es) X.env = (false, eval e X.env) :: starEach es X.env := by rfl) (hpl : (backTo pos (starEach es X.env)).any (·.1) = false := by rfl) (hn : ps.length = n := by rfl) : PE X (.Call (.Name x p) (e :: es) [] pos) (RE E (zbl (lenF n F) [] fr)) := by
 subst hn;exact zcv (z1o G.ok hr hg G.m G.kp G.b .nil hx ha hdb he hpl) fun σ H Q h => zy5 (fun W => Dens.nil') h
theorem zrs (hd : ∀ W, Dens W ds dvs) {σ : St} {H : Hp} {Q : VK} (h : RE E (zbr C m (lenF ps.length F) ds fo fr) σ H Q) : z1m C m (spM ps.length F) dvs E (RE E fo) (RA E fr) σ H Q := by
 obtain ⟨W, S, ρ, rp, env, q⟩ := h;refine ⟨W, S, ρ, rp, env, (Post.bind q).imp fun t W1 S1 H1 l1 r1 p1 v dv => ?_⟩;cases e : zg3 S1 C t with
 | none => simp only [e] at p1; exact p1.elim
 | some q =>
   obtain ⟨j, fs⟩ := q;simp only [e] at p1
   split at p1
   ·rename_i hm
    obtain ⟨dx, ks, rfl, h0, h1, h2⟩ := r1.inst dv e;refine ⟨_, dx, ks, rfl, h1, h2.look.2 (Option.isNone_iff_eq_none.mp hm), W1, S1, ρ, r1, env.mono l1, (Post.bind p1).imp fun ts W2 S2 H2 l2 r2 p2 vs dvs => ?_⟩;unfold lenF at p2
    split at p2
    ·rename_i z; exact ⟨W2, S2, t :: (ts ++ ds), r2, Dens.cons' (Den.mono l2 _ _ dv) (dvs.append (hd W2)), z, p2⟩
    ·exact p2.elim
   ·exact p1.elim
theorem zc8 {n : Nat} {pl : Sem Bool} (G : MeAt X.prog X.w X.K X.mg X.base k C m ps F f fd) (hr : Room k X.A) (hx : zei (CXE X.prog X.w) X E) (ho : PE X o (RE E fo)) (ha : PA X (e :: es) (RA E fr))
 (hst : starEach (e :: es) X.env = (false, eval e X.env) :: starEach es X.env := by rfl) (hpl : (backTo pos (starEach es X.env)).any (·.1) = false := by rfl)
 (ht : eval (.Call (.Attribute o m apos) (e :: es) [] pos) X.env = (do
  let ov <- eval o X.env
  standAt apos.atName
  let (f, first) <- holding [ov] (getMethod ov m pl)
  callWith pos f first (backTo pos (starEach (e :: es) X.env)) (backToKw pos (keywordEach [] X.env))) := by rfl) (hn : ps.length = n := by rfl) : PE X (.Call (.Attribute o m apos) (e :: es) [] pos) (RE E (zbr C m (lenF n F) [] fo fr)) := by
 subst hn;exact zcv (zvd ho G.cl G.me G.ok hr G.b .nil hx ha hst hpl ht) fun σ H Q h => zrs (fun W => Dens.nil') h
theorem zh7 {n : Nat} {pl : Sem Bool} (G : MeAt X.prog X.w X.K X.mg X.base k C m ps F f fd) (hr : Room k X.A) (hx : zei (CXE X.prog X.w) X E) (hb : zfa X.K fd ps dus) (hv : Vals dvs dus) (hd : ∀ W, Dens W ds dvs) (ho : PE X o (RE E fo)) (ha : PA X (e :: es) (RA E fr))
 (hst : starEach (e :: es) X.env = (false, eval e X.env) :: starEach es X.env := by rfl) (hpl : (backTo pos (starEach es X.env)).any (·.1) = false := by rfl)
 (ht : eval (.Call (.Attribute o m apos) (e :: es) [] pos) X.env = (do
  let ov <- eval o X.env
  standAt apos.atName
  let (f, first) <- holding [ov] (getMethod ov m pl)
  callWith pos f first (backTo pos (starEach (e :: es) X.env)) (backToKw pos (keywordEach [] X.env))) := by rfl) (hn : ps.length = n := by rfl) : PE X (.Call (.Attribute o m apos) (e :: es) [] pos) (RE E (zbr C m (lenF n F) ds fo fr)) := by
 subst hn;exact zcv (zvd ho G.cl G.me G.ok hr hb hv hx ha hst hpl ht) fun σ H Q h => zrs hd h
theorem zfm {n : Nat} {pl : Sem Bool} (G : MeAt X.prog X.w X.K X.mg X.base k C m ps F f fd) (hr : Room k X.A) (hx : zei (CXE X.prog X.w) X E) (ho : PE X o (RE E fo))
 (ht : eval (.Call (.Attribute o m apos) [] [] pos) X.env = (do
  let ov <- eval o X.env
  standAt apos.atName
  let (f, first) <- holding [ov] (getMethod ov m pl)
  callWith pos f first (backTo pos (starEach [] X.env)) (backToKw pos (keywordEach [] X.env))) := by rfl) (hn : ps.length = n := by rfl) : PE X (.Call (.Attribute o m apos) [] [] pos) (RE E (zbr C m (lenF n F) [] fo aNil)) := by
 subst hn;exact zcv (zyc ho G.cl G.me G.ok hr G.b .nil hx ht) fun σ H Q h => by
  have h := zrs (fun W => Dens.nil') h;obtain ⟨W, S, ρ, rp, env, p⟩ := h;refine ⟨W, S, ρ, rp, env, p.imp fun t W1 S1 H1 l1 r1 p1 v dv => ?_⟩;obtain ⟨a, dx, fs, e1, e2, e3, W2, S2, ρ2, r2, env2, p2⟩ := p1 v dv;exact ⟨a, dx, fs, e1, e2, e3, p2 W2 _ (Wd.le.refl _) r2 [] Dens.nil'⟩
theorem zwq (hd : ∀ W, Dens W ds dvs) {σ : St} {H : Hp} {Q : VK} (h : RE E (zp7 C (lenF ps.length F) ds fr) σ H Q) : z1n C (spM ps.length F) dvs E (RA E fr) σ H Q := by
 obtain ⟨W, S, ρ, rp, env, q⟩ := h;refine ⟨W, S, ρ, rp, env, (Post.bind q).imp fun ts W1 S1 H1 l1 r1 p1 vs dv a dx ha hdx hne => ?_⟩;have keep : ∀ b u, H1 b = some u -> upd (upd H1 dx (.own a)) a (.ins C dx []) b = some u := fun b u z => by
  rw [zai (zbu z ha), zai (zbu z hdx)]; exact z
 have r2 : Rep (W1.add a) (S1 ++ [.ins C []]) (upd (upd H1 dx (.own a)) a (.ins C dx [])) := r1.cellNew' ha keep (.ins C []) ⟨dx, [], zaj, rfl⟩;have l2 : W1.le (W1.add a) := Wd.add_le;have da : Den (W1.add a) (.obj S1.length) (.ref a) := zco.mpr ⟨by rw [r1.len, Wd.add_at], by rw [r1.len]; exact Nat.lt_succ_self _⟩;have p2 := Post.bind (zmc p1 l2);by_cases z : (T.obj S1.length :: (ts ++ ds)).length = ps.length
 ·have e : lenF ps.length F (.obj S1.length :: (ts ++ ds)) (S1 ++ [.ins C []]) = F (.obj S1.length :: (ts ++ ds)) (S1 ++ [.ins C []]) := if_pos z
  rw [e] at p2;refine ⟨W1.add a, S1 ++ [.ins C []], .obj S1.length :: (ts ++ ds), r2, Dens.cons' da ((Dens.mono l2 _ _ dv).append (hd _)), z, p2.imp fun t W3 S3 H3 l3 r3 p4 v dv3 => ?_⟩;cases t with
  | non => exact ⟨zcf.mp dv3, now p4 r3 (Den.mono l3 _ _ da)⟩
  | _ => exact p4.elim
 ·have e : lenF ps.length F (.obj S1.length :: (ts ++ ds)) (S1 ++ [.ins C []]) = .bad := if_neg z
  rw [e] at p2; exact p2.elim
theorem zwr {n : Nat} (G : MkAt X.prog X.w X.K X.mg X.base k x C ps F f fd) (hr : Room (k + 1) X.A) (hg : Gl X x) (hx : zei (CXE X.prog X.w) X E) (ha : PA X (e :: es) (RA E fr))
 (hdb : (x == ("__debug__" : Str)) = false := by decide) (he : starEach (e :: es) X.env = (false, eval e X.env) :: starEach es X.env := by rfl) (hpl : (backTo pos (starEach es X.env)).any (·.1) = false := by rfl) (hn : ps.length = n := by rfl) : PE X (.Call (.Name x p) (e :: es) [] pos) (RE E (zp7 C (lenF n F) [] fr)) := by
 subst hn;exact zcv (z1p G.mk1 G.ok hr hg G.m G.b .nil hx ha hdb he hpl) fun σ H Q h => zwq (fun W => Dens.nil') h
theorem z2n {n : Nat} (G : MkAt X.prog X.w X.K X.mg X.base k x C ps F f fd) (hr : Room (k + 1) X.A) (hg : Gl X x) (hx : zei (CXE X.prog X.w) X E)
 (hdb : (x == ("__debug__" : Str)) = false := by decide) (hn : ps.length = n := by rfl) : PE X (.Call (.Name x p) [] [] pos) (RE E (zp7 C (lenF n F) [] aNil)) := by
 subst hn;exact zcv (zyd G.mk1 G.ok hr hg G.m G.b .nil hx hdb) fun σ H Q h => by
  have h := zwq (fun W => Dens.nil') h;obtain ⟨W, S, ρ, rp, env, p⟩ := h;exact p W H (Wd.le.refl _) rp [] Dens.nil'
theorem z50 {i : Int} {t : Tok} (hg : Gl X x) (hm : X.mg x = some (.int i t)) (hd : (x == ("__debug__" : Str)) = false := by decide) : PE X (.Name x p) (RE E (eC (.int i))) :=
 zcv (zu4 (v := .int i) hg hm ⟨t, rfl⟩ hd) fun σ H Q h => re_c (fun W => za2.mpr rfl) h
def zrt (t : T) : M T := fun S => match t with
 | .str y => if (reprText y).length <= 1000 then .ok (.str (reprText y)) S else .bad
 | _ => .bad
theorem ztd (he : PE X e (RE E fo)) : PE X (.FormattedValue e 114 none pos) (RE E (e1 zrt fo)) := zcv (zoi he) fun σ H Q h =>
 re1 (r := fun v H1 Q => ∃ y, v = .str y /\ (reprText y).length <= sizeLine /\ Q (.str (reprText y)) H1) (fun t W S H v Q r d p => by
  unfold zrt at p
  split at p
  ·split at p
   ·rename_i hl; exact ⟨_, zbj.mp d, big hl, now p r (zbj.mpr rfl)⟩
   ·exact p.elim
  ·exact p.elim) h
def jT : Str -> List DE -> DE
 | acc, [] => fun _ S => if acc.length <= 1000 then .ok (.str acc) S else .bad
 | acc, f :: fs => fun ρ => (f ρ).bind fun t => match t with
   | .str y => (fun S => if (acc ++ y).length <= 1000 then jT (acc ++ y) fs ρ S else .bad)
   | _ => M.bad
inductive PJM (X : Cx) (E : XK) : List Expr -> List DE -> Prop where
 | nil : PJM X E [] []
 | cons {e : Expr} {es : List Expr} {f : DE} {fs : List DE} : PE X e (RE E f) -> PJM X E es fs -> PJM X E (e :: es) (f :: fs)
theorem PJM.pj {es : List Expr} {fs : List DE} (h : PJM X E es fs) : PJ X es (fs.map (RE E)) := by
 induction h with
 | nil => exact .nil
 | cons h _ ih => exact .cons h ih
theorem re_j : ∀ (fs : List DE) (acc : Str) {σ : St} {H : Hp} {Q : VK}, RE E (jT acc fs) σ H Q -> tJ acc (fs.map (RE E)) σ H Q
 | [], acc, σ, H, Q, h => by
   obtain ⟨W, S, ρ, rp, env, p⟩ := h;unfold jT at p
   split at p
   ·rename_i hl; exact ⟨big hl, now p rp (zbj.mpr rfl)⟩
   ·exact p.elim
 | f :: fs, acc, σ, H, Q, h => by
   obtain ⟨W, S, ρ, rp, env, p⟩ := h;refine ⟨W, S, ρ, rp, env, (Post.bind p).imp fun t W1 S1 H1 l1 r1 p1 v dv => ?_⟩
   split at p1
   ·split at p1
    ·rename_i y hl
     exact ⟨y, zbj.mp dv, big hl, re_j fs (acc ++ y) ⟨W1, S1, ρ, r1, env.mono l1, p1⟩⟩
    ·exact p1.elim
   ·exact p1.elim
theorem zln {a b : Expr} {r : List Expr} {fs : List DE} (h : PJM X E (a :: b :: r) fs) : PE X (.JoinedStr (a :: b :: r) pos) (RE E (jT Str.empty fs)) := zcv (zjr h.pj) fun σ H Q h => re_j fs Str.empty h
def zhm (C : Addr) (fr : DA) : DS := fun ρ => (fr ρ).bind fun ts => fun S => if ts.length <= 1000 then .exc C none S else .bad
theorem zje {np cpos : Pos} (hx : zog X E) (hc : X.calm = true) (q : PySem.W.excIn X.K C bmVE "ValueError.__new__" = true) (hg : Gl X x) (hm : X.mg x = some (.ref C)) (ha : PA X (e :: es) (RA E fr))
 (hdb : (x == ("__debug__" : Str)) = false := by decide) (he : starEach (e :: es) X.env = (false, eval e X.env) :: starEach es X.env := by rfl) (hpl : (backTo cpos (starEach es X.env)).any (·.1) = false := by rfl) :
 PS X (.Raise (some (.Call (.Name x np) (e :: es) [] cpos)) none pos) (RS E (zhm C fr)) := zjd (zyn hx hc q hg hm ha hdb he hpl) fun D σ H h => by
 obtain ⟨W, S, ρ, rp, env, p⟩ := h;refine ⟨W, S, ρ, rp, env, (Post.bind p).imp fun ts W1 S1 H1 l1 r1 p1 vs dv => ?_⟩
 split at p1
 ·rename_i hl; exact ⟨big (by rw [<- dv.length]; exact hl), p1 W1 H1 none (Wd.le.refl _) r1 trivial⟩
 ·exact p1.elim
abbrev DO := Ev -> M (Option Int)
def zru : DO := fun _ => M.pure none
def zrv (f : DE) : DO := fun ρ => (f ρ).bind fun t => match t with
 | .int i => M.pure (some i)
 | _ => M.bad
def RO (E : XK) (f : DO) : TO := fun σ H Q => ∃ W S ρ, Rep W S H /\ za8 W ρ σ /\ Post E W (fun o _ _ H' => Q o H') (f ρ S)
theorem z51 {a : Option Expr} {t t' : TO} (h : PO X a t) (w : ∀ σ H Q, t' σ H Q -> t σ H Q) : PO X a t' := fun pins s σ H Q I q => h pins s σ H Q I (w σ H Q q)
theorem z0n : PO X none (RO E zru) := z51 z1y fun σ H Q h => by
 obtain ⟨W, S, ρ, rp, env, p⟩ := h;exact p W H (Wd.le.refl _) rp
theorem z0o (h : PE X e (RE E fo)) : PO X (some e) (RO E (zrv fo)) := z51 (z1z h) fun σ H Q h => by
 obtain ⟨W, S, ρ, rp, env, p⟩ := h;refine ⟨W, S, ρ, rp, env, (Post.bind p).imp fun t W1 S1 H1 l1 r1 p1 v dv => ?_⟩;cases t with
 | int i => exact ⟨i, za2.mp dv, p1 W1 H1 (Wd.le.refl _) r1⟩
 | _ => exact p1.elim
end
end MF
namespace MF
open PySem L2
theorem zws {i : Nat} : ∀ u : V, ([] : St)[i]? ≠ some (some u) := fun u h => nomatch (show (none : Option (Option V)) = some (some u) from h)
theorem zhc : Vals [V.non] [Value.none] := .cons rfl .nil
theorem zwt : Vals [V.non, V.non] [Value.none, Value.none] := .cons rfl zhc
theorem zmd : Vals [V.non, V.non, V.non] [Value.none, Value.none, Value.none] := .cons rfl zwt
theorem zhd (W : Wd) : Dens W [T.non] [V.non] := Dens.cons' (zcf.mpr rfl) Dens.nil'
theorem zwu (W : Wd) : Dens W [T.non, T.non] [V.non, V.non] := Dens.cons' (zcf.mpr rfl) (zhd W)
theorem zme (W : Wd) : Dens W [T.non, T.non, T.non] [V.non, V.non, V.non] := Dens.cons' (zcf.mpr rfl) (zwu W)
structure Cl where
 hall : Addr
 place : Addr
 piece : Addr
 run : Addr
 hallError : Addr
 nameThere : Addr
 noPlace : Addr
 noPiece : Addr
 tooMany : Addr
 noAnswer : Addr
 ring : Addr
 barred : Addr
 deedFault : Addr
section
variable {X : Cx} {E : XK} {a b c e o : Expr} {es : List Expr} {fa fb fc fo : DE} {fr : DA} {pos p : Pos} {x : Str}
theorem z0p {i : Int} (hg : Gl X x) (hm : ∃ t, X.mg x = some (.int i t)) (hd : (x == ("__debug__" : Str)) = false := by decide) : PE X (.Name x p) (RE E (eC (.int i))) := by
 obtain ⟨t, hm⟩ := hm;exact z50 hg hm hd
def iRev (f : DA) : DI := fun ρ => (f ρ).bind fun as => fun S => match as with
 | [t] => (match za6 S t with
   | some ts => .ok (ts.reverse, fun S' => za6 S' t = some ts) S
   | none => .bad)
 | _ => .bad
def idxF (x : T) (ts : List T) : Option Nat := match toV x, ts.mapM toV with
 | some u, some vs => if (zgo u && vs.all zgo) = true then vs.findIdx? (fun y => eqV y u) else none
 | _, _ => none
def z8f (t : T) (as : List T) : M T := fun S => match za6 S t, as with
 | some ts, [y] => (match idxF y ts with
   | some j => if ts.length <= 1000 then .ok (.int j) S else .bad
   | none => .bad)
 | _, _ => .bad
def zkh (t : T) (as : List T) : M T := fun S => match cellL S t, as with
 | some (k, ts), [y] => (match idxF y ts with
   | some j => if ts.length <= 1000 then .ok .non (S.set k (.lst (ts.eraseIdx j))) else .bad
   | none => .bad)
 | _, _ => .bad
theorem z2o {W : Wd} {x : T} {ts : List T} {v : V} {vs : List V} {j : Nat} (d : Den W x v) (ds : Dens W ts vs) (e : idxF x ts = some j) :
 zgo v = true /\ vs.all zgo = true /\ (∃ z, vs[j]? = some z /\ eqV z v = true) /\ (∀ i z, i < j -> vs[i]? = some z -> eqV z v = false) := by
 unfold idxF at e;cases e1 : toV x with
 | none => simp [e1] at e
 | some u =>
   cases e2 : ts.mapM toV with
   | none => simp [e1, e2] at e
   | some us =>
     simp only [e1, e2] at e
     split at e
     ·rename_i hf
      rw [Bool.and_eq_true] at hf;have q1 := zl5 d e1;have q2 := zol ds e2;subst q1 q2;rw [List.findIdx?_eq_some_iff_getElem] at e;obtain ⟨hj, h1, h2⟩ := e;refine ⟨hf.1, hf.2, ⟨vs[j], List.getElem?_eq_getElem hj, h1⟩, fun i z hi hz => ?_⟩;have hil : i < vs.length := Nat.lt_trans hi hj;rw [List.getElem?_eq_getElem hil] at hz;cases hz;have := h2 i hi;simpa using this
     ·cases e
def zwv : V -> List V -> Hp -> VK -> Prop := fun x vs H Q => ∃ l xs y j, x = .ref l /\ vs = [y] /\ H l = some (.lst xs) /\ zgo y = true /\ xs.all zgo = true /\ xs.length <= 1000 /\ (∃ z, xs[j]? = some z /\ eqV z y = true) /\ (∀ i z, i < j -> xs[i]? = some z -> eqV z y = false) /\ Q .non (upd H l (.lst (xs.eraseIdx j)))
theorem zww {y x : V} {u v : Value} (ry : RelV y u) (rx : RelV x v) (fy : zgo y = true) (fx : zgo x = true) : PySem.MeetsSeq.EqGives u v (eqV y x) := fun prog w A E s Q h => zz3 (A := A) (s := s) ry rx fy fx prog w E Q h
theorem zwx : MtR X "list.remove" zwv := by
 intro pins s σ H x vs v us Q I rx rv h;obtain ⟨l, xs, y, j, rfl, rfl, hH, fy, fx, hl1, ⟨z, hj, hz⟩, hno, q⟩ := h;cases rx;obtain ⟨u, rfl, ru⟩ := rv.one;obtain ⟨zz, its, n, r, hl, e⟩ := I.lstM hH;have hjl : j < its.length := by rw [<- hl]; exact (List.getElem?_eq_some_iff.mp hj).1
 have ea : ∀ i (hi : i < its.length), ∃ x', xs[i]? = some x' /\ RelV x' its[i] := fun i hi => Vals.at r (by rw [List.getElem?_eq_getElem hi]);refine call_meets F.slot_list_remove ⟨_, e, rfl⟩ F.entry_list_remove (F.args_list_remove_2 _ _) (MeetsSeq.list_remove l its.toArray n u (eqU y) ?_ j (by simpa using hjl) ?_ ?_ (by rw [List.size_toArray]; omega)) ⟨e, ?_⟩
 ·intro w' hw
  have hw' : w' ∈ its := by simpa using hw
  obtain ⟨i, hi, rfl⟩ := List.getElem_of_mem hw';obtain ⟨x', h1, h2⟩ := ea i hi;rw [zpq h2 (zok fx h1)];exact zww h2 ru (zok fx h1) fy
 ·obtain ⟨x', h1, h2⟩ := ea j hjl
  rw [hj] at h1;cases h1;have : its.toArray[j]'(by simpa using hjl) = its[j] := by simp
  rw [this, zpq h2 (zok fx hj)];exact hz
 ·intro m hm hmj
  have hm' : m < its.length := by simpa using hm
  obtain ⟨x', h1, h2⟩ := ea m hm';have : its.toArray[m]'hm = its[m] := by simp
  rw [this, zpq h2 (zok fx h1)];exact hno m x' hmj h1
 ·refine ⟨.non, _, I.lset (t' := s.toks) (its' := its.eraseIdx j) hH e ?_ (r.eraseIdx j) ?_, rfl, q⟩
  ·show its.toArray.eraseIdxIfInBounds j = (its.eraseIdx j).toArray
   rw [List.eraseIdxIfInBounds_toArray]
  ·have := zly xs j
   omega
theorem zwy : GM E zwv zkh := by
 intro t as W S H v vs Q r d da p;unfold zkh at p
 split at p
 ·rename_i k ts y e
  cases e2 : idxF y ts with
  | none => simp only [e2] at p; exact p.elim
  | some j =>
    simp only [e2] at p
    split at p
    ·rename_i hl
     obtain ⟨us, rfl, h0, h1, h2⟩ := r.cellL d e;obtain ⟨w, rfl, dw⟩ := zhl da;obtain ⟨g1, g2, g3, g4⟩ := z2o dw h2 e2;exact ⟨_, us, w, j, rfl, rfl, h1, g1, g2, by rw [<- h2.length]; exact hl, g3, g4, p W _ (Wd.le.refl _) (r.cellSet h0 _ _ ⟨_, zaj, h2.eraseIdx _⟩) _ (zcf.mpr rfl)⟩
    ·exact p.elim
 ·exact p.elim
theorem zy6 {apos : Pos} (ho : PE X o (RE E fo)) (ha : PA X [e] (RA E fr)) (hbase : attributeBase o "remove" X.env (eval o X.env) = eval o X.env := by rfl)
 (hline : (apos.endLine == pos.line) = true := by rfl) (hs : starEach [e] X.env = (false, eval e X.env) :: starEach [] X.env := by rfl)
 (hfew : ((backTo pos (starEach [e] X.env)).all (fun x => !x.1) && (backToKw pos (keywordEach [] X.env)).all (fun x => x.1.isSome) && decide ([e].length + ([] : List Keyword).length + (if ([] : List Keyword).isEmpty then 0 else 1) < 30)) = true := by rfl) : PE X (.Call (.Attribute o "remove" apos) [e] [] pos) (RE E (eMt okL zkh fo fr)) :=
 e_mt PySem.F.plainAttrs_list PySem.F.slot_list_remove PySem.F.type_list_remove zwx znw zwy ho ha hbase hfew hline hs rfl
end
end MF
namespace MF
open PySem L2
variable {S : Sto} {ρ : Ev}
@[simp] theorem zbw {α β : Type} (m : M α) (f : α -> M β) : M.bind m f S = (match m S with | .ok a S' => f a S' | .exc C fs S' => .exc C fs S' | .bad => .bad) := rfl
@[simp] theorem z8g {α : Type} (a : α) : M.pure a S = .ok a S := rfl
@[simp] theorem z9a {α : Type} : (M.bad : M α) S = .bad := rfl
@[simp] theorem zwz (i : Nat) : eVar i ρ S = (match ρ[i]? with | some (some t) => .ok t S | _ => .bad) := by
  unfold eVar
  split <;> simp_all
@[simp] theorem x_c (t : T) : eC t ρ S = .ok t S := rfl
@[simp] theorem x_e2 (g : T -> T -> M T) (a b : DE) : e2 g a b ρ S = (a ρ).bind (fun x => (b ρ).bind fun y => g x y) S := rfl
@[simp] theorem x_e1 (g : T -> M T) (a : DE) : e1 g a ρ S = (a ρ).bind g S := rfl
@[simp] theorem z8h : aNil ρ S = .ok [] S := rfl
@[simp] theorem z72 (a : DE) (r : DA) : zac a r ρ S = (a ρ).bind (fun t => (r ρ).bind fun ts => M.pure (t :: ts)) S := rfl
@[simp] theorem x_eA (g : List T -> M T) (f : DA) : eA g f ρ S = (f ρ).bind g S := rfl
@[simp] theorem x_gI (f : Int -> Int -> Option T) (i j : Int) : gI f (.int i) (.int j) S = (match f i j with | some t => .ok t S | none => .bad) := rfl
@[simp] theorem z9b (i j : Int) : fLt i j = some (.bl (decide (i < j))) := rfl
@[simp] theorem z9c (i j : Int) : fGe i j = some (.bl (decide (j <= i))) := rfl
@[simp] theorem z8i (i j : Int) : fDiv i j = (if 0 < j /\ j < 1073741824 then some (.int (i / j)) else none) := rfl
@[simp] theorem z8j (i j : Int) : fMod i j = (if 0 < j then some (.int (i % j)) else none) := rfl
@[simp] theorem z8k (i j : Int) : gAdd (.int i) (.int j) S = .ok (.int (i + j)) S := rfl
@[simp] theorem z8l (i j : Str) : gAdd (.str i) (.str j) S = (if i.length + j.length <= 1000 then .ok (.str (i ++ j)) S else .bad) := rfl
@[simp] theorem z8m (xs ys : List T) : gAdd (.lst xs) (.lst ys) S = (if xs.length + ys.length <= 1000 then .ok (.lst (xs ++ ys)) S else .bad) := rfl
@[simp] theorem z9d (i j : Int) : gEq (.int i) (.int j) S = .ok (.bl (decide (i = j))) S := by
  simp [gEq, eqS, toV, scal]
@[simp] theorem z9e (i j : Str) : gEq (.str i) (.str j) S = .ok (.bl (decide (i = j))) S := by
  simp [gEq, eqS, toV, scal]
@[simp] theorem z9f (i j : Bool) : gEq (.bl i) (.bl j) S = .ok (.bl (decide (i = j))) S := by
  simp [gEq, eqS, toV, scal]
@[simp] theorem z9g (i j : Int) : gNe (.int i) (.int j) S = .ok (.bl (!decide (i = j))) S := by
  simp [gNe, eqS, toV, scal]
@[simp] theorem z9h (i j : Str) : gNe (.str i) (.str j) S = .ok (.bl (!decide (i = j))) S := by
  simp [gNe, eqS, toV, scal]
@[simp] theorem zw0 (b : Bool) : z2b (.bl b) S = .ok b S := rfl
@[simp] theorem z8n (b : Bool) : truM (.bl b) S = .ok b S := rfl
@[simp] theorem z8o (ts : List T) : truM (.lst ts) S = .ok (!ts.isEmpty) S := rfl
@[simp] theorem z52 (f : DE) : tst f ρ S = (f ρ).bind z2b S := rfl
@[simp] theorem z9i (f : DE) : tru f ρ S = (f ρ).bind truM S := rfl
@[simp] theorem z9j (f g : DT) : zyw f g ρ S = (f ρ).bind (fun c => if c = true then g ρ else M.pure false) S := rfl
@[simp] theorem x_or (f g : DT) : tOrD f g ρ S = (f ρ).bind (fun c => if c = true then M.pure true else g ρ) S := rfl
@[simp] theorem z9k (f : DT) : zuk f ρ S = (f ρ).bind (fun c => M.pure (!c)) S := rfl
@[simp] theorem z8p (f : DE) : eNot f ρ S = (f ρ).bind (fun x => (truM x).bind fun b => M.pure (.bl (!b))) S := rfl
@[simp] theorem z9l (c : DT) (f g : DE) : eIf c f g ρ S = (c ρ).bind (fun b => if b = true then f ρ else g ρ) S := rfl
@[simp] theorem z8q (ts : List T) : lstF ts S = (if ts.length <= 1000 then .ok (.lst ts) S else .bad) := rfl
@[simp] theorem z8r (ts : List T) : lstC ts S = (if ts.length <= 1000 then .ok (.obj S.length) (S ++ [.lst ts]) else .bad) := rfl
@[simp] theorem z8s (ts : List T) : tupF ts S = (if ts.length <= 1000 then .ok (.tup ts) S else .bad) := rfl
@[simp] theorem z2p : zl8 ρ S = .ok (.obj S.length) (S ++ [.dic []]) := rfl
@[simp] theorem x_nx : sNx ρ S = .ok (.nx ρ) S := rfl
@[simp] theorem z9m (f g : DS) : sSeq f g ρ S = (f ρ).bind (fun x => match x with | .nx ρ' => g ρ' | o => M.pure o) S := rfl
@[simp] theorem z9n (f : DE) : sRet f ρ S = (f ρ).bind (fun t => M.pure (.rt t)) S := rfl
@[simp] theorem z8t : z2i ρ S = .ok (.rt .non) S := rfl
@[simp] theorem z8u (f : DE) : za3 f ρ S = (f ρ).bind (fun _ => M.pure (.nx ρ)) S := rfl
@[simp] theorem z9o (i : Nat) (f : DE) : sSet i f ρ S = (f ρ).bind (fun t => M.pure (.nx (ρ.set i (some t)))) S := rfl
@[simp] theorem x_if (c : DT) (f g : DS) : sIf c f g ρ S = (c ρ).bind (fun b => if b = true then f ρ else g ρ) S := rfl
@[simp] theorem z8v (n : Nat) (d : DS) (ts : List T) : runD n d ts S = (match d (ts.map some ++ List.replicate (n - ts.length) none) S with
  | .ok (.rt t) S' => .ok t S' | .ok (.nx _) S' => .ok .non S' | .ok _ _ => .bad | .exc C fs S' => .exc C fs S' | .bad => .bad) := by
  unfold runD;rw [zbw]
  split <;> simp_all
  rename_i x _ _;cases x <;> rfl
@[simp] theorem z8w (F : Fn) (ds : List T) (fr : DA) : zbl F ds fr ρ S = (fr ρ).bind (fun ts => F (ts ++ ds)) S := rfl
@[simp] theorem z9p (n : Nat) (F : Fn) (ts : List T) : lenF n F ts S = (if ts.length = n then F ts S else .bad) := rfl
@[simp] theorem z8x (ts : List T) : zf6 S (.lst ts) = some ts := rfl
@[simp] theorem z8y (ts : List T) : zf6 S (.tup ts) = some ts := rfl
@[simp] theorem z0q (ts : List T) : za6 S (.lst ts) = some ts := rfl
@[simp] theorem z8z (ts : List T) : gLen (.lst ts) S = .ok (.int ts.length) S := rfl
@[simp] theorem z9q (ts : List T) (i : Int) : gIx (.lst ts) (.int i) S = (match atI ts i with | some t => .ok t S | none => .bad) := rfl
@[simp] theorem z9r (ts : List T) (i : Int) : gIx (.tup ts) (.int i) S = (match atI ts i with | some t => .ok t S | none => .bad) := rfl
@[simp] theorem z9s (z : Str) (i : Int) : gIx (.str z) (.int i) S = (if z.length <= 1000 then (match atI z.cps.toList i with | some c => .ok (.str ⟨#[c]⟩) S | none => .bad) else .bad) := rfl
@[simp] theorem z9t {α : Type} (a : α) (r : List α) : atI (a :: r) 0 = some a := by
  have : (0 : Int) = ((0 : Nat) : Int) := rfl;rw [this]; exact zkd rfl
@[simp] theorem z9u {α : Type} (a b : α) (r : List α) : atI (a :: b :: r) 1 = some b := by
  have : (1 : Int) = ((1 : Nat) : Int) := rfl;rw [this]; exact zkd rfl
@[simp] theorem z9v {α : Type} (a b d : α) (r : List α) : atI (a :: b :: d :: r) 2 = some d := by
  have : (2 : Int) = ((2 : Nat) : Int) := rfl;rw [this]; exact zkd rfl
@[simp] theorem z9w {α : Type} (a b d e : α) (r : List α) : atI (a :: b :: d :: e :: r) 3 = some e := by
  have : (3 : Int) = ((3 : Nat) : Int) := rfl;rw [this]; exact zkd rfl
@[simp] theorem z9x {α : Type} (a b d e f : α) (r : List α) : atI (a :: b :: d :: e :: f :: r) 4 = some f := by
  have : (4 : Int) = ((4 : Nat) : Int) := rfl;rw [this]; exact zkd rfl
theorem z53 {α : Type} {ts : List α} {i : Int} (h0 : 0 <= i) (h1 : i < ts.length) : atI ts i = ts[i.toNat]? := by
 obtain ⟨j, rfl⟩ := Int.eq_ofNat_of_zero_le h0;have hl : j < ts.length := by omega
 have := zkd (j := j) (v := ts[j]) (List.getElem?_eq_getElem hl);rw [this, Int.toNat_natCast, List.getElem?_eq_getElem hl]
end MF
namespace MF
open PySem L2
variable {S : Sto} {ρ : Ev}
@[simp] theorem z54 {α : Type} {p : Prop} [Decidable p] (m n : M α) : (if p then m else n) S = if p then m S else n S := by split <;> rfl
@[simp] theorem x_iL (f : DE) : iL f ρ S = (f ρ).bind (fun t => fun S => match za6 S t with | some ts => .ok (ts, fun S' => za6 S' t = some ts) S | none => .bad) S := rfl
@[simp] theorem z9y (f : DA) : iR1 f ρ S = (f ρ).bind (fun ts => fun S => match ts with | [.int j] => if -1000000 <= j /\ j <= 1000000 then .ok (zk9 0 j.toNat, fun (_ : Sto) => True) S else .bad | _ => .bad) S := rfl
@[simp] theorem z80 (f : DA) : iRev f ρ S = (f ρ).bind (fun as => fun S => match as with | [t] => (match za6 S t with | some ts => .ok (ts.reverse, fun S' => za6 S' t = some ts) S | none => .bad) | _ => .bad) S := rfl
theorem zte {st : Sto -> Prop} {g : DG} {body : DS} (Inv : List T -> Ev -> Sto -> Prop) : ∀ (ts pre : List T) (ρ : Ev) (S : Sto), Inv pre ρ S ->
 (∀ pre' t post ρ S, pre ++ ts = pre' ++ t :: post -> Inv pre' ρ S -> st S /\ ∃ ρ1, g t ρ = some ρ1 /\ ∃ ρ2 S2, body ρ1 S = .ok (.nx ρ2) S2 /\ Inv (pre' ++ [t]) ρ2 S2) -> (∀ ρ S, Inv (pre ++ ts) ρ S -> st S) ->
 ∃ ρ' S', zcx st g body ts ρ S = .ok (.nx ρ') S' /\ Inv (pre ++ ts) ρ' S'
 | [], pre, ρ, S, h, _, he => by
   rw [List.append_nil] at he ⊢;refine ⟨ρ, S, ?_, h⟩;unfold zcx;rw [if_pos (he ρ S h)]
 | t :: ts, pre, ρ, S, h, hs, he => by
   obtain ⟨hst, ρ1, e1, ρ2, S2, e2, h2⟩ := hs pre t ts ρ S rfl h;have e : pre ++ t :: ts = (pre ++ [t]) ++ ts := by simp
   obtain ⟨ρ', S', e3, h3⟩ := zte Inv ts (pre ++ [t]) ρ2 S2 h2 (by rw [<- e]; exact hs) (by rw [<- e]; exact he);refine ⟨ρ', S', ?_, by rw [e]; exact h3⟩;unfold zcx;rw [if_pos hst, e1];simp only [zbw, e2];exact e3
theorem z2q {it : DI} {g : DG} {body : DS} {ts : List T} {st : Sto -> Prop} {S1 : Sto} (Inv : List T -> Ev -> Sto -> Prop) (hit : it ρ S = .ok (ts, st) S1) (h0 : Inv [] ρ S1)
 (hs : ∀ pre t post ρ S, ts = pre ++ t :: post -> Inv pre ρ S -> st S /\ ∃ ρ1, g t ρ = some ρ1 /\ ∃ ρ2 S2, body ρ1 S = .ok (.nx ρ2) S2 /\ Inv (pre ++ [t]) ρ2 S2) (he : ∀ ρ S, Inv ts ρ S -> st S) :
 ∃ ρ' S', sFor it g body ρ S = .ok (.nx ρ') S' /\ Inv ts ρ' S' := by
 obtain ⟨ρ', S', e, h⟩ := zte (st := st) (g := g) (body := body) Inv ts [] ρ S1 h0 hs he;refine ⟨ρ', S', ?_, h⟩;unfold sFor;simp only [zbw, hit];exact e
theorem ztf {st : Sto -> Prop} {tc : DT} {te : DE} {caps : Ev} {p : T -> Bool} {f : T -> T} (hst : st S) : ∀ (ts : List T) (o : Option T) (acc : List T), acc.length + ts.length <= 1000 -> (∀ t ∈ ts, tc (some t :: caps) S = .ok (p t) S) -> (∀ t ∈ ts, p t = true -> te (some t :: caps) S = .ok (f t) S) ->
 zgx st (zb0 0) tc te ts (o :: caps) acc S = .ok (acc ++ (ts.filter p).map f) S
 | [], o, acc, _, _, _ => by
   unfold zgx;rw [if_pos hst];simp
 | t :: ts, o, acc, hl, hc, he => by
   have ih := fun acc h => ztf (tc := tc) (te := te) hst ts (some t) acc h (fun u hu => hc u (List.mem_cons_of_mem _ hu)) (fun u hu => he u (List.mem_cons_of_mem _ hu));have h1 := hc t (List.mem_cons_self ..);rw [List.length_cons] at hl;unfold zgx;rw [if_pos hst];show (M.bind (tc (some t :: caps)) _) S = _;rw [zbw, h1];cases e : p t with
   | false =>
     have := ih acc (by omega);simpa [e] using this
   | true =>
     have h2 := he t (List.mem_cons_self ..) e;have := ih (acc ++ [f t]) (by rw [List.length_append, List.length_singleton]; omega);have hlt : acc.length < 1000 := by omega
     simp only [if_true, zbw, h2, z54, hlt];simpa [e, h2] using this
theorem zgs {js : List Nat} {it : DI} {tc : DT} {te : DE} {ts : List T} {st : Sto -> Prop} {p : T -> Bool} {f : T -> T} (hit : it ρ S = .ok (ts, st) S) (hst : st S) (hl : ts.length <= 1000)
 (hc : ∀ t ∈ ts, tc (some t :: js.map fun j => (ρ[j]?).join) S = .ok (p t) S) (he : ∀ t ∈ ts, p t = true -> te (some t :: js.map fun j => (ρ[j]?).join) S = .ok (f t) S) :
 zgr 1 js it (zb0 0) tc te finF ρ S = .ok (.lst ((ts.filter p).map f)) S := by
 unfold zgr;rw [zbw, hit];show (M.bind (noX _) finF) S = _;rw [zbw];have := ztf (tc := tc) (te := te) (caps := js.map fun j => (ρ[j]?).join) hst ts none [] (by simpa using hl) hc he;have e2 : noX (zgx st (zb0 0) tc te ts (List.replicate 1 none ++ js.map fun j => (ρ[j]?).join) []) S = .ok ((ts.filter p).map f) S := by
  unfold noX;rw [show (List.replicate 1 (none : Option T) ++ js.map fun j => (ρ[j]?).join) = none :: js.map fun j => (ρ[j]?).join from rfl, this];rfl
 simp only [e2];rfl
theorem zw1 {js : List Nat} {it : DI} {te : DE} {ts : List T} {st : Sto -> Prop} {f : T -> T} (hit : it ρ S = .ok (ts, st) S) (hst : st S) (hl : ts.length <= 1000)
 (he : ∀ t ∈ ts, te (some t :: js.map fun j => (ρ[j]?).join) S = .ok (f t) S) :
 zgr 1 js it (zb0 0) yesD te finF ρ S = .ok (.lst (ts.map f)) S := by
 have := zgs (tc := yesD) (p := fun _ => true) hit hst hl (fun _ _ => rfl) (fun t h _ => he t h);rwa [List.filter_eq_self.mpr (fun _ _ => rfl)] at this
theorem zw2 {g : T -> Option T} : ∀ {ts : List T}, (∀ t ∈ ts, g t = some t) -> mapO g ts = some ts
 | [], _ => rfl
 | t :: ts, h => by
   unfold mapO;rw [h t (List.mem_cons_self ..), zw2 fun u hu => h u (List.mem_cons_of_mem _ hu)]
theorem z2r {S : Sto} {n f : Nat} {t : T} (h : HB n t) : fz S n f t = some t := by
 cases f <;> (unfold fz; rw [if_pos h])
theorem zy7 {F : Fn} {ts us : List T} {S' : Sto} {k : Nat} (h : F ts S = .ok (.obj k) S') (hS : S'.take S.length = S) (hk : S.length <= k) (hc : S'[k]? = some (.lst us)) (hb : ∀ t ∈ us, HB S.length t) : frzF F ts S = .ok (.lst us) S := by
 unfold frzF;rw [h];simp only [if_pos hS];have e : fz S' S.length 6 (.obj k) = some (.lst us) := by
  unfold fz;rw [if_neg (by simp only [HB]; omega)];simp only [hc];rw [zw2 fun t ht => z2r (hb t ht)];rfl
 rw [e]
theorem zp8 {F : Fn} {ts : List T} {S' : Sto} {t : T} (h : F ts S = .ok t S') (hS : S'.take S.length = S) (hb : HB S.length t) : frzF F ts S = .ok t S := by
 unfold frzF;rw [h];simp only [if_pos hS];rw [z2r hb]
theorem z2s {F : Fn} {ts : List T} {S' : Sto} {C : Addr} (h : F ts S = .exc C none S') (hS : S'.take S.length = S) : frzF F ts S = .exc C none S := by
 unfold frzF;rw [h];simp only [if_pos hS]
@[simp] theorem x_mt (ok : Sto -> T -> Bool) (g : T -> List T -> M T) (fo : DE) (fr : DA) : eMt ok g fo fr ρ S = (fo ρ).bind (fun t => fun S => if ok S t = true then ((fr ρ).bind fun ts => g t ts) S else .bad) S := rfl
theorem z73 {k : Nat} {ts : List T} {y : T} (h : S[k]? = some (.lst ts)) (hl : ts.length < 1000) : gApp (.obj k) [y] S = .ok .non (S.set k (.lst (ts ++ [y]))) := by
 simp [gApp, cellL, h, hl]
theorem zy8 {k : Nat} {ts us : List T} {y : T} (h : S[k]? = some (.lst ts)) (hy : za6 S y = some us) (hl : ts.length + us.length <= 1000) : gExt (.obj k) [y] S = .ok .non (S.set k (.lst (ts ++ us))) := by
 simp [gExt, cellL, h, hy, hl]
theorem zki {k : Nat} {ts : List T} (h : S[k]? = some (.lst ts)) : okL S (.obj k) = true := by simp [okL, za6, h]
theorem zgy {k : Nat} {ts : List T} (h : S[k]? = some (.lst ts)) : za6 S (.obj k) = some ts := by simp [za6, h]
@[simp] theorem z55 (n : Nat) (x : Str) : HB n (.str x) := by simp [HB]
@[simp] theorem z81 (n : Nat) (x : Int) : HB n (.int x) := by simp [HB]
@[simp] theorem z9z (n : Nat) (x : Bool) : HB n (.bl x) := by simp [HB]
@[simp] theorem z82 (n : Nat) : HB n .non := by simp [HB]
theorem zrw {n : Nat} : ∀ {ts : List T}, (∀ t ∈ ts, HB n t) -> HBs n ts
 | [], _ => by simp only [HBs]
 | t :: ts, h => by simp only [HBs]; exact ⟨h t (List.mem_cons_self ..), zrw fun u hu => h u (List.mem_cons_of_mem _ hu)⟩
theorem z56 {n : Nat} {ts : List T} (h : ∀ t ∈ ts, HB n t) : HB n (.lst ts) := by simp only [HB]; exact zrw h
theorem z57 {n : Nat} {ts : List T} (h : ∀ t ∈ ts, HB n t) : HB n (.tup ts) := by simp only [HB]; exact zrw h
def strL (l : List Str) : T := .lst (l.map .str)
theorem zw3 {n : Nat} (l : List Str) : HB n (strL l) := z56 fun t ht => by
 obtain ⟨x, _, rfl⟩ := List.mem_map.mp ht;exact z55 n x
theorem zhn : ∀ (l : List Str), (l.map T.str).mapM toV = some (l.map V.str)
 | [] => rfl
 | a :: r => by
   rw [List.map_cons, List.mapM_cons, zhn r];rfl
theorem zkj : ∀ {l : List Str}, (l.map V.str).all zgo = true
 | [] => rfl
 | a :: r => by
   rw [List.map_cons, List.all_cons, zkj];rfl
theorem zp9 {x : Str} : ∀ {l : List Str}, inV (.str x) (l.map V.str) = l.contains x
 | [] => rfl
 | a :: r => by
   rw [List.contains_cons, <- zp9 (l := r)];show ((a == x) || _) = _;rw [BEq.comm];rfl
theorem ztg (x : Str) (l : List Str) : inF (.str x) (l.map T.str) = some (l.contains x) := by
 unfold inF;rw [zhn];simp only [toV];rw [if_pos (by rw [zkj]; rfl), zp9]
theorem z2t {x : Str} {y : T} {l : List Str} (h : zf6 S y = some (l.map T.str)) : gIn (.str x) y S = .ok (.bl (l.contains x)) S := by
 simp [gIn, inS, h, ztg]
theorem zth {x : Str} {y : T} {l : List Str} (h : zf6 S y = some (l.map T.str)) : zl6 (.str x) y S = .ok (.bl (!l.contains x)) S := by
 simp [zl6, inS, h, ztg]
@[simp] theorem z90 (x : Str) (l : List Str) : gIn (.str x) (strL l) S = .ok (.bl (l.contains x)) S := z2t rfl
@[simp] theorem z6x (x : Str) (l : List Str) : zl6 (.str x) (strL l) S = .ok (.bl (!l.contains x)) S := zth rfl
end MF
namespace MF
open PySem L2
theorem zti {α : Type} : ∀ {K : List (Addr × α)} {a : Addr} {o : α}, K.lookup a = some o -> (a, o) ∈ K
 | [], _, _, e => by cases e
 | (b, x) :: K, a, o, e => by
   rw [List.lookup_cons] at e;cases h : a == b with
   | true =>
     rw [h] at e;cases e;rw [eq_of_beq h];exact List.mem_cons_self ..
   | false =>
     rw [h] at e;exact List.mem_cons_of_mem _ (zti e)
def zw4 (K : PySem.W.Frag) : Bool := K.all fun p => !(p.2.cls == Value.type "list")
theorem zw5 {K : PySem.W.Frag} {a : Addr} {o : Obj} (h : zw4 K = true) (e : K.lookup a = some o) : o.cls ≠ .type "list" := fun z => by
 have hm : (a, o) ∈ K := zti e;have := List.all_eq_true.mp h (a, o) hm;rw [show (a, o).2.cls = Value.type "list" from z] at this;simp at this
def zy9 (K : PySem.W.Frag) : Sp := fun vs H Q _ => ∃ (a : Addr) (ns : List Int), vs = [.ref a] /\ SqL K H a (ns.map V.int) /\ ns.length <= 63 /\ ∀ H', Q (.bl true) H'
theorem zqa {W : Wd} : ∀ (ns : List Int), Dens W (ns.map T.int) (ns.map V.int)
 | [] => Dens.nil'
 | n :: ns => Dens.cons' (za2.mpr rfl) (zqa ns)
theorem z58 {P : Program} {w : World} {K : PySem.W.Frag} {mg : Str -> Option Value} {base : Heap} {k : Nat} {f : Addr} {fd : FuncData} {F : Fn} (G : FnOk P w K mg base (CXE P w) k f fd ["script"] (spM 1 F)) (nl : zw4 K = true)
 (h : ∀ ns : List Int, ns.length <= 63 -> ∃ S', F [.lst (ns.map .int)] [] = .ok (.bl true) S') : FnOk P w K mg base CX0 k f fd ["script"] (zy9 K) := by
 refine G.calm.imp fun vs H Q E q => ?_;obtain ⟨a, ns, rfl, sq, hl, q⟩ := q;have rd : Rd H a (.lst (ns.map V.int)) := by
  rcases sq with rd | ⟨o, its, n, hk, hc, _⟩
  ·exact rd
  ·exact absurd hc (zw5 nl hk)
 refine ⟨⟨fun b => if b = a then some (.lst (ns.map V.int)) else none, fun _ => 0, 0, fun _ => none, fun _ => none⟩, [], [.lst (ns.map .int)], ⟨fun b o e => ?_, rfl, (fun k c e => by simp at e), (fun j k hj => absurd hj (Nat.not_lt_zero _)), (fun b o e => nomatch e), fun b o e => nomatch e⟩, Dens.cons' (zew.mpr ⟨a, _, rfl, if_pos rfl, zqa ns⟩) Dens.nil', rfl, ?_⟩
 ·have e : (if b = a then some (HO.lst (ns.map V.int)) else none) = some o := e
  by_cases z : b = a
  ·rw [if_pos z] at e
   cases e;subst z;refine ⟨?_, trivial⟩;rcases rd with r | r
   ·exact .inl r
   ·exact .inr ⟨r, by intro xs z; cases z⟩
  ·rw [if_neg z] at e; cases e
 ·obtain ⟨S', e⟩ := h ns hl
  rw [e];intro W' H' _ _ v dv;rw [zbq.mp dv];exact q H'
theorem walkM {l : PySem.W.OpenLaw} {q : Program} {loose : List Str} {XP : (Str -> Option Value) -> Heap -> Prop} {YP : World -> Heap -> Prop} {d : DefRec} {K : Params -> PySem.W.Frag} {k : Nat} (hk : Room k PySem.callerA) (hn : l.most = some 63) (hdf : d.params.defaults = [])
 (hY : ∀ (w : World) (h : Heap), YP w h -> (K w.params).In h)
 (F : ∀ (w : World) (mg : Str -> Option Value) (fa : Addr) (h : Heap), (K w.params).In h -> h.Ns mainGlobals mg -> mg d.name = some (.ref fa) ->
  ∃ fd : FuncData, (∀ (s : Shared) (u : Value), BindsTo s fd ⟨[u], []⟩ [("script", u)]) /\ ∀ base : Heap, (K w.params).In base -> base.Ns mainGlobals mg -> FnOk l.prog w (K w.params) mg base CX0 k fa fd ["script"] (zy9 (K w.params))) :
 PySem.W.WalkO q loose XP YP l.row.toRowW d [] (fun f vs => PySem.call f vs) :=
 L2.walk_of (n := 63) (k := k) (x := "script") (CX := fun _ => CX0) (sp := fun w => zy9 (K w.params)) hn (by decide) hdf hk hY F (fun _ _ a ns hl _ hS => ⟨a, ns, rfl, hS, hl, fun _ => rfl⟩) fun _ _ _ _ _ z => z
end MF
namespace MF
open PySem PySem.Spec L2
section
variable {W : Wd} {S : Sto} {H : Hp}
theorem Rep.privTake (r : Rep W S H) {d : Addr} {ks : List (Str × V)} (hd : H d = some (.xd ks)) (h0 : W.HS d = none) : ∃ W1 : Wd, W.le W1 /\ Rep W1 S H /\ W1.P d = some (.xd ks) /\ W1.HS = W.HS /\ W1.μ = W.μ /\ W1.n = W.n := by
 have nc : ∀ k, k < W.n -> W.μ k ≠ d := fun k hk z => by
  obtain ⟨c, hc⟩ := r.cellAt hk;have q := (r.cell k c hc).1;rw [z] at q;cases c with
  | lst ts => obtain ⟨_, h1, _⟩ := q; rw [hd] at h1; cases h1
  | dic ts => obtain ⟨_, h1, _⟩ := q; rw [hd] at h1; cases h1
  | ins _ ts => obtain ⟨_, _, h1, _⟩ := q; rw [hd] at h1; cases h1
  | exc _ ts => obtain ⟨_, h1, _⟩ := q; rw [hd] at h1; cases h1
  | lck ts => obtain ⟨_, _, h1, _⟩ := q; rw [hd] at h1; cases h1
 cases e : W.P d with
 | some o =>
   have := (r.prv d o e).1;rw [hd] at this;cases this;exact ⟨W, Wd.le.refl W, r, e, rfl, rfl, rfl⟩
 | none =>
   refine ⟨W.priv d (.xd ks), Wd.priv_le e, ?_, zaj, rfl, rfl, rfl⟩;refine r.samePriv rfl rfl rfl rfl (fun ek c => zb8.hs (W := W) (W' := W.priv d (.xd ks)) rfl rfl rfl (fun d' ks' z => ?_) c) (fun a u _ h => h) (fun a q u _ h => h) fun a u z => ?_
   ·show upd W.P d (.xd ks) d' = _
    rw [zai (fun q => by rw [q, e] at z; cases z)]; exact z
   ·have z : upd W.P d (.xd ks) a = some u := z
    by_cases q : a = d
    ·subst q; rw [zaj] at z; cases z; exact ⟨hd, h0, nc⟩
    ·rw [zai q] at z; exact r.prv a u z
theorem Rep.caught (r : Rep W S H) {ea C : Addr} {dx : Option Addr} {fs : Option (List (Str × T))} (he : H ea = none) (x : XOk W H dx fs) :
 ∃ W1 : Wd, W.le W1 /\ Rep W1 (S ++ [.exc C fs]) (upd H ea (excL ea C dx)) /\ W1.μ S.length = ea /\ S.length < W1.n := by
 have key : ∃ W1 : Wd, W.le W1 /\ Rep W1 S H /\ XP W1 dx fs /\ W1.n = W.n := by
  cases dx with
  | none =>
    cases fs with
    | none => exact ⟨W, Wd.le.refl W, r, trivial, rfl⟩
    | some _ => exact x.elim
  | some d =>
    cases fs with
    | none => exact x.elim
    | some fs =>
      obtain ⟨ks, x1, x2, x3⟩ := x;obtain ⟨W1, l, r1, p1, _, _, n1⟩ := r.privTake x1 x2;exact ⟨W1, l, r1, ⟨ks, p1, DenF.mono l x3⟩, n1⟩
 obtain ⟨W1, l, r1, x1, n1⟩ := key;refine ⟨W1.add ea, l.trans Wd.add_le, r1.cellNew he (.exc C fs) (excL ea C dx) ⟨dx, zaj, x1.mono Wd.add_le⟩, ?_, ?_⟩
 ·rw [r.len, <- n1]; exact Wd.add_at
 ·rw [r.len, <- n1]; exact Nat.lt_succ_self _
end
def msk {α : Type} (js : List Nat) (l : List (Option α)) : List (Option α) := js.foldl (fun r j => r.set j none) l
theorem zw6 {α : Type} : ∀ (js : List Nat) (l : List (Option α)), (msk js l).length = l.length
 | [], _ => rfl
 | j :: js, l => by show (msk js (l.set j none)).length = _; rw [zw6 js, List.length_set]
theorem zrx {α : Type} : ∀ (js : List Nat) (l : List (Option α)) {i : Nat} {v : α}, (msk js l)[i]? = some (some v) -> l[i]? = some (some v)
 | [], _, _, _, h => h
 | j :: js, l, i, v, h => by
   have h := zrx js (l.set j none) h;by_cases z : i = j
   ·subst z
    rw [List.getElem?_set] at h;simp at h
   ·rwa [List.getElem?_set_ne (Ne.symm z)] at h
theorem ztj {α : Type} : ∀ (js : List Nat) (l : List (Option α)) {i : Nat}, i ∈ js -> ∀ v : α, (msk js l)[i]? ≠ some (some v)
 | j :: js, l, i, hi, v => by
   intro h;have h2 := zrx js (l.set j none) h;rcases List.mem_cons.mp hi with z | z
   ·subst z
    rw [List.getElem?_set] at h2;simp at h2
   ·exact ztj js (l.set j none) z v h
theorem za8.unset {W : Wd} : ∀ {ρ : Ev} {σ : St} (i : Nat), za8 W ρ σ -> za8 W (ρ.set i none) (σ.set i none)
 | [], σ, i, h => by rw [show σ = [] from h]; exact rfl
 | o :: ρ, σ, i, ⟨s, r, e0, h1, h2⟩ => by
   subst e0;cases i with
   | zero => exact ⟨_, _, rfl, trivial, h2⟩
   | succ i => exact ⟨_, _, rfl, h1, za8.unset i h2⟩
theorem za8.msk {W : Wd} : ∀ (js : List Nat) {ρ : Ev} {σ : St}, za8 W ρ σ -> za8 W (msk js ρ) (msk js σ)
 | [], _, _, h => h
 | j :: js, _, _, h => za8.msk js (za8.unset j h)
def calmR {α : Type} : R α -> R α
 | .exc _ _ _ => .bad
 | r => r
def unI (i : Nat) : R Fl -> R Fl
 | .ok (.nx ρ) S => .ok (.nx (ρ.set i none)) S
 | .ok (.bk ρ) S => .ok (.bk (ρ.set i none)) S
 | .ok (.ct ρ) S => .ok (.ct (ρ.set i none)) S
 | r => r
theorem Post.calmR {α : Type} {E E' : XK} {W : Wd} {Q : α -> Wd -> Sto -> Hp -> Prop} {r : R α} (h : Post E W Q (calmR r)) : Post E' W Q r := by
 cases r with
 | ok a S => exact h
 | exc C fs S => exact h.elim
 | bad => exact h
abbrev DH := Addr -> Option (List (Str × T)) -> DS
def dTry (fb : DS) (js : List Nat) (fh : DH) : DS := fun ρ S => match fb ρ S with
 | .ok x S' => .ok x S'
 | .exc C fs S' => fh C fs (msk js ρ) S'
 | .bad => .bad
def RH (E : XK) (fh : DH) : THd := fun cls dx _ D σ H => ∃ C fs W S ρ, cls = .ref C /\ Rep W S H /\ XOk W H dx fs /\ za8 W ρ σ /\ Post E W (QF D) (fh C fs ρ S)
def ztk : DH := fun _ _ _ _ => .bad
def zza (sub : Addr -> Option Bool) (ds : DS) (r : DH) : DH := fun C fs ρ S => match sub C with
 | some true => calmR (ds ρ S)
 | some false => r C fs ρ S
 | none => .bad
def hdAs (sub : Addr -> Option Bool) (i : Nat) (ds : DS) (r : DH) : DH := fun C fs ρ S => match sub C with
 | some true => unI i (calmR (ds (ρ.set i (some (.obj S.length))) (S ++ [.exc C fs])))
 | some false => r C fs ρ S
 | none => .bad
def SubK (K : PySem.W.Frag) (D : Addr) (sub : Addr -> Option Bool) : Prop := ∀ C b, sub C = some b -> ∃ bm, zcu K C = some bm /\ (Value.ref C :: bm).contains (.ref D) = b
section
variable {X : Cx} {E : XK} {x n : Str} {np pos : Pos} {b₀ : Stmt} {suite body : List Stmt} {rest hs : List ExceptHandler} {h₀ : ExceptHandler} {D : Addr} {bmD : List Value} {sub : Addr -> Option Bool} {ds fb : DS} {fr fh : DH} {i : Nat} {js : List Nat}
theorem z0r : PH X [] (RH E ztk) := fun pins s σ H D ea cls a0 dx B ok car car2 fly hd h => by
 obtain ⟨_, _, _, _, _, _, _, _, _, p⟩ := h;exact p.elim
theorem z59 {t t' : THd} (h : PH X hs t) (w : ∀ cls dx ea D σ H, t' cls dx ea D σ H -> t cls dx ea D σ H) : PH X hs t' := fun pins s σ H D ea cls a0 dx B ok car car2 fly hd q => h pins s σ H D ea cls a0 dx B ok car car2 fly hd (w _ _ _ _ _ _ q)
theorem z74 (hg : Gl X x) (hm : X.mg x = some (.ref D)) (qD : zcu X.K D = some bmD) (sk : SubK X.K D sub) (hs : ∀ ea, PSs (X.inExc ea) (b₀ :: suite) (RS E0 ds)) (hr : PH X rest (RH E fr)) (hdb : (x == ("__debug__" : Str)) = false := by decide) :
 PH X (.ExceptHandler (some (.Name x np)) none (b₀ :: suite) pos :: rest) (RH E (zza sub ds fr)) := z59 (z42 hg hm qD hs hr hdb) fun cls dx ea En σ H h => by
 obtain ⟨C, fs, W, S, ρ, rfl, r, xo, env, p⟩ := h;unfold zza at p;cases e : sub C with
 | none => rw [e] at p; exact p.elim
 | some b =>
   obtain ⟨bm, q1, q2⟩ := sk C b e;rw [e] at p;refine ⟨C, bm, rfl, q1, ?_⟩;rw [q2];cases b with
   | true => rw [if_pos rfl]; exact ⟨W, S, ρ, r, env, Post.calmR p⟩
   | false => rw [if_neg (by decide)]; exact ⟨C, fs, W, S, ρ, rfl, r, xo, env, p⟩
theorem h_as (hN : X.N.Nodup) (hi : X.N[i]? = some n) (hx : X.env.scope.names.lookup n = some .local) (hg : Gl X x) (hm : X.mg x = some (.ref D)) (qD : zcu X.K D = some bmD) (sk : SubK X.K D sub) (hs : ∀ ea, PSs (X.inExc ea) (b₀ :: suite) (RS E0 ds)) (hr : PH X rest (RH E fr))
 (hk : ∀ u : V, X.kn[i]? ≠ some (some u) := by exact fun u h => nomatch (show (none : Option (Option V)) = some (some u) from h)) (hdb : (x == ("__debug__" : Str)) = false := by decide) :
 PH X (.ExceptHandler (some (.Name x np)) (some n) (b₀ :: suite) pos :: rest) (RH E (hdAs sub i ds fr)) := z59 (zyr hg hm qD hN hi hx hk hs hr hdb) fun cls dx ea En σ H h => by
 obtain ⟨C, fs, W, S, ρ, rfl, r, xo, env, p⟩ := h;unfold hdAs at p;cases e : sub C with
 | none => rw [e] at p; exact p.elim
 | some b =>
   obtain ⟨bm, q1, q2⟩ := sk C b e;rw [e] at p;refine ⟨C, bm, rfl, q1, ?_⟩;rw [q2];cases b with
   | false => rw [if_neg (by decide)]; exact ⟨C, fs, W, S, ρ, rfl, r, xo, env, p⟩
   | true =>
     rw [if_pos rfl];intro he;obtain ⟨W1, l1, r1, m1, n1⟩ := r.caught (C := C) he xo;refine ⟨W1, _, _, r1, (env.mono l1).set (zco.mpr ⟨by rw [m1], n1⟩) i, ?_⟩
     revert p
     cases ds (ρ.set i (some (.obj S.length))) (S ++ [.exc C fs]) with
     | bad => exact fun p => p.elim
     | exc _ _ _ => exact fun p => p.elim
     | ok y S2 =>
       cases y with
       | nx ρ2 => exact fun p W2 H2 l2 r2 σ2 e2 => p W2 H2 (l1.trans l2) r2 _ (e2.unset i)
       | bk ρ2 => exact fun p W2 H2 l2 r2 σ2 e2 => p W2 H2 (l1.trans l2) r2 _ (e2.unset i)
       | ct ρ2 => exact fun p W2 H2 l2 r2 σ2 e2 => p W2 H2 (l1.trans l2) r2 _ (e2.unset i)
       | rt t => exact fun p W2 H2 l2 r2 => p W2 H2 (l1.trans l2) r2
theorem z6a (hb : ∀ (pn : List (Addr × Obj)) (kn : St) (xe : Value -> Shared -> Prop) (R : XK), (∀ j ∈ js, ∀ u : V, kn[j]? ≠ some (some u)) -> zei (CXE X.prog X.w) (X.tryIn pn kn xe) R -> PassesOwn (model X.prog X.w) X.A X.env xe -> PSs (X.tryIn pn kn xe) body (RS R fb))
 (hh : PH X (h₀ :: hs) (RH E fh)) (h0 : X.kn = [] := by rfl) (hst : X.stack = X.env :: X.outer := by rfl) (hfr : X.env.frame = some X.env.locals := by rfl) :
 PS X (.Try body (h₀ :: hs) [] [] pos) (RS E (dTry fb js fh)) := zjd (z43 hh hst hfr) fun D σ H h => by
 obtain ⟨W, S, ρ, r, env, p⟩ := h;refine ⟨msk js σ, fun cls dx H' => ∃ C fs W' S', cls = .ref C /\ W.le W' /\ Rep W' S' H' /\ XOk W' H' dx fs /\ Post E W' (QF D) (fh C fs (msk js ρ) S'), RS _ fb, zw6 js σ, fun i v e => zrx js σ e, fun i v e => by rw [h0] at e; simp at e,
  fun pn xe pas own => hb pn _ xe _ (fun j hj u => ztj js σ hj u) pas own, ⟨W, S, ρ, r, env, ?_⟩, fun cls dx ea H' q => ?_⟩
 ·unfold dTry at p
  revert p
  cases fb ρ S with
  | ok y S2 => exact fun p => p
  | bad => exact fun p => p.elim
  | exc C fs S2 =>
    intro p W2 H2 dx l2 r2 x2;refine ⟨C, fs, W2, S2, rfl, l2, r2, x2, ?_⟩
    revert p
    show Post E W (QF D) (fh C fs (msk js ρ) S2) -> _;cases fh C fs (msk js ρ) S2 with
    | ok y S3 => exact fun p W3 H3 l3 r3 => p W3 H3 (l2.trans l3) r3
    | exc _ _ _ => exact fun p W3 H3 dx l3 r3 => p W3 H3 dx (l2.trans l3) r3
    | bad => exact fun p => p
 ·obtain ⟨C, fs, W', S', rfl, l, r', x', p'⟩ := q
  exact ⟨C, fs, W', S', _, rfl, r', x', (env.mono l).msk js, p'⟩
end
end MF
namespace MF
open PySem PySem.Spec PyProof.Rows L2
def okV (two : Bool) (x y : V) : Prop := ∃ a, x = .str a /\ (reprText a).length <= 1000 /\ (two = true -> ∃ b, y = .str b /\ (reprText b).length <= 1000)
def spX2 (C : Addr) (f g : Str) (two : Bool) : Sp := fun vs H Q _ => ∃ e x y, vs = [.ref e, x, y] /\ H e = some (excO e C none) /\ okV two x y /\ f ≠ g /\ ∀ d, H d = none -> Q .non (upd (upd H e (excO e C (some d))) d (.xd [(f, x), (g, y)]))
section
variable {P : Program} {w : World} {K : PySem.W.Frag} {mg : Str -> Option Value} {base : Heap}
theorem ztl {qual : Str} {st : Stmt} {dV : Value} {C fI : Addr} {fd : FuncData} {p1 p2 f g : Str} {k : Nat} {two : Bool} {tm : TE} (F : FunV K "__init__" qual st dV fI fd) (S : zao ["self", p1, p2] ["self", p1, p2] (zab st))
 (hx : XCls K C) (q : zej K C fI = true) (nf : PySem.W.findIn K (.ref C) f = some none) (ng : PySem.W.findIn K (.ref C) g = some none)
 (hbody : ∀ (cdv : Value) (A : Around) (outer : List Env) (s : Shared) (H : Hp) (E : XK), Room k (A.deeper (envOfC qual (zab st) s.heap.objs.size fI cdv)) ->
  PSs (cxOf (CXE P w) P w K mg base ["self", p1, p2] qual (zab st) fI cdv A outer s H E) (zal st) (tSeq (z08 (zvx K (zpi (tVar 0) (zpi tm tNil)))) (tSeq (zyo K (tVar 0) (tVar 1) f) (zyo K (tVar 0) (tVar 2) g))))
 (hmsg : ∀ (e : Addr) (x y : V) (H : Hp) (Q : VK), okV two x y -> (∀ m, Q (.str m) H) -> tm [some (.ref e), some x, some y] H Q) :
 FnOk P w K mg base (CXE P w) (k + 1) fI fd ["self", p1, p2] (spX2 C f g two) := by
 refine F.okE S (fun vs H Q E h => ?_) fun cdv A outer s H vs Q E hr h => ⟨_, hbody cdv A outer s H E hr, ?_⟩
 ·obtain ⟨e, x, y, rfl, _⟩ := h; rfl
 ·obtain ⟨e, x, y, rfl, he, ok, fg, h⟩ := h
  refine ⟨.ref e, rfl, hmsg e x y H _ ok fun m => ?_⟩;refine ⟨e, .str m, C, fI, none, rfl, he, q, ?_⟩;refine ⟨x, rfl, .ref e, rfl, e, C, rfl, hx, nf, .inl ⟨he, fun d hd => ?_⟩⟩;have de : d ≠ e := fun z => by rw [z, he] at hd; cases hd
  refine ⟨y, rfl, .ref e, rfl, e, C, rfl, hx, ng, .inr ⟨d, [(f, x)], ?_, zaj, (show 1 < 1000 by decide), ?_⟩⟩
  ·rw [zai (Ne.symm de), zaj]
  ·show Q .non _
   rw [z02, show putF g y [(f, x)] = [(f, x), (g, y)] from by unfold putF; rw [if_neg fg]; rfl];exact h d hd
end
def okW : T -> Bool
 | .str b => decide ((reprText b).length <= 1000)
 | _ => false
def okM (two : Bool) (x y : T) : Bool := okW x && (!two || okW y)
theorem z0s {W : Wd} {x : T} {u : V} (h : okW x = true) (d : Den W x u) : ∃ a, u = .str a /\ (reprText a).length <= 1000 := by
 cases x with
 | str a => exact ⟨a, zbj.mp d, of_decide_eq_true h⟩
 | _ => cases h
def zjt (C : Addr) (f g : Str) (two : Bool) (fr : DA) : DS := fun ρ => (fr ρ).bind fun ts => fun S => match ts with
 | [x, y] => if okM two x y = true then .exc C (some [(f, x), (g, y)]) S else .bad
 | _ => .bad
theorem z2u {W : Wd} {two : Bool} {x y : T} {u v : V} (h : okM two x y = true) (dx : Den W x u) (dy : Den W y v) : okV two u v := by
 unfold okM at h;rw [Bool.and_eq_true] at h;obtain ⟨a, e1, e2⟩ := z0s h.1 dx;refine ⟨a, e1, e2, fun t => z0s ?_ dy⟩;have h2 := h.2;rw [t] at h2;simpa using h2
section
variable {X : Cx} {E : XK} {k : Nat} {C fI : Addr} {fd : FuncData} {ps : List Str} {f g y : Str} {two : Bool} {np cpos pos : Pos} {e : Expr} {es : List Expr} {fr : DA} {fa : DE}
theorem ztm (hx : zjp X E) (hc : X.calm = true) (fg : f ≠ g) (q : zej X.K C fI = true) (hf : PySem.W.isFn X.K (.ref fI) = true) (F : FnOk X.prog X.w X.K X.mg X.base (CXE X.prog X.w) k fI fd ps (spX2 C f g two)) (hr : Room (k + 1) X.A) (hb : zfa X.K fd ps [])
 (hg : Gl X y) (hm : X.mg y = some (.ref C)) (ha : PA X (e :: es) (RA E fr))
 (hdb : (y == ("__debug__" : Str)) = false := by decide) (he : starEach (e :: es) X.env = (false, eval e X.env) :: starEach es X.env := by rfl) (hpl : (backTo cpos (starEach es X.env)).any (·.1) = false := by rfl) :
 PS X (.Raise (some (.Call (.Name y np) (e :: es) [] cpos)) none pos) (RS E (zjt C f g two fr)) := zjd (zpv hx ztc hc q hf F hr hb hg hm ha hdb he hpl) fun D σ H h => by
 obtain ⟨W, S, ρ, rp, env, p⟩ := h;refine ⟨W, S, ρ, rp, env, (Post.bind p).imp fun ts W1 S1 H1 l1 r1 p1 vs dv => ?_⟩
 split at p1
 case h_2 => exact p1.elim
 case h_1 tx ty =>
  split at p1
  case isFalse => exact p1.elim
  case isTrue ok =>
   obtain ⟨u, r0, rfl, du, d0⟩ := za1.mp dv;obtain ⟨v, r1', rfl, dv', d1⟩ := za1.mp d0;obtain rfl := zbk.mp d1;refine ⟨by show 2 <= sizeLine; rw [sizeLine_eq]; omega, fun ea hea => ⟨ea, u, v, rfl, zaj, z2u ok du dv', fg, fun d hd => ⟨rfl, some d, ?_, ?_⟩⟩⟩
   ·have ne : ea ≠ d := fun z => by rw [z, zaj] at hd; cases hd
    rw [zai ne, zaj]
   ·have ne : d ≠ ea := fun z => by rw [z, zaj] at hd; cases hd
    have hd1 : H1 d = none := by rw [zai ne] at hd; exact hd
    have eqH : unt (upd (upd (upd H1 ea (excO ea C none)) ea (excO ea C (some d))) d (.xd [(f, u), (g, v)])) ea = upd H1 d (.xd [(f, u), (g, v)]) := by
     funext b;by_cases z : b = ea
     ·subst z
      rw [zjo, zai (Ne.symm ne)]; exact hea.symm
     ·rw [zkx z]
      by_cases z2 : b = d
      ·subst z2; rw [zaj, zaj]
      ·rw [zai z2, zai z, zai z, zai z2]
    rw [eqH];exact p1 W1 _ (some d) (Wd.le.refl _) (r1.extra hd1 _) ⟨_, zaj, r1.hsNone hd1, ⟨u, _, rfl, du, ⟨v, _, rfl, dv', rfl⟩⟩⟩
def gXat (C : Addr) (f : Str) (t : T) : M T := fun S => match t with
 | .obj k => (match S[k]? with
   | some (.exc D (some fs)) => if D = C then (match fs.lookup f with
     | some t => .ok t S
     | none => .bad) else .bad
   | _ => .bad)
 | _ => .bad
def gIsX (sub : Addr -> Option Bool) (t : T) : M T := fun S => match t with
 | .obj k => (match S[k]? with
   | some (.exc D _) => (match sub D with
     | some b => .ok (.bl b) S
     | none => .bad)
   | _ => .bad)
 | _ => .bad
def SubX (K : PySem.W.Frag) (cu : Value) (sub : Addr -> Option Bool) : Prop := ∀ C b, sub C = some b -> XKit K C /\ PySem.W.kitOne K (.ref C) cu = some b
theorem z0t {cu : Value} {c : V} {sub : Addr -> Option Bool} (hu : ∀ u, RelV c u -> u = cu) (sk : SubX X.K cu sub) {σ : L2.St} {H : Hp} {Q : VK} (h : RE E (e1 (gIsX sub) fa) σ H Q) :
 zpi (RE E fa) (zpi (tC c) tNil) σ H (fun xs H1 => ∃ a C dx c cu b, xs = [.ref a, c] /\ (∀ u, RelV c u -> u = cu) /\ H1 a = some (excL a C dx) /\ XKit X.K C /\ PySem.W.kitOne X.K (.ref C) cu = some b /\ (∀ d, dx = some d -> ∃ fs, H1 d = some (.xd fs)) /\ Q (.bl b) H1) :=
 re1 (r := fun x H1 Q => ∃ a C dx c' cu b, [x, c] = [.ref a, c'] /\ (∀ u, RelV c' u -> u = cu) /\ H1 a = some (excL a C dx) /\ XKit X.K C /\ PySem.W.kitOne X.K (.ref C) cu = some b /\ (∀ d, dx = some d -> ∃ fs, H1 d = some (.xd fs)) /\ Q (.bl b) H1) (fun t W S H v Q r d p => by
  unfold gIsX at p
  split at p
  case h_2 => exact p.elim
  case h_1 k =>
   split at p
   case h_2 => exact p.elim
   case h_1 D fs ec =>
    split at p
    case h_2 => exact p.elim
    case h_1 b es =>
     obtain ⟨rfl, hk⟩ := zco.mp d;obtain ⟨⟨dx, h1, h2⟩, _⟩ := r.cell k _ ec;obtain ⟨q1, q2⟩ := sk D b es;refine ⟨_, D, dx, c, cu, b, rfl, hu, h1, q1, q2, fun d0 z => ?_, now p r (zbq.mpr rfl)⟩;subst z;cases fs with
     | none => exact h2.elim
     | some fs =>
       obtain ⟨ks, g1, _⟩ := h2;exact ⟨ks, (r.prv d0 _ g1).1⟩) h
theorem zqb {D : Addr} {p q : Pos} {sub : Addr -> Option Bool} (gl : Gl X "isinstance") (hm : X.mg "isinstance" = none) (ha : PE X e (RE E fa)) (gy : Gl X y) (my : X.mg y = some (.ref D)) (sk : SubX X.K (.ref D) sub) (dy : (y == ("__debug__" : Str)) = false := by decide)
 (he : starEach [e, .Name y q] X.env = (false, eval e X.env) :: starEach [.Name y q] X.env := by rfl) (he2 : starEach [.Name y q] X.env = (false, eval (.Name y q) X.env) :: starEach [] X.env := by rfl) (hpl : (backTo pos (starEach [.Name y q] X.env)).any (·.1) = false := by rfl) :
 PE X (.Call (.Name "isinstance" p) [e, .Name y q] [] pos) (RE E (e1 (gIsX sub) fa)) :=
 zcv (zod znr gl hm zwf (zev ha (zev (zu4 (v := .ref D) gy my rfl dy) ziy he2) he) (by decide) (by decide) he hpl) fun σ H Q h => z0t (c := .ref D) (cu := .ref D) (fun u z => z) sk h
theorem z6b {p q : Pos} {sub : Addr -> Option Bool} (gl : Gl X "isinstance") (hm : X.mg "isinstance" = none) (ha : PE X e (RE E fa)) (gy : Gl X "ValueError") (my : X.mg "ValueError" = none) (sk : SubX X.K (.type "ValueError") sub)
 (he : starEach [e, .Name "ValueError" q] X.env = (false, eval e X.env) :: starEach [.Name "ValueError" q] X.env := by rfl) (he2 : starEach [.Name "ValueError" q] X.env = (false, eval (.Name "ValueError" q) X.env) :: starEach [] X.env := by rfl) (hpl : (backTo pos (starEach [.Name "ValueError" q] X.env)).any (·.1) = false := by rfl) :
 PE X (.Call (.Name "isinstance" p) [e, .Name "ValueError" q] [] pos) (RE E (e1 (gIsX sub) fa)) :=
 zcv (zod znr gl hm zwf (zev ha (zev (z05 (v := .ty "ValueError") gy my (by decide +kernel) rfl) ziy he2) he) (by decide) (by decide) he hpl) fun σ H Q h => z0t (c := .ty "ValueError") (cu := .type "ValueError") (fun u z => z) sk h
end
end MF
namespace MF
open PySem L2
def Wd.unz (W : Wd) (a : Addr) : Wd := ⟨W.HS, W.μ, W.n, fun b => if b = a then none else W.Z b, W.P⟩
section
variable {W : Wd} {S : Sto} {H : Hp}
theorem Rep.lock (r : Rep W S H) {k : Nat} {kvs : List (Key × T)} (h : S[k]? = some (.dic kvs)) (o : Obj) : ∃ ks, H (W.μ k) = some (.dK ks) /\ DenK W kvs ks /\
 Rep (W.zed (W.μ k) (o, .dK ks)) (S.set k (.lck kvs)) (upd H (W.μ k) (.frz o (.dK ks))) /\ W.le (W.zed (W.μ k) (o, .dK ks)) := by
 obtain ⟨⟨ks, h1, h2⟩, h3⟩ := r.cell k _ h;have hk := r.lt h;have zn : W.Z (W.μ k) = none := r.noZ h (by intro _ z; cases z);have l : W.le (W.zed (W.μ k) (o, .dK ks)) := ⟨fun _ _ e => e, fun b q e => by
  show (if b = W.μ k then some (o, HO.dK ks) else W.Z b) = some q;by_cases z : b = W.μ k
  ·rw [z, zn] at e; cases e
  ·rw [if_neg z]; exact e, fun _ _ e => e, Nat.le_refl _, fun _ _ => rfl⟩
 refine ⟨ks, h1, h2, ⟨fun b w e => ?_, ?_, fun j c e => ?_, r.inj, fun b q e => ?_, fun b w e => ?_⟩, l⟩
 ·have ne : b ≠ W.μ k := fun z => by rw [z] at e; rw [show (W.zed (W.μ k) (o, HO.dK ks)).HS = W.HS from rfl, h3] at e; cases e
  exact ⟨(r.sub b w e).1.at (zai ne), (r.sub b w e).2⟩
 ·rw [List.length_set]; exact r.len
 ·by_cases z : k = j
  ·subst z
   have : c = .lck kvs := by
    rw [List.getElem?_set_self (by rw [r.len]; exact hk)] at e;exact (Option.some.inj e).symm
   subst this;exact ⟨⟨o, ks, zaj, DenK.mono l _ _ h2⟩, h3⟩
  ·rw [List.getElem?_set_ne z] at e
   have hj := r.lt e;have ne : W.μ j ≠ W.μ k := fun q => z (r.inj _ _ hk hj q.symm);exact ⟨((r.cell j c e).1.at (zai ne)).mono l, (r.cell j c e).2⟩
 ·have e : (if b = W.μ k then some (o, HO.dK ks) else W.Z b) = some q := e
  by_cases z : b = W.μ k
  ·rw [if_pos z] at e
   cases e;subst z;exact zaj
  ·rw [if_neg z] at e
   rw [zai z]; exact r.zed b q e
 ·obtain ⟨g1, g2, g3⟩ := r.prv b w e
  have ne : b ≠ W.μ k := fun z => g3 k hk z.symm;exact ⟨by rw [zai ne]; exact g1, g2, g3⟩
theorem zb8.unz {a b : Addr} : ∀ {c : Cell}, zb8 W H b c -> zb8 (W.unz a) H b c := fun {c} h => zb8.hs (W := W) (W' := W.unz a) rfl rfl rfl (fun _ _ e => e) h
theorem Rep.unlock (r : Rep W S H) {k : Nat} {kvs : List (Key × T)} {o : Obj} {ks : List (Key × V)} (h : S[k]? = some (.lck kvs)) (hz : H (W.μ k) = some (.frz o (.dK ks))) :
 Rep (W.unz (W.μ k)) (S.set k (.dic kvs)) (upd H (W.μ k) (.dK ks)) := by
 obtain ⟨⟨o', ks', h1, h2⟩, h3⟩ := r.cell k _ h;rw [hz] at h1;cases h1;have hk := r.lt h;refine ⟨fun b w e => ?_, ?_, fun j c e => ?_, r.inj, fun b q e => ?_, fun b w e => ?_⟩
 ·have ne : b ≠ W.μ k := fun z => by rw [z] at e; rw [show (W.unz (W.μ k)).HS = W.HS from rfl, h3] at e; cases e
  exact ⟨(r.sub b w e).1.at (zai ne), (r.sub b w e).2⟩
 ·rw [List.length_set]; exact r.len
 ·by_cases z : k = j
  ·subst z
   have : c = .dic kvs := by
    rw [List.getElem?_set_self (by rw [r.len]; exact hk)] at e;exact (Option.some.inj e).symm
   subst this;exact ⟨⟨ks, zaj, DenK.hs (W := W) (W' := W.unz _) rfl rfl rfl _ _ h2⟩, h3⟩
  ·rw [List.getElem?_set_ne z] at e
   have hj := r.lt e;have ne : W.μ j ≠ W.μ k := fun q => z (r.inj _ _ hk hj q.symm);exact ⟨((r.cell j c e).1.at (zai ne)).unz, (r.cell j c e).2⟩
 ·have e : (if b = W.μ k then none else W.Z b) = some q := e
  by_cases z : b = W.μ k
  ·rw [if_pos z] at e; cases e
  ·rw [if_neg z] at e
   rw [zai z]; exact r.zed b q e
 ·obtain ⟨g1, g2, g3⟩ := r.prv b w e
  have ne : b ≠ W.μ k := fun z => g3 k hk z.symm;exact ⟨by rw [zai ne]; exact g1, g2, g3⟩
theorem z6c {W1 W4 : Wd} {a : Addr} (zn : W1.Z a = none) (l : W1.le W4) : W1.le (W4.unz a) := ⟨l.hs, fun b q e => by
 show (if b = a then none else W4.Z b) = some q;rw [if_neg (fun z => by rw [z, zn] at e; cases e)]; exact l.z b q e, l.p, l.n, l.μ⟩
def zhe (kvs : List (Key × T)) : List T := kvs.map fun p => .tup [kT p.1, p.2]
theorem DenK.at' {W : Wd} : ∀ {kvs : List (Key × T)} {ks : List (Key × V)} {i : Nat} {k : Key} {v : V}, DenK W kvs ks -> ks[i]? = some (k, v) -> ∃ t, kvs[i]? = some (k, t) /\ Den W t v
 | [], ks, _, _, _, h, e => by rw [zdb.mp h] at e; simp at e
 | (k0, t0) :: kvs, ks, i, k, v, h, e => by
   obtain ⟨v0, r, rfl, h1, h2⟩ := zcn.mp h;cases i with
   | zero => simp at e; obtain ⟨rfl, rfl⟩ := e; exact ⟨t0, rfl, h1⟩
   | succ i =>
     obtain ⟨t, e1, e2⟩ := DenK.at' (i := i) h2 (by simpa using e);exact ⟨t, by simpa using e1, e2⟩
theorem zzb {a : Addr} {o : Obj} {kvs : List (Key × T)} {ks : List (Key × V)} (hz : W.Z a = some (o, .dK ks)) (d : DenK W kvs ks) : ItOk W (zhe kvs) (fun _ => True) (Itd a o ks) := ⟨fun i W' S' H' l r' _ hi => by
 have h2 := r'.zed a _ (l.z a _ hz);rw [zhe, List.length_map, d.length] at hi;refine ⟨⟨h2, hi⟩, fun x H'' y => ?_⟩;obtain ⟨p, k, v, e1, hp, rfl, rfl⟩ := y;obtain ⟨t, e2, d2⟩ := d.at' e1;have l2 : W'.le (W'.frz p (.tup [kV k, v])) := Wd.frz_le (r'.hsNone hp);exact ⟨W'.frz p (.tup [kV k, v]), .tup [kT k, t], l2, r'.frz hp _ trivial, by rw [zhe, List.getElem?_map, e2]; rfl, zfk.mpr ⟨p, _, rfl, zaj, Dens.cons' (z0j k) (Dens.cons' (Den.mono (l.trans l2) _ _ d2) Dens.nil')⟩⟩, fun i W' S' H' l r' _ hi => by
 have h2 := r'.zed a _ (l.z a _ hz);rw [zhe, List.length_map, d.length] at hi;exact ⟨h2, Nat.le_of_eq hi.symm⟩⟩
end
open Classical in
def unl {α : Type} (k : Nat) (kvs : List (Key × T)) : R α -> R α
 | .ok a S => if S[k]? = some (.lck kvs) then .ok a (S.set k (.dic kvs)) else .bad
 | _ => .bad
def zqc (f : List (Key × T) -> List T) (nt : Nat) (js : List Nat) (fd : DE) (g : DG) (tc : DT) (te : DE) (fin : List T -> M T) : DE := fun ρ => (fd ρ).bind fun t => fun S => match t with
 | .obj k => (match S[k]? with
   | some (.dic kvs) => unl k kvs (M.bind (noX (zgx (fun _ => True) g tc te (f kvs) (List.replicate nt none ++ js.map fun j => (ρ[j]?).join) [])) fin (S.set k (.lck kvs)))
   | _ => .bad)
 | _ => .bad
def iW (X : Cx) (J : Addr -> Obj -> List (Key × V) -> It) (te : TE) : TI := fun σ H R => te σ H fun x H1 => ∃ a kvs, x = .ref a /\
 ((H1 a = some (.dK kvs) /\ ∀ o, (∀ o' u, X.H₀ a ≠ some (.frz o' u)) -> R (J a o kvs) (upd H1 a (.frz o (.dK kvs)))) \/ ∃ o, H1 a = some (.frz o (.dK kvs)) /\ R (J a o kvs) H1)
def JOk (f : List (Key × T) -> List T) (J : Addr -> Obj -> List (Key × V) -> It) : Prop := ∀ {W : Wd} {a : Addr} {o : Obj} {kvs : List (Key × T)} {ks : List (Key × V)}, W.Z a = some (o, .dK ks) -> DenK W kvs ks -> ItOk W (f kvs) (fun _ => True) (J a o ks)
theorem z2v : JOk zhe Itd := fun hz d => zzb hz d
section
variable {X : Cx} {E : XK} {f : List (Key × T) -> List T} {J : Addr -> Obj -> List (Key × V) -> It} {fd : DE} {gl : TG} {g : DG} {tc : DT} {tcl : TT} {te : DE} {fb : DS} {fin : List T -> M T} {nt : Nat} {js : List Nat}
theorem z2w {W1 W2 W4 : Wd} {S4 : Sto} {H4 : Hp} {k : Nat} {kvs : List (Key × T)} {ks : List (Key × V)} {o : Obj} (r1n : k < W1.n) (zn : W1.Z (W1.μ k) = none) (l12 : W1.le W2) (hz : W2.Z (W1.μ k) = some (o, .dK ks)) (nf : ∀ o' u, X.H₀ (W1.μ k) ≠ some (.frz o' u)) (l24 : W2.le W4) (r4 : Rep W4 S4 H4) (e4 : S4[k]? = some (.lck kvs)) {Rr : Hp -> Prop}
 (h : ∀ W', W1.le W' -> (W'.HS = W4.HS /\ W'.μ = W4.μ /\ W'.n = W4.n) -> ∀ H', Rep W' (S4.set k (.dic kvs)) H' -> Rr H') : Th X H4 Rr := by
 have l14 := l12.trans l24;have e := l14.μ k r1n;have z4 := r4.zed _ _ (l24.z _ _ hz);refine ⟨W1.μ k, o, ks, z4, nf, ?_⟩;have hu := r4.unlock e4 (by rw [e]; exact z4);rw [e] at hu;exact h _ (z6c zn l14) ⟨rfl, rfl, rfl⟩ _ hu
open Classical in
theorem zzc (hJ : JOk f J) (hG : GT gl g) (htc : ∀ σ H Q, RT E0 tc σ H Q -> tcl σ H Q) (hf : zp5 E fin) {σ : St} {H : Hp} {Q : VK} (h : RE E (zqc f nt js fd g tc te fin) σ H Q) : zrl nt js (iW X J (RE E fd)) gl tcl (RE E0 te) σ H (fun v H' => Th X H' fun H'' => Q v H'') := by
 obtain ⟨W, S, ρ, rp, env, p⟩ := h;refine ⟨W, S, ρ, rp, env, (Post.bind p).imp fun t W1 S1 H1 l1 r1 p1 v dv => ?_⟩;cases t with
 | obj k =>
   obtain ⟨rfl, hk⟩ := zco.mp dv;simp only at p1
   split at p1
   case h_2 => exact p1.elim
   case h_1 kvs ek =>
    obtain ⟨⟨ks, g1, g2⟩, _⟩ := r1.cell k _ ek;refine ⟨W1.μ k, ks, rfl, .inl ⟨g1, fun o nf => ?_⟩⟩;obtain ⟨ks', g1', g2', r2, l2⟩ := r1.lock ek o;rw [g1] at g1';cases g1';have zn : W1.Z (W1.μ k) = none := r1.noZ ek (by intro _ z; cases z);have hz : (W1.zed (W1.μ k) (o, .dK ks)).Z (W1.μ k) = some (o, .dK ks) := by show (if W1.μ k = W1.μ k then some (o, HO.dK ks) else _) = _; rw [if_pos rfl]
    refine zp6 (PF := fun us S3 => Post E W1 (QV Q) (unl k kvs (fin us S3))) hG htc r2 ((env.mono l1).mono l2) (hJ hz (DenK.mono l2 _ _ g2)) (fun acc us W3 S3 H3 a hp r3 dacc l3 p4 => ?_) ?_
    ·refine hf acc us _ W3 S3 H3 a (fun v H' => Th X H' fun H'' => Q v H'') l3 hp r3 dacc ?_
     revert p4
     cases fin us S3 with
     | bad => exact fun z => z
     | exc _ _ _ => exact fun z => z.elim
     | ok t S4 =>
       intro p4 W4 H4 l4 r4 v4 d4;have p4 : Post E W1 (QV Q) (if S4[k]? = some (.lck kvs) then .ok t (S4.set k (.dic kvs)) else .bad) := p4
       split at p4
       case isFalse => exact p4.elim
       case isTrue e4 => exact z2w hk zn l2 hz nf l4 r4 e4 fun W' l' ⟨q1, q2, q3⟩ H' r' => p4 W' H' l' r' v4 (Den.hs q1 q2 q3 _ _ d4)
    ·revert p1
     show Post E W1 (QV Q) (unl k kvs (M.bind (noX (zgx (fun _ => True) g tc te (f kvs) (List.replicate nt none ++ js.map fun j => (ρ[j]?).join) [])) fin (S1.set k (.lck kvs)))) -> _;unfold M.bind noX;cases zgx (fun _ => True) g tc te (f kvs) (List.replicate nt none ++ js.map fun j => (ρ[j]?).join) [] (S1.set k (.lck kvs)) with
     | bad => exact fun z => z
     | exc _ _ _ => exact fun z => z.elim
     | ok us S3 => exact fun z W' H' _ _ => z
 | _ => exact p1.elim
end
section
variable {X : Cx} {E : XK} {elt iter c tg d : Expr} {fd : DE} {gl : TG} {g : DG} {tc : DT} {te : DE} {fin : List T -> M T} {js : List Nat} {scope : Scope} {cl : List (Str × Addr)} {nts xs : List Str} {pos apos cpos : Pos} {elts : List Expr} {kk : Nat} {tp : Pos} {body : List Stmt} {fb : DS}
theorem z2x (hc : X.calm = true) (C : zf5 X scope cl nts xs js) (hd : PE X d (RE E fd)) (hg : ∀ fp s3 H2, PG (za4 X scope cl (nts ++ xs) fp s3 H2) (.Tuple elts kk tp) gl) (hG : GT gl g) (ht : ∀ fp s3 H2, PT (za4 X scope cl (nts ++ xs) fp s3 H2) c (RT E0 tc)) (he : ∀ fp s3 H2, PE (za4 X scope cl (nts ++ xs) fp s3 H2) elt (RE E0 te)) (hf : zp5 E fin)
 (hbase : attributeBase d "items" X.env (eval d X.env) = eval d X.env := by rfl) (hline : (apos.endLine == cpos.line) = true := by rfl)
 (hs : ∀ x, foldedSetIterable (.Call (.Attribute d "items" apos) [] [] cpos) X.env x = pure x := by intro _; rfl) : PE X (.ListComp elt [⟨.Tuple elts kk tp, .Call (.Attribute d "items" apos) [] [] cpos, [c], 0⟩] scope pos) (RE E (zqc zhe nts.length js fd g tc te fin)) :=
 zcv (z15 (zs4 hc C (zys hd hbase hline) hg ht he hs)) fun σ H Q h => zzc (X := X) z2v hG (fun σ H Q h => h) hf h
end
end MF
namespace MF
open PySem L2
def ztn (fk fv : DE) : DE := fun ρ S => ((fk ρ).bind fun k => (fv ρ).bind fun v => fun S' => match keyT k, S'[S.length]? with
 | some key, some (.dic []) => .ok (.obj S.length) (S'.set S.length (.dic [(key, v)]))
 | _, _ => .bad) (S ++ [.dic []])
section
variable {X : Cx} {E : XK} {o e k v : Expr} {fd fk fv : DE} {pos apos cpos : Pos}
theorem z2y (hk : PE X k (RE E fk)) (hv : PE X v (RE E fv)) : PE X (.Dict [some k] [v] pos) (RE E (ztn fk fv)) := zcv (z1w (zyf hk hv z1v) rfl rfl (by simp) (by simp)) fun σ H Q h p hp => by
 obtain ⟨W, S, ρ, r, env, p0⟩ := h;have lA : W.le (W.add p) := Wd.add_le;have rA := r.cellNew hp (.dic []) (.dK []) ⟨[], zaj, DenK.nil'⟩;have p0 : Post E W (QV Q) (((fk ρ).bind fun k => (fv ρ).bind fun v => fun S' => match keyT k, S'[S.length]? with
  | some key, some (.dic []) => R.ok (T.obj S.length) (S'.set S.length (.dic [(key, v)]))
  | _, _ => .bad) (S ++ [.dic []])) := p0
 refine ⟨W.add p, _, ρ, rA, env.mono lA, (Post.bind (zmc p0 lA)).imp fun tk W1 S1 H1 l1 r1 p1 x dx => ?_⟩;refine ⟨W1, S1, ρ, r1, (env.mono lA).mono l1, (Post.bind p1).imp fun tv W2 S2 H2 l2 r2 p2 y dy => ?_⟩
 split at p2
 case h_2 => exact p2.elim
 case h_1 key ek es =>
  have eN : S.length = W.n := r.len;have hn : S.length < (W.add p).n := by rw [eN]; exact Nat.lt_succ_self _
  have eμ : W2.μ S.length = p := by rw [(l1.trans l2).μ _ hn, eN, Wd.add_at]
  have hn2 := r2.lt es;obtain ⟨⟨ks, g1, g2⟩, _⟩ := r2.cell _ _ es;obtain rfl := zdb.mp g2;rw [eμ] at g1;refine ⟨g1, [(key, y)], by rw [zom dx ek]; rfl, by simp, ?_⟩;have e2 : zno [] [(key, y)] = [(key, y)] := rfl;rw [e2, <- eμ];exact p2 W2 _ (Wd.le.refl _) (r2.cellSet es _ _ ⟨_, zaj, DenK.cons' dy DenK.nil'⟩) _ (zco.mpr ⟨rfl, hn2⟩)
end
end MF
namespace MF
open PySem L2
def subH (L : List Addr) : Addr -> Option Bool := fun C => if C ∈ L then some true else none
def subL (L : List Addr) (D : Addr) : Addr -> Option Bool := fun C => if C ∈ L then some (decide (C = D)) else none
section
variable {K : PySem.W.Frag} {h D : Addr} {L : List Addr}
theorem z6d (D : Addr) : bmVE.contains (.ref D) = false := rfl
theorem zw7 (C D : Addr) : (Value.ref C == Value.ref D) = decide (C = D) := by
 by_cases e : C = D
 ·subst e; simp
 ·rw [decide_eq_false e]; exact beq_eq_false_iff_ne.mpr (fun z => e (Value.ref.inj z))
theorem z6e (m : ∀ C ∈ L, C ≠ h -> zcu K C = some (.ref h :: bmVE)) (mh : zcu K h = some bmVE) : SubK K h (subH L) := fun C b e => by
 unfold subH at e
 split at e
 case isFalse => cases e
 case isTrue hC =>
  cases e;by_cases z : C = h
  ·subst z; exact ⟨_, mh, by rw [List.contains_cons, beq_self_eq_true]; rfl⟩
  ·exact ⟨_, m C hC z, by rw [List.contains_cons, List.contains_cons, beq_self_eq_true]; simp⟩
theorem z6f (m : ∀ C ∈ L, C ≠ h -> zcu K C = some (.ref h :: bmVE)) (mh : zcu K h = some bmVE) (hD : D ≠ h) : SubK K D (subL L D) := fun C b e => by
 unfold subL at e
 split at e
 case isFalse => cases e
 case isTrue hC =>
  cases e;by_cases z : C = h
  ·subst z; exact ⟨_, mh, by rw [List.contains_cons, z6d, zw7, Bool.or_false]; exact decide_eq_decide.mpr ⟨Eq.symm, Eq.symm⟩⟩
  ·refine ⟨_, m C hC z, ?_⟩
   rw [List.contains_cons, List.contains_cons, z6d, zw7, zw7, Bool.or_false, decide_eq_false (show ¬ D = h from hD), Bool.or_false];exact decide_eq_decide.mpr ⟨Eq.symm, Eq.symm⟩
theorem zky (m : ∀ C ∈ L, XKit K C /\ PySem.W.kitOne K (.ref C) (.ref D) = some (decide (C = D))) : SubX K (.ref D) (subL L D) := fun C b e => by
 unfold subL at e
 split at e
 case isFalse => cases e
 case isTrue hC => cases e; exact m C hC
theorem z6g (m : ∀ C ∈ L, XKit K C /\ PySem.W.kitOne K (.ref C) (.type "ValueError") = some true) : SubX K (.type "ValueError") (subH L) := fun C b e => by
 unfold subH at e
 split at e
 case isFalse => cases e
 case isTrue hC => cases e; exact m C hC
end
theorem z6h {P : Program} {w : World} {mg : Str -> Option Value} {base : Heap} {K : PySem.W.Frag} {k : Nat} {f : Addr} {fd : FuncData} {ps : List Str} {n : Nat} : FnOk P w K mg base (CXE P w) k f fd ps (spM n fun _ => M.bad) :=
 ⟨fun vs H Q E h => by obtain ⟨_, _, _, _, _, _, p⟩ := h; exact p.elim, fun A outer s H args us vs Q E _ _ _ _ h => by obtain ⟨_, _, _, _, _, _, p⟩ := h; exact p.elim⟩
end MF
namespace L2
open PySem PySem.Spec PyProof.Rows
section
variable {X : Cx} {pins : List (Addr × Obj)} {σ : List (Option V)} {H : Hp} {s : Shared} {h' : Heap}
theorem Inv.around {t' : Nat} (I : Inv X pins σ H s) (k : ∀ b o, b ≠ X.env.locals -> s.heap.get? b = some o -> h'.get? b = some o) (hn : ∀ m, s.heap.Ns X.env.locals m -> h'.Ns X.env.locals m) : Inv X pins σ H { s with heap := h', toks := t' } := by
 have nL : ∀ b u, H b = some u -> b ≠ X.env.locals := fun b u e z => by rw [z, I.free] at e; cases e
 refine I.step (g' := s.gens) (d' := s.drawn) (ch := []) (fun b hb => absurd hb List.not_mem_nil) (fun b o hl _ _ e _ => k b o hl e) (fun b o hl _ _ e _ => ⟨o.slots, k b o hl e⟩) (fun _ _ _ _ n => n) (fun b o _ e => ?_) (fun _ _ e => e) (fun _ _ _ e => e) (fun b ps e => ⟨#[], by rw [e]; simp⟩) hn (fun b u e => ?_) I.bare
 ·by_cases z : b = X.env.locals
  ·obtain ⟨m, hm, _⟩ := I.loc
   obtain ⟨o', es, ep, ho, _⟩ := hn m hm;exact ⟨o', by rw [z]; exact ho⟩
  ·exact ⟨o, k b o z e⟩
 ·refine (I.hok b u e).stay (fun c v hc q => k c v ?_ q) (fun _ q => q) fun _ _ q => q
  rcases hc with z | z
  ·rw [z]; exact nL b u e
  ·exact nL c _ z
theorem z6i {h : Heap} {a : Addr} {m m' : Str -> Option Value} (p : h.Ns a m) (q : h.Ns a m') : m = m' := by
 obtain ⟨o, es, ep, ho, hd, _, l⟩ := p;obtain ⟨o', es', ep', ho', hd', _, l'⟩ := q;rw [ho] at ho';cases ho';rw [hd] at hd';cases hd';funext n;rw [<- l n, l' n]
theorem zos : ∀ {xs : List V} {us : List Value} {i : Nat} {u : Value}, Vals xs us -> us[i]? = some u -> ∃ x, xs[i]? = some x /\ RelV x u
 | _, _, _, _, .nil, e => by simp at e
 | _, _, 0, _, .cons r _, e => by simp at e; subst e; exact ⟨_, rfl, r⟩
 | _, _, i + 1, _, .cons _ t, e => by
   obtain ⟨x, e1, e2⟩ := zos (i := i) t (by simpa using e);exact ⟨x, by simpa using e1, e2⟩
theorem zw8 (hc : X.calm = true) : zjl X (.builtin "any") (fun xs H Q => ∃ (a : Addr) (bs : List Bool), xs = [.ref a] /\ Rd H a (.lst (bs.map V.bl)) /\ Q (.bl (bs.any id)) H) := by
 intro pins s σ H xs us Q I r h;obtain ⟨a, bs, rfl, rd, q⟩ := h;obtain ⟨u, rfl, rx⟩ := zt5 r;cases (show u = Value.ref a from rx);obtain ⟨z, its, n, rv, e⟩ := rd.ok I.hok;have hl : s.heap.IsList a its.toArray := ⟨_, e, rfl, n, rfl⟩;have hlen := rv.length;have alt := Heap.lt_size e;refine call_any_walk (wpAny_pyIter_list hl ?_);have hh : X.A.in1.handled = none := I.ok.hd hc;refine ⟨_, _, _, _, _, _, fun i => bs.getD i false, rfl, Walks.list hh s.heap.objs.size a (Nat.ne_of_lt alt) its.toArray, ⟨⟨_, Heap.get?_push_size _ rfl, rfl, rfl⟩, hl.push _⟩, ?_, fun h' tk hk => ?_⟩
 ·intro i v s' Q' E' hP hQ
  obtain ⟨x, e1, e2⟩ := zos (i := i) (u := v) rv (by simpa using hP);rw [List.getElem?_map] at e1;cases e3 : bs[i]? with
  | none => rw [e3] at e1; cases e1
  | some b =>
    rw [e3] at e1;cases e1;cases (show v = Value.bool b from e2);have : bs.getD i false = b := by simp [List.getD, e3]
    have hQ : Q' (bs.getD i false) s' := hQ;rw [this] at hQ;exact wpAny_truthy_bool hQ
 ·have ev : (List.range its.toArray.size).any (fun i => bs.getD i false) = bs.any id := by
   rw [List.size_toArray, <- hlen, List.length_map, Bool.eq_iff_iff, List.any_eq_true, List.any_eq_true];constructor
   ·rintro ⟨i, hi, e⟩
    have hi := List.mem_range.mp hi;refine ⟨bs[i], List.getElem_mem hi, ?_⟩;simpa [List.getD, List.getElem?_eq_getElem hi] using e
   ·rintro ⟨b, hb, e⟩
    obtain ⟨i, hi, rfl⟩ := List.getElem_of_mem hb;exact ⟨i, List.mem_range.mpr hi, by simpa [List.getD, List.getElem?_eq_getElem hi] using e⟩
  rw [ev];exact ⟨.bl _, H, I.kept fun b o eb => hk b o (by simpa using Nat.ne_of_lt (Heap.lt_size eb)) (Heap.get?_push_of_some _ eb), rfl, q⟩
def rMin : List V -> Hp -> VK -> Prop := fun xs H Q => ∃ (a : Addr) (ys : List V) (kf : Nat -> Int), xs = [.ref a] /\ Rd H a (.lst ys) /\ 0 < ys.length /\ (∀ (i : Nat) x, ys[i]? = some x -> ∃ b zs, x = .ref b /\ Rd H b (.lst zs) /\ kf i = (zs.length : Int)) /\
 ∀ (i : Nat) x, ys[i]? = some x -> (∀ j, j < ys.length -> kf i <= kf j /\ (j < i -> kf i < kf j)) -> Q x H
theorem zry {H : Hp} {a : Addr} {o : HO} (r : Rd H a o) : ∃ u, H a = some u := by
 rcases r with r | ⟨q, r⟩
 ·exact ⟨_, r⟩
 ·exact ⟨_, r⟩
theorem zrz {xs : List V} {us : List Value} {Q : VK} {E : Value -> Shared -> Prop} (hc : X.calm = true) (I : Inv X pins σ H s) (r : Vals xs us) (h : rMin xs H Q) :
 wpAny (model X.prog X.w) X.A (call (.builtin "min") us [(Str.ofString "key", .builtin "len")]) (fun u s' => ∃ v H', Inv X pins σ H' s' /\ RelV v u /\ Q v H') E s := by
 obtain ⟨a, ys, kf, rfl, rd, hne, hk, q⟩ := h;obtain ⟨u, rfl, rx⟩ := zt5 r;cases (show u = Value.ref a from rx);obtain ⟨z, its, n, rv, e⟩ := rd.ok I.hok;obtain ⟨m, hm, _⟩ := I.loc;have hlen := rv.length;have nL : ∀ b u, H b = some u -> b ≠ X.env.locals := fun b u e z => by rw [z, I.free] at e; cases e
 have h0 : ∀ b, ({} : Heap).get? b = none := by intro b; simp [Heap.get?]
 obtain ⟨news, mem⟩ : ∃ news : List (Addr × Obj), ∀ b o, (b, o) ∈ news ↔ b ≠ X.env.locals /\ s.heap.get? b = some o := by
  refine ⟨(List.range s.heap.objs.size).filterMap fun b => if b = X.env.locals then none else (s.heap.get? b).map fun o => (b, o), fun b o => ?_⟩;rw [List.mem_filterMap];constructor
  ·rintro ⟨c, _, e⟩
   by_cases z : c = X.env.locals
   ·rw [if_pos z] at e; cases e
   ·rw [if_neg z] at e
    cases e2 : s.heap.get? c with
    | none => rw [e2] at e; cases e
    | some o' => rw [e2] at e; cases e; exact ⟨z, e2⟩
  ·rintro ⟨z, e⟩
   exact ⟨b, List.mem_range.mpr (Heap.lt_size e), by rw [if_neg z, e]; rfl⟩
 have F : Fr {} X.env.locals s.heap m := ⟨hm, fun b o e => (by rw [h0] at e; cases e), Nat.zero_le _⟩;have N : News {} X.env.locals s.heap news := fun p hp => by
  obtain ⟨b, o⟩ := p;obtain ⟨h1, h2⟩ := (mem b o).mp hp;exact ⟨h2, h1, h0 _⟩
 obtain ⟨ua, ea⟩ := zry rd;have hl : ∀ h, Fr {} X.env.locals h m -> News {} X.env.locals h news -> h.IsList a its.toArray := fun h _ N' => ⟨_, (N' (a, _) ((mem a _).mpr ⟨nL a _ ea, e⟩)).1, rfl, n, rfl⟩;refine kmb_min (kid := "len") (vs := its) kf (I.ok.hd hc) F N hl (by rw [<- hlen]; exact hne) (fun i v hv h tk own F' N' => ?_) (fun i v h' tk' hv hb F' N' => ?_)
 ·obtain ⟨x, e1, e2⟩ := zos rv hv
  obtain ⟨b, zs, rfl, rdb, ek⟩ := hk i x e1;cases (show v = Value.ref b from e2);obtain ⟨z2, its2, n2, rv2, eb⟩ := rdb.ok I.hok;obtain ⟨ub, eub⟩ := zry rdb;have hlb : h.IsList b its2.toArray := ⟨_, (N' (b, _) (List.mem_append_left _ ((mem b _).mpr ⟨nL b _ eub, eb⟩))).1, rfl, n2, rfl⟩;have hl2 := rv2.length;have hs : sizeLine = 16777216 := sizeLine_eq;refine Calls.call_len_list (s := { s with heap := h, toks := tk }) hlb (by simp only [List.size_toArray]; omega) ?_;have ek2 : kf i = ((its2.toArray.size : Nat) : Int) := by rw [ek, List.size_toArray, hl2]
  rw [ek2];exact KskEnd.intro F' N' fun p hp => hp
 ·obtain ⟨x, e1, e2⟩ := zos rv hv
  exact ⟨x, H, I.around (fun b o hb eb => (N' (b, o) ((mem b o).mpr ⟨hb, eb⟩)).1) (fun m' hm' => by rw [z6i hm' hm]; exact F'.ns), e2, q i x e1 fun j hj => hb j (by rw [<- hlen]; exact hj)⟩
theorem zw9 {e : Expr} {te : TA} {p kp kpos pos : Pos} (hc : X.calm = true) (hg : Gl X "min") (hm : X.mg "min" = none) (hg2 : Gl X "len") (hm2 : X.mg "len" = none) (he : PA X [e] te)
 (hb : backTo pos (starEach [e] X.env) = (false, eval e X.env) :: backTo pos (starEach [] X.env) := by rfl) (hpl : (backTo pos (starEach [e] X.env)).any (·.1) = false := by rfl) :
 PE X (.Call (.Name "min" p) [e] [⟨some "key", .Name "len" kp, kpos⟩] pos) (tCB rMin te) := by
 intro pins s σ H Q I h;refine wpAny_Call_Name_kw (znm I hg hm boot_min ?_);refine callWith_kw (thn (he pos pins s σ H _ I h) fun us s1 hq_ => ?_) hb hpl;obtain ⟨vs, H1, I1, r1, q1⟩ := hq_;refine kws_cons (znm I1 hg2 hm2 boot_len (kws_nil ?_));exact zrz hc I1 r1 q1
theorem zzd {e : Expr} {te : TE} {pos : Pos} (hgd : X.A.guards = some []) (hu : X.A.units + 64 < cLine) (he : PE X e te) : PE X (.FormattedValue e 114 none pos) (fun σ H Q => te σ H fun v H1 => ∃ d a, MF.RdD H1 d v /\ v = .ref a /\ d.showable = true /\ d.hasDict = false /\ d.depth <= 50 /\ d.shown.length <= sizeLine /\ Q (.str d.shown) H1) := by
 intro pins s σ H Q I h;refine wpAny_FormattedValue_repr (thn (he pins s σ H _ I h) fun v s1 hq_ => ?_);obtain ⟨x, H1, I1, r, d, a, rd, e, hs, hd, hdep, l, q⟩ := hq_;subst e;cases (show v = Value.ref a from r);obtain ⟨as, rr⟩ := MF.reads_of I1.hok d _ _ rd rfl;refine pyReprObj_of_reads rr hs (fun z => by rw [hd] at z; cases z) hgd (by omega) (fun b o e => e) (fun h' u tk hk => ?_) l;exact formatField_str (hsz := l) fun t' tk => ⟨.str _, H1, (I1.kept (t' := tk) hk), ⟨t', rfl⟩, q⟩
end
end L2
namespace MF
open PySem L2
def zqd : List T -> Option (List Bool)
 | [] => some []
 | .bl b :: ts => (zqd ts).map (b :: ·)
 | _ :: _ => none
theorem zxa {W : Wd} : ∀ {ts : List T} {vs : List V} {bs : List Bool}, Dens W ts vs -> zqd ts = some bs -> vs = bs.map V.bl
 | [], vs, ys, h, e => by cases e; exact zbk.mp h
 | t :: ts, vs, ys, h, e => by
   obtain ⟨v, r, rfl, h1, h2⟩ := za1.mp h;cases t with
   | bl x =>
     simp only [zqd] at e;obtain ⟨zs, e1, rfl⟩ := Option.map_eq_some_iff.mp e;rw [zbq.mp h1, zxa h2 e1];rfl
   | _ => simp [zqd] at e
def gAny (t : T) : M T := fun S => match (za6 S t).bind zqd with
 | some bs => .ok (.bl (bs.any id)) S
 | none => .bad
def z2z (S : Sto) (ts : List T) : Option (List Nat) := mapO (fun t => (za6 S t).map List.length) ts
def zju (ls : List Nat) (i : Nat) : Prop := ∃ n, ls[i]? = some n /\ ∀ j k, ls[j]? = some k -> n <= k /\ (j < i -> n < k)
theorem zju.one {ls : List Nat} {i j : Nat} (a : zju ls i) (b : zju ls j) : i = j := by
 obtain ⟨n, e1, h1⟩ := a;obtain ⟨k, e2, h2⟩ := b;have p := h1 j k e2;have q := h2 i n e1;rcases Nat.lt_trichotomy i j with h | h | h
 ·have := q.2 h; omega
 ·exact h
 ·have := p.2 h; omega
open Classical in
def gMin (t : T) : M T := fun S => match za6 S t with
 | some ts => (match z2z S ts with
   | some ls => if h : ∃ i, zju ls i then (match ts[h.choose]? with
     | some u => .ok u S
     | none => .bad) else .bad
   | none => .bad)
 | none => .bad
theorem zxb {α β : Type} {f : α -> Option β} : ∀ {l : List α} {m : List β}, mapO f l = some m -> l.length = m.length /\ ∀ (i : Nat) x, l[i]? = some x -> ∃ y, m[i]? = some y /\ f x = some y
 | [], m, e => by cases e; exact ⟨rfl, fun i x h => by simp at h⟩
 | a :: l, m, e => by
   unfold mapO at e;cases e1 : f a with
   | none => simp [e1] at e
   | some b =>
     cases e2 : mapO f l with
     | none => simp [e1, e2] at e
     | some r =>
       simp [e1, e2] at e;subst e;obtain ⟨h1, h2⟩ := zxb e2;refine ⟨by simp [h1], fun i x h => ?_⟩;cases i with
       | zero => simp at h; subst h; exact ⟨b, rfl, e1⟩
       | succ i => simpa using h2 i x (by simpa using h)
theorem zqe : ∀ (l : List Str), PyData.showableAll (l.map PyData.str) = true
 | [] => by simp [PyData.showableAll]
 | a :: r => by simp [PyData.showableAll, PyData.showable, zqe r]
theorem zqf : ∀ (l : List Str), PyData.hasDictAll (l.map PyData.str) = false
 | [] => by simp [PyData.hasDictAll]
 | a :: r => by simp [PyData.hasDictAll, PyData.hasDict, zqf r]
theorem zmf : ∀ (l : List Str), PyData.depthAll (l.map PyData.str) = 0
 | [] => by simp [PyData.depthAll]
 | a :: r => by simp [PyData.depthAll, PyData.depth, zmf r]
theorem zqg {H : Hp} : ∀ (l : List Str), RdDs H (l.map PyData.str) (l.map V.str)
 | [] => by simp [RdDs]
 | a :: r => by
   simp only [List.map_cons, RdDs];exact ⟨_, _, rfl, by simp [RdD], zqg r⟩
section
variable {X : Cx} {E : XK} {e : Expr} {fa : DE} {pos p kp kpos : Pos}
theorem z75 (hc : X.calm = true) (gl : Gl X "any") (hm : X.mg "any" = none) (ha : PE X e (RE E fa))
 (he : starEach [e] X.env = (false, eval e X.env) :: starEach [] X.env := by rfl) (hpl : (backTo pos (starEach [] X.env)).any (·.1) = false := by rfl) : PE X (.Call (.Name "any" p) [e] [] pos) (RE E (e1 gAny fa)) :=
 zrp (zw8 hc) (fun t W S H v Q r d p => by
  unfold gAny at p;cases e : (za6 S t).bind zqd with
  | none => rw [e] at p; exact p.elim
  | some bs =>
    rw [e] at p;obtain ⟨ts, e1, e2⟩ := Option.bind_eq_some_iff.mp e;obtain ⟨a, vs, rfl, h1, h2⟩ := r.list d e1;rw [zxa h2 e2] at h1;exact ⟨a, bs, rfl, h1, now p r (zbq.mpr rfl)⟩) gl hm PyProof.Rows.boot_any ha (by decide) (by decide) he hpl
theorem zze (hc : X.calm = true) (hg : Gl X "min") (hm : X.mg "min" = none) (hg2 : Gl X "len") (hm2 : X.mg "len" = none) (ha : PE X e (RE E fa))
 (hs : starEach [e] X.env = (false, eval e X.env) :: starEach [] X.env := by rfl)
 (hb : backTo pos (starEach [e] X.env) = (false, eval e X.env) :: backTo pos (starEach [] X.env) := by rfl) (hpl : (backTo pos (starEach [e] X.env)).any (·.1) = false := by rfl) :
 PE X (.Call (.Name "min" p) [e] [⟨some "key", .Name "len" kp, kpos⟩] pos) (RE E (e1 gMin fa)) :=
 zcv (zw9 hc hg hm hg2 hm2 (zev ha ziy hs) hb hpl) fun σ H Q h => re1 (r := fun x H Q => rMin [x] H Q) (fun t W S H v Q r d p => by
  unfold gMin at p;cases e1 : za6 S t with
  | none => simp only [e1] at p; exact p.elim
  | some ts =>
    simp only [e1] at p;cases e2 : z2z S ts with
    | none => simp only [e2] at p; exact p.elim
    | some ls =>
      simp only [e2] at p
      split at p
      case isFalse => exact p.elim
      case isTrue hx =>
       obtain ⟨a, vs, rfl, h1, h2⟩ := r.list d e1;obtain ⟨l1, l2⟩ := zxb e2;have hlen := h2.length;refine ⟨a, vs, fun i => ((ls[i]?).getD 0 : Nat), rfl, h1, ?_, fun i x ex => ?_, fun i x ex hbest => ?_⟩
       ·obtain ⟨i, n, en, _⟩ := hx
        have := (List.getElem?_eq_some_iff.mp en).1;omega
       ·obtain ⟨tx, et, dx⟩ := h2.get' ex
        obtain ⟨n, en, hn⟩ := l2 i tx et;obtain ⟨us, eu, rfl⟩ := Option.map_eq_some_iff.mp hn;obtain ⟨b, ws, rfl, g1, g2⟩ := r.list dx eu;refine ⟨b, ws, rfl, g1, ?_⟩;show (((ls[i]?).getD 0 : Nat) : Int) = _;rw [en, <- g2.length];rfl
       ·obtain ⟨tx, et, dx⟩ := h2.get' ex
        obtain ⟨n, en, hn⟩ := l2 i tx et;have bi : zju ls i := ⟨n, en, fun j k ek => by
         have hj : j < vs.length := by have := (List.getElem?_eq_some_iff.mp ek).1; omega
         have := hbest j hj;simp only [en, ek, Option.getD_some] at this;omega⟩
        have ec := zju.one hx.choose_spec bi;rw [ec, et] at p;exact now p r dx) h
end
end MF
namespace MF
open PySem L2 PyProof.Rows
open Classical in
def z76 (ys : List Str) : List Str := if h : ∃ zs : List Str, zs.Perm ys /\ sortedS zs = true then h.choose else ys
def z77 (t : T) : M T := fun S => match (za6 S t).bind zi2 with
 | some ys => if ys.length < 64 then .ok (.lst ((z76 ys).map T.str)) S else .bad
 | none => .bad
theorem zqh {W : Wd} : ∀ (l : List Str), Dens W (l.map T.str) (l.map V.str)
 | [] => Dens.nil'
 | a :: r => Dens.cons' (zbj.mpr rfl) (zqh r)
def spX1 (C : Addr) (f : Str) : Sp := fun vs H Q _ => ∃ (e a : Addr) (zs : List Str), vs = [.ref e, .ref a] /\ H e = some (excO e C none) /\ Rd H a (.lst (zs.map V.str)) /\ zs.length <= 1000 /\ (PyData.shown (.list (zs.map PyData.str))).length <= 800 /\
 ∀ l d, H l = none -> l ≠ d -> H d = none -> Q .non (upd (upd (upd H l (.lst (zs.map V.str))) e (excO e C (some d))) d (.xd [(f, .ref l)]))
section
variable {P : Program} {w : World} {K : PySem.W.Frag} {mg : Str -> Option Value} {base : Heap}
theorem zzf {qual : Str} {st : Stmt} {dV : Value} {C fI : Addr} {fd : FuncData} {p1 f : Str} {k : Nat} {tm tl : TE} (F : FunV K "__init__" qual st dV fI fd) (S : zao ["self", p1] ["self", p1] (zab st))
 (hx : XCls K C) (q : zej K C fI = true) (nf : PySem.W.findIn K (.ref C) f = some none)
 (hbody : ∀ (cdv : Value) (A : Around) (outer : List Env) (s : Shared) (H : Hp) (E : XK), Room k (A.deeper (envOfC qual (zab st) s.heap.objs.size fI cdv)) ->
  PSs (cxOf (CXE P w) P w K mg base ["self", p1] qual (zab st) fI cdv A outer s H E) (zal st) (tSeq (z08 (zvx K (zpi (tVar 0) (zpi tm tNil)))) (zyo K (tVar 0) tl f)))
 (hmsg : ∀ (e a : Addr) (zs : List Str) (H : Hp) (Q : VK), Rd H a (.lst (zs.map V.str)) -> (PyData.shown (.list (zs.map PyData.str))).length <= 800 -> (∀ m, Q (.str m) H) -> tm [some (.ref e), some (.ref a)] H Q)
 (hlist : ∀ (e a : Addr) (zs : List Str) (H : Hp) (Q : VK), Rd H a (.lst (zs.map V.str)) -> (∀ l, H l = none -> Q (.ref l) (upd H l (.lst (zs.map V.str)))) -> tl [some (.ref e), some (.ref a)] H Q) :
 FnOk P w K mg base (CXE P w) (k + 1) fI fd ["self", p1] (spX1 C f) := by
 refine F.okE S (fun vs H Q E h => ?_) fun cdv A outer s H vs Q E hr h => ⟨_, hbody cdv A outer s H E hr, ?_⟩
 ·obtain ⟨e, a, zs, rfl, _⟩ := h; rfl
 ·obtain ⟨e, a, zs, rfl, he, rd, hz, hsh, h⟩ := h
  refine ⟨.ref e, rfl, hmsg e a zs H _ rd hsh fun m => ?_⟩;refine ⟨e, .str m, C, fI, none, rfl, he, q, ?_⟩;refine hlist e a zs H _ rd fun l hl => ?_;have le : l ≠ e := fun z => by rw [z, he] at hl; cases hl
  refine ⟨.ref e, rfl, e, C, rfl, hx, nf, .inl ⟨by rw [zai (Ne.symm le)]; exact he, fun d hd => ?_⟩⟩;have dl : d ≠ l := fun z => by rw [z, zaj] at hd; cases hd
  rw [zai dl] at hd;exact h l d hl (Ne.symm dl) hd
end
def zot (C : Addr) (f : Str) (fr : DA) : DS := fun ρ => (fr ρ).bind fun ts => fun S => match ts with
 | [x] => (match (za6 S x).bind zi2 with
   | some zs => if zs.length <= 1000 /\ (PyData.shown (.list (zs.map PyData.str))).length <= 800 then .exc C (some [(f, .lst (zs.map T.str))]) S else .bad
   | none => .bad)
 | _ => .bad
section
variable {X : Cx} {E : XK} {k : Nat} {C fI : Addr} {fd : FuncData} {ps : List Str} {f y : Str} {np cpos pos : Pos} {e : Expr} {es : List Expr} {fr : DA}
theorem zzg (hx : zjp X E) (hc : X.calm = true) (q : zej X.K C fI = true) (hf : PySem.W.isFn X.K (.ref fI) = true) (F : FnOk X.prog X.w X.K X.mg X.base (CXE X.prog X.w) k fI fd ps (spX1 C f)) (hr : Room (k + 1) X.A) (hb : zfa X.K fd ps [])
 (hg : Gl X y) (hm : X.mg y = some (.ref C)) (ha : PA X (e :: es) (RA E fr))
 (hdb : (y == ("__debug__" : Str)) = false := by decide) (he : starEach (e :: es) X.env = (false, eval e X.env) :: starEach es X.env := by rfl) (hpl : (backTo cpos (starEach es X.env)).any (·.1) = false := by rfl) :
 PS X (.Raise (some (.Call (.Name y np) (e :: es) [] cpos)) none pos) (RS E (zot C f fr)) := zjd (zpv hx ztc hc q hf F hr hb hg hm ha hdb he hpl) fun D σ H h => by
 obtain ⟨W, S, ρ, rp, env, p⟩ := h;refine ⟨W, S, ρ, rp, env, (Post.bind p).imp fun ts W1 S1 H1 l1 r1 p1 vs dv => ?_⟩
 split at p1
 case h_2 => exact p1.elim
 case h_1 tx =>
  cases ez : (za6 S1 tx).bind zi2 with
  | none => simp only [ez] at p1; exact p1.elim
  | some zs =>
    simp only [ez] at p1
    split at p1
    case isFalse => exact p1.elim
    case isTrue ok =>
     obtain ⟨u, rfl, du⟩ := zhl dv;obtain ⟨us, e1, e2⟩ := Option.bind_eq_some_iff.mp ez;obtain ⟨a, ws, rfl, g1, g2⟩ := r1.list du e1;rw [zs8 g2 e2] at g1;obtain ⟨ua, eua⟩ := zry g1;refine ⟨by show 1 <= sizeLine; rw [sizeLine_eq]; omega, fun ea hea => ?_⟩;have aea : a ≠ ea := fun z => by rw [z, hea] at eua; cases eua
     have g1' : Rd (upd H1 ea (excO ea C none)) a (.lst (zs.map V.str)) := by
      rcases g1 with g | ⟨o, g⟩
      ·exact .inl (by rw [zai aea]; exact g)
      ·exact .inr ⟨o, by rw [zai aea]; exact g⟩
     refine ⟨ea, a, zs, rfl, zaj, g1', ok.1, ok.2, fun l d hl ld hd => ⟨rfl, some d, ?_, ?_⟩⟩
     ·have ne : ea ≠ d := fun z => by rw [z, zaj] at hd; cases hd
      rw [zai ne, zaj]
     ·have dne : d ≠ ea := fun z => by rw [z, zaj] at hd; cases hd
      have lne : l ≠ ea := fun z => by rw [z, zaj] at hl; cases hl
      have hd1 : H1 d = none := by rw [zai dne] at hd; exact hd
      have hl1 : H1 l = none := by rw [zai lne] at hl; exact hl
      have eqH : unt (upd (upd (upd (upd H1 ea (excO ea C none)) l (.lst (zs.map V.str))) ea (excO ea C (some d))) d (.xd [(f, .ref l)])) ea = upd (upd H1 l (.lst (zs.map V.str))) d (.xd [(f, .ref l)]) := by
       funext b;by_cases z : b = ea
       ·subst z
        rw [zjo, zai (Ne.symm dne), zai (Ne.symm lne)]; exact hea.symm
       ·rw [zkx z]
        by_cases z2 : b = d
        ·subst z2; rw [zaj, zaj]
        ·rw [zai z2, zai z, zai z2]
         by_cases z3 : b = l
         ·subst z3; rw [zaj, zaj]
         ·rw [zai z3, zai z, zai z3]
      rw [eqH];have l2 : W1.le (W1.frz l (.lst (zs.map V.str))) := Wd.frz_le (r1.hsNone hl1);have r2 := r1.frz hl1 (.lst (zs.map V.str)) trivial;have hd2 : upd H1 l (.lst (zs.map V.str)) d = none := by rw [zai (Ne.symm ld)]; exact hd1
      exact p1 _ _ (some d) l2 (r2.extra hd2 _) ⟨_, zaj, r2.hsNone hd2, ⟨.ref l, _, rfl, zew.mpr ⟨l, _, rfl, zaj, zqh zs⟩, rfl⟩⟩
end
end MF
namespace MF
open PySem L2 PyProof.Rows
theorem len1 {α : Type} : ∀ {l : List α}, l.length = 1 -> ∃ a0, l = [a0]
 | [a0], _ => ⟨a0, rfl⟩
theorem len2 {α : Type} : ∀ {l : List α}, l.length = 2 -> ∃ a0 a1, l = [a0, a1]
 | [a0, a1], _ => ⟨a0, a1, rfl⟩
theorem len3 {α : Type} : ∀ {l : List α}, l.length = 3 -> ∃ a0 a1 a2, l = [a0, a1, a2]
 | [a0, a1, a2], _ => ⟨a0, a1, a2, rfl⟩
theorem len4 {α : Type} : ∀ {l : List α}, l.length = 4 -> ∃ a0 a1 a2 a3, l = [a0, a1, a2, a3]
 | [a0, a1, a2, a3], _ => ⟨a0, a1, a2, a3, rfl⟩
theorem len5 {α : Type} : ∀ {l : List α}, l.length = 5 -> ∃ a0 a1 a2 a3 a4, l = [a0, a1, a2, a3, a4]
 | [a0, a1, a2, a3, a4], _ => ⟨a0, a1, a2, a3, a4, rfl⟩
theorem len6 {α : Type} : ∀ {l : List α}, l.length = 6 -> ∃ a0 a1 a2 a3 a4 a5, l = [a0, a1, a2, a3, a4, a5]
 | [a0, a1, a2, a3, a4, a5], _ => ⟨a0, a1, a2, a3, a4, a5, rfl⟩
def gNeg (t : T) : M T := fun S => match t with
 | .int i => .ok (.int (-i)) S
 | _ => .bad
section
variable {X : Cx} {E : XK} {e : Expr} {fa : DE} {pos : Pos}
theorem z78 (ha : PE X e (RE E fa)) : PE X (.UnaryOp .USub e pos) (RE E (e1 gNeg fa)) := zcv (z65 z4l ha) fun σ H Q h => re1 (r := rU fun i => .int (-i)) (fun t W S H v Q r d p => by
 unfold gNeg at p
 split at p
 ·rename_i i; exact ⟨i, za2.mp d, now p r (za2.mpr rfl)⟩
 ·exact p.elim) h
end
def z6j (te : TE) : TE := fun σ H Q => te σ H fun v H1 => ∃ d a, RdD H1 d v /\ v = .ref a /\ d.showable = true /\ d.hasDict = false /\ d.depth <= 50 /\ d.shown.length <= sizeLine /\ Q (.str d.shown) H1
def z20 (te : TE) : TE := fun σ H Q => te σ H fun v H1 => ∃ y, v = .str y /\ (reprText y).length <= sizeLine /\ Q (.str (reprText y)) H1
def z21 (K : PySem.W.Frag) : TE := tCB (fun xs H Q => ∃ p ys, xs = [.ref p] /\ (SqL K H p ys \/ SqT K H p ys) /\ ∀ l, H l = none -> Q (.ref l) (upd H l (.lst ys))) (zpi (tVar 1) tNil)
theorem zzh (pre : String) (hp : (Str.ofString pre).length <= 100) : ∀ (e a : Addr) (zs : List Str) (H : Hp) (Q : VK), Rd H a (.lst (zs.map V.str)) -> (PyData.shown (.list (zs.map PyData.str))).length <= 800 -> (∀ m, Q (.str m) H) -> tJ Str.empty [tC (.str pre), z6j (tVar 1)] [some (.ref e), some (.ref a)] H Q := by
 intro e a zs H Q rd hl q;have e0 : Str.empty.length = 0 := rfl;have hs : sizeLine = 16777216 := sizeLine_eq;refine ⟨_, rfl, by rw [Str.length_append]; omega, .ref a, rfl, .list (zs.map PyData.str), a, by simp only [RdD]; exact ⟨a, _, rfl, rd, zqg zs⟩, rfl, by simp [PyData.showable, zqe], by simp [PyData.hasDict, zqf], by simp [PyData.depth, zmf], by omega, _, rfl, by rw [Str.length_append, Str.length_append]; omega, ?_⟩;exact ⟨by rw [Str.length_append, Str.length_append]; omega, q _⟩
theorem zxc (K : PySem.W.Frag) : ∀ (e a : Addr) (zs : List Str) (H : Hp) (Q : VK), Rd H a (.lst (zs.map V.str)) -> (∀ l, H l = none -> Q (.ref l) (upd H l (.lst (zs.map V.str)))) -> z21 K [some (.ref e), some (.ref a)] H Q :=
 fun e a zs H Q rd q => ⟨.ref a, rfl, a, _, rfl, .inl (.inl rd), q⟩
theorem z22 (mid : String) (hp : (Str.ofString mid).length <= 100) : ∀ (e : Addr) (x y : V) (H : Hp) (Q : VK), okV true x y -> (∀ m, Q (.str m) H) -> tJ Str.empty [z20 (tVar 1), tC (.str mid), z20 (tVar 2)] [some (.ref e), some x, some y] H Q := by
 rintro e x y H Q ⟨a, rfl, ha, hb⟩ q;obtain ⟨b, rfl, hb⟩ := hb rfl;have e0 : Str.empty.length = 0 := rfl;have hs : sizeLine = 16777216 := sizeLine_eq;refine ⟨_, rfl, a, rfl, by omega, _, rfl, by rw [Str.length_append]; omega, _, rfl, by rw [Str.length_append, Str.length_append]; omega, _, rfl, b, rfl, by omega, _, rfl, by rw [Str.length_append, Str.length_append, Str.length_append]; omega, ?_⟩;exact ⟨by rw [Str.length_append, Str.length_append, Str.length_append]; omega, q _⟩
theorem z23 (pre post : String) (hp : (Str.ofString pre).length <= 100) (hq : (Str.ofString post).length <= 100) : ∀ (e : Addr) (x y : V) (H : Hp) (Q : VK), okV false x y -> (∀ m, Q (.str m) H) -> tJ Str.empty [tC (.str pre), z20 (tVar 1), tC (.str post)] [some (.ref e), some x, some y] H Q := by
 rintro e x y H Q ⟨a, rfl, ha, hb⟩ q;have e0 : Str.empty.length = 0 := rfl;have hs : sizeLine = 16777216 := sizeLine_eq;refine ⟨_, rfl, by rw [Str.length_append]; omega, _, rfl, a, rfl, by omega, _, rfl, by rw [Str.length_append, Str.length_append]; omega, _, rfl, by rw [Str.length_append, Str.length_append, Str.length_append]; omega, ?_⟩;exact ⟨by rw [Str.length_append, Str.length_append, Str.length_append]; omega, q _⟩
structure X1At (P : Program) (w : World) (K : PySem.W.Frag) (mg : Str -> Option Value) (base : Heap) (k : Nat) (C : Addr) (f : Str) (ps : List Str) (fI : Addr) (fd : FuncData) : Prop where
 ok : FnOk P w K mg base (CXE P w) k fI fd ps (spX1 C f)
 q : zej K C fI = true
 hf : PySem.W.isFn K (.ref fI) = true
 hb : zfa K fd ps []
structure X2At (P : Program) (w : World) (K : PySem.W.Frag) (mg : Str -> Option Value) (base : Heap) (k : Nat) (C : Addr) (f g : Str) (two : Bool) (ps : List Str) (fI : Addr) (fd : FuncData) : Prop where
 ok : FnOk P w K mg base (CXE P w) k fI fd ps (spX2 C f g two)
 q : zej K C fI = true
 hf : PySem.W.isFn K (.ref fI) = true
 hb : zfa K fd ps []
section
variable {X : Cx} {E : XK} {e : Expr} {es : List Expr} {fr : DA} {pos p : Pos} {P : Program} {w : World} {K : PySem.W.Frag} {mg : Str -> Option Value} {base : Heap} {A : Around} {k : Nat} {x : Str} {ps : List Str} {F : Fn} {f : Addr} {fd : FuncData}
theorem z24 {n : Nat} (G : FnAt P w K mg base k x ps F f fd) (hr : Room k A) (hg : Gl X x) (hx : zei (CXE X.prog X.w) X E) (ha : PA X (e :: es) (RA E fr))
 (hP : X.prog = P := by rfl) (hw : X.w = w := by rfl) (hK : X.K = K := by rfl) (hmg : X.mg = mg := by rfl) (hB : X.base = base := by rfl) (hA : X.A = A := by rfl)
 (hdb : (x == ("__debug__" : Str)) = false := by decide) (he : starEach (e :: es) X.env = (false, eval e X.env) :: starEach es X.env := by rfl) (hpl : (backTo pos (starEach es X.env)).any (·.1) = false := by rfl) (hn : ps.length = n := by rfl) :
 PE X (.Call (.Name x p) (e :: es) [] pos) (RE E (zbl (lenF n F) [] fr)) := by
 subst hP hw hK hmg hB hA hn;exact zaz G hr hg hx ha hdb he hpl
end
end MF
namespace L2
open PySem PySem.Spec PyProof.Rows
def Itx (x : Str) : It := ⟨fun i _ => i < x.cps.size, fun i H v H' => H' = H /\ ∃ q, x.cps[i]? = some q /\ v = .str ⟨#[q]⟩, fun i _ => x.cps.size <= i⟩
theorem zqi {P : Program} {w : World} {K : PySem.W.Frag} {tg : Expr} (it : Addr) (n : String) (x : Str) (t : Tok)
 (hn : ["enumerate", "zip", "dict_itemiterator", "dict_reverseitemiterator", "odict_iterator", "itertools.zip_longest", "itertools.pairwise"].contains n = false)
 (W : ∀ A : Around, A.handled = none -> Walks P w A it [it] [it] x.cps.size (SignAt x) (fun i h => h.IsStrIter it n x t i))
 (sf : ∀ (A : Around) (i : Nat) (s : Shared) (Q : Value -> Shared -> Prop) (E : Value -> Shared -> Prop), s.heap.IsStrIter it n x t i -> Q (.ref it) s -> wpAny (model P w) A (pyIter (.ref it)) Q E s) : Turn P w K tg (Itx x) [it] it (fun i h => h.IsStrIter it n x t i /\ i <= x.cps.size) where
 mem := by simp
 obj := fun i h st b hb => by
  have e : b = it := by simpa using hb
  subst e;obtain ⟨⟨o, e, c, d⟩, _⟩ := st;exact ⟨o, e, fun v z => by rw [d] at z; cases z⟩
 keep := fun i h h' st k => ⟨by
  obtain ⟨⟨o, e, c, d⟩, _⟩ := st;exact ⟨o, k it (by simp) o e, c, d⟩, st.2⟩
 item := by
  intro X hP hw hK hc i pins s σ H E I hf st hg;subst hP hw hK;obtain ⟨f0, f1, f2, f3, f4, f5⟩ := hf it (by simp);have hg' : i < x.cps.size := hg;refine (W _ (I.ok.hd hc)).item i s _ _ hg' st.1 fun v h' tk hv st' kk => ?_;obtain ⟨q, u, hq, rfl⟩ := hv;have I1 : Inv X pins σ H { s with heap := h', toks := tk } := I.turned (fun b o hb e => kk b o (by simpa using hb) e) f0 f1 f3 f4 f5;obtain ⟨o, e, c, d⟩ := id st';exact ⟨_, rfl, z1c (s := { s with heap := h', toks := tk }) e c d hn ⟨.str ⟨#[q]⟩, H, I1, ⟨u, rfl⟩, ⟨rfl, q, hq, rfl⟩, ⟨st', hg'⟩, fun b hb => (hf b hb).1⟩⟩
 done := by
  intro X hP hw hK hc i pins s σ H E I hf st hg;subst hP hw hK;obtain ⟨f0, f1, f2, f3, f4, f5⟩ := hf it (by simp);have hg' : x.cps.size <= i := hg;have e : i = x.cps.size := Nat.le_antisymm st.2 hg';subst e;exact (W _ (I.ok.hd hc)).done s _ _ st.1 fun h' tk kk => ⟨rfl, I.turned (fun b o hb e => kk b o (by simpa using hb) e) f0 f1 f3 f4 f5⟩
 self := fun A i s Q E st h => sf A i s Q E st.1 h
def z6k (tl : TE) : TI := fun σ H R => tl σ H fun x H1 => ∃ z, x = .str z /\ R (Itx z) H1
theorem zxd {X : Cx} {tg l : Expr} {tl : TE} (hl : PE X l tl) : PI X tg l (z6k tl) := by
 intro pins s σ H R I h;refine thn (hl pins s σ H _ I h) fun v s1 hq_ => ?_;obtain ⟨x, H1, I1, r1, q1⟩ := hq_;obtain ⟨z, e, q⟩ := q1;subst e;obtain ⟨t, rfl⟩ := r1;have fp : ∀ b ∈ [s1.heap.objs.size], FpOk X pins H1 b := fun b hb => by
  have e : b = s1.heap.objs.size := by simpa using hb
  subst e;exact I1.fpOk (Nat.le_refl _) (I1.hok.fresh (Nat.le_refl _))
 cases ha : z.cps.all (· < 128)
 ·exact wpAny_pyIter_wide ha ⟨s1.heap.objs.size, [s1.heap.objs.size], _, _, H1, rfl, I1.kept (t' := s1.toks) fun b o e => Heap.get?_push_of_some _ e, zqi _ "str_iterator" z t (by decide) (fun A hA => Walks.strWide hA _ z t) (fun A i s Q E st h => wpAny_pyIter_striter_wide st h), ⟨⟨_, Heap.get?_push_size _ rfl, rfl, rfl⟩, Nat.zero_le _⟩, fp, q⟩
 ·exact wpAny_pyIter_ascii ha ⟨s1.heap.objs.size, [s1.heap.objs.size], _, _, H1, rfl, I1.kept (t' := s1.toks) fun b o e => Heap.get?_push_of_some _ e, zqi _ "str_ascii_iterator" z t (by decide) (fun A hA => Walks.strAscii hA _ z t) (fun A i s Q E st h => wpAny_pyIter_striter_ascii st h), ⟨⟨_, Heap.get?_push_size _ rfl, rfl, rfl⟩, Nat.zero_le _⟩, fp, q⟩
def rSlS : V -> Option Int -> Option Int -> Hp -> VK -> Prop := fun x lo hi H Q => ∃ z, x = .str z /\ z.length <= 1000 /\ Q (.str (Txt.slice z lo hi)) H
theorem zxe {v : Value} {o : Option Int} (h : IsPart v o) : ∃ l : Option (Int × Tok), v = partValue l /\ l.map (·.1) = o := by
 cases h with
 | none => exact ⟨none, rfl, rfl⟩
 | int i t => exact ⟨some (i, t), rfl, rfl⟩
theorem z6l {X : Cx} : SlR X rSlS := by
 intro pins s σ H x v vl vu lo hi sl Q I rx hs pl pu h;obtain ⟨z, rfl, hz, q⟩ := h;obtain ⟨t, rfl⟩ := rx;obtain ⟨l, rfl, rfl⟩ := zxe pl;obtain ⟨u, rfl, rfl⟩ := zxe pu;exact ⟨"str", _, F.slot_str_getitem.lookup, typeIs_str _ _ _, wpAny_getItem_str_slice (l := l) (u := u) (st := none) hs rfl
  (post_val_or_str ⟨Nat.le_trans (Txt.slice_le z _ _) (Nat.le_trans hz (by decide)), fun t' k => ⟨.str _, H, I.kept (t' := k) fun b o e => e, ⟨t', rfl⟩, q⟩⟩)⟩
end L2
namespace MF
open PySem L2 PyProof.Rows
theorem mfx {P : Program} {w : World} {K : PySem.W.Frag} {mg : Str -> Option Value} {base : Heap} {x qual : Str} {st : Stmt} {dV : Value} {f : Addr} {fd : FuncData} {N ps : List Str} {k : Nat} {d : DS} (F : FunV K x qual st dV f fd) (S : zao N ps (zab st))
 (h : ∀ (cdv : Value) (A : Around) (outer : List Env) (s : Shared) (H : Hp) (E : XK), Room k (A.deeper (envOfC qual (zab st) s.heap.objs.size f cdv)) -> (A.deeper (envOfC qual (zab st) s.heap.objs.size f cdv)).units + 1 < cLine -> (A.deeper (envOfC qual (zab st) s.heap.objs.size f cdv)).units + 64 < cLine ->
  PSs (cxOf (CXE P w) P w K mg base N qual (zab st) f cdv A outer s H E) (zal st) (RS E d)) : FnOk P w K mg base (CXE P w) (k + 1) f fd ps (spM ps.length (runD N.length d)) :=
 z71 F S fun cdv A outer s H E hr => h cdv A outer s H E hr (z7k hr) hr.units
def sBad : DS := fun _ => M.bad
theorem zjv {X : Cx} {E : XK} {sts : List Stmt} : PSs X sts (RS E sBad) := fun pins s σ H D I h => by
 obtain ⟨_, _, _, _, _, p⟩ := h;exact p.elim
section
variable {X : Cx} {E : XK} {e o : Expr} {es : List Expr} {fo : DE} {fr : DA} {pos apos : Pos} {P : Program} {w : World} {K : PySem.W.Frag} {mg : Str -> Option Value} {base : Heap} {A : Around} {k n : Nat} {C : Addr} {m : Str} {ps : List Str} {F : Fn} {f : Addr} {fd : FuncData}
theorem z25 {pl : Sem Bool} (G : MeAt P w K mg base k C m ps F f fd) (hr : Room k A) (hx : zei (CXE X.prog X.w) X E) (ho : PE X o (RE E fo)) (ha : PA X (e :: es) (RA E fr))
 (hP : X.prog = P := by rfl) (hw : X.w = w := by rfl) (hK : X.K = K := by rfl) (hmg : X.mg = mg := by rfl) (hB : X.base = base := by rfl) (hA : X.A = A := by rfl)
 (hst : starEach (e :: es) X.env = (false, eval e X.env) :: starEach es X.env := by rfl) (hpl : (backTo pos (starEach es X.env)).any (·.1) = false := by rfl)
 (ht : eval (.Call (.Attribute o m apos) (e :: es) [] pos) X.env = (do
  let ov <- eval o X.env
  standAt apos.atName
  let (f, first) <- holding [ov] (getMethod ov m pl)
  callWith pos f first (backTo pos (starEach (e :: es) X.env)) (backToKw pos (keywordEach [] X.env))) := by rfl) (hn : ps.length = n := by rfl) :
 PE X (.Call (.Attribute o m apos) (e :: es) [] pos) (RE E (zbr C m (lenF n F) [] fo fr)) := by
 subst hP hw hK hmg hB hA hn;exact zc8 G hr hx ho ha hst hpl ht
def eSlS (f : DE) (lo hi : DO) : DE := fun ρ => (f ρ).bind fun t => (lo ρ).bind fun l => (hi ρ).bind fun h => fun S => match t with
 | .str z => if z.length <= 1000 then .ok (.str (Txt.slice z l h)) S else .bad
 | _ => .bad
theorem zto {lo hi : Option Expr} {p2 : Pos} {fl fh : DO} (he : PE X e (RE E fo)) (hl : PO X lo (RO E fl)) (hh : PO X hi (RO E fh)) : PE X (.Subscript e (.Slice lo hi none p2) pos) (RE E (eSlS fo fl fh)) :=
 zcv (zyg z6l he hl hh) fun σ H Q h => by
  obtain ⟨W, S, ρ, rp, env, p⟩ := h;refine ⟨W, S, ρ, rp, env, (Post.bind p).imp fun t W1 S1 H1 l1 r1 p1 v dv => ?_⟩;refine ⟨W1, S1, ρ, r1, env.mono l1, (Post.bind p1).imp fun l W2 S2 H2 l2 r2 p2 => ?_⟩;refine ⟨W2, S2, ρ, r2, env.mono (l1.trans l2), (Post.bind p2).imp fun u W3 S3 H3 l3 r3 p3 => ?_⟩;cases t with
  | str z =>
    simp only at p3;by_cases hz : z.length <= 1000
    ·rw [if_pos hz] at p3
     exact ⟨z, zbj.mp dv, hz, p3 W3 H3 (Wd.le.refl _) r3 _ (zbj.mpr rfl)⟩
    ·rw [if_neg hz] at p3
     exact p3.elim
  | _ => exact p3.elim
end
variable {E : XK} {fa : DE}
def zkz (x : Str) : List T := x.cps.toList.map fun q => T.str ⟨#[q]⟩
def iS (f : DE) : DI := fun ρ => (f ρ).bind fun t => fun S => match t with
 | .str x => .ok (zkz x, fun _ => True) S
 | _ => .bad
theorem z26 (W : Wd) (x : Str) : ItOk W (zkz x) (fun _ => True) (Itx x) := ⟨fun i W' S' H' l r' _ hi => by
 have hi' : i < x.cps.size := by simpa [zkz] using hi
 refine ⟨hi', fun v H'' y => ?_⟩;obtain ⟨rfl, q, hq, rfl⟩ := y;exact ⟨W', .str ⟨#[q]⟩, Wd.le.refl _, r', by simp [zkz, hq], zbj.mpr rfl⟩, fun i W' S' H' l r' _ hi => by
 have : (zkz x).length = x.cps.size := by simp [zkz]
 exact Nat.le_of_eq (by rw [hi, this])⟩
theorem zxf : RI E (iS fa) (z6k (RE E fa)) := fun σ H R h => by
 obtain ⟨W, S, ρ, rp, env, p⟩ := h;refine ⟨W, S, ρ, rp, env, (Post.bind p).imp fun t W1 S1 H1 l1 r1 p1 v dv => ?_⟩;cases t with
 | str x => exact ⟨x, zbj.mp dv, p1 W1 H1 (Wd.le.refl _) r1 _ W1 H1 (Wd.le.refl _) r1 (z26 W1 x)⟩
 | _ => exact p1.elim
end MF
namespace DN
open PySem L2 MF
def e8 (c : Cl) : List Addr := [c.nameThere, c.noPlace, c.noPiece, c.tooMany, c.noAnswer, c.ring, c.barred, c.deedFault]
def z27 (_ : Cl) : Fn := fun _ => M.bad
def zk0 (c : Cl) : DS := (sRet (e1 zum (e1 (gFld c.hall "pieces") (eVar 0))))
def zc9 (c : Cl) : Fn := runD 1 (zk0 c)
def zfn (c : Cl) : DS := (sSeq (sIf (tst (e2 zeh (eVar 1) (e1 (gFld c.hall "pieces") (eVar 0)))) (zhm c.noPiece (zac (jT Str.empty [(eC (.str "no piece ")), (e1 zrt (eVar 1)), (eC (.str " hangs"))]) aNil)) sNx) (sRet (e2 gDix (e1 (gFld c.hall "pieces") (eVar 0)) (eVar 1))))
def zak (c : Cl) : Fn := runD 2 (zfn c)
def zmg (c : Cl) : DE := (eA tupF (zac (eC (.str "needs")) (zac (eVar 1) (zac (eVar 0) aNil))))
def zmh (c : Cl) : DI := (iL (e1 (gFld c.piece "needs") (eVar 4)))
def zmi (c : Cl) : DT := (tst (e2 zl6 (eVar 0) (eVar 2)))
def zmj (c : Cl) : DE := (eA tupF (zac (eC (.str "bars")) (zac (eVar 1) (zac (eVar 0) aNil))))
def zmk (c : Cl) : DI := (iL (e1 (gFld c.piece "bars") (eVar 4)))
def zml (c : Cl) : DT := (tst (e2 gIn (eVar 0) (eVar 2)))
def zjw (c : Cl) : DS := (sIf (tst (e2 gIn (eVar 3) (eVar 1))) (sSeq (sSet 4 (zbr c.hall "find_piece" (lenF 2 (zak c)) [] (eVar 0) (zac (eVar 3) aNil))) (sSeq (za3 (eMt okL gExt (eVar 2) (zac (zgr 1 [3, 1] (zmh c) (zb0 0) (zmi c) (zmg c) finF) aNil))) (za3 (eMt okL gExt (eVar 2) (zac (zgr 1 [3, 1] (zmk c) (zb0 0) (zml c) (zmj c) finF) aNil))))) sNx)
def zr0 (c : Cl) : DS := (sSeq (sSet 2 (eA lstC aNil)) (sSeq (sFor (iL (zbr c.hall "names" (lenF 1 (zc9 c)) [] (eVar 0) aNil)) (zb0 3) (zjw c)) (sRet (eVar 2))))
def zou (c : Cl) : Fn := frzF (runD 5 (zr0 c))
def zhx (c : Cl) : DS := (sSeq (zf0 c.place "kind" (eVar 0) (eVar 1)) (zf0 c.place "rule" (eVar 0) (eVar 2)))
def zdg (c : Cl) : Fn := runD 3 (zhx c)
def zhy (c : Cl) : DS := (sSeq (zf0 c.piece "place" (eVar 0) (eVar 1)) (sSeq (zf0 c.piece "deed" (eVar 0) (eVar 2)) (sSeq (zf0 c.piece "by" (eVar 0) (eVar 3)) (sSeq (zf0 c.piece "on" (eVar 0) (eC (.bl true))) (sSeq (zf0 c.piece "ahead" (eVar 0) (eA lstC aNil)) (sSeq (zf0 c.piece "behind" (eVar 0) (eA lstC aNil)) (sSeq (zf0 c.piece "needs" (eVar 0) (eA lstC aNil)) (zf0 c.piece "bars" (eVar 0) (eA lstC aNil)))))))))
def zcg (c : Cl) : Fn := runD 4 (zhy c)
def zh8 (c : Cl) : DS := (sSeq (zf0 c.hall "places" (eVar 0) zl8) (zf0 c.hall "pieces" (eVar 0) zl8))
def zcy (c : Cl) : Fn := runD 1 (zh8 c)
def zd5 (c : Cl) : DS := (sSeq (sIf (tst (e2 gDin (eVar 1) (e1 (gFld c.hall "places") (eVar 0)))) (zhm c.nameThere (zac (jT Str.empty [(eC (.str "there is a place ")), (e1 zrt (eVar 1)), (eC (.str " already"))]) aNil)) sNx) (sSeq (sIf (tst (e2 (gI fGe) (e1 zk8 (e1 (gFld c.hall "places") (eVar 0))) (eC (.int 8)))) (zhm c.tooMany (zac (eC (.str "the hall has no room for another place")) aNil)) sNx) (zna (e1 (gFld c.hall "places") (eVar 0)) (eVar 1) (zp7 c.place (lenF 3 (zdg c)) [] (zac (eVar 2) (zac (eVar 3) aNil))))))
def zar (c : Cl) : Fn := runD 4 (zd5 c)
def zfo (c : Cl) : DS := (sSeq (sIf (tst (e2 zeh (eVar 1) (e1 (gFld c.hall "places") (eVar 0)))) (zhm c.noPlace (zac (jT Str.empty [(eC (.str "there is no place ")), (e1 zrt (eVar 1))]) aNil)) sNx) (sRet (e2 gDix (e1 (gFld c.hall "places") (eVar 0)) (eVar 1))))
def zaw (c : Cl) : Fn := runD 2 (zfo c)
def zfp (c : Cl) : DS := (sSeq (sIf (tst (e2 gDin (eVar 1) (e1 (gFld c.hall "pieces") (eVar 0)))) (zhm c.nameThere (zac (jT Str.empty [(eC (.str "a piece ")), (e1 zrt (eVar 1)), (eC (.str " hangs already"))]) aNil)) sNx) (sSeq (za3 (zbr c.hall "find_place" (lenF 2 (zaw c)) [] (eVar 0) (zac (eVar 2) aNil))) (sSeq (sIf (tst (e2 zl7 (eVar 4) (eC .non))) (za3 (zbr c.hall "find_piece" (lenF 2 (zak c)) [] (eVar 0) (zac (eVar 4) aNil))) sNx) (sSeq (sIf (tst (e2 (gI fGe) (e1 zk8 (e1 (gFld c.hall "pieces") (eVar 0))) (eC (.int 24)))) (zhm c.tooMany (zac (eC (.str "the hall has no room for another piece")) aNil)) sNx) (zna (e1 (gFld c.hall "pieces") (eVar 0)) (eVar 1) (zp7 c.piece (lenF 4 (zcg c)) [] (zac (eVar 2) (zac (eVar 3) (zac (eVar 4) aNil)))))))))
def zau (c : Cl) : Fn := runD 5 (zfp c)
def zov (c : Cl) : DS := (sRet (eIf (tst (e2 gIs (eVar 0) (eC .non))) (eA lstF aNil) (e1 zum (eVar 0))))
def zdx (c : Cl) : Fn := runD 1 (zov c)
def zjf (c : Cl) : DS := (sSeq (sSet 6 (zbr c.hall "find_piece" (lenF 2 (zak c)) [] (eVar 0) (zac (eVar 1) aNil))) (sSeq (za3 (eMt okL gExt (e1 (gFld c.piece "ahead") (eVar 6)) (zac (zbl (lenF 1 (zdx c)) [] (zac (eVar 2) aNil)) aNil))) (sSeq (za3 (eMt okL gExt (e1 (gFld c.piece "behind") (eVar 6)) (zac (zbl (lenF 1 (zdx c)) [] (zac (eVar 3) aNil)) aNil))) (sSeq (za3 (eMt okL gExt (e1 (gFld c.piece "needs") (eVar 6)) (zac (zbl (lenF 1 (zdx c)) [] (zac (eVar 4) aNil)) aNil))) (za3 (eMt okL gExt (e1 (gFld c.piece "bars") (eVar 6)) (zac (zbl (lenF 1 (zdx c)) [] (zac (eVar 5) aNil)) aNil)))))))
def za0 (c : Cl) : Fn := runD 7 (zjf c)
def zjx (c : Cl) : DS := (sSeq (sSet 3 (zbr c.hall "find_piece" (lenF 2 (zak c)) [] (eVar 0) (zac (eVar 1) aNil))) (zf0 c.piece "on" (eVar 3) (eVar 2)))
def zfc (c : Cl) : Fn := runD 4 (zjx c)
def zho (c : Cl) : DS := (sSeq (sIf (tst (e2 (gI fLt) (eVar 1) (e1 gLen (eVar 0)))) (sRet (e2 gIx (eVar 0) (eVar 1))) sNx) (sRet (eC (.int 0))))
def zdc (c : Cl) : Fn := runD 2 (zho c)
def zbi (c : Cl) : DS := (sSeq (sSet 4 (eMt okL gPop (eVar 3) aNil)) (sIf (tst (e2 zeh (eVar 4) (eVar 2))) (sSeq (sSet 5 (zbr c.hall "find_piece" (lenF 2 (zak c)) [] (eVar 0) (zac (eVar 4) aNil))) (sSeq (zna (eVar 2) (eVar 4) (eC (.bl true))) (za3 (eMt okL gExt (eVar 3) (zac (e1 (gFld c.piece "needs") (eVar 5)) aNil))))) sNx))
def zch (c : Cl) : DT := (tru (eVar 3))
def zek (c : Cl) : DS := (sSeq (sSet 2 zl8) (sSeq (sSet 3 (eA lstC (zac (eVar 1) aNil))) (sSeq (zhw (zch c) (zbi c)) (sRet (eVar 2)))))
def zel (c : Cl) : Fn := frzF (runD 6 (zek c))
def zfx (c : Cl) : DE := (eVar 0)
def zem (c : Cl) : DI := (iL (zbr c.hall "names" (lenF 1 (zc9 c)) [] (eVar 0) aNil))
def zfy (c : Cl) : DT := (tst (e2 gDin (eVar 0) (eVar 1)))
def zgz (c : Cl) : DS := (sSeq (sSet 2 (zbl (lenF 2 (zel c)) [] (zac (eVar 0) (zac (eVar 1) aNil)))) (sSeq (sSet 3 (zgr 1 [2] (zem c) (zb0 0) (zfy c) (zfx c) finF)) (sSeq (sSet 4 (zbl (lenF 2 (zou c)) [] (zac (eVar 0) (zac (eVar 3) aNil)))) (sSeq (sIf (tru (eVar 4)) (zjt c.barred "one" "other" true (zac (e2 gIx (e2 gIx (eVar 4) (eC (.int 0))) (eC (.int 1))) (zac (e2 gIx (e2 gIx (eVar 4) (eC (.int 0))) (eC (.int 2))) aNil))) sNx) (sRet (eVar 3))))))
def zbz (c : Cl) : Fn := runD 5 (zgz c)
def zdk (c : Cl) : DS := (zna (eVar 2) (eVar 3) zl8)
def zcp (c : Cl) : DS := (sIf (tst (e2 gDin (eVar 5) (eVar 2))) (zna (e2 gDix (eVar 2) (eVar 3)) (eVar 5) (eC (.bl true))) sNx)
def zcq (c : Cl) : DS := (sIf (tst (e2 gDin (eVar 5) (eVar 2))) (zna (e2 gDix (eVar 2) (eVar 5)) (eVar 3) (eC (.bl true))) sNx)
def zdl (c : Cl) : DS := (sSeq (sSet 4 (zbr c.hall "find_piece" (lenF 2 (zak c)) [] (eVar 0) (zac (eVar 3) aNil))) (sSeq (sFor (iL (e1 (gFld c.piece "ahead") (eVar 4))) (zb0 5) (zcp c)) (sFor (iL (e1 (gFld c.piece "behind") (eVar 4))) (zb0 5) (zcq c))))
def zh9 (c : Cl) : DS := (sSeq (sSet 2 zl8) (sSeq (sFor (iL (eVar 1)) (zb0 3) (zdk c)) (sSeq (sFor (iL (eVar 1)) (zb0 3) (zdl c)) (sRet (eVar 2)))))
def zf2 (c : Cl) : Fn := frzF (runD 6 (zh9 c))
def zd6 (c : Cl) : DE := (e2 gDin (eVar 1) (e2 gDix (eVar 2) (eVar 0)))
def zd7 (c : Cl) : DI := (iL (eVar 1))
def zb1 (c : Cl) : DS := (sIf (zuk (tru (e1 gAny (zgr 1 [2, 0] (zd7 c) (zb0 0) yesD (zd6 c) finF)))) (sRet (eVar 2)) sNx)
def zgt (c : Cl) : DS := (sSeq (sFor (iL (eVar 1)) (zb0 2) (zb1 c)) (sRet (eC .non)))
def zcz (c : Cl) : Fn := runD 3 (zgt c)
def zhz (c : Cl) : DS := (sSeq (sIf (tst (e2 gEq (eVar 6) (eVar 1))) (sRet (eVar 5)) sNx) (sIf (tst (e2 zeh (eVar 6) (eVar 3))) (sSeq (zna (eVar 3) (eVar 6) (eC (.bl true))) (za3 (eMt okL gApp (eVar 4) (zac (e2 gAdd (eVar 5) (eA lstF (zac (eVar 6) aNil))) aNil)))) sNx))
def zh0 (c : Cl) : DS := (sFor (iK (e2 gDix (eVar 0) (e2 gIx (eVar 5) (e1 gNeg (eC (.int 1)))))) (zb0 6) (zhz c))
def zet (c : Cl) : DS := (sSeq (sSet 4 (eA lstC aNil)) (sSeq (sFor (iL (eVar 2)) (zb0 5) (zh0 c)) (sSet 2 (eVar 4))))
def zeu (c : Cl) : DT := (tru (eVar 2))
def zen (c : Cl) : DS := (sSeq (sSet 2 (eA lstF (zac (eA lstF (zac (eVar 1) aNil)) aNil))) (sSeq (sSet 3 (ztn (eVar 1) (eC (.bl true)))) (sSeq (zhw (zeu c) (zet c)) (sRet (eA lstF aNil)))))
def zbc (c : Cl) : Fn := frzF (runD 7 (zen c))
def zd8 (c : Cl) : DE := (zbl (lenF 2 (zbc c)) [] (zac (eVar 1) (zac (eVar 0) aNil)))
def zc0 (c : Cl) : DI := (iK (eVar 0))
def zfq (c : Cl) : DE := (eVar 0)
def zfr (c : Cl) : DI := (iL (eVar 1))
def zfs (c : Cl) : DT := (tru (eVar 0))
def zia (c : Cl) : DS := (sSeq (sSet 1 (zgr 1 [0] (zc0 c) (zb0 0) yesD (zd8 c) finF)) (sRet (e1 gMin (zgr 1 [] (zfr c) (zb0 0) (zfs c) (zfq c) finF))))
def zbe (c : Cl) : Fn := runD 2 (zia c)
def zb9 (c : Cl) : DS := (sSeq (sSet 5 (zbl (lenF 2 (zcz c)) [] (zac (eVar 2) (zac (eVar 3) aNil)))) (sSeq (sIf (tst (e2 gIs (eVar 5) (eC .non))) (zot c.ring "ring" (zac (zbl (lenF 1 (zbe c)) [] (zac (eVar 2) aNil)) aNil)) sNx) (sSeq (za3 (eMt okL zkh (eVar 3) (zac (eVar 5) aNil))) (za3 (eMt okL gApp (eVar 4) (zac (eVar 5) aNil))))))
def zdz (c : Cl) : DT := (tru (eVar 3))
def zhp (c : Cl) : DS := (sSeq (sSet 2 (zbl (lenF 2 (zf2 c)) [] (zac (eVar 0) (zac (eVar 1) aNil)))) (sSeq (sSet 3 (e1 zjs (eVar 1))) (sSeq (sSet 4 (eA lstC aNil)) (sSeq (zhw (zdz c) (zb9 c)) (sRet (eVar 4))))))
def zbs (c : Cl) : Fn := runD 6 (zhp c)
def zft (c : Cl) : DE := (eVar 0)
def zhq (c : Cl) : DE := (e1 (gFld c.hall "pieces") (eVar 0))
def zd0 (c : Cl) : DT := (zyw (tst (e2 gEq (e1 (gFld c.piece "place") (eVar 1)) (eVar 2))) (tru (e1 (gFld c.piece "on") (eVar 1))))
def zmm (c : Cl) : DS := (sSeq (za3 (zbr c.hall "find_place" (lenF 2 (zaw c)) [] (eVar 0) (zac (eVar 1) aNil))) (sRet (zqc zhe 2 [1] (zhq c) (zuo 0 1) (zd0 c) (zft c) finF)))
def zdh (c : Cl) : Fn := runD 2 (zmm c)
def zr1 (c : Cl) : DS := (sRet (zbl (lenF 2 (zbs c)) [] (zac (eVar 0) (zac (zbr c.hall "at" (lenF 2 (zdh c)) [] (eVar 0) (zac (eVar 1) aNil)) aNil))))
def zhr (c : Cl) : Fn := runD 2 (zr1 c)
def zi3 (c : Cl) : DS := (sSeq (zf0 c.run "kind" (eVar 0) (eVar 1)) (sSeq (zf0 c.run "rule" (eVar 0) (eVar 2)) (sSeq (zf0 c.run "number" (eVar 0) (eVar 3)) (sSeq (zf0 c.run "deeds" (eVar 0) (e1 zjs (eVar 4))) (sSeq (zf0 c.run "held" (eVar 0) (eA lstC aNil)) (sSeq (zf0 c.run "broken" (eVar 0) (eC (.bl false))) (sSeq (zf0 c.run "pairs" (eVar 0) (eA lstC aNil)) (sSeq (zf0 c.run "found" (eVar 0) (eC .non)) (zf0 c.run "around" (eVar 0) (eA lstC aNil))))))))))
def zeo (c : Cl) : Fn := runD 5 (zi3 c)
def znz (c : Cl) : DS := (sRet (eNot (e1 (gFld c.run "deeds") (eVar 0))))
def zd9 (c : Cl) : Fn := runD 1 (znz c)
def zga (c : Cl) : DS := (za3 (eMt okL zp3 (e1 (gFld c.run "deeds") (eVar 0)) aNil))
def zbx (c : Cl) : Fn := runD 1 (zga c)
def zg4 (c : Cl) : DE := (eA tupF (zac (eVar 0) (zac (e1 (gFld c.piece "deed") (zbr c.hall "find_piece" (lenF 2 (zak c)) [] (eVar 1) (zac (eVar 0) aNil))) aNil)))
def zfz (c : Cl) : DI := (iL (zbl (lenF 2 (zbs c)) [] (zac (eVar 0) (zac (eVar 2) aNil))))
def zib (c : Cl) : DS := (sSeq (sSet 4 (zbr c.hall "find_place" (lenF 2 (zaw c)) [] (eVar 0) (zac (eVar 1) aNil))) (sSeq (sSet 5 (zgr 1 [0] (zfz c) (zb0 0) yesD (zg4 c) finF)) (sRet (zp7 c.run (lenF 5 (zeo c)) [] (zac (e1 (gFld c.place "kind") (eVar 4)) (zac (e1 (gFld c.place "rule") (eVar 4)) (zac (eVar 3) (zac (eVar 5) aNil))))))))
def zda (c : Cl) : Fn := runD 6 (zib c)
def zow (c : Cl) : DS := (sRet (zbl (lenF 4 (zda c)) [] (zac (eVar 0) (zac (eVar 1) (zac (zbr c.hall "at" (lenF 2 (zdh c)) [] (eVar 0) (zac (eVar 1) aNil)) (zac (eVar 2) aNil))))))
def zcr (c : Cl) : Fn := runD 3 (zow c)
def zi4 (c : Cl) : DS := (sSeq (sIf (tst (e2 gEq (e1 (gFld c.run "rule") (eVar 0)) (eC (.str "hand")))) (sSeq (zf0 c.run "broken" (eVar 0) (eC (.bl true))) (sSeq (za3 (zbr c.run "leave_the_rest" (lenF 1 (zbx c)) [] (eVar 0) aNil)) (zjt c.deedFault "piece" "code" false (zac (eVar 1) (zac (eVar 2) aNil))))) sNx) sBad)
def zep (c : Cl) : Fn := runD 3 (zi4 c)
def zi5 (c : Cl) : DS := (sIf (tst (e2 gEq (e1 (gFld c.run "kind") (eVar 0)) (eC (.str "first")))) sBad (zf0 c.run "number" (eVar 0) (eVar 1)))
def zeq (c : Cl) : Fn := runD 2 (zi5 c)
def zn0 (c : Cl) : DS := (sSeq (sIf (tst (e2 gEq (e2 gIx (eVar 0) (eC (.int 0))) (eC (.str "add")))) (sRet (e2 gAdd (eVar 1) (e2 gIx (eVar 0) (eC (.int 1))))) sNx) sBad)
def zhf (c : Cl) : Fn := runD 2 (zn0 c)
def zfu (c : Cl) : DS := (sIf (tst (e2 gEq (e2 gIx (eVar 2) (eC (.int 0))) (eC (.str "fail")))) (za3 (zbr c.run "fall" (lenF 3 (zep c)) [] (eVar 0) (zac (eVar 1) (zac (e2 gIx (eVar 2) (eC (.int 1))) aNil)))) (sIf (tst (e2 gEq (e1 (gFld c.run "kind") (eVar 0)) (eC (.str "all")))) sBad (sIf (tst (e2 gEq (e1 (gFld c.run "kind") (eVar 0)) (eC (.str "round")))) sBad (sIf (tst (e2 gNe (e2 gIx (eVar 2) (eC (.int 0))) (eC (.str "none")))) (za3 (zbr c.run "hear" (lenF 2 (zeq c)) [] (eVar 0) (zac (zbl (lenF 2 (zhf c)) [] (zac (eVar 2) (zac (e1 (gFld c.run "number") (eVar 0)) aNil))) aNil))) sNx))))
def zbo (c : Cl) : Fn := runD 3 (zfu c)
def zg5 (c : Cl) : DS := (sSeq (sIf (tru (zbr c.run "over" (lenF 1 (zd9 c)) [] (eVar 0) aNil)) (sRet (eC .non)) sNx) (sSeq (sSet 1 (eMt okL znx (e1 (gFld c.run "deeds") (eVar 0)) (zac (eC (.int 0)) aNil))) (sSeq (za3 (zbr c.run "perform" (lenF 3 (zbo c)) [] (eVar 0) (zac (e2 gIx (eVar 1) (eC (.int 0))) (zac (e2 gIx (eVar 1) (eC (.int 1))) aNil)))) (sRet (e2 gIx (eVar 1) (eC (.int 0)))))))
def zap (c : Cl) : Fn := runD 2 (zg5 c)
def zf8 (c : Cl) : DS := (sSeq (sIf (tOrD (tru (e1 (gFld c.run "broken") (eVar 0))) (zuk (tru (zbr c.run "over" (lenF 1 (zd9 c)) [] (eVar 0) aNil)))) (zhm c.noAnswer (zac (eC (.str "the run has no answer")) aNil)) sNx) sBad)
def zci (c : Cl) : Fn := runD 1 (zf8 c)
def zdm (c : Cl) : DS := (za3 (zbr c.run "step" (lenF 1 (zap c)) [] (eVar 0) aNil))
def zdn (c : Cl) : DT := (zuk (tru (zbr c.run "over" (lenF 1 (zd9 c)) [] (eVar 0) aNil)))
def zk1 (c : Cl) : DS := (sSeq (zhw (zdn c) (zdm c)) sBad)
def zf3 (c : Cl) : Fn := runD 1 (zk1 c)
def zkk (c : Cl) : DS := (sRet (zbl (lenF 1 (zf3 c)) [] (zac (zbl (lenF 3 (zcr c)) [] (zac (eVar 0) (zac (eVar 1) (zac (eVar 2) aNil)))) aNil)))
def zc1 (c : Cl) : Fn := runD 3 (zkk c)
def zic (c : Cl) : DS := (sSeq (sSet 3 (zbl (lenF 1 (z27 c)) [] (zac (zbl (lenF 3 (zcr c)) [] (zac (eVar 0) (zac (eVar 1) (zac (eVar 2) aNil)))) aNil))) sBad)
def zca (c : Cl) : Fn := runD 4 (zic c)
def zid (c : Cl) : DS := (sSeq (za3 (zbr c.hall "find_piece" (lenF 2 (zak c)) [] (eVar 0) (zac (eVar 1) aNil))) sBad)
def zd1 (c : Cl) : Fn := runD 5 (zid c)
def zk2 (c : Cl) : DS := (sSeq (sSet 1 (zp7 c.hall (lenF 1 (zcy c)) [] aNil)) (sSeq (za3 (zbr c.hall "open_place" (lenF 4 (zar c)) [] (eVar 1) (zac (eC (.str "hub")) (zac (eC (.str "chain")) (zac (eVar 0) aNil))))) (sSeq (za3 (zbr c.hall "hang" (lenF 5 (zau c)) [.non] (eVar 1) (zac (eC (.str "a")) (zac (eC (.str "hub")) (zac (eA tupF (zac (eC (.str "add")) (zac (eC (.int 1)) aNil))) aNil))))) (sSeq (za3 (zbr c.hall "hang" (lenF 5 (zau c)) [.non] (eVar 1) (zac (eC (.str "b")) (zac (eC (.str "hub")) (zac (eA tupF (zac (eC (.str "fail")) (zac (eC (.int 7)) aNil))) aNil))))) (sRet (eVar 1))))))
def zav (c : Cl) : Fn := runD 2 (zk2 c)
def zea (c : Cl) : DS := (sSeq (sSet 1 (zbl (lenF 1 (zav c)) [] (zac (eC (.str "hold")) aNil))) (sIf (tst (e2 gEq (e2 (gI fMod) (eVar 0) (eC (.int 3))) (eC (.int 0)))) (za3 (zbr c.hall "open_place" (lenF 4 (zar c)) [] (eVar 1) (zac (eC (.str "hub")) (zac (eC (.str "all")) (zac (eC (.str "hand")) aNil))))) (sIf (tst (e2 gEq (e2 (gI fMod) (eVar 0) (eC (.int 3))) (eC (.int 1)))) (za3 (zbr c.hall "hang" (lenF 5 (zau c)) [] (eVar 1) (zac (eC (.str "b")) (zac (eC (.str "nowhere")) (zac (eA tupF (zac (eC (.str "none")) aNil)) (zac (eC (.str "c")) aNil)))))) (za3 (zbr c.hall "hang" (lenF 5 (zau c)) [.non] (eVar 1) (zac (eC (.str "a")) (zac (eC (.str "hub")) (zac (eA tupF (zac (eC (.str "none")) aNil)) aNil))))))))
def zbp (c : Cl) : Fn := runD 2 (zea c)
def zbf (c : Cl) : DS := (sSeq (sSet 1 (zbl (lenF 1 (zav c)) [] (zac (eC (.str "hold")) aNil))) (sIf (tst (e2 gEq (e2 (gI fMod) (eVar 0) (eC (.int 6))) (eC (.int 0)))) (za3 (zbr c.hall "hang" (lenF 5 (zau c)) [] (eVar 1) (zac (eC (.str "c")) (zac (eC (.str "nowhere")) (zac (eA tupF (zac (eC (.str "none")) aNil)) (zac (eC (.str "d")) aNil)))))) (sIf (tst (e2 gEq (e2 (gI fMod) (eVar 0) (eC (.int 6))) (eC (.int 1)))) (za3 (zbr c.hall "at" (lenF 2 (zdh c)) [] (eVar 1) (zac (eC (.str "nowhere")) aNil))) (sIf (tst (e2 gEq (e2 (gI fMod) (eVar 0) (eC (.int 6))) (eC (.int 2)))) (za3 (zbl (lenF 2 (zhr c)) [] (zac (eVar 1) (zac (eC (.str "nowhere")) aNil)))) (sIf (tst (e2 gEq (e2 (gI fMod) (eVar 0) (eC (.int 6))) (eC (.int 3)))) (za3 (zbl (lenF 3 (zcr c)) [] (zac (eVar 1) (zac (eC (.str "nowhere")) (zac (eVar 0) aNil))))) (sIf (tst (e2 gEq (e2 (gI fMod) (eVar 0) (eC (.int 6))) (eC (.int 4)))) (za3 (zbl (lenF 3 (zc1 c)) [] (zac (eVar 1) (zac (eC (.str "nowhere")) (zac (eVar 0) aNil))))) (za3 (zbl (lenF 3 (zca c)) [] (zac (eVar 1) (zac (eC (.str "nowhere")) (zac (eVar 0) aNil)))))))))))
def zax (c : Cl) : Fn := runD 2 (zbf c)
def zcs (c : Cl) : DS := (sSeq (sSet 1 (zbl (lenF 1 (zav c)) [] (zac (eC (.str "hold")) aNil))) (sIf (tst (e2 gEq (e2 (gI fMod) (eVar 0) (eC (.int 5))) (eC (.int 0)))) (za3 (zbr c.hall "hang" (lenF 5 (zau c)) [] (eVar 1) (zac (eC (.str "c")) (zac (eC (.str "hub")) (zac (eA tupF (zac (eC (.str "none")) aNil)) (zac (eC (.str "d")) aNil)))))) (sIf (tst (e2 gEq (e2 (gI fMod) (eVar 0) (eC (.int 5))) (eC (.int 1)))) (za3 (zbr c.hall "drop" (lenF 2 (zd1 c)) [] (eVar 1) (zac (eC (.str "c")) aNil))) (sIf (tst (e2 gEq (e2 (gI fMod) (eVar 0) (eC (.int 5))) (eC (.int 2)))) (za3 (zbr c.hall "switch" (lenF 3 (zfc c)) [] (eVar 1) (zac (eC (.str "c")) (zac (eC (.bl true)) aNil)))) (sIf (tst (e2 gEq (e2 (gI fMod) (eVar 0) (eC (.int 5))) (eC (.int 3)))) (za3 (zbr c.hall "wish" (lenF 6 (za0 c)) [.non, .non, .non] (eVar 1) (zac (eC (.str "c")) (zac (eA lstF (zac (eC (.str "a")) aNil)) aNil)))) (sSeq (za3 (zbr c.hall "wish" (lenF 6 (za0 c)) [.non] (eVar 1) (zac (eC (.str "a")) (zac (eC .non) (zac (eC .non) (zac (eA lstF (zac (eC (.str "b")) (zac (eC (.str "c")) aNil))) aNil)))))) (za3 (zbl (lenF 2 (zbz c)) [] (zac (eVar 1) (zac (e2 gIx (eA lstF (zac (eC (.str "a")) (zac (eC (.str "c")) aNil))) (e2 (gI fMod) (e2 (gI fDiv) (eVar 0) (eC (.int 5))) (eC (.int 2)))) aNil))))))))))
def zbd (c : Cl) : Fn := runD 2 (zcs c)
def zdi (c : Cl) : DS := (za3 (zbr c.hall "open_place" (lenF 4 (zar c)) [] (eVar 1) (zac (eVar 3) (zac (eC (.str "all")) (zac (eC (.str "hold")) aNil)))))
def zdj (c : Cl) : DS := (za3 (zbr c.hall "hang" (lenF 5 (zau c)) [.non] (eVar 1) (zac (eVar 3) (zac (eC (.str "hub")) (zac (eA tupF (zac (eC (.str "none")) aNil)) aNil)))))
def zg6 (c : Cl) : DS := (sSeq (sSet 1 (zbl (lenF 1 (zav c)) [] (zac (eC (.str "hold")) aNil))) (sSeq (sSet 2 (eC (.str "cdefghijklmnopqrstuvwxyz"))) (sIf (tst (e2 gEq (e2 (gI fMod) (eVar 0) (eC (.int 2))) (eC (.int 0)))) (sFor (iS (eSlS (eVar 2) zru (zrv (eC (.int 8))))) (zb0 3) (zdi c)) (sFor (iS (eSlS (eVar 2) zru (zrv (eC (.int 23))))) (zb0 3) (zdj c)))))
def zdo (c : Cl) : Fn := runD 4 (zg6 c)
def zie (c : Cl) : DS := (sSeq (za3 (zbr c.run "step" (lenF 1 (zap c)) [] (eVar 0) aNil)) (za3 (zbr c.run "step" (lenF 1 (zap c)) [] (eVar 0) aNil)))
def zk3 (c : Cl) : DS := (sSet 1 (eC (.bl true)))
def zn1 (c : Cl) : DS := (sSeq (sSet 1 (eC (.bl false))) (sSeq (dTry (zie c) [] (zza (subL (e8 c) c.deedFault) (zk3 c) ztk)) (sRet (eVar 1))))
def zhg (c : Cl) : Fn := runD 2 (zn1 c)
def zdd (c : Cl) : DS := (sSeq (sSet 1 (zbl (lenF 3 (zcr c)) [] (zac (zbl (lenF 1 (zav c)) [] (zac (eC (.str "hand")) aNil)) (zac (eC (.str "hub")) (zac (eVar 0) aNil))))) (sSeq (sIf (tst (e2 gEq (e2 (gI fMod) (eVar 0) (eC (.int 3))) (eC (.int 1)))) (za3 (zbr c.run "step" (lenF 1 (zap c)) [] (eVar 1) aNil)) sNx) (sSeq (sIf (zyw (tst (e2 gEq (e2 (gI fMod) (eVar 0) (eC (.int 3))) (eC (.int 2)))) (zuk (tru (zbl (lenF 1 (zhg c)) [] (zac (eVar 1) aNil))))) z2i sNx) (za3 (zbr c.run "answer" (lenF 1 (zci c)) [] (eVar 1) aNil)))))
def za9 (c : Cl) : Fn := runD 2 (zdd c)
def zeb (c : Cl) : DS := (sSeq (sSet 1 (zbl (lenF 1 (zav c)) [] (zac (eC (.str "hold")) aNil))) (sSeq (za3 (zbr c.hall "wish" (lenF 6 (za0 c)) [.non, .non, .non] (eVar 1) (zac (eC (.str "a")) (zac (eA lstF (zac (eC (.str "b")) aNil)) aNil)))) (sSeq (za3 (zbr c.hall "wish" (lenF 6 (za0 c)) [.non, .non, .non] (eVar 1) (zac (e2 gIx (eA lstF (zac (eC (.str "a")) (zac (eC (.str "b")) aNil))) (e2 (gI fMod) (e2 (gI fDiv) (eVar 0) (eC (.int 4))) (eC (.int 2)))) (zac (eA lstF (zac (eC (.str "a")) aNil)) aNil)))) (sIf (tst (e2 gEq (e2 (gI fMod) (eVar 0) (eC (.int 4))) (eC (.int 0)))) (za3 (zbl (lenF 2 (zhr c)) [] (zac (eVar 1) (zac (eC (.str "hub")) aNil)))) (sIf (tst (e2 gEq (e2 (gI fMod) (eVar 0) (eC (.int 4))) (eC (.int 1)))) (za3 (zbl (lenF 3 (zcr c)) [] (zac (eVar 1) (zac (eC (.str "hub")) (zac (eVar 0) aNil))))) (sIf (tst (e2 gEq (e2 (gI fMod) (eVar 0) (eC (.int 4))) (eC (.int 2)))) (za3 (zbl (lenF 3 (zc1 c)) [] (zac (eVar 1) (zac (eC (.str "hub")) (zac (eVar 0) aNil))))) (za3 (zbl (lenF 3 (zca c)) [] (zac (eVar 1) (zac (eC (.str "hub")) (zac (eVar 0) aNil)))))))))))
def zcj (c : Cl) : Fn := runD 2 (zeb c)
def zf9 (c : Cl) : DS := (sSeq (sSet 1 (zbl (lenF 1 (zav c)) [] (zac (eC (.str "hold")) aNil))) (sSeq (za3 (zbr c.hall "wish" (lenF 6 (za0 c)) [] (eVar 1) (zac (eC (.str "a")) (zac (eC .non) (zac (eC .non) (zac (eA lstF (zac (eC (.str "b")) aNil)) (zac (e2 gIx (eA lstF (zac (eA lstF (zac (eC (.str "a")) aNil)) (zac (eA lstF (zac (eC (.str "b")) aNil)) aNil))) (e2 (gI fMod) (eVar 0) (eC (.int 2)))) aNil))))))) (za3 (zbl (lenF 2 (zbz c)) [] (zac (eVar 1) (zac (eC (.str "a")) aNil))))))
def zck (c : Cl) : Fn := runD 2 (zf9 c)
def zif (c : Cl) : DS := (sSeq (sSet 1 (zbl (lenF 1 (zav c)) [] (zac (eC (.str "hand")) aNil))) (sIf (tst (e2 gEq (e2 (gI fMod) (eVar 0) (eC (.int 2))) (eC (.int 0)))) (za3 (zbl (lenF 3 (zc1 c)) [] (zac (eVar 1) (zac (eC (.str "hub")) (zac (eVar 0) aNil))))) (sSeq (sSet 2 (zbl (lenF 3 (zcr c)) [] (zac (eVar 1) (zac (eC (.str "hub")) (zac (eVar 0) aNil))))) (sSeq (za3 (zbr c.run "step" (lenF 1 (zap c)) [] (eVar 2) aNil)) (za3 (zbr c.run "step" (lenF 1 (zap c)) [] (eVar 2) aNil))))))
def zey (c : Cl) : Fn := runD 3 (zif c)
def zc2 (c : Cl) : DS := (sIf (tst (e2 gEq (eVar 0) (eC (.int 0)))) (za3 (zbl (lenF 1 (zbp c)) [] (zac (eVar 1) aNil))) (sIf (tst (e2 gEq (eVar 0) (eC (.int 1)))) (za3 (zbl (lenF 1 (zax c)) [] (zac (eVar 1) aNil))) (sIf (tst (e2 gEq (eVar 0) (eC (.int 2)))) (za3 (zbl (lenF 1 (zbd c)) [] (zac (eVar 1) aNil))) (sIf (tst (e2 gEq (eVar 0) (eC (.int 3)))) (za3 (zbl (lenF 1 (zdo c)) [] (zac (eVar 1) aNil))) (sIf (tst (e2 gEq (eVar 0) (eC (.int 4)))) (za3 (zbl (lenF 1 (za9 c)) [] (zac (eVar 1) aNil))) (sIf (tst (e2 gEq (eVar 0) (eC (.int 5)))) (za3 (zbl (lenF 1 (zcj c)) [] (zac (eVar 1) aNil))) (sIf (tst (e2 gEq (eVar 0) (eC (.int 6)))) (za3 (zbl (lenF 1 (zck c)) [] (zac (eVar 1) aNil))) (za3 (zbl (lenF 1 (zey c)) [] (zac (eVar 1) aNil))))))))))
def zgg (c : Cl) : Fn := runD 2 (zc2 c)
def zhs (c : Cl) : DS := (za3 (zbl (lenF 2 (zgg c)) [] (zac (eVar 1) (zac (e2 (gI fMod) (zbl (lenF 2 (zdc c)) [] (zac (eVar 0) (zac (eC (.int 1)) aNil))) (eC (.int 9000))) aNil))))
def zht (c : Cl) : DS := (sSeq (sSet 2 (eA lstF (zac (e1 (gIsX (subL (e8 c) c.nameThere)) (eVar 3)) (zac (e1 (gIsX (subL (e8 c) c.noPlace)) (eVar 3)) (zac (e1 (gIsX (subL (e8 c) c.noPiece)) (eVar 3)) (zac (e1 (gIsX (subL (e8 c) c.tooMany)) (eVar 3)) aNil)))))) (sSeq (sSet 2 (e2 gAdd (eVar 2) (eA lstF (zac (e1 (gIsX (subL (e8 c) c.noAnswer)) (eVar 3)) (zac (e1 (gIsX (subL (e8 c) c.ring)) (eVar 3)) (zac (e1 (gIsX (subL (e8 c) c.barred)) (eVar 3)) aNil)))))) (sSet 2 (e2 gAdd (eVar 2) (eA lstF (zac (e1 (gIsX (subL (e8 c) c.deedFault)) (eVar 3)) (zac (e1 (gIsX (subH (e8 c))) (eVar 3)) aNil)))))))
def zjg (c : Cl) : DE := (e2 gEq (eVar 0) (eVar 1))
def zjh (c : Cl) : DI := (iR1 (zac (eC (.int 8)) aNil))
def zqj (c : Cl) : DS := (sSeq (sSet 1 (e2 (gI fMod) (zbl (lenF 2 (zdc c)) [] (zac (eVar 0) (zac (eC (.int 0)) aNil))) (eC (.int 8)))) (sSeq (sSet 2 (eA lstF aNil)) (sSeq (dTry (zhs c) [] (hdAs (subH (e8 c)) 3 (zht c) ztk)) (sRet (e2 gEq (eVar 2) (e2 gAdd (zgr 1 [1] (zjh c) (zb0 0) yesD (zjg c) finF) (eA lstF (zac (eC (.bl true)) aNil))))))))
def zmn (c : Cl) : Fn := runD 4 (zqj c)
end DN
namespace DN
open PySem L2 MF
variable {c : Cl} {S : Sto}
def cellAt (ns : List Int) (k : Int) : Int := if k < ns.length then ns.getD k.toNat 0 else 0
theorem z0u (ns : List Int) (k : Int) (hk : 0 <= k) : zdc c [.lst (ns.map .int), .int k] S = .ok (.int (cellAt ns k)) S := by
 unfold cellAt;by_cases h : k < ns.length
 ·have hh : k.toNat < ns.length := by omega
  simp [zdc, zho, h, z53 hk, hh]
 ·simp [zdc, zho, h]
def z28 : Str := "abcdefghijklmnopqrstuvwxyz"
def z0v (i : Int) : Str := ⟨#[z28.cps[i.toNat]?.getD 0]⟩
def zg7 (k : Int) : Str := if k % 3 = 1 then z0v (k % 26) else Txt.join Str.empty ((List.range (2 + k % 11).toNat).map fun (j : Nat) => z0v ((k + 5 * (j : Int)) % 26))
theorem zkl : ∀ (l : List Str), zi2 (l.map T.str) = some l
 | [] => rfl
 | a :: r => by
   rw [List.map_cons];unfold zi2;rw [zkl r];rfl
def numT (x : Int) : Int := if x / 8 % 9 = 4 then x % 10 ^ 25 - 10 ^ 24 else x / 8 % 2001 - 1000
def z79 (x : Int) : T := if x % 8 = 3 then .tup [.str "say", .int (numT x)] else if x % 8 = 4 then .tup [.str "none"] else if x % 8 = 5 then .tup [.str "fail", .int (numT x)] else .tup [.str "add", .int (numT x)]
def zqk (x many : Int) : List Str := if x % 4 > 1 then [] else if x % 4 = 1 then [zg7 (x / 4 % many), zg7 (x / 64 % many)] else [zg7 (x / 4 % many)]
structure Pc where
 nm : Str
 pl : Str
 dd : T
 w0 : List Str
 w1 : List Str
 w2 : List Str
 w3 : List Str
 on : Bool
def zox (x : Int) : Str := if x / 4096 % 4 = 3 then "side" else "hub"
def pcAt (ns : List Int) (start many : Int) (k : Nat) : Pc :=
 { nm := zg7 k, pl := zox (cellAt ns (start + 3 * k)), dd := z79 (cellAt ns (start + 3 * k)),
   w0 := zqk (cellAt ns (start + 3 * k + 1)) (many + 1), w1 := zqk (cellAt ns (start + 3 * k + 1) / 7) (many + 1),
   w2 := zqk (cellAt ns (start + 3 * k + 2)) (many + 1), w3 := zqk (cellAt ns (start + 3 * k + 2) / 7) (many + 1), on := !decide (cellAt ns (start + 3 * k) / 64 % 6 = 1) }
def pcs (ns : List Int) (start many : Int) : List Pc := (List.range many.toNat).map (pcAt ns start many)
theorem ztp {S : Sto} {x y : Cell} : (S ++ [x]).set S.length y = S ++ [y] := by
 rw [List.set_append_right _ _ (Nat.le_refl _), Nat.sub_self];rfl
theorem zjy {S : Sto} {x : Cell} : (S ++ [x])[S.length]? = some x := by simp
end DN
namespace DN
open PySem L2 MF
variable {c : Cl} {S : Sto}
structure PlM where
 nm : Str
 kind : Str
 rule : Str
 i : Nat
structure HP where
 nm : Str
 pl : Str
 dd : T
 br : Option Str
 on : Bool
 w0 : List Str
 w1 : List Str
 w2 : List Str
 w3 : List Str
 i : Nat
def byT : Option Str -> T
 | none => .non
 | some x => .str x
def HP.fs (p : HP) : List (Str × T) := [("place", .str p.pl), ("deed", p.dd), ("by", byT p.br), ("on", .bl p.on), ("ahead", .obj (p.i + 1)), ("behind", .obj (p.i + 2)), ("needs", .obj (p.i + 3)), ("bars", .obj (p.i + 4))]
def HP.block (c : Cl) (p : HP) : List Cell := [.ins c.piece p.fs, .lst (p.w0.map .str), .lst (p.w1.map .str), .lst (p.w2.map .str), .lst (p.w3.map .str)]
structure zcb (c : Cl) (S : Sto) (p : HP) : Prop where
 o : S[p.i]? = some (.ins c.piece p.fs)
 a0 : S[p.i + 1]? = some (.lst (p.w0.map .str))
 a1 : S[p.i + 2]? = some (.lst (p.w1.map .str))
 a2 : S[p.i + 3]? = some (.lst (p.w2.map .str))
 a3 : S[p.i + 4]? = some (.lst (p.w3.map .str))
def plD (pl : List PlM) : List (Key × T) := pl.map fun q => (.inr q.nm, .obj q.i)
def psD (ps : List HP) : List (Key × T) := ps.map fun p => (.inr p.nm, .obj p.i)
def zer (h : Nat) : List (Str × T) := [("places", .obj (h + 1)), ("pieces", .obj (h + 2))]
structure zas (c : Cl) (S : Sto) (h : Nat) (pl : List PlM) (ps : List HP) : Prop where
 hall : S[h]? = some (.ins c.hall (zer h))
 places : S[h + 1]? = some (.dic (plD pl))
 pieces : S[h + 2]? = some (.dic (psD ps))
 place : ∀ q ∈ pl, S[q.i]? = some (.ins c.place [("kind", .str q.kind), ("rule", .str q.rule)])
 piece : ∀ p ∈ ps, zcb c S p
 far : ∀ p ∈ ps, h + 3 <= p.i
 pw : ps.Pairwise fun p q => p.i + 5 <= q.i
 nd : (ps.map (·.nm)).Nodup
theorem zig (x : Str) : ∀ (ps : List HP), valT (psD ps) (.inr x) = (ps.find? fun p => decide (p.nm = x)).map fun p => T.obj p.i
 | [] => rfl
 | p :: ps => by
   have ih := zig x ps;by_cases h : p.nm = x
   ·have : valT (psD (p :: ps)) (.inr x) = some (.obj p.i) := by simp [valT, psD, h]
    rw [this];simp [h]
   ·have e : valT (psD (p :: ps)) (.inr x) = valT (psD ps) (.inr x) := by
     simp [valT, psD, List.find?_cons, h]
    rw [e, ih];simp [h]
theorem zkm (x : Str) : ∀ (pl : List PlM), valT (plD pl) (.inr x) = (pl.find? fun p => decide (p.nm = x)).map fun p => T.obj p.i
 | [] => rfl
 | p :: ps => by
   have ih := zkm x ps;by_cases h : p.nm = x
   ·have : valT (plD (p :: ps)) (.inr x) = some (.obj p.i) := by simp [valT, plD, h]
    rw [this];simp [h]
   ·have e : valT (plD (p :: ps)) (.inr x) = valT (plD ps) (.inr x) := by
     simp [valT, plD, List.find?_cons, h]
    rw [e, ih];simp [h]
@[simp] theorem z91 (C : Addr) (f : Str) (k : Nat) : gFld C f (.obj k) S = (match zg3 S C (.obj k) with | some (_, fs) => (match fs.lookup f with | some u => .ok u S | none => .bad) | none => .bad) := rfl
theorem zgb {C : Addr} {k : Nat} {fs : List (Str × T)} (h : S[k]? = some (.ins C fs)) : zg3 S C (.obj k) = some (k, fs) := by simp [zg3, h]
@[simp] theorem z83 (C : Addr) (m : Str) (F : Fn) (ds : List T) (fo : DE) (fr : DA) {ρ : Ev} : zbr C m F ds fo fr ρ S = (fo ρ).bind (fun o => fun S => match zg3 S C o with
  | some (_, fs) => if (fs.lookup m).isNone = true then ((fr ρ).bind fun ts => F (o :: (ts ++ ds))) S else .bad
  | none => .bad) S := rfl
theorem ztq {k : Nat} {kvs : List (Key × T)} (h : S[k]? = some (.dic kvs)) : zgc S (.obj k) = some kvs := by simp [zgc, h]
theorem zas.ins {h : Nat} {pl : List PlM} {ps : List HP} (A : zas c S h pl ps) : zg3 S c.hall (.obj h) = some (h, zer h) := zgb A.hall
theorem zas.dPieces {h : Nat} {pl : List PlM} {ps : List HP} (A : zas c S h pl ps) : zgc S (.obj (h + 2)) = some (psD ps) := ztq A.pieces
theorem zas.dPlaces {h : Nat} {pl : List PlM} {ps : List HP} (A : zas c S h pl ps) : zgc S (.obj (h + 1)) = some (plD pl) := ztq A.places
theorem zgu (h : Nat) : List.lookup (Str.ofString "places") (zer h) = some (.obj (h + 1)) := by
 unfold zer; rw [List.lookup_cons]; rw [show (Str.ofString "places" == Str.ofString "places") = true by decide +kernel]
theorem zde (h : Nat) : List.lookup (Str.ofString "pieces") (zer h) = some (.obj (h + 2)) := by
 unfold zer;rw [List.lookup_cons, show (Str.ofString "pieces" == Str.ofString "places") = false by decide +kernel];simp only;rw [List.lookup_cons, show (Str.ofString "pieces" == Str.ofString "pieces") = true by decide +kernel]
theorem zbm {m : Str} (h : Nat) (h1 : (m == Str.ofString "places") = false) (h2 : (m == Str.ofString "pieces") = false) : List.lookup m (zer h) = none := by
 unfold zer;rw [List.lookup_cons, h1];simp only;rw [List.lookup_cons, h2];rfl
theorem zxg {h : Nat} {pl : List PlM} {ps : List HP} (A : zas c S h pl ps) : zc9 c [.obj h] S = .ok (strL (ps.map (·.nm))) S := by
 have e : zf7 S (.obj (h + 2)) = some ((ps.map (·.nm)).map T.str) := by
  unfold zf7;have : zf6 S (.obj (h + 2)) = none := by simp [zf6, za6, A.pieces]
  rw [this, A.dPieces];simp [psD, kT]
 simp [zc9, zk0, A.ins, zde, zum, e, strL]
theorem zf4 {h : Nat} {pl : List PlM} {ps : List HP} (A : zas c S h pl ps) {x : Str} {p : HP} (hp : ps.find? (fun p => decide (p.nm = x)) = some p) : zak c [.obj h, .str x] S = .ok (.obj p.i) S := by
 have e := zig x ps;rw [hp] at e;simp [zak, zfn, A.ins, zde, zeh, gDix, A.dPieces, keyT, e]
theorem zez {h : Nat} {pl : List PlM} {ps : List HP} (A : zas c S h pl ps) {x : Str} {p : PlM} (hp : pl.find? (fun p => decide (p.nm = x)) = some p) : zaw c [.obj h, .str x] S = .ok (.obj p.i) S := by
 have e := zkm x pl;rw [hp] at e;simp [zaw, zfo, A.ins, zgu, zeh, gDix, A.dPlaces, keyT, e]
theorem zge {ps : List HP} (nd : (ps.map (·.nm)).Nodup) {p : HP} (hp : p ∈ ps) : ps.find? (fun q => decide (q.nm = p.nm)) = some p := by
 induction ps with
 | nil => cases hp
 | cons q ps ih =>
   rw [List.map_cons, List.nodup_cons] at nd;rcases List.mem_cons.mp hp with rfl | hp
   ·simp
   ·have : q.nm ≠ p.nm := fun e => nd.1 (List.mem_map.mpr ⟨p, hp, e.symm⟩)
    rw [List.find?_cons];simp [this, ih nd.2 hp]
end DN
namespace DN
open PySem L2 MF
variable {c : Cl} {S : Sto} {ρ : Ev}
@[simp] theorem zql (a b : String) : (Str.ofString a = Str.ofString b) = (a = b) := by
  apply propext;constructor
  ·intro h
   rw [Str.ofString_eq_toList, Str.ofString_eq_toList] at h;have h1 : a.toList.map Char.toNat = b.toList.map Char.toNat := by simpa using h
   have inj : ∀ (x y : List Char), x.map Char.toNat = y.map Char.toNat -> x = y := by
    intro x
    induction x with
    | nil => intro y h; cases y with | nil => rfl | cons _ _ => simp at h
    | cons p x ih =>
      intro y h;cases y with
      | nil => simp at h
      | cons q y =>
        simp only [List.map_cons, List.cons.injEq] at h;rw [ih y h.2];have : p = q := by
         have := h.1;apply Char.ext;exact UInt32.toNat_inj.mp this
        rw [this]
   exact String.toList_inj.mp (inj _ _ h1)
  ·rintro rfl; rfl
@[simp] theorem z0w (a b : String) : (Str.ofString a == Str.ofString b) = (a == b) := by
  rw [Bool.eq_iff_iff, beq_iff_eq, beq_iff_eq, zql]
@[simp] theorem z84 (C : Addr) (F : Fn) (ds : List T) (fr : DA) : zp7 C F ds fr ρ S = (fr ρ).bind (fun ts => fun S => M.bind (F (.obj S.length :: (ts ++ ds))) (fun t => match t with
  | .non => M.pure (.obj S.length)
  | _ => M.bad) (S ++ [.ins C []])) S := rfl
@[simp] theorem z85 (C : Addr) (f : Str) (fo fv : DE) : zf0 C f fo fv ρ S = (fv ρ).bind (fun t => (fo ρ).bind fun o => fun S => match zg3 S C o with
  | some (k, fs) => if fs.length < 900 then .ok (.nx ρ) (S.set k (.ins C (zma f t fs))) else .bad
  | none => .bad) S := rfl
@[simp] theorem z6m (fd fk fv : DE) : zna fd fk fv ρ S = (fv ρ).bind (fun t => (fd ρ).bind fun d => (fk ρ).bind fun k => fun S => match d, keyT k with
  | .obj j, some key => (match S[j]? with
    | some (.dic kvs) => if kvs.length <= 900 then .ok (.nx ρ) (S.set j (.dic (putT kvs key t))) else .bad
    | _ => .bad)
  | _, _ => .bad) S := rfl
@[simp] theorem z6y (f : Str) (v : T) : zma f v [] = [(f, v)] := rfl
@[simp] theorem z6n (f g : Str) (v x : T) (r : List (Str × T)) : zma f v ((g, x) :: r) = if g = f then (g, v) :: r else (g, x) :: zma f v r := rfl
theorem getR (L : List Cell) (j : Nat) : (S ++ L)[S.length + j]? = L[j]? := by rw [List.getElem?_append_right (by omega)]; congr 1; omega
theorem setR (L : List Cell) (j : Nat) (v : Cell) : (S ++ L).set (S.length + j) v = S ++ L.set j v := by rw [List.set_append_right _ _ (by omega)]; congr 2; omega
theorem zoy (L : List Cell) : (S ++ L)[S.length]? = L[0]? := getR L 0
theorem zxh (L : List Cell) (v : Cell) : (S ++ L).set S.length v = S ++ L.set 0 v := setR L 0 v
@[simp] theorem z86 (C : Addr) (fs : List (Str × T)) (L : List Cell) : zg3 (S ++ Cell.ins C fs :: L) C (.obj S.length) = some (S.length, fs) := by
  exact zgb (by rw [zoy]; rfl)
theorem zr2 : zcy c [.obj S.length] (S ++ [.ins c.hall []]) = .ok .non (S ++ [.ins c.hall (zer S.length), .dic [], .dic []]) := by
 simp [zcy, zh8, zxh, zer]
theorem zqm (k r : Str) : zdg c [.obj S.length, .str k, .str r] (S ++ [.ins c.place []]) = .ok .non (S ++ [.ins c.place [("kind", .str k), ("rule", .str r)]]) := by
 simp [zdg, zhx, zxh]
def newP (nm pl : Str) (dd : T) (br : Option Str) (i : Nat) : HP := { nm := nm, pl := pl, dd := dd, br := br, on := true, w0 := [], w1 := [], w2 := [], w3 := [], i := i }
theorem zqn (nm pl : Str) (dd : T) (br : Option Str) : zcg c [.obj S.length, .str pl, dd, byT br] (S ++ [.ins c.piece []]) = .ok .non (S ++ (newP nm pl dd br S.length).block c) := by
 simp [zcg, zhy, zxh, HP.block, newP, HP.fs]
theorem zah {k j : Nat} {v : Cell} (h : k ≠ j) : (S.set k v)[j]? = S[j]? := List.getElem?_set_ne h
theorem zfd {k : Nat} {v : Cell} {u : Cell} (h : S[k]? = some u) : (S.set k v)[k]? = some v := by
 have := (List.getElem?_eq_some_iff.mp h).1;simp [List.getElem?_set, this]
theorem zcc {L : Sto} {k : Nat} {u : Cell} (h : S[k]? = some u) : (S ++ L)[k]? = some u := by
 rw [List.getElem?_append_left (List.getElem?_eq_some_iff.mp h).1]; exact h
theorem zcb.app {L : Sto} {p : HP} (A : zcb c S p) : zcb c (S ++ L) p := ⟨zcc A.o, zcc A.a0, zcc A.a1, zcc A.a2, zcc A.a3⟩
theorem zas.app {L : Sto} {h : Nat} {pl : List PlM} {ps : List HP} (A : zas c S h pl ps) : zas c (S ++ L) h pl ps :=
 ⟨zcc A.hall, zcc A.places, zcc A.pieces, fun q hq => zcc (A.place q hq), fun p hp => (A.piece p hp).app, A.far, A.pw, A.nd⟩
theorem zji {k j : Nat} {u v : Cell} (h : S[k]? = some u) (g : S[j]? = some v) (d : u ≠ v) : k ≠ j := fun e => by subst e; rw [h] at g; exact d (Option.some.inj g)
theorem zcb.set {k : Nat} {v : Cell} {p : HP} (A : zcb c S p) (h : ∀ j, j < 5 -> k ≠ p.i + j) : zcb c (S.set k v) p :=
 ⟨by rw [zah (show k ≠ p.i from h 0 (by decide))]; exact A.o, by rw [zah (h 1 (by decide))]; exact A.a0, by rw [zah (h 2 (by decide))]; exact A.a1, by rw [zah (h 3 (by decide))]; exact A.a2, by rw [zah (h 4 (by decide))]; exact A.a3⟩
theorem zas.lt {h : Nat} {pl : List PlM} {ps : List HP} (A : zas c S h pl ps) : h + 2 < S.length := (List.getElem?_eq_some_iff.mp A.pieces).1
theorem zcb.lt {p : HP} (A : zcb c S p) : p.i + 4 < S.length := (List.getElem?_eq_some_iff.mp A.a3).1
theorem zas.hang {h : Nat} {pl : List PlM} {ps : List HP} (A : zas c S h pl ps) {nm q : Str} {dd : T} {br : Option Str} (hn : nm ∉ ps.map (·.nm)) :
 zas c (S.set (h + 2) (.dic (psD (ps ++ [newP nm q dd br S.length]))) ++ (newP nm q dd br S.length).block c) h pl (ps ++ [newP nm q dd br S.length]) := by
 have hl := A.lt;have len : (S.set (h + 2) (.dic (psD (ps ++ [newP nm q dd br S.length])))).length = S.length := by simp
 have nb : ∀ j, (S.set (h + 2) (.dic (psD (ps ++ [newP nm q dd br S.length]))) ++ (newP nm q dd br S.length).block c)[S.length + j]? = ((newP nm q dd br S.length).block c)[j]? := fun j => by
  have := getR (S := S.set (h + 2) (.dic (psD (ps ++ [newP nm q dd br S.length])))) ((newP nm q dd br S.length).block c) j;rw [len] at this;exact this
 have hpc : ∀ p ∈ ps, zcb c (S.set (h + 2) (.dic (psD (ps ++ [newP nm q dd br S.length]))) ++ (newP nm q dd br S.length).block c) p := fun p hp => ((A.piece p hp).set (fun j hj => by have := A.far p hp; omega)).app;refine ⟨zcc (by rw [zah (by omega)]; exact A.hall), zcc (by rw [zah (by omega)]; exact A.places), zcc (zfd A.pieces), fun p hp => zcc ?_, fun p hp => ?_, fun p hp => ?_, ?_, ?_⟩
 ·rw [zah (zji A.pieces (A.place p hp) (by intro z; cases z))]; exact A.place p hp
 ·rcases List.mem_append.mp hp with hp | hp
  ·exact hpc p hp
  ·rw [List.mem_singleton.mp hp]
   exact ⟨nb 0, nb 1, nb 2, nb 3, nb 4⟩
 ·rcases List.mem_append.mp hp with hp | hp
  ·exact A.far p hp
  ·rw [List.mem_singleton.mp hp]; show h + 3 <= S.length; omega
 ·rw [List.pairwise_append]
  refine ⟨A.pw, by simp, fun p hp r hr => ?_⟩;rw [List.mem_singleton.mp hr];show p.i + 5 <= S.length;have := (A.piece p hp).lt;omega
 ·rw [List.map_append]
  refine List.nodup_append.mpr ⟨A.nd, by simp, fun x hx y hy e => ?_⟩;simp only [List.map_cons, List.map_nil, List.mem_singleton] at hy;subst e;rw [hy] at hx;exact hn hx
theorem zas.block {S' : Sto} {h : Nat} {pl : List PlM} {ps : List HP} (A : zas c S h pl ps) {p p' : HP} (hp : p ∈ ps) (hnm : p'.nm = p.nm) (hi : p'.i = p.i) (hout : ∀ k, (k < p.i \/ p.i + 5 <= k) -> S'[k]? = S[k]?)
 (hA : zcb c S' p') : zas c S' h pl (ps.map fun q => if q.nm = p.nm then p' else q) := by
 have hf := A.far p hp;have P := A.piece p hp;have eqp : ∀ q ∈ ps, q.nm = p.nm -> q = p := fun q hq e => by
  have h1 := zge A.nd hq;have h2 := zge A.nd hp;rw [e, h2] at h1;exact (Option.some.inj h1).symm
 have far : ∀ q ∈ ps, q.nm ≠ p.nm -> p.i + 5 <= q.i \/ q.i + 5 <= p.i := fun q hq ne => by
  have hne : q ≠ p := fun e => ne (by rw [e]);have pw := A.pw;have : ∀ l : List HP, l.Pairwise (fun p q => p.i + 5 <= q.i) -> p ∈ l -> q ∈ l -> p.i + 5 <= q.i \/ q.i + 5 <= p.i := by
   intro l
   induction l with
   | nil => intro _ h; cases h
   | cons a l ih =>
     intro pw h1 h2;rw [List.pairwise_cons] at pw;rcases List.mem_cons.mp h1 with e1 | g1
     ·rcases List.mem_cons.mp h2 with e2 | g2
      ·exact absurd (e2.trans e1.symm) hne
      ·rw [e1]; exact .inl (pw.1 q g2)
     ·rcases List.mem_cons.mp h2 with e2 | g2
      ·rw [e2]; exact .inr (pw.1 p g1)
      ·exact ih pw.2 g1 g2
  exact this ps pw hp hq
 have mapI : ∀ q : HP, (if q.nm = p.nm then p' else q).nm = q.nm := fun q => by split <;> simp_all
 have mapD : psD (ps.map fun q => if q.nm = p.nm then p' else q) = psD ps := by
  unfold psD;rw [List.map_map];refine List.map_congr_left fun q hq => ?_;show (Sum.inr (if q.nm = p.nm then p' else q).nm, T.obj (if q.nm = p.nm then p' else q).i) = _;rw [mapI];by_cases e : q.nm = p.nm
  ·rw [if_pos e, hi, eqp q hq e]
  ·rw [if_neg e]
 refine ⟨by rw [hout _ (by omega)]; exact A.hall, by rw [hout _ (by omega)]; exact A.places, by rw [hout _ (by omega), mapD]; exact A.pieces, fun q hq => ?_, fun q hq => ?_, fun q hq => ?_, ?_, ?_⟩
 ·have Q := A.place q hq
  have n0 := zji P.o Q (by intro z; injection z with _ z2; simp [HP.fs] at z2);have n1 := zji P.a0 Q (by intro z; cases z);have n2 := zji P.a1 Q (by intro z; cases z);have n3 := zji P.a2 Q (by intro z; cases z);have n4 := zji P.a3 Q (by intro z; cases z);rw [hout _ (by omega)];exact Q
 ·obtain ⟨r, hr, rfl⟩ := List.mem_map.mp hq
  by_cases e : r.nm = p.nm
  ·rw [if_pos e]; exact hA
  ·rw [if_neg e]
   have R := A.piece r hr;have fr := far r hr e;exact ⟨by rw [hout _ (by omega)]; exact R.o, by rw [hout _ (by omega)]; exact R.a0, by rw [hout _ (by omega)]; exact R.a1, by rw [hout _ (by omega)]; exact R.a2, by rw [hout _ (by omega)]; exact R.a3⟩
 ·obtain ⟨r, hr, rfl⟩ := List.mem_map.mp hq
  by_cases e : r.nm = p.nm
  ·rw [if_pos e, hi]; exact hf
  ·rw [if_neg e]; exact A.far r hr
 ·rw [List.pairwise_map]
  refine A.pw.imp_of_mem fun {a b} ha hb hab => ?_;have ia : (if a.nm = p.nm then p' else a).i = a.i := by
   by_cases e : a.nm = p.nm
   ·rw [if_pos e, hi, eqp a ha e]
   ·rw [if_neg e]
  have ib : (if b.nm = p.nm then p' else b).i = b.i := by
   by_cases e : b.nm = p.nm
   ·rw [if_pos e, hi, eqp b hb e]
   ·rw [if_neg e]
  rw [ia, ib]; exact hab
 ·rw [List.map_map]
  rw [show ((fun x : HP => x.nm) ∘ fun q => if q.nm = p.nm then p' else q) = fun q : HP => q.nm from funext fun q => mapI q];exact A.nd
theorem zcb.w0 {p : HP} (A : zcb c S p) (l : List Str) : zcb c (S.set (p.i + 1) (.lst (l.map .str))) { p with w0 := l } :=
 ⟨by rw [zah (show p.i + 1 ≠ p.i by omega)]; exact A.o, zfd A.a0, by rw [zah (show p.i + 1 ≠ p.i + 2 by omega)]; exact A.a1, by rw [zah (show p.i + 1 ≠ p.i + 3 by omega)]; exact A.a2, by rw [zah (show p.i + 1 ≠ p.i + 4 by omega)]; exact A.a3⟩
theorem zcb.w1 {p : HP} (A : zcb c S p) (l : List Str) : zcb c (S.set (p.i + 2) (.lst (l.map .str))) { p with w1 := l } :=
 ⟨by rw [zah (show p.i + 2 ≠ p.i by omega)]; exact A.o, by rw [zah (show p.i + 2 ≠ p.i + 1 by omega)]; exact A.a0, zfd A.a1, by rw [zah (show p.i + 2 ≠ p.i + 3 by omega)]; exact A.a2, by rw [zah (show p.i + 2 ≠ p.i + 4 by omega)]; exact A.a3⟩
theorem zcb.w2 {p : HP} (A : zcb c S p) (l : List Str) : zcb c (S.set (p.i + 3) (.lst (l.map .str))) { p with w2 := l } :=
 ⟨by rw [zah (show p.i + 3 ≠ p.i by omega)]; exact A.o, by rw [zah (show p.i + 3 ≠ p.i + 1 by omega)]; exact A.a0, by rw [zah (show p.i + 3 ≠ p.i + 2 by omega)]; exact A.a1, zfd A.a2, by rw [zah (show p.i + 3 ≠ p.i + 4 by omega)]; exact A.a3⟩
theorem zcb.w3 {p : HP} (A : zcb c S p) (l : List Str) : zcb c (S.set (p.i + 4) (.lst (l.map .str))) { p with w3 := l } :=
 ⟨by rw [zah (show p.i + 4 ≠ p.i by omega)]; exact A.o, by rw [zah (show p.i + 4 ≠ p.i + 1 by omega)]; exact A.a0, by rw [zah (show p.i + 4 ≠ p.i + 2 by omega)]; exact A.a1, by rw [zah (show p.i + 4 ≠ p.i + 3 by omega)]; exact A.a2, zfd A.a3⟩
end DN
namespace DN
open PySem L2 MF
variable {c : Cl} {S : Sto} {ρ : Ev}
theorem za5 : zdx c [.non] S = .ok (strL []) S := by simp [zdx, zov, gIs, zm8, strL]
theorem ze0 (l : List Str) : zdx c [strL l] S = .ok (strL l) S := by simp [zdx, zov, gIs, zm8, strL, zum, zf7]
theorem zjz {kvs : List (Key × T)} {k : Key} {v : T} (h : valT kvs k = none) : putT kvs k v = kvs ++ [(k, v)] := by
 unfold putT;rw [if_neg];intro z;obtain ⟨p, hp, e⟩ := List.any_eq_true.mp z;unfold valT at h;rw [Option.map_eq_none_iff, List.find?_eq_none] at h;exact h p hp e
theorem zih {ps : List HP} {x : Str} (h : x ∉ ps.map (·.nm)) : ps.find? (fun p => decide (p.nm = x)) = none := by
 rw [List.find?_eq_none];intro p hp e;exact h (List.mem_map.mpr ⟨p, hp, by simpa using e⟩)
theorem zxi {h : Nat} {pl : List PlM} {ps : List HP} (A : zas c S h pl ps) {nm q : Str} {dd : T} {pm : PlM} (hn : nm ∉ ps.map (·.nm)) (hq : pl.find? (fun p => decide (p.nm = q)) = some pm) (hl : ps.length < 24) :
 zau c [.obj h, .str nm, .str q, dd, .non] S = .ok .non (S.set (h + 2) (.dic (psD (ps ++ [newP nm q dd none S.length]))) ++ (newP nm q dd none S.length).block c) := by
 have e1 : valT (psD ps) (.inr nm) = none := by rw [zig, zih hn]; rfl
 have hm := zbm (m := Str.ofString "find_place") h (by simp) (by simp);have e2 := zez A hq;have hlen : ¬ (24 : Int) <= (psD ps).length := by simp [psD]; omega
 have e3 := zqn (c := c) (S := S) nm q dd none;have len := A.lt;have e4 : (S ++ (newP nm q dd none S.length).block c)[h + 2]? = some (.dic (psD ps)) := zcc A.pieces;have e5 : (S ++ (newP nm q dd none S.length).block c).set (h + 2) (.dic (putT (psD ps) (.inr nm) (.obj S.length))) = S.set (h + 2) (.dic (psD (ps ++ [newP nm q dd none S.length]))) ++ (newP nm q dd none S.length).block c := by
  rw [List.set_append_left _ _ (by omega), zjz e1];simp [psD, newP]
 have e6 : (psD ps).length <= 900 := by simp [psD]; omega
 have A2 : zg3 (S ++ (newP nm q dd none S.length).block c) c.hall (.obj h) = some (h, zer h) := zgb (zcc A.hall);have e7 : zk8 (.obj (h + 2)) S = .ok (.int (psD ps).length) S := by simp [zk8, A.pieces]
 have e3' : zcg c [.obj S.length, .str q, dd, .non] (S ++ [.ins c.piece []]) = .ok .non (S ++ (newP nm q dd none S.length).block c) := e3;simp [zau, zfp, A.ins, zde, gDin, A.dPieces, keyT, e1, hm, e2, zl7, zm8, e7, hlen, e3', A2, e4, e6, e5]
theorem z0x {h : Nat} {pl : List PlM} {ps : List HP} (A : zas c S h pl ps) {nm k r : Str} (hn : pl.find? (fun p => decide (p.nm = nm)) = none) (hl : pl.length < 8) :
 zar c [.obj h, .str nm, .str k, .str r] S = .ok .non (S.set (h + 1) (.dic (plD (pl ++ [⟨nm, k, r, S.length⟩]))) ++ [.ins c.place [("kind", .str k), ("rule", .str r)]]) := by
 have e1 : valT (plD pl) (.inr nm) = none := by rw [zkm, hn]; rfl
 have hlen : ¬ (8 : Int) <= (plD pl).length := by simp [plD]; omega
 have e3 := zqm (c := c) (S := S) k r;have len := A.lt;have e4 : (S ++ [Cell.ins c.place [("kind", .str k), ("rule", .str r)]])[h + 1]? = some (.dic (plD pl)) := zcc A.places;have e5 : (S ++ [Cell.ins c.place [("kind", .str k), ("rule", .str r)]]).set (h + 1) (.dic (putT (plD pl) (.inr nm) (.obj S.length))) = S.set (h + 1) (.dic (plD (pl ++ [⟨nm, k, r, S.length⟩]))) ++ [.ins c.place [("kind", .str k), ("rule", .str r)]] := by
  rw [List.set_append_left _ _ (by omega), zjz e1];simp [plD]
 have e6 : (plD pl).length <= 900 := by simp [plD]; omega
 have A2 : zg3 (S ++ [Cell.ins c.place [("kind", .str k), ("rule", .str r)]]) c.hall (.obj h) = some (h, zer h) := zgb (zcc A.hall);have e7 : zk8 (.obj (h + 1)) S = .ok (.int (plD pl).length) S := by simp [zk8, A.places]
 generalize hN : (S ++ [Cell.ins c.place [("kind", .str k), ("rule", .str r)]]) = N at e3 e4 e5 A2;simp [zar, zd5, A.ins, zgu, gDin, A.dPlaces, keyT, e1, e7, hlen, e3, A2, e4, e6, e5]
theorem zas.open_ {h : Nat} {pl : List PlM} {ps : List HP} (A : zas c S h pl ps) {nm k r : Str} :
 zas c (S.set (h + 1) (.dic (plD (pl ++ [⟨nm, k, r, S.length⟩]))) ++ [.ins c.place [("kind", .str k), ("rule", .str r)]]) h (pl ++ [⟨nm, k, r, S.length⟩]) ps := by
 have len := A.lt;refine ⟨zcc (by rw [zah (by omega)]; exact A.hall), zcc (zfd A.places), zcc (by rw [zah (by omega)]; exact A.pieces), fun q hq => ?_, fun p hp => ((A.piece p hp).set (fun j hj => by have := A.far p hp; omega)).app, A.far, A.pw, A.nd⟩;rcases List.mem_append.mp hq with hq | hq
 ·exact zcc (by rw [zah (zji A.places (A.place q hq) (by intro z; cases z))]; exact A.place q hq)
 ·rw [List.mem_singleton.mp hq]
  have := zoy (S := S.set (h + 1) (.dic (plD (pl ++ [⟨nm, k, r, S.length⟩])))) [Cell.ins c.place [("kind", .str k), ("rule", .str r)]];rw [List.length_set] at this;exact this
theorem ztr (p : HP) : List.lookup (Str.ofString "ahead") p.fs = some (.obj (p.i + 1)) := by simp [HP.fs, List.lookup_cons]
theorem zqo (p : HP) : List.lookup (Str.ofString "behind") p.fs = some (.obj (p.i + 2)) := by simp [HP.fs, List.lookup_cons]
theorem zts (p : HP) : List.lookup (Str.ofString "needs") p.fs = some (.obj (p.i + 3)) := by simp [HP.fs, List.lookup_cons]
theorem zxj (p : HP) : List.lookup (Str.ofString "bars") p.fs = some (.obj (p.i + 4)) := by simp [HP.fs, List.lookup_cons]
def zba (p : HP) (l0 l1 l2 l3 : List Str) : HP := { p with w0 := p.w0 ++ l0, w1 := p.w1 ++ l1, w2 := p.w2 ++ l2, w3 := p.w3 ++ l3 }
theorem ztt {k : Nat} {w l : List Str} (h : S[k]? = some (.lst (w.map .str))) (hl : w.length + l.length <= 1000) : gExt (.obj k) [strL l] S = .ok .non (S.set k (.lst ((w ++ l).map .str))) := by
 have := zy8 (y := strL l) h rfl (by simpa using hl);rw [this, List.map_append]
theorem zqp {h : Nat} {pl : List PlM} {ps : List HP} (A : zas c S h pl ps) {p : HP} (hp : p ∈ ps) {t0 t1 t2 t3 : T} {l0 l1 l2 l3 : List Str}
 (e0 : ∀ S, zdx c [t0] S = .ok (strL l0) S) (e1 : ∀ S, zdx c [t1] S = .ok (strL l1) S) (e2 : ∀ S, zdx c [t2] S = .ok (strL l2) S) (e3 : ∀ S, zdx c [t3] S = .ok (strL l3) S)
 (b0 : p.w0.length + l0.length <= 1000) (b1 : p.w1.length + l1.length <= 1000) (b2 : p.w2.length + l2.length <= 1000) (b3 : p.w3.length + l3.length <= 1000) :
 ∃ S', za0 c [.obj h, .str p.nm, t0, t1, t2, t3] S = .ok .non S' /\ zas c S' h pl (ps.map fun q => if q.nm = p.nm then zba p l0 l1 l2 l3 else q) /\ S'.length = S.length /\ ∀ k, (k < p.i \/ p.i + 5 <= k) -> S'[k]? = S[k]? := by
 have P0 := A.piece p hp;have P1 := P0.w0 (p.w0 ++ l0);have P2 := P1.w1 (p.w1 ++ l1);have P3 := P2.w2 (p.w2 ++ l2);have P4 := P3.w3 (p.w3 ++ l3);have hm := zbm (m := Str.ofString "find_piece") h (by simp) (by simp);have ef := zf4 A (zge A.nd hp);have x0 := ztt P0.a0 b0;have x1 := ztt P1.a1 b1;have x2 := ztt P2.a2 b2;have x3 := ztt P3.a3 b3;have i0 := zgb P0.o;have i1 := zgb P1.o;have i2 := zgb P2.o;have i3 := zgb P3.o;have k0 := zki P0.a0;have k1 := zki P1.a1;have k2 := zki P2.a2;have k3 := zki P3.a3;have q1 : ({ p with w0 := p.w0 ++ l0 } : HP).fs = p.fs := rfl;have q2 : ({ p with w0 := p.w0 ++ l0, w1 := p.w1 ++ l1 } : HP).fs = p.fs := rfl;have q3 : ({ p with w0 := p.w0 ++ l0, w1 := p.w1 ++ l1, w2 := p.w2 ++ l2 } : HP).fs = p.fs := rfl;simp only at x0 x1 x2 x3 i0 i1 i2 i3 k0 k1 k2 k3;rw [q1] at i1;rw [q2] at i2;rw [q3] at i3;have out : ∀ k, (k < p.i \/ p.i + 5 <= k) -> ((((S.set (p.i + 1) (.lst ((p.w0 ++ l0).map .str))).set (p.i + 2) (.lst ((p.w1 ++ l1).map .str))).set (p.i + 3) (.lst ((p.w2 ++ l2).map .str))).set (p.i + 4) (.lst ((p.w3 ++ l3).map .str)))[k]? = S[k]? := fun k hk => by
  rw [zah (by omega), zah (by omega), zah (by omega), zah (by omega)]
 refine ⟨_, ?_, A.block hp (p' := zba p l0 l1 l2 l3) rfl rfl out P4, by simp, out⟩;generalize hS1 : S.set (p.i + 1) (.lst ((p.w0 ++ l0).map .str)) = S1 at *;generalize hS2 : S1.set (p.i + 2) (.lst ((p.w1 ++ l1).map .str)) = S2 at *;generalize hS3 : S2.set (p.i + 3) (.lst ((p.w2 ++ l2).map .str)) = S3 at *;generalize hS4 : S3.set (p.i + 4) (.lst ((p.w3 ++ l3).map .str)) = S4 at *;simp [za0, zjf, A.ins, hm, ef, i0, i1, i2, i3, ztr, zqo, zts, zxj, k0, k1, k2, k3, e0, e1, e2, e3, x0, x1, x2, x3]
end DN
namespace DN
open PySem L2 MF
variable {c : Cl} {S : Sto} {ρ : Ev}
theorem zzi {α : Type} (A B : List α) (p : α) : (A ++ p :: B).take (A.length + 1) = A ++ [p] := by
 rw [show A ++ p :: B = (A ++ [p]) ++ B by simp];exact List.take_left' (by simp)
theorem z8a : zas c (S ++ [.ins c.hall (zer S.length), .dic [], .dic []]) S.length [] [] :=
 ⟨by rw [zoy]; rfl, by rw [getR]; rfl, by rw [getR]; rfl, (by intro q hq; cases hq), (by intro q hq; cases hq), (by intro q hq; cases hq), .nil, .nil⟩
end DN
namespace DN
open PySem L2 MF
variable {c : Cl} {S : Sto} {ρ : Ev}
def okN (x : Str) : Prop := PyData.strOk x = true
theorem zzj : ∀ (l : List Str), pds (l.map T.str) = some (l.map PyData.str)
 | [] => by simp [pds]
 | a :: r => by simp [pds, pd, zzj r]
structure Lk where
 w : Str
 a : Str
 b : Str
def Lk.t (k : Lk) : T := .tup [.str k.w, .str k.a, .str k.b]
def zqq (names : List Str) (nm : Str) (needs bars : List Str) : List Lk :=
 ((needs.filter fun o => !names.contains o).map fun o => ⟨"needs", nm, o⟩) ++ ((bars.filter fun o => names.contains o).map fun o => ⟨"bars", nm, o⟩)
abbrev W3 := Str × List Str × List Str
def zhh (names : List Str) (l : List W3) : List Lk := l.flatMap fun p => if names.contains p.1 then zqq names p.1 p.2.1 p.2.2 else []
def HP.w (p : HP) : W3 := (p.nm, p.w2, p.w3)
theorem zmo {t : T} {ts : List T} {L : Sto} (h : za6 S t = some ts) : za6 (S ++ L) t = some ts := by
 cases t with
 | lst us => exact h
 | obj k => exact zgy (zcc (zp0 h))
 | _ => simp [za6] at h
theorem zmp {t : T} {ts : List T} (h : za6 S t = some ts) : zf6 S t = some ts := by
 cases t <;> first | exact h | simp [za6] at h
theorem zzk (names : List Str) (nm : Str) (n b : List Str) : (zqq names nm n b).length <= n.length + b.length := by
 unfold zqq;rw [List.length_append, List.length_map, List.length_map];have h1 := List.length_filter_le (fun o => !names.contains o) n;have h2 := List.length_filter_le (fun o => names.contains o) b;omega
theorem zi6 (p : Str -> Bool) : ∀ (l : List Str), ((l.map T.str).filter fun t => match t with | .str x => p x | _ => false) = (l.filter p).map T.str
 | [] => rfl
 | a :: r => by
   rw [List.map_cons, List.filter_cons, List.filter_cons, zi6 p r];cases h : p a <;> simp [h]
theorem zn2 {nm : Str} {l : List Str} {S : Sto} (wd : Str) (q : Str -> Bool) (hl : l.length <= 1000) {it : DI} {st : Sto -> Prop} {tc : DT} {te : DE} {js : List Nat} {ρ : Ev} (hit : it ρ S = .ok (l.map T.str, st) S) (hst : st S)
 (htc : ∀ o : Str, tc (some (.str o) :: js.map fun j => (ρ[j]?).join) S = .ok (q o) S) (hte : ∀ o : Str, te (some (.str o) :: js.map fun j => (ρ[j]?).join) S = .ok (Lk.t ⟨wd, nm, o⟩) S) :
 zgr 1 js it (zb0 0) tc te finF ρ S = .ok (.lst (((l.filter q).map fun o => Lk.mk wd nm o).map Lk.t)) S := by
 have := zgs (S := S) (ρ := ρ) (js := js) (it := it) (tc := tc) (te := te) (ts := l.map T.str) (st := st) (p := fun t => match t with | .str x => q x | _ => false) (f := fun t => match t with | .str x => Lk.t ⟨wd, nm, x⟩ | _ => .non) hit hst (by simpa using hl)
  (fun t ht => by obtain ⟨o, _, rfl⟩ := List.mem_map.mp ht; exact htc o) (fun t ht _ => by obtain ⟨o, _, rfl⟩ := List.mem_map.mp ht; exact hte o)
 rw [this, zi6, List.map_map, List.map_map];rfl
end DN
namespace DN
open PySem L2 MF
variable {c : Cl} {S : Sto} {ρ : Ev}
theorem zzl {A B : List HP} {p : HP} (nd : ((A ++ p :: B).map (·.nm)).Nodup) : (A ++ p :: B).find? (fun q => decide (q.nm = p.nm)) = some p := zge nd (by simp)
theorem z29 {h : Nat} {pl : List PlM} {ps : List HP} {names : List Str} {tn : T} (H : zas c S h pl ps) (hn : za6 S tn = some (names.map T.str)) (hw : ∀ p ∈ ps, p.w2.length <= 10 /\ p.w3.length <= 10) (hl : ps.length <= 24) :
 zou c [.obj h, tn] S = .ok (.lst ((zhh names (ps.map HP.w)).map Lk.t)) S := by
 have hm1 := zbm (m := Str.ofString "names") h (by simp) (by simp);have hm2 := zbm (m := Str.ofString "find_piece") h (by simp) (by simp);have run : runD 5 (zr0 c) [.obj h, tn] S = .ok (.obj S.length) (S ++ [.lst ((zhh names (ps.map HP.w)).map Lk.t)]) := by
  have hnm := zxg (H.app (L := [.lst []]));have i0 := (H.app (L := [.lst []])).ins;have hit : iL (zbr c.hall "names" (lenF 1 (zc9 c)) [] (eVar 0) aNil) [some (.obj h), some tn, some (.obj S.length), none, none] (S ++ [.lst []]) = .ok ((ps.map (·.nm)).map T.str, fun S' => za6 S' (strL (ps.map (·.nm))) = some ((ps.map (·.nm)).map T.str)) (S ++ [.lst []]) := by
   generalize S ++ [Cell.lst []] = Z at hnm i0 ⊢;generalize hN : ps.map (·.nm) = N at hnm ⊢;simp [i0, hm1, hnm, strL]
  obtain ⟨ρ', S', e, ⟨x, y, rfl⟩, hS, _⟩ := z2q (ρ := [some (.obj h), some tn, some (.obj S.length), none, none]) (S := S ++ [.lst []]) (g := zb0 3) (body := zjw c) (S1 := S ++ [.lst []])
   (fun pre ρ S' => (∃ x y, ρ = [some (.obj h), some tn, some (.obj S.length), x, y]) /\ S' = S ++ [.lst ((zhh names ((ps.take pre.length).map HP.w)).map Lk.t)] /\ (zhh names ((ps.take pre.length).map HP.w)).length <= 20 * pre.length)
   hit ⟨⟨_, _, rfl⟩, rfl, by simp [zhh]⟩ (fun pre t post ρ S' hsp ⟨⟨x, y, hρ⟩, hS, hb⟩ => by
    subst hρ;rw [List.map_map] at hsp;obtain ⟨A, B, rfl, hA, hB⟩ := List.map_eq_append_iff.mp hsp;obtain ⟨p, B, rfl, rfl, hB⟩ := List.map_eq_cons_iff.mp hB;have hlen : pre.length = A.length := by rw [<- hA]; simp
    have e1 : (A ++ p :: B).take pre.length = A := by rw [hlen]; simp
    have e2 : ∀ t : T, (A ++ p :: B).take (pre ++ [t]).length = A ++ [p] := fun t => by
     rw [List.length_append, List.length_singleton, hlen];exact zzi ..
    rw [e1] at hS hb;rw [e2];have hl' : A.length < 24 := by rw [List.length_append, List.length_cons] at hl; omega
    have w := hw p (by simp);have el : zhh names ((A ++ [p]).map HP.w) = zhh names (A.map HP.w) ++ (if names.contains p.nm then zqq names p.nm p.w2 p.w3 else []) := by
     unfold zhh;rw [List.map_append, List.flatMap_append];simp [HP.w]
    rw [el];generalize zhh names (A.map HP.w) = acc at hS hb ⊢;subst hS;have hb2 : acc.length <= 480 := by omega
    refine ⟨rfl, _, rfl, ?_⟩;have hin : ∀ (L : Sto), gIn (.str p.nm) tn (S ++ L) = .ok (.bl (names.contains p.nm)) (S ++ L) := fun L => z2t (zmp (zmo hn));have P := H.piece p (by simp);by_cases hc : names.contains p.nm = true
    ·have HA := fun L : Sto => H.app (L := L)
     have g1 := fun L : Sto => zgb (P.app (L := L)).o;have g2 := fun L : Sto => zgy (P.app (L := L)).a2;have g3 := fun L : Sto => zgy (P.app (L := L)).a3;have c1 := zn2 (S := S ++ [.lst (acc.map Lk.t)]) (ρ := [some (.obj h), some tn, some (.obj S.length), some (.str p.nm), some (.obj p.i)]) (js := [3, 1]) (nm := p.nm) "needs" (fun o => !names.contains o) (l := p.w2) (by omega) (it := zmh c) (st := fun S' => za6 S' (.obj (p.i + 3)) = some (p.w2.map T.str)) (tc := zmi c) (te := zmg c)
      (by simp [zmh, g1, zts, g2]) (g2 _) (fun o => by simp [zmi, zth (zmp (zmo hn))]) (fun o => by simp [zmg, Lk.t])
     have c2 := fun acc2 : List Lk => zn2 (S := S ++ [.lst (acc2.map Lk.t)]) (ρ := [some (.obj h), some tn, some (.obj S.length), some (.str p.nm), some (.obj p.i)]) (js := [3, 1]) (nm := p.nm) "bars" (fun o => names.contains o) (l := p.w3) (by omega) (it := zmk c) (st := fun S' => za6 S' (.obj (p.i + 4)) = some (p.w3.map T.str)) (tc := zml c) (te := zmj c)
      (by simp [zmk, g1, zxj, g3]) (g3 _) (fun o => by simp [zml, z2t (zmp (zmo hn))]) (fun o => by simp [zmj, Lk.t])
     have ll := zzk names p.nm p.w2 p.w3;rw [if_pos hc];unfold zqq at ll ⊢;rw [List.length_append] at ll;generalize ((p.w2.filter fun o => !names.contains o).map fun o => Lk.mk "needs" p.nm o) = n1 at c1 ll ⊢;generalize ((p.w3.filter fun o => names.contains o).map fun o => Lk.mk "bars" p.nm o) = n2 at c2 ll ⊢;have x1 := zy8 (S := S ++ [.lst (acc.map Lk.t)]) (k := S.length) (y := .lst (n1.map Lk.t)) zjy rfl (by simp only [List.length_map]; omega);rw [ztp, <- List.map_append] at x1;have x2 := zy8 (S := S ++ [.lst ((acc ++ n1).map Lk.t)]) (k := S.length) (y := .lst (n2.map Lk.t)) zjy rfl (by simp only [List.length_map, List.length_append]; omega);rw [ztp, <- List.map_append] at x2;have k1 := zki (S := S ++ [.lst (acc.map Lk.t)]) (k := S.length) zjy;have k2 := zki (S := S ++ [.lst ((acc ++ n1).map Lk.t)]) (k := S.length) zjy;have c2 := c2 (acc ++ n1);have hin' := hin [.lst (acc.map Lk.t)];rw [hc] at hin';have hf := zf4 (HA [.lst (acc.map Lk.t)]) (zzl H.nd);have hi := (HA [.lst (acc.map Lk.t)]).ins;refine ⟨[some (.obj h), some tn, some (.obj S.length), some (.str p.nm), some (.obj p.i)], S ++ [.lst ((acc ++ n1 ++ n2).map Lk.t)], ?_, ⟨_, _, rfl⟩, by rw [List.append_assoc], ?_⟩
     ·generalize S ++ [Cell.lst ((acc ++ n1 ++ n2).map Lk.t)] = Z2 at x2 ⊢
      generalize S ++ [Cell.lst ((acc ++ n1).map Lk.t)] = Z1 at x1 x2 k2 c2;generalize S ++ [Cell.lst (acc.map Lk.t)] = Z0 at c1 x1 k1 hin' hf hi ⊢;simp [zjw, hin', hi, hm2, hf, k1, c1, x1, k2, c2, x2]
     ·simp only [List.length_append, List.length_singleton]
      omega
    ·have hc : names.contains p.nm = false := by simpa using hc
     refine ⟨[some (.obj h), some tn, some (.obj S.length), some (.str p.nm), y], S ++ [.lst (acc.map Lk.t)], ?_, ⟨_, _, rfl⟩, by rw [if_neg (by rw [hc]; decide), List.append_nil], ?_⟩
     ·have hin' := hin [.lst (acc.map Lk.t)]
      rw [hc] at hin';simp [zjw, hin']
     ·rw [if_neg (by rw [hc]; decide), List.append_nil, List.length_append, List.length_singleton]; omega) (fun _ _ _ => rfl)
  rw [List.length_map, List.length_map, List.take_length] at hS;subst hS;simp [zr0, e]
 refine zy7 run (by simp) (Nat.le_refl _) zjy fun t ht => ?_;obtain ⟨k, _, rfl⟩ := List.mem_map.mp ht;exact z57 (by simp)
end DN
namespace DN
open PySem L2 MF
variable {c : Cl} {S : Sto} {ρ : Ev}
theorem zxk : ∀ (l m : List Str), l.Nodup -> (∀ x ∈ l, x ∈ m) -> l.length <= m.length
 | [], _, _, _ => Nat.zero_le _
 | x :: l, m, nd, h => by
   rw [List.nodup_cons] at nd;have := zxk l (m.erase x) nd.2 fun y hy => (List.mem_erase_of_ne (fun e => nd.1 (by rw [<- e]; exact hy))).mpr (h y (List.mem_cons_of_mem _ hy));rw [List.length_erase_of_mem (h x (List.mem_cons_self ..))] at this;have := List.length_pos_of_mem (h x (List.mem_cons_self ..));rw [List.length_cons];omega
def zbt (g : List Str) : List (Key × T) := g.map fun x => (.inr x, .bl true)
theorem zgv (x : Str) : ∀ (g : List Str), valT (zbt g) (.inr x) = if x ∈ g then some (.bl true) else none
 | [] => by simp [valT, zbt]
 | y :: g => by
   have ih := zgv x g;by_cases h : y = x
   ·simp [valT, zbt, h]
   ·have e : valT (zbt (y :: g)) (.inr x) = valT (zbt g) (.inr x) := by simp [valT, zbt, List.find?_cons, h]
    rw [e, ih];simp [Ne.symm h]
theorem zup (g : List Str) (x : Str) (h : x ∉ g) : putT (zbt g) (.inr x) (.bl true) = zbt (g ++ [x]) := by
 rw [zjz (by rw [zgv, if_neg h])];simp [zbt]
theorem zzm {k : Nat} {v : Cell} (h : S[k]? = some v) : S.set k v = S := by
 obtain ⟨hl, e⟩ := List.getElem?_eq_some_iff.mp h;rw [<- e];exact List.set_getElem_self hl
theorem ztu (p : HP) : List.lookup (Str.ofString "place") p.fs = some (.str p.pl) := by simp [HP.fs, List.lookup_cons]
theorem z6o (p : HP) : List.lookup (Str.ofString "on") p.fs = some (.bl p.on) := by simp [HP.fs, List.lookup_cons]
end DN
namespace DN
open PySem L2 MF
variable {c : Cl} {S : Sto} {ρ : Ev}
@[simp] theorem z87 (acc : Str) : jT acc [] ρ S = (if acc.length <= 1000 then .ok (.str acc) S else .bad) := rfl
@[simp] theorem z8b (acc : Str) (f : DE) (fs : List DE) : jT acc (f :: fs) ρ S = (f ρ).bind (fun t => match t with
 | .str y => (fun S => if (acc ++ y).length <= 1000 then jT (acc ++ y) fs ρ S else .bad)
 | _ => M.bad) S := rfl
@[simp] theorem z88 (y : Str) : zrt (.str y) S = (if (reprText y).length <= 1000 then .ok (.str (reprText y)) S else .bad) := rfl
@[simp] theorem z8c (C : Addr) (fr : DA) : zhm C fr ρ S = (fr ρ).bind (fun ts => fun S => if ts.length <= 1000 then .exc C none S else .bad) S := rfl
@[simp] theorem z92 (fb : DS) (js : List Nat) (fh : DH) : dTry fb js fh ρ S = (match fb ρ S with
  | .ok x S' => .ok x S'
  | .exc C fs S' => fh C fs (msk js ρ) S'
  | .bad => .bad) := by unfold dTry; split <;> simp_all
def Sm (x : Str) : Prop := (reprText x).length <= 100
theorem lenS (a : String) : (Str.ofString a).length = a.length := by
 simp [Str.length, Str.ofString_eq_toList]
 try rfl
theorem len3 (a b : String) {x : Str} (h : Sm x) (ha : a.length <= 100) (hb : b.length <= 100) : (reprText x).length <= 1000 /\ (Str.empty ++ Str.ofString a).length <= 1000 /\ (Str.empty ++ Str.ofString a ++ reprText x).length <= 1000 /\ (Str.empty ++ Str.ofString a ++ reprText x ++ Str.ofString b).length <= 1000 := by
 unfold Sm at h;have e0 : Str.empty.length = 0 := rfl;simp only [Str.length_append, lenS, e0];omega
theorem zd2 {h : Nat} {pl : List PlM} {ps : List HP} (A : zas c S h pl ps) {x : Str} (hp : x ∉ ps.map (·.nm)) (sm : Sm x) : zak c [.obj h, .str x] S = .exc c.noPiece none S := by
 have e := zig x ps;rw [zih hp] at e;obtain ⟨l1, l2, l3, l4⟩ := len3 "no piece " " hangs" sm (by decide) (by decide);simp [zak, zfn, A.ins, zde, zeh, A.dPieces, keyT, e, l1, l2, l3, l4]
theorem zii {h : Nat} {pl : List PlM} {ps : List HP} (A : zas c S h pl ps) {x : Str} (hp : pl.find? (fun p => decide (p.nm = x)) = none) (sm : Sm x) : zaw c [.obj h, .str x] S = .exc c.noPlace none S := by
 have e := zkm x pl;rw [hp] at e;obtain ⟨l1, l2, l3, l4⟩ := len3 "there is no place " "" sm (by decide) (by decide);simp [zaw, zfo, A.ins, zgu, zeh, A.dPlaces, keyT, e, l1, l2, l3]
theorem zmq {h : Nat} {pl : List PlM} {ps : List HP} (A : zas c S h pl ps) {nm q : Str} {dd b : T} (hn : nm ∈ ps.map (·.nm)) (sm : Sm nm) : zau c [.obj h, .str nm, .str q, dd, b] S = .exc c.nameThere none S := by
 obtain ⟨p, hp, rfl⟩ := List.mem_map.mp hn;have e := zig p.nm ps;rw [zge A.nd hp] at e;obtain ⟨l1, l2, l3, l4⟩ := len3 "a piece " " hangs already" sm (by decide) (by decide);simp [zau, zfp, A.ins, zde, gDin, A.dPieces, keyT, e, l1, l2, l3, l4]
theorem zxl {h : Nat} {pl : List PlM} {ps : List HP} (A : zas c S h pl ps) {nm q b : Str} {dd : T} {pm : PlM} (hn : nm ∉ ps.map (·.nm)) (hq : pl.find? (fun p => decide (p.nm = q)) = some pm) (hb : b ∉ ps.map (·.nm)) (sm : Sm b) :
 zau c [.obj h, .str nm, .str q, dd, .str b] S = .exc c.noPiece none S := by
 have e1 : valT (psD ps) (.inr nm) = none := by rw [zig, zih hn]; rfl
 have hm := zbm (m := Str.ofString "find_place") h (by simp) (by simp);have hm2 := zbm (m := Str.ofString "find_piece") h (by simp) (by simp);have e2 := zez A hq;have e3 := zd2 A hb sm;simp [zau, zfp, A.ins, zde, gDin, A.dPieces, keyT, e1, hm, hm2, e2, e3, zl7, zm8]
theorem zr3 {h : Nat} {pl : List PlM} {ps : List HP} (A : zas c S h pl ps) {nm : Str} {b : T} (hn : nm ∉ ps.map (·.nm)) (sm : Sm nm) : zfc c [.obj h, .str nm, b] S = .exc c.noPiece none S := by
 have hm := zbm (m := Str.ofString "find_piece") h (by simp) (by simp);have e := zd2 A hn sm;simp [zfc, zjx, A.ins, hm, e]
theorem zxm {h : Nat} {pl : List PlM} {ps : List HP} (A : zas c S h pl ps) {nm : Str} {t0 t1 t2 t3 : T} (hn : nm ∉ ps.map (·.nm)) (sm : Sm nm) : za0 c [.obj h, .str nm, t0, t1, t2, t3] S = .exc c.noPiece none S := by
 have hm := zbm (m := Str.ofString "find_piece") h (by simp) (by simp);have e := zd2 A hn sm;simp [za0, zjf, A.ins, hm, e]
theorem zxn {q : Str} : ∀ (ps : List HP) {x0 x1 : Option T} {acc : List T}, (∀ p ∈ ps, S[p.i]? = some (.ins c.piece p.fs)) -> acc.length + ps.length <= 900 ->
 zgx (fun _ => True) (zuo 0 1) (zd0 c) (zft c) (zhe (psD ps)) [x0, x1, some (.str q)] acc S = .ok (acc ++ ((ps.filter fun p => decide (p.pl = q) && p.on).map fun p => T.str p.nm)) S
 | [], x0, x1, acc, _, _ => by
   show zgx _ _ _ _ [] _ acc S = _;unfold zgx;rw [if_pos trivial];simp
 | p :: ps, x0, x1, acc, hp, hl => by
   have i := zgb (hp p (List.mem_cons_self ..));rw [List.length_cons] at hl;have ih := fun (acc : List T) (ha : acc.length + ps.length <= 900) => zxn (q := q) ps (x0 := some (.str p.nm)) (x1 := some (.obj p.i)) (acc := acc) (fun r hr => hp r (List.mem_cons_of_mem _ hr)) ha;have ht : zd0 c [some (.str p.nm), some (.obj p.i), some (.str q)] S = .ok (decide (p.pl = q) && p.on) S := by
    by_cases z : p.pl = q
    ·simp [zd0, i, ztu, z6o, z]
    ·simp [zd0, i, ztu, z6o, z]
   have he : zft c [some (.str p.nm), some (.obj p.i), some (.str q)] S = .ok (.str p.nm) S := by simp [zft]
   show zgx _ _ _ _ (.tup [.str p.nm, .obj p.i] :: zhe (psD ps)) _ acc S = _;unfold zgx;rw [if_pos trivial];show (M.bind (zd0 c [some (.str p.nm), some (.obj p.i), some (.str q)]) _) S = _;rw [zbw, ht];have hacc : acc.length < 1000 := by omega
   cases z : (decide (p.pl = q) && p.on) with
   | false =>
     rw [List.filter_cons_of_neg (by rw [z]; decide)];exact ih acc (by omega)
   | true =>
     rw [List.filter_cons_of_pos (by rw [z]), List.map_cons];have := ih (acc ++ [.str p.nm]) (by rw [List.length_append, List.length_singleton]; omega);rw [List.append_assoc] at this;simp only [if_true, zbw, he, z54, hacc];exact this
theorem f_at {h : Nat} {pl : List PlM} {ps : List HP} (A : zas c S h pl ps) {q : Str} {pm : PlM} (hq : pl.find? (fun p => decide (p.nm = q)) = some pm) (hl : ps.length <= 800) :
 zdh c [.obj h, .str q] S = .ok (strL ((ps.filter fun p => decide (p.pl = q) && p.on).map (·.nm))) S := by
 have hm := zbm (m := Str.ofString "find_place") h (by simp) (by simp);have e2 := zez A hq;have lk := A.pieces;have len := A.lt;have ec : zqc zhe 2 [1] (zhq c) (zuo 0 1) (zd0 c) (zft c) finF [some (.obj h), some (.str q)] S = .ok (strL ((ps.filter fun p => decide (p.pl = q) && p.on).map (·.nm))) S := by
  have e1 : zhq c [some (.obj h), some (.str q)] S = .ok (.obj (h + 2)) S := by simp [zhq, A.ins, zde]
  have cc := zxn (c := c) (S := S.set (h + 2) (.lck (psD ps))) (q := q) ps (x0 := none) (x1 := none) (acc := []) (fun p hp => by rw [zah (by have := A.far p hp; omega)]; exact (A.piece p hp).o) (by simp; omega);have q2 : (S.set (h + 2) (.lck (psD ps))).set (h + 2) (.dic (psD ps)) = S := by rw [List.set_set, zzm lk]
  have q1 : (S.set (h + 2) (.lck (psD ps)))[h + 2]? = some (.lck (psD ps)) := zfd lk;unfold zqc;rw [zbw, e1];show (match S[h + 2]? with | some (.dic kvs) => unl (h + 2) kvs (M.bind (noX (zgx _ _ _ _ (zhe kvs) [none, none, some (.str q)] [])) finF (S.set (h + 2) (.lck kvs))) | _ => .bad) = _;rw [lk];show unl (h + 2) (psD ps) (M.bind (noX (zgx _ _ _ _ (zhe (psD ps)) [none, none, some (.str q)] [])) finF (S.set (h + 2) (.lck (psD ps)))) = _;have : noX (zgx (fun _ => True) (zuo 0 1) (zd0 c) (zft c) (zhe (psD ps)) [none, none, some (.str q)] []) (S.set (h + 2) (.lck (psD ps))) = .ok ([] ++ ((ps.filter fun p => decide (p.pl = q) && p.on).map fun p => T.str p.nm)) (S.set (h + 2) (.lck (psD ps))) := by
   unfold noX; rw [cc]
  rw [zbw, this];show unl (h + 2) (psD ps) (R.ok (T.lst ([] ++ ((ps.filter fun p => decide (p.pl = q) && p.on).map fun p => T.str p.nm))) (S.set (h + 2) (.lck (psD ps)))) = _;unfold unl;simp only [q1, if_true, q2];simp [strL]
 simp [zdh, zmm, A.ins, hm, e2, ec]
theorem zr4 {h : Nat} {pl : List PlM} {ps : List HP} (A : zas c S h pl ps) {q : Str} (hq : pl.find? (fun p => decide (p.nm = q)) = none) (sm : Sm q) : zdh c [.obj h, .str q] S = .exc c.noPlace none S := by
 have hm := zbm (m := Str.ofString "find_place") h (by simp) (by simp);have e2 := zii A hq sm;simp [zdh, zmm, A.ins, hm, e2]
end DN
namespace DN
open PySem L2 MF
variable {c : Cl} {S : Sto} {ρ : Ev}
theorem zzn : ((List.range 26).map fun (k : Nat) => zg7 k).Nodup := by decide +kernel
theorem zxo : ∀ k : Nat, k < 26 -> okN (zg7 k) := by unfold okN; decide +kernel
theorem ztv {k m : Int} (h0 : 0 < m) (h1 : m <= 26) : okN (zg7 (k % m)) := by
 have a := Int.emod_nonneg k (show m ≠ 0 by omega);have b := Int.emod_lt_of_pos k h0;have := zxo (k % m).toNat (by omega);rwa [Int.toNat_of_nonneg a] at this
theorem z3a {x many : Int} (h0 : 0 < many) (h1 : many <= 26) : ∀ z ∈ zqk x many, okN z := by
 intro z hz;unfold zqk at hz
 split at hz
 ·cases hz
 ·split at hz
  ·simp only [List.mem_cons, List.not_mem_nil, or_false] at hz
   rcases hz with rfl | rfl <;> exact ztv h0 h1
  ·simp only [List.mem_singleton] at hz
   subst hz;exact ztv h0 h1
theorem zlo (x many : Int) : (zqk x many).length <= 2 := by
 unfold zqk
 split
 ·simp
 ·split <;> simp
structure Drawn (ps : List Pc) : Prop where
 nd : (ps.map (·.nm)).Nodup
 len : ps.length <= 13
 pl : ∀ p ∈ ps, p.pl = "hub" \/ p.pl = "side"
 w : ∀ p ∈ ps, p.w0.length <= 2 /\ p.w1.length <= 2 /\ p.w2.length <= 2 /\ p.w3.length <= 2
 okn : ∀ p ∈ ps, okN p.nm
 okw : ∀ p ∈ ps, ∀ x, x ∈ p.w0 \/ x ∈ p.w1 \/ x ∈ p.w2 \/ x ∈ p.w3 -> okN x
theorem drawn (ns : List Int) (start many : Int) (h0 : 0 <= many) (h1 : many <= 13) : Drawn (pcs ns start many) := by
 have mem : ∀ p ∈ pcs ns start many, ∃ k : Nat, k < many.toNat /\ p = pcAt ns start many k := fun p hp => by
  obtain ⟨k, hk, rfl⟩ := List.mem_map.mp hp;exact ⟨k, List.mem_range.mp hk, rfl⟩
 refine ⟨?_, by simp [pcs]; omega, fun p hp => ?_, fun p hp => ?_, fun p hp => ?_, fun p hp x hx => ?_⟩
 ·have e : (pcs ns start many).map (·.nm) = (List.range many.toNat).map fun (k : Nat) => zg7 k := by
   unfold pcs;rw [List.map_map];rfl
  rw [e];have hs : ((List.range many.toNat).map fun (k : Nat) => zg7 k).Sublist ((List.range 26).map fun (k : Nat) => zg7 k) := by
   refine List.Sublist.map _ ?_;rw [show (26 : Nat) = many.toNat + (26 - many.toNat) by omega, List.range_add];exact List.sublist_append_left ..
  exact zzn.sublist hs
 ·obtain ⟨k, _, rfl⟩ := mem p hp
  show zox _ = _ \/ zox _ = _;unfold zox
  split
  ·exact .inr rfl
  ·exact .inl rfl
 ·obtain ⟨k, _, rfl⟩ := mem p hp
  exact ⟨zlo _ _, zlo _ _, zlo _ _, zlo _ _⟩
 ·obtain ⟨k, hk, rfl⟩ := mem p hp
  exact zxo k (by omega)
 ·obtain ⟨k, _, rfl⟩ := mem p hp
  have q : (0 : Int) < many + 1 := by omega
  have q' : many + 1 <= 26 := by omega
  rcases hx with h | h | h | h <;> exact z3a q q' x h
end DN
namespace DN
open PySem L2 MF
variable {sec : Str -> List Str}
def zgw (sec : Str -> List Str) (left : List Str) (x : Str) : Bool := !(left.any fun f => decide (x ∈ sec f))
end DN
namespace DN
open PySem L2 MF
variable {c : Cl} {S : Sto} {ρ : Ev} {sec : Str -> List Str} {names : List Str}
def secD (names : List Str) (sec : Str -> List Str) : T := .dic (names.map fun n => (.inr n, .dic (zbt (sec n))))
theorem zoz {g : Str -> T} {n : Str} : ∀ {names : List Str}, n ∈ names -> valT (names.map fun n => (Sum.inr n, g n)) (.inr n) = some (g n)
 | m :: names, h => by
   by_cases z : m = n
   ·subst z; simp [valT]
   ·have h : n ∈ names := by
     rcases List.mem_cons.mp h with h | h
     ·exact absurd h.symm z
     ·exact h
    have ih := zoz (g := g) h;unfold valT at ih ⊢;rw [List.map_cons, List.find?_cons];simpa [z] using ih
theorem zmr {g : Str -> T} {n : Str} : ∀ {names : List Str}, n ∉ names -> valT (names.map fun n => (Sum.inr n, g n)) (.inr n) = none
 | [], _ => rfl
 | m :: names, h => by
   have z : m ≠ n := fun e => h (by simp [e]);have ih := zmr (g := g) (n := n) (names := names) fun e => h (List.mem_cons_of_mem _ e);unfold valT at ih ⊢;rw [List.map_cons, List.find?_cons];simpa [z] using ih
theorem z3b {n : Str} (hn : n ∈ names) : gDix (secD names sec) (.str n) S = .ok (.dic (zbt (sec n))) S := by
 simp [gDix, secD, zgc, keyT, zoz hn]
theorem ztw (b : Str) (l : List Str) : gDin (.str b) (.dic (zbt l)) S = .ok (.bl (decide (b ∈ l))) S := by
 by_cases z : b ∈ l
 ·simp [gDin, zgc, keyT, zgv, z]
 ·simp [gDin, zgc, keyT, zgv, z]
theorem zqr {st : Sto -> Prop} {body : DS} {i : Nat} {ρ0 : Ev} {p : T -> Option T} (hst : st S) : ∀ (ts : List T) (ρ : Ev), (∀ t, ρ.set i (some t) = ρ0.set i (some t)) -> (∀ t ∈ ts, body (ρ0.set i (some t)) S = match p t with | some r => .ok (.rt r) S | none => .ok (.nx (ρ0.set i (some t))) S) ->
 ∃ ρ', (∀ t, ρ'.set i (some t) = ρ0.set i (some t)) /\ zcx st (zb0 i) body ts ρ S = match ts.findSome? p with | some r => .ok (.rt r) S | none => .ok (.nx ρ') S
 | [], ρ, hρ, _ => ⟨ρ, hρ, by
   unfold zcx;rw [if_pos hst];rfl⟩
 | t :: ts, ρ, hρ, hb => by
   have h1 := hb t (List.mem_cons_self ..);obtain ⟨ρ', hρ', e⟩ := zqr hst ts (ρ0.set i (some t)) (fun u => by rw [List.set_set]) fun u hu => hb u (List.mem_cons_of_mem _ hu);unfold zcx;rw [if_pos hst];simp only [zb0, hρ t, List.findSome?_cons];show ∃ ρ', _ /\ (M.bind (body (ρ0.set i (some t))) _) S = _;rw [zbw, h1];cases e2 : p t with
   | some r => exact ⟨ρ', hρ', rfl⟩
   | none => exact ⟨ρ', hρ', e⟩
theorem zxp {α : Type} (f : α -> Bool) : ∀ (l : List α), zqd (l.map fun x => T.bl (f x)) = some (l.map f)
 | [] => rfl
 | a :: r => by
   rw [List.map_cons];unfold zqd;rw [zxp f r];rfl
theorem zn3 {k : Nat} {left : List Str} (hk : S[k]? = some (.lst (left.map .str))) (hsub : ∀ x ∈ left, x ∈ names) (hl : left.length <= 900) :
 zcz c [secD names sec, .obj k] S = .ok (match left.find? (zgw sec left) with | some x => .str x | none => .non) S := by
 have hlst := zgy hk;have any : ∀ x, e1 gAny (zgr 1 [2, 0] (zd7 c) (zb0 0) yesD (zd6 c) finF) [some (secD names sec), some (.obj k), some (.str x)] S = .ok (.bl (left.any fun f => decide (x ∈ sec f))) S := fun x => by
  have hc := zw1 (ρ := [some (secD names sec), some (.obj k), some (.str x)]) (S := S) (js := [2, 0]) (it := zd7 c) (te := zd6 c) (ts := left.map .str) (st := fun S' => za6 S' (.obj k) = some (left.map .str))
   (f := fun t => match t with | .str y => .bl (decide (x ∈ sec y)) | _ => .non) (by simp [zd7, hlst]) hlst (by simpa using (by omega : left.length <= 1000)) (fun t ht => by
    obtain ⟨y, hy, rfl⟩ := List.mem_map.mp ht;simp [zd6, z3b (hsub y hy), ztw])
  rw [List.map_map] at hc;have e : gAny (.lst (left.map fun y => T.bl (decide (x ∈ sec y)))) S = .ok (.bl (left.any fun f => decide (x ∈ sec f))) S := by
   unfold gAny;simp only [z0q, Option.bind_some, zxp, List.any_map];rfl
  rw [x_e1, zbw, hc];exact e
 obtain ⟨ρ', _, e⟩ := zqr (S := S) (st := fun S' => za6 S' (.obj k) = some (left.map .str)) (body := zb1 c) (i := 2) (ρ0 := [some (secD names sec), some (.obj k), none]) (p := fun t => match t with | .str x => if zgw sec left x = true then some (.str x) else none | _ => none) hlst (left.map .str) [some (secD names sec), some (.obj k), none] (fun _ => rfl) (fun t ht => by
  obtain ⟨x, hx, rfl⟩ := List.mem_map.mp ht;have a := any x;rw [x_e1, zbw] at a;by_cases z : (left.any fun f => decide (x ∈ sec f)) = true
  ·have z2 : zgw sec left x = false := by unfold zgw; rw [z]; rfl
   simp only [z2];rw [z] at a;simp [zb1, a]
  ·have z : (left.any fun f => decide (x ∈ sec f)) = false := by simpa using z
   have z2 : zgw sec left x = true := by unfold zgw; rw [z]; rfl
   simp only [z2, if_true];rw [z] at a;simp [zb1, a])
 have ef : (left.map T.str).findSome? (fun t => match t with | .str x => if zgw sec left x = true then some (T.str x) else none | _ => none) = (left.find? (zgw sec left)).map T.str := by
  generalize zgw sec left = q;clear e any hlst hk hsub hl
  induction left with
  | nil => rfl
  | cons a r ih =>
    rw [List.map_cons, List.findSome?_cons, List.find?_cons];cases z : q a with
    | true => simp [z]
    | false => simpa [z] using ih
 rw [ef] at e;have es : sFor (iL (eVar 1)) (zb0 2) (zb1 c) [some (secD names sec), some (.obj k), none] S = zcx (fun S' => za6 S' (.obj k) = some (left.map .str)) (zb0 2) (zb1 c) (left.map .str) [some (secD names sec), some (.obj k), none] S := by
  unfold sFor;simp [hlst]
 cases z : left.find? (zgw sec left) with
 | none =>
   rw [z] at e;simp [zcz, zgt, es, e]
 | some x =>
   rw [z] at e;simp [zcz, zgt, es, e]
end DN
namespace DN
open PySem L2 MF
variable {c : Cl} {S : Sto} {ρ : Ev} {sec : Str -> List Str} {names : List Str}
def zg8 (names A : List Str) (k : Nat) : List (Key × T) := A.map fun n => (.inr n, .obj (k + 1 + names.idxOf n))
def stS (S : Sto) (names : List Str) (sec : Str -> List Str) : Sto := S ++ .dic (zg8 names names S.length) :: names.map fun n => .dic (zbt (sec n))
theorem zxq {A B : List Str} {n : Str} (h : n ∉ A) : (A ++ n :: B).idxOf n = A.length := by
 rw [List.idxOf_append, if_neg h];simp
theorem zo0 : (stS S names sec)[S.length]? = some (.dic (zg8 names names S.length)) := by unfold stS; rw [zoy]; rfl
theorem zkn {j : Nat} {u : Cell} (h : S[j]? = some u) : (stS S names sec)[j]? = some u := zcc h
theorem zxr {a : Str} (ha : a ∈ names) : (stS S names sec)[S.length + 1 + names.idxOf a]? = some (.dic (zbt (sec a))) := by
 unfold stS;rw [Nat.add_assoc, getR, Nat.add_comm 1, List.getElem?_cons_succ, List.getElem?_map];have hl := List.idxOf_lt_length_of_mem ha;rw [List.getElem?_eq_getElem hl, List.getElem_idxOf hl];rfl
theorem z3c {a : Str} {l : List Str} (nd : names.Nodup) (ha : a ∈ names) : (stS S names sec).set (S.length + 1 + names.idxOf a) (.dic (zbt l)) = stS S names (fun n => if n = a then l else sec n) := by
 unfold stS;rw [Nat.add_assoc, setR, Nat.add_comm 1, List.set_cons_succ];congr 2;obtain ⟨A, B, rfl⟩ := List.append_of_mem ha;have hA : a ∉ A := fun hm => by
  rw [List.nodup_append] at nd;exact nd.2.2 a hm a (List.mem_cons_self ..) rfl
 have hB : a ∉ B := fun hm => by
  rw [List.nodup_append, List.nodup_cons] at nd;exact nd.2.1.1 hm
 rw [zxq hA, List.map_append, List.map_cons, List.set_append_right _ _ (by simp), List.length_map, Nat.sub_self, List.set_cons_zero, List.map_append, List.map_cons];show _ ++ Cell.dic (zbt l) :: _ = _ ++ Cell.dic (zbt (if a = a then l else sec a)) :: _;rw [if_pos rfl];congr 1
 ·exact List.map_congr_left fun n hn => by
   show _ = Cell.dic (zbt (if n = a then l else sec n));rw [if_neg (fun e => hA (by rw [<- e]; exact hn))]
 ·congr 1
  exact List.map_congr_left fun n hn => by
   show _ = Cell.dic (zbt (if n = a then l else sec n));rw [if_neg (fun e => hB (by rw [<- e]; exact hn))]
def addS (sec : Str -> List Str) (a b : Str) : Str -> List Str := fun n => if n = a then (if b ∈ sec a then sec a else sec a ++ [b]) else sec n
theorem zxs (g : List Str) (x : Str) : putT (zbt g) (.inr x) (.bl true) = zbt (if x ∈ g then g else g ++ [x]) := by
 by_cases z : x ∈ g
 ·rw [if_pos z]
  unfold putT;have hany : ((zbt g).any fun kv => decide (kv.1 = Sum.inr x)) = true := List.any_eq_true.mpr ⟨((Sum.inr x : Key), T.bl true), List.mem_map.mpr ⟨x, z, rfl⟩, by simp⟩;rw [if_pos hany];unfold zbt;rw [List.map_map];refine List.map_congr_left fun y _ => ?_;show (if (Sum.inr y : Key) = Sum.inr x then ((Sum.inr y : Key), T.bl true) else (Sum.inr y, .bl true)) = _
  split <;> rfl
 ·rw [if_neg z, zup g x z]
theorem zzo {a b x y : Str} : y ∈ addS sec a b x ↔ y ∈ sec x \/ (x = a /\ y = b) := by
 unfold addS;by_cases z : x = a
 ·rw [if_pos z]
  by_cases w : b ∈ sec a
  ·rw [if_pos w, z]
   constructor
   ·exact .inl
   ·rintro (h | ⟨_, rfl⟩)
    ·exact h
    ·exact w
  ·rw [if_neg w, z, List.mem_append, List.mem_singleton]
   simp
 ·rw [if_neg z]
  simp [z]
theorem zlp {a b x : Str} : (addS sec a b x).length <= (sec x).length + 1 := by
 unfold addS
 split
 ·rename_i z
  subst z
  split
  ·omega
  ·simp
 ·omega
theorem ztx {n : Str} (h : n ∈ names) : valT (zg8 names names S.length) (.inr n) = some (.obj (S.length + 1 + names.idxOf n)) := zoz (g := fun n => .obj (S.length + 1 + names.idxOf n)) h
theorem zxt {n : Str} (h : n ∉ names) : valT (zg8 names names S.length) (.inr n) = none := zmr (g := fun n => .obj (S.length + 1 + names.idxOf n)) h
theorem zty (n : Str) : gDin (.str n) (.obj S.length) (stS S names sec) = .ok (.bl (decide (n ∈ names))) (stS S names sec) := by
 have d := ztq (zo0 (S := S) (names := names) (sec := sec));by_cases z : n ∈ names
 ·simp [gDin, d, keyT, ztx z, z]
 ·simp [gDin, d, keyT, zxt z, z]
theorem zxu {a b : Str} {ρ : Ev} {fd fk : DE} (nd : names.Nodup) (ha : a ∈ names) (hl : (sec a).length <= 800) (h1 : fd ρ (stS S names sec) = .ok (.obj (S.length + 1 + names.idxOf a)) (stS S names sec)) (h2 : fk ρ (stS S names sec) = .ok (.str b) (stS S names sec)) :
 zna fd fk (eC (.bl true)) ρ (stS S names sec) = .ok (.nx ρ) (stS S names (addS sec a b)) := by
 have g := zxr (S := S) (sec := sec) ha;have hl2 : (zbt (sec a)).length <= 900 := by simp [zbt]; omega
 have e : (fun n => if n = a then (if b ∈ sec a then sec a else sec a ++ [b]) else sec n) = addS sec a b := rfl;simp [h1, h2, keyT, g, hl2, zxs, z3c nd ha, e]
theorem ztz {a : Str} (ha : a ∈ names) : gDix (.obj S.length) (.str a) (stS S names sec) = .ok (.obj (S.length + 1 + names.idxOf a)) (stS S names sec) := by
 have d := ztq (zo0 (S := S) (names := names) (sec := sec));simp [gDix, d, keyT, ztx ha]
def ze1 (names : List Str) (nm : Str) (sec : Str -> List Str) (o : Str) : Str -> List Str := if o ∈ names then addS sec nm o else sec
def zg9 (names : List Str) (nm : Str) (sec : Str -> List Str) (o : Str) : Str -> List Str := if o ∈ names then addS sec o nm else sec
theorem zn4 {h : Nat} {nm : Str} {t1 t4 : Option T} {st : Sto -> Prop} (nd : names.Nodup) (hn : nm ∈ names) (hst : ∀ sec, st (stS S names sec)) : ∀ (os : List Str) {sec : Str -> List Str} {x5 : Option T}, (∀ x, (sec x).length + os.length <= 800) ->
 ∃ x5', zcx st (zb0 5) (zcp c) (os.map .str) [some (.obj h), t1, some (.obj S.length), some (.str nm), t4, x5] (stS S names sec) = .ok (.nx [some (.obj h), t1, some (.obj S.length), some (.str nm), t4, x5']) (stS S names (os.foldl (ze1 names nm) sec))
 | [], sec, x5, _ => ⟨x5, by
   show zcx _ _ _ [] _ _ = _;unfold zcx;rw [if_pos (hst _)];rfl⟩
 | o :: os, sec, x5, hl => by
   have hb : zcp c [some (.obj h), t1, some (.obj S.length), some (.str nm), t4, some (.str o)] (stS S names sec) = .ok (.nx [some (.obj h), t1, some (.obj S.length), some (.str nm), t4, some (.str o)]) (stS S names (ze1 names nm sec o)) := by
    unfold ze1;have d := zty (S := S) (names := names) (sec := sec) o;by_cases z : o ∈ names
    ·have p := zxu (S := S) (sec := sec) (a := nm) (b := o) (ρ := [some (.obj h), t1, some (.obj S.length), some (.str nm), t4, some (.str o)]) (fd := e2 gDix (eVar 2) (eVar 3)) (fk := eVar 5) nd hn (by have := hl nm; simp at this; omega) (by simp [ztz hn]) (by simp)
     rw [if_pos z];simp only [decide_eq_true z] at d;unfold zcp;rw [x_if, zbw, z52, zbw, x_e2, zbw];simp only [zwz, List.getElem?_cons_succ, List.getElem?_cons_zero, zbw, d, zw0, if_true];exact p
    ·rw [if_neg z]
     simp only [decide_eq_false z] at d;simp [zcp, d]
   obtain ⟨x5', e⟩ := zn4 (h := h) (t1 := t1) (t4 := t4) nd hn hst os (sec := ze1 names nm sec o) (x5 := some (.str o)) (fun x => by
    have := hl x;rw [List.length_cons] at this;unfold ze1
    split
    ·have := zlp (sec := sec) (a := nm) (b := o) (x := x); omega
    ·omega)
   refine ⟨x5', ?_⟩;show zcx _ _ _ (.str o :: os.map .str) _ _ = _;unfold zcx;rw [if_pos (hst _)];show (M.bind (zcp c [some (.obj h), t1, some (.obj S.length), some (.str nm), t4, some (.str o)]) _) _ = _;rw [zbw, hb];exact e
theorem zms {h : Nat} {nm : Str} {t1 t4 : Option T} {st : Sto -> Prop} (nd : names.Nodup) (hn : nm ∈ names) (hst : ∀ sec, st (stS S names sec)) : ∀ (os : List Str) {sec : Str -> List Str} {x5 : Option T}, (∀ x, (sec x).length + os.length <= 800) ->
 ∃ x5', zcx st (zb0 5) (zcq c) (os.map .str) [some (.obj h), t1, some (.obj S.length), some (.str nm), t4, x5] (stS S names sec) = .ok (.nx [some (.obj h), t1, some (.obj S.length), some (.str nm), t4, x5']) (stS S names (os.foldl (zg9 names nm) sec))
 | [], sec, x5, _ => ⟨x5, by
   show zcx _ _ _ [] _ _ = _;unfold zcx;rw [if_pos (hst _)];rfl⟩
 | o :: os, sec, x5, hl => by
   have hb : zcq c [some (.obj h), t1, some (.obj S.length), some (.str nm), t4, some (.str o)] (stS S names sec) = .ok (.nx [some (.obj h), t1, some (.obj S.length), some (.str nm), t4, some (.str o)]) (stS S names (zg9 names nm sec o)) := by
    unfold zg9;have d := zty (S := S) (names := names) (sec := sec) o;by_cases z : o ∈ names
    ·have p := zxu (S := S) (sec := sec) (a := o) (b := nm) (ρ := [some (.obj h), t1, some (.obj S.length), some (.str nm), t4, some (.str o)]) (fd := e2 gDix (eVar 2) (eVar 5)) (fk := eVar 3) nd z (by have := hl o; simp at this; omega) (by simp [ztz z]) (by simp)
     rw [if_pos z];simp only [decide_eq_true z] at d;unfold zcq;rw [x_if, zbw, z52, zbw, x_e2, zbw];simp only [zwz, List.getElem?_cons_succ, List.getElem?_cons_zero, zbw, d, zw0, if_true];exact p
    ·rw [if_neg z]
     simp only [decide_eq_false z] at d;simp [zcq, d]
   obtain ⟨x5', e⟩ := zms (h := h) (t1 := t1) (t4 := t4) nd hn hst os (sec := zg9 names nm sec o) (x5 := some (.str o)) (fun x => by
    have := hl x;rw [List.length_cons] at this;unfold zg9
    split
    ·have := zlp (sec := sec) (a := o) (b := nm) (x := x); omega
    ·omega)
   refine ⟨x5', ?_⟩;show zcx _ _ _ (.str o :: os.map .str) _ _ = _;unfold zcx;rw [if_pos (hst _)];show (M.bind (zcq c [some (.obj h), t1, some (.obj S.length), some (.str nm), t4, some (.str o)]) _) _ = _;rw [zbw, hb];exact e
end DN
namespace DN
open PySem L2 MF
variable {c : Cl} {S : Sto} {ρ : Ev} {sec : Str -> List Str} {names : List Str}
theorem zxv {nm x y : Str} : ∀ (os : List Str) {sec : Str -> List Str}, y ∈ (os.foldl (ze1 names nm) sec) x ↔ y ∈ sec x \/ (x = nm /\ y ∈ os /\ y ∈ names)
 | [], sec => by simp
 | o :: os, sec => by
   rw [List.foldl_cons, zxv os];unfold ze1;by_cases z : o ∈ names
   ·rw [if_pos z, zzo]
    constructor
    ·rintro ((h | ⟨h1, h2⟩) | ⟨h1, h2, h3⟩)
     ·exact .inl h
     ·exact .inr ⟨h1, by rw [h2]; simp, by rw [h2]; exact z⟩
     ·exact .inr ⟨h1, List.mem_cons_of_mem _ h2, h3⟩
    ·rintro (h | ⟨h1, h2, h3⟩)
     ·exact .inl (.inl h)
     ·rcases List.mem_cons.mp h2 with h | h
      ·exact .inl (.inr ⟨h1, h⟩)
      ·exact .inr ⟨h1, h, h3⟩
   ·rw [if_neg z]
    constructor
    ·rintro (h | ⟨h1, h2, h3⟩)
     ·exact .inl h
     ·exact .inr ⟨h1, List.mem_cons_of_mem _ h2, h3⟩
    ·rintro (h | ⟨h1, h2, h3⟩)
     ·exact .inl h
     ·rcases List.mem_cons.mp h2 with h | h
      ·rw [h] at h3; exact absurd h3 z
      ·exact .inr ⟨h1, h, h3⟩
def zn5 (names : List Str) (sec : Str -> List Str) (q : HP) : Str -> List Str := q.w1.foldl (zg9 names q.nm) (q.w0.foldl (ze1 names q.nm) sec)
theorem zmt {nm x : Str} : ∀ (os : List Str) {sec : Str -> List Str}, ((os.foldl (ze1 names nm) sec) x).length <= (sec x).length + os.length
 | [], sec => by simp
 | o :: os, sec => by
   have := zmt (nm := nm) (x := x) os (sec := ze1 names nm sec o);rw [List.foldl_cons, List.length_cons];have h2 : (ze1 names nm sec o x).length <= (sec x).length + 1 := by
    unfold ze1
    split
    ·exact zlp
    ·omega
   omega
theorem zn6 {nm x : Str} : ∀ (os : List Str) {sec : Str -> List Str}, ((os.foldl (zg9 names nm) sec) x).length <= (sec x).length + os.length
 | [], sec => by simp
 | o :: os, sec => by
   have := zn6 (nm := nm) (x := x) os (sec := zg9 names nm sec o);rw [List.foldl_cons, List.length_cons];have h2 : (zg9 names nm sec o x).length <= (sec x).length + 1 := by
    unfold zg9
    split
    ·exact zlp
    ·omega
   omega
theorem zn7 {st : Sto -> Prop} {h : Nat} {t1 : Option T} (nd : names.Nodup) (hst : ∀ S', st S') (hbig : names.length <= 900) : ∀ (B A : List Str) {x3 x4 x5 : Option T}, names = A ++ B ->
 ∃ x3', zcx st (zb0 3) (zdk c) (B.map .str) [some (.obj h), t1, some (.obj S.length), x3, x4, x5] (S ++ .dic (zg8 names A S.length) :: List.replicate A.length (.dic [])) = .ok (.nx [some (.obj h), t1, some (.obj S.length), x3', x4, x5]) (S ++ .dic (zg8 names names S.length) :: List.replicate names.length (.dic []))
 | [], A, x3, x4, x5, e => ⟨x3, by
   rw [List.append_nil] at e;subst e;show zcx _ _ _ [] _ _ = _;unfold zcx;rw [if_pos (hst _)]⟩
 | n :: B, A, x3, x4, x5, e => by
   have hA : n ∉ A := fun hm => by
    rw [e, List.nodup_append] at nd;exact nd.2.2 n hm n (List.mem_cons_self ..) rfl
   have hi : names.idxOf n = A.length := by rw [e]; exact zxq hA
   obtain ⟨x3', ih⟩ := zn7 (h := h) (t1 := t1) nd hst hbig B (A ++ [n]) (x3 := some (.str n)) (x4 := x4) (x5 := x5) (by rw [e]; simp);refine ⟨x3', ?_⟩;have hlen : (S ++ Cell.dic (zg8 names A S.length) :: List.replicate A.length (.dic [])).length = S.length + 1 + A.length := by simp; omega
   have v : valT (zg8 names A S.length) (.inr n) = none := zmr (g := fun n => .obj (S.length + 1 + names.idxOf n)) hA;have g : (S ++ Cell.dic (zg8 names A S.length) :: List.replicate A.length (.dic []) ++ [.dic []])[S.length]? = some (.dic (zg8 names A S.length)) := by
    rw [List.append_assoc, zoy]; rfl
   have big : A.length <= 900 := by rw [e] at hbig; simp at hbig; omega
   have hl9 : (zg8 names A S.length).length <= 900 := by simp [zg8]; omega
   have es : (S ++ Cell.dic (zg8 names A S.length) :: List.replicate A.length (Cell.dic []) ++ [Cell.dic []]).set S.length (Cell.dic (zg8 names A S.length ++ [((Sum.inr n : Key), T.obj (S.length + 1 + A.length))])) = S ++ .dic (zg8 names (A ++ [n]) S.length) :: List.replicate (A ++ [n]).length (.dic []) := by
    rw [List.append_assoc, zxh];congr 1;rw [List.cons_append, List.set_cons_zero];congr 1
    ·simp [zg8, hi]
    ·rw [List.length_append, List.length_singleton, List.replicate_succ']
   have hb : zdk c [some (.obj h), t1, some (.obj S.length), some (.str n), x4, x5] (S ++ .dic (zg8 names A S.length) :: List.replicate A.length (.dic [])) = .ok (.nx [some (.obj h), t1, some (.obj S.length), some (.str n), x4, x5]) (S ++ .dic (zg8 names (A ++ [n]) S.length) :: List.replicate (A ++ [n]).length (.dic [])) := by
    generalize hS1 : (S ++ Cell.dic (zg8 names A S.length) :: List.replicate A.length (.dic [])) = S1 at hlen g es;unfold zdk;rw [z6m, zbw, z2p];simp only [zbw, zwz, List.getElem?_cons_succ, List.getElem?_cons_zero, keyT, g, if_pos hl9, zjz v, hlen, es]
   show zcx _ _ _ (.str n :: B.map .str) _ _ = _;unfold zcx;rw [if_pos (hst _)];show (M.bind (zdk c [some (.obj h), t1, some (.obj S.length), some (.str n), x4, x5]) _) _ = _;rw [zbw, hb];exact ih
end DN
namespace DN
open PySem L2 MF
variable {c : Cl} {S : Sto} {ρ : Ev} {sec : Str -> List Str} {names : List Str}
theorem z8d {h : Nat} {pl : List PlM} {ps : List HP} (A : zas c S h pl ps) (nd : names.Nodup) {q : HP} (hq : q ∈ ps) (hn : q.nm ∈ names) {t1 x4 x5 : Option T} (hl : ∀ x, (sec x).length <= 700) (h0 : q.w0.length <= 20) (h1 : q.w1.length <= 20) :
 ∃ x4' x5', zdl c [some (.obj h), t1, some (.obj S.length), some (.str q.nm), x4, x5] (stS S names sec) = .ok (.nx [some (.obj h), t1, some (.obj S.length), some (.str q.nm), x4', x5']) (stS S names (zn5 names sec q)) := by
 have A' : ∀ sec, zas c (stS S names sec) h pl ps := fun sec => A.app;have hm := zbm (m := Str.ofString "find_piece") h (by simp) (by simp);have ef := zf4 (A' sec) (zge A.nd hq);have P := A.piece q hq;have i1 := zgb (zkn (names := names) (sec := sec) P.o);have i2 := zgb (zkn (names := names) (sec := q.w0.foldl (ze1 names q.nm) sec) P.o);obtain ⟨x5a, e1⟩ := zn4 (c := c) (S := S) (h := h) (t1 := t1) (t4 := some (.obj q.i)) (st := fun S' => za6 S' (.obj (q.i + 1)) = some (q.w0.map .str)) nd hn (fun sec => zgy (zkn P.a0)) q.w0 (sec := sec) (x5 := x5) (fun x => by have := hl x; omega);obtain ⟨x5b, e2⟩ := zms (c := c) (S := S) (h := h) (t1 := t1) (t4 := some (.obj q.i)) (st := fun S' => za6 S' (.obj (q.i + 2)) = some (q.w1.map .str)) nd hn (fun sec => zgy (zkn P.a1)) q.w1 (sec := q.w0.foldl (ze1 names q.nm) sec) (x5 := x5a) (fun x => by have := hl x; have := zmt (names := names) (nm := q.nm) (x := x) q.w0 (sec := sec); omega);have l1 := zgy (zkn (names := names) (sec := sec) P.a0);have l2 := zgy (zkn (names := names) (sec := q.w0.foldl (ze1 names q.nm) sec) P.a1);have s1 : sFor (iL (MF.e1 (gFld c.piece "ahead") (eVar 4))) (zb0 5) (zcp c) [some (.obj h), t1, some (.obj S.length), some (.str q.nm), some (.obj q.i), x5] (stS S names sec) = .ok (.nx [some (.obj h), t1, some (.obj S.length), some (.str q.nm), some (.obj q.i), x5a]) (stS S names (q.w0.foldl (ze1 names q.nm) sec)) := by
  unfold sFor;rw [zbw];have : iL (MF.e1 (gFld c.piece "ahead") (eVar 4)) [some (.obj h), t1, some (.obj S.length), some (.str q.nm), some (.obj q.i), x5] (stS S names sec) = .ok (q.w0.map .str, fun S' => za6 S' (.obj (q.i + 1)) = some (q.w0.map .str)) (stS S names sec) := by simp [i1, ztr, l1]
  rw [this];exact e1
 have s2 : sFor (iL (MF.e1 (gFld c.piece "behind") (eVar 4))) (zb0 5) (zcq c) [some (.obj h), t1, some (.obj S.length), some (.str q.nm), some (.obj q.i), x5a] (stS S names (q.w0.foldl (ze1 names q.nm) sec)) = .ok (.nx [some (.obj h), t1, some (.obj S.length), some (.str q.nm), some (.obj q.i), x5b]) (stS S names (zn5 names sec q)) := by
  unfold sFor;rw [zbw];have : iL (MF.e1 (gFld c.piece "behind") (eVar 4)) [some (.obj h), t1, some (.obj S.length), some (.str q.nm), some (.obj q.i), x5a] (stS S names (q.w0.foldl (ze1 names q.nm) sec)) = .ok (q.w1.map .str, fun S' => za6 S' (.obj (q.i + 2)) = some (q.w1.map .str)) (stS S names (q.w0.foldl (ze1 names q.nm) sec)) := by simp [i2, zqo, l2]
  rw [this];exact e2
 have i0 := (A' sec).ins;exact ⟨some (.obj q.i), x5b, by simp [zdl, i0, hm, ef, s1, s2]⟩
theorem z6p {h : Nat} {pl : List PlM} {ps : List HP} {st : Sto -> Prop} (A : zas c S h pl ps) (nd : names.Nodup) (hst : ∀ S', st S') {t1 : Option T} : ∀ (qs : List HP) {sec : Str -> List Str} {x3 x4 x5 : Option T}, (∀ q ∈ qs, q ∈ ps /\ q.nm ∈ names /\ q.w0.length <= 20 /\ q.w1.length <= 20) -> (∀ x, (sec x).length + 40 * qs.length <= 700) ->
 ∃ x3' x4' x5', zcx st (zb0 3) (zdl c) ((qs.map (·.nm)).map .str) [some (.obj h), t1, some (.obj S.length), x3, x4, x5] (stS S names sec) = .ok (.nx [some (.obj h), t1, some (.obj S.length), x3', x4', x5']) (stS S names (qs.foldl (zn5 names) sec))
 | [], sec, x3, x4, x5, _, _ => ⟨x3, x4, x5, by
   show zcx _ _ _ [] _ _ = _;unfold zcx;rw [if_pos (hst _)];rfl⟩
 | q :: qs, sec, x3, x4, x5, hq, hl => by
   obtain ⟨q1, q2, q3, q4⟩ := hq q (List.mem_cons_self ..);obtain ⟨y4, y5, hb⟩ := z8d (names := names) (sec := sec) A nd q1 q2 (t1 := t1) (x4 := x4) (x5 := x5) (fun x => by have := hl x; omega) q3 q4;obtain ⟨z3, z4, z5, e⟩ := z6p A nd hst qs (t1 := t1) (sec := zn5 names sec q) (x3 := some (.str q.nm)) (x4 := y4) (x5 := y5) (fun r hr => hq r (List.mem_cons_of_mem _ hr)) (fun x => by
    have h1 := hl x;rw [List.length_cons] at h1;have h2 := zmt (names := names) (nm := q.nm) (x := x) q.w0 (sec := sec);have h3 := zn6 (names := names) (nm := q.nm) (x := x) q.w1 (sec := q.w0.foldl (ze1 names q.nm) sec);unfold zn5;omega)
   refine ⟨z3, z4, z5, ?_⟩;show zcx _ _ _ (.str q.nm :: (qs.map (·.nm)).map .str) _ _ = _;unfold zcx;rw [if_pos (hst _)];show (M.bind (zdl c [some (.obj h), t1, some (.obj S.length), some (.str q.nm), x4, x5]) _) _ = _;rw [zbw, hb];exact e
theorem zlq {α β γ : Type} {f : β -> Option γ} {g : α -> β} {k : α -> γ} : ∀ {l : List α}, (∀ x ∈ l, f (g x) = some (k x)) -> mapO f (l.map g) = some (l.map k)
 | [], _ => rfl
 | a :: r, h => by
   rw [List.map_cons];unfold mapO;rw [h a (List.mem_cons_self ..), zlq fun x hx => h x (List.mem_cons_of_mem _ hx)];rfl
theorem z6q : fz (stS S names sec) S.length 6 (.obj S.length) = some (secD names sec) := by
 unfold fz;rw [if_neg (by simp only [HB]; omega)];simp only [zo0];unfold zg8;rw [zlq (k := fun n => ((Sum.inr n : Key), T.dic (zbt (sec n)))) fun n hn => ?_]
 ·rfl
 ·have hg := zxr (S := S) (sec := sec) hn
  have : fz (stS S names sec) S.length 5 (.obj (S.length + 1 + names.idxOf n)) = some (.dic (zbt (sec n))) := by
   unfold fz;rw [if_neg (by simp only [HB]; omega)];simp only [hg];unfold zbt;rw [zlq (k := fun x => ((Sum.inr x : Key), T.bl true)) fun x _ => ?_]
   ·rfl
   ·show (fz (stS S names sec) S.length 4 (.bl true)).map _ = _
    rw [z2r (by simp)];rfl
  show (fz (stS S names sec) S.length 5 (.obj (S.length + 1 + names.idxOf n))).map _ = _;rw [this];rfl
def zix (names : List Str) (qs : List HP) : Str -> List Str := qs.foldl (zn5 names) fun _ => []
theorem zqs {h : Nat} {pl : List PlM} {ps qs : List HP} (A : zas c S h pl ps) (nd : names.Nodup) (hq : qs.map (·.nm) = names) (hs : ∀ q ∈ qs, q ∈ ps /\ q.w0.length <= 20 /\ q.w1.length <= 20) (hl : names.length <= 17) :
 zf2 c [.obj h, strL names] S = .ok (secD names (zix names qs)) S := by
 have ql : qs.length = names.length := by rw [<- hq]; simp
 obtain ⟨x3, e1⟩ := zn7 (c := c) (S := S) (st := fun S' => za6 S' (strL names) = some (names.map .str)) (h := h) (t1 := some (strL names)) nd (fun _ => rfl) (by omega) names [] (x3 := none) (x4 := none) (x5 := none) rfl;have es : (S ++ Cell.dic (zg8 names names S.length) :: List.replicate names.length (.dic [])) = stS S names (fun _ => []) := by
  unfold stS;congr 2;rw [List.map_const'];rfl
 rw [es] at e1;obtain ⟨y3, y4, y5, e2⟩ := z6p (c := c) (S := S) (names := names) A nd (st := fun S' => za6 S' (strL names) = some (names.map .str)) (fun _ => rfl) (t1 := some (strL names)) qs (sec := fun _ => []) (x3 := x3) (x4 := none) (x5 := none) (fun q h => ⟨(hs q h).1, by rw [<- hq]; exact List.mem_map.mpr ⟨q, h, rfl⟩, (hs q h).2⟩) (fun x => by show 0 + 40 * qs.length <= 700; omega);rw [hq] at e2;have s1 : sFor (iL (eVar 1)) (zb0 3) (zdk c) [some (.obj h), some (strL names), some (.obj S.length), none, none, none] (S ++ [.dic []]) = .ok (.nx [some (.obj h), some (strL names), some (.obj S.length), x3, none, none]) (stS S names fun _ => []) := by
  unfold sFor;simp only [zbw, x_iL, zwz, List.getElem?_cons_succ, List.getElem?_cons_zero];exact e1
 have s2 : sFor (iL (eVar 1)) (zb0 3) (zdl c) [some (.obj h), some (strL names), some (.obj S.length), x3, none, none] (stS S names fun _ => []) = .ok (.nx [some (.obj h), some (strL names), some (.obj S.length), y3, y4, y5]) (stS S names (zix names qs)) := by
  unfold sFor;simp only [zbw, x_iL, zwz, List.getElem?_cons_succ, List.getElem?_cons_zero];exact e2
 have run : runD 6 (zh9 c) [.obj h, strL names] S = .ok (.obj S.length) (stS S names (zix names qs)) := by
  simp [zh9, s1, s2]
 unfold zf2 frzF;rw [run];have tk : (stS S names (zix names qs)).take S.length = S := by unfold stS; simp
 simp only [if_pos tk, z6q]
end DN
namespace DN
open PySem L2 MF
variable {c : Cl} {S : Sto} {ρ : Ev} {sec : Str -> List Str} {names : List Str}
theorem zr5 {t : T} {ts : List T} (h : za6 S t = some ts) : truM t S = .ok (!ts.isEmpty) S := by
 cases t with
 | lst us => cases h; rfl
 | obj k =>
   have : zf6 S (.obj k) = some ts := h;unfold truM;simp [this]
 | _ => simp [za6] at h
end DN
namespace DN
open PySem L2 MF
variable {c : Cl} {S : Sto} {ρ : Ev} {sec : Str -> List Str} {names : List Str}
theorem z3d {x : Str} {A B : List Str} (h : x ∉ A) : idxF (.str x) ((A ++ x :: B).map T.str) = some A.length := by
 have go : ∀ (A B : List Str), x ∉ A -> ((A ++ x :: B).map V.str).findIdx? (fun y => eqV y (.str x)) = some A.length := by
  intro A
  induction A with
  | nil =>
    intro B _;rw [List.nil_append, List.map_cons, List.findIdx?_cons];simp [eqV]
  | cons a A ih =>
    intro B h;have h1 : a ≠ x := fun e => h (by simp [e]);have := ih B fun z => h (List.mem_cons_of_mem _ z);rw [List.cons_append, List.map_cons, List.findIdx?_cons, this];simp [eqV, h1]
 unfold idxF;rw [zhn];simp only [toV];rw [if_pos (by rw [zkj]; rfl), go A B h]
theorem zzp {k : Nat} {left : List Str} {x : Str} (hk : S[k]? = some (.lst (left.map .str))) (hx : x ∈ left) (hl : left.length <= 1000) : zkh (.obj k) [.str x] S = .ok .non (S.set k (.lst ((left.erase x).map .str))) := by
 obtain ⟨A, B, rfl, hA⟩ := List.eq_append_cons_of_mem hx;have e1 : (A ++ x :: B).erase x = A ++ B := by rw [List.erase_append_right _ hA, List.erase_cons_head]
 have e2 : ((A ++ x :: B).map T.str).eraseIdx A.length = (A ++ B).map T.str := by
  rw [List.map_append, List.map_cons, List.eraseIdx_append_of_length_le (by simp), List.length_map, Nat.sub_self, List.eraseIdx_cons_zero, List.map_append]
 have hl2 : ((A ++ x :: B).map T.str).length <= 1000 := by rw [List.length_map]; exact hl
 unfold zkh;simp only [cellL, hk, z3d hA, if_pos hl2, e2, e1]
end DN
namespace DN
open PySem L2 MF
variable {c : Cl} {S : Sto}
section
variable {w : DT} {b : DS} {n : Nat} {ρ ρ2 : Ev} {C : Addr} {fs : Option (List (Str × T))} {t : T} {S1 S2 : Sto}
theorem zi7 (h : w ρ S = .ok true S1) (e : b ρ S1 = .ok (.nx ρ2) S2) : zf1 w b (n + 1) ρ S = zf1 w b n ρ2 S2 := by
 simp [zf1, h, e]
theorem zr6 (h : w ρ S = .ok true S1) (e : b ρ S1 = .exc C fs S2) : zf1 w b (n + 1) ρ S = .exc C fs S2 := by
 simp [zf1, h, e]
theorem zr7 (h : w ρ S = .ok true S1) (e : b ρ S1 = .ok (.rt t) S2) : zf1 w b (n + 1) ρ S = .ok (.rt t) S2 := by
 simp [zf1, h, e]
theorem zt0 (h : w ρ S = .ok false S1) : zf1 w b (n + 1) ρ S = .ok (.nx ρ) S1 := by
 simp [zf1, h]
end
def secT (la lb : List Str) : T := .dic [(.inr "a", .dic (zbt la)), (.inr "b", .dic (zbt lb))]
local macro_rules | `(tactic| walk_at "r") => `(tactic| simp [zet, zh0, zhz, zeu, sFor, zcx, iK, zb0, gDix, gNeg, zgc, keyT, secT, zbt, valT, zeh, atI, ixN, putT, gApp, cellL, okL, za6, kT, truM, zf6])
theorem zo1 {la lb ts : List Str} {x : Str} {S' : Sto} (tk : S'.take S.length = S) (W : zhw (zeu c) (zet c) [some (secT la lb), some (.str x), some (.lst [.lst [.str x]]), some (.obj S.length), none, none, none] (S ++ [.dic [(.inr x, .bl true)]]) = .ok (.rt (.lst (ts.map .str))) S') : zbc c [secT la lb, .str x] S = .ok (strL ts) S := by
 have run : runD 7 (zen c) [secT la lb, .str x] S = .ok (.lst (ts.map .str)) S' := by
  generalize secT la lb = q at W;simp [zen, ztn, keyT, W]
 exact zp8 run tk (zw3 _)
theorem z3e : zbc c [secT ["b", "a"] [], .str "a"] S = .ok (strL ["a"]) S :=
 zo1 (S' := S ++ [.dic [(.inr "a", .bl true), (.inr "b", .bl true)], .lst [.lst [.str "a", .str "b"]]]) (by simp) (zr7 (S1 := S ++ [.dic [(.inr "a", .bl true)]]) (by walk_at "r") (by walk_at "r"))
theorem z3f : zbc c [secT ["b"] ["a"], .str "a"] S = .ok (strL ["a", "b"]) S :=
 zo1 (S' := S ++ [.dic [(.inr "a", .bl true), (.inr "b", .bl true)], .lst [.lst [.str "a", .str "b"]], .lst []]) (by simp)
  ((zi7 (S1 := S ++ [.dic [(.inr "a", .bl true)]]) (S2 := S ++ [.dic [(.inr "a", .bl true), (.inr "b", .bl true)], .lst [.lst [.str "a", .str "b"]]]) (ρ2 := [some (secT ["b"] ["a"]), some (.str "a"), some (.obj (S.length + 1)), some (.obj S.length), some (.obj (S.length + 1)), some (.lst [.str "a"]), some (.str "b")]) (by walk_at "r") (by walk_at "r")).trans
    (zr7 (S1 := S ++ [.dic [(.inr "a", .bl true), (.inr "b", .bl true)], .lst [.lst [.str "a", .str "b"]]]) (by walk_at "r") (by walk_at "r")))
theorem z3g : zbc c [secT ["b"] ["a"], .str "b"] S = .ok (strL ["b", "a"]) S :=
 zo1 (S' := S ++ [.dic [(.inr "b", .bl true), (.inr "a", .bl true)], .lst [.lst [.str "b", .str "a"]], .lst []]) (by simp)
  ((zi7 (S1 := S ++ [.dic [(.inr "b", .bl true)]]) (S2 := S ++ [.dic [(.inr "b", .bl true), (.inr "a", .bl true)], .lst [.lst [.str "b", .str "a"]]]) (ρ2 := [some (secT ["b"] ["a"]), some (.str "b"), some (.obj (S.length + 1)), some (.obj S.length), some (.obj (S.length + 1)), some (.lst [.str "b"]), some (.str "a")]) (by walk_at "r") (by walk_at "r")).trans
    (zr7 (S1 := S ++ [.dic [(.inr "b", .bl true), (.inr "a", .bl true)], .lst [.lst [.str "b", .str "a"]]]) (by walk_at "r") (by walk_at "r")))
theorem z3h : zbc c [secT ["b", "a"] [], .str "b"] S = .ok (strL []) S := by
 have W : zhw (zeu c) (zet c) [some (secT ["b", "a"] []), some (.str "b"), some (.lst [.lst [.str "b"]]), some (.obj S.length), none, none, none] (S ++ [.dic [(.inr "b", .bl true)]]) = .ok (.nx [some (secT ["b", "a"] []), some (.str "b"), some (.obj (S.length + 1)), some (.obj S.length), some (.obj (S.length + 1)), some (.lst [.str "b"]), none]) (S ++ [.dic [(.inr "b", .bl true)], .lst []]) :=
  (zi7 (S1 := S ++ [.dic [(.inr "b", .bl true)]]) (S2 := S ++ [.dic [(.inr "b", .bl true)], .lst []]) (ρ2 := [some (secT ["b", "a"] []), some (.str "b"), some (.obj (S.length + 1)), some (.obj S.length), some (.obj (S.length + 1)), some (.lst [.str "b"]), none]) (by walk_at "r") (by walk_at "r")).trans (zt0 (by walk_at "r"))
 have run : runD 7 (zen c) [secT ["b", "a"] [], .str "b"] S = .ok (.lst []) (S ++ [.dic [(.inr "b", .bl true)], .lst []]) := by
  generalize secT ["b", "a"] [] = q at W;simp [zen, ztn, keyT, W]
 exact zp8 run (by simp) (zw3 [])
theorem zxw {la lb ra rb : List Str} {best : List Str} (ea : ∀ S, zbc c [secT la lb, .str "a"] S = .ok (strL ra) S) (eb : ∀ S, zbc c [secT la lb, .str "b"] S = .ok (strL rb) S) (hb : ∀ S, gMin (.lst (([strL ra, strL rb].filter fun t => match t with | .lst us => !us.isEmpty | _ => false).map id)) S = .ok (strL best) S) : zbe c [secT la lb] S = .ok (strL best) S := by
 have hk : zc0 c [some (secT la lb), none] S = .ok ([.str "a", .str "b"], fun _ => True) S := by simp [zc0, iK, secT, kT, zgc]
 have c1 := zgs (ρ := [some (secT la lb), none]) (S := S) (js := [0]) (it := zc0 c) (tc := yesD) (te := zd8 c) (ts := [.str "a", .str "b"]) (st := fun _ => True) (p := fun _ => true) (f := fun t => match t with | .str x => if x = "a" then strL ra else strL rb | _ => .non) hk trivial (by simp) (fun t ht => rfl) (fun t ht _ => by
  simp only [List.mem_cons, List.not_mem_nil, or_false] at ht;generalize secT la lb = q at ea eb;rcases ht with rfl | rfl <;> simp [zd8, ea, eb])
 have c1 : zgr 1 [0] (zc0 c) (zb0 0) yesD (zd8 c) finF [some (secT la lb), none] S = .ok (.lst [strL ra, strL rb]) S := by rw [c1]; simp
 have c2 := zgs (ρ := [some (secT la lb), some (.lst [strL ra, strL rb])]) (S := S) (js := []) (it := zfr c) (tc := zfs c) (te := zfq c) (ts := [strL ra, strL rb]) (st := fun S' => za6 S' (.lst [strL ra, strL rb]) = some [strL ra, strL rb])
  (p := fun t => match t with | .lst us => !us.isEmpty | _ => false) (f := id) (by simp [zfr]) rfl (by simp) (fun t ht => by
   simp only [List.mem_cons, List.not_mem_nil, or_false] at ht;rcases ht with rfl | rfl <;> simp [zfs, strL]) (fun t ht _ => by simp [zfq])
 have hb := hb S;generalize (([strL ra, strL rb].filter fun t => match t with | .lst us => !us.isEmpty | _ => false).map id) = L at c2 hb;generalize secT la lb = q at c1 c2;simp [zbe, zia, c1, c2, hb]
theorem min0 {ts : List T} {ls : List Nat} {u : T} (hl : z2z S ts = some ls) (h0 : zju ls 0) (hu : ts[0]? = some u) : gMin (.lst ts) S = .ok u S := by
 have hex : ∃ i, zju ls i := ⟨0, h0⟩;have e : hex.choose = 0 := zju.one hex.choose_spec h0;simp only [gMin, z0q, hl];rw [dif_pos hex];simp only [e, hu]
theorem z6r : zbe c [secT ["b", "a"] []] S = .ok (strL ["a"]) S := zxw (fun _ => z3e) (fun _ => z3h) (fun _ => min0 (ls := [1]) rfl ⟨1, rfl, fun j k h => by rcases j with _ | j <;> simp at h <;> omega⟩ rfl)
theorem z6s : zbe c [secT ["b"] ["a"]] S = .ok (strL ["a", "b"]) S := zxw (fun _ => z3f) (fun _ => z3g) (fun _ => min0 (ls := [2, 2]) rfl ⟨2, rfl, fun j k h => by rcases j with _ | _ | j <;> simp at h <;> omega⟩ rfl)
end DN
namespace DN
open PySem L2 MF
variable {c : Cl} {S : Sto} {sec : Str -> List Str} {names : List Str}
theorem zlr {kl : Nat} {t0 t1 t2 t4 t5 : Option T} {left : List Str} (hkl : S[kl]? = some (.lst (left.map .str))) : zdz c [t0, t1, t2, some (.obj kl), t4, t5] S = .ok (!left.isEmpty) S := by
 have e := zr5 (zgy hkl);cases left <;> simp [zdz] at e ⊢ <;> simp [e]
theorem zt1 {kl kr h : Nat} {t1 x5 : Option T} {left row : List Str} {x : Str} (hkl : S[kl]? = some (.lst (left.map .str))) (hkr : S[kr]? = some (.lst (row.map .str))) (ne : kl ≠ kr) (sub : ∀ y ∈ left, y ∈ names) (q : left.find? (zgw sec left) = some x) (ll : left.length <= 900) (lr : row.length <= 900) :
 ∃ S', zb9 c [some (.obj h), t1, some (secD names sec), some (.obj kl), some (.obj kr), x5] S = .ok (.nx [some (.obj h), t1, some (secD names sec), some (.obj kl), some (.obj kr), some (.str x)]) S' /\ S'[kl]? = some (.lst ((left.erase x).map .str)) /\ S'[kr]? = some (.lst ((row ++ [x]).map .str)) /\ ∀ j, j ≠ kl -> j ≠ kr -> S'[j]? = S[j]? := by
 have ef := zn3 (c := c) (sec := sec) hkl sub ll;rw [q] at ef;have hrem := zzp hkl (List.mem_of_find?_eq_some q) (by omega);have hkr2 : (S.set kl (.lst ((left.erase x).map .str)))[kr]? = some (.lst (row.map .str)) := by rw [zah ne]; exact hkr
 have happ := z73 (y := .str x) hkr2 (by simp; omega);have hok1 := zki hkl;have hok2 := zki hkr2;refine ⟨(S.set kl (.lst ((left.erase x).map .str))).set kr (.lst ((row ++ [x]).map .str)), ?_, by rw [zah (Ne.symm ne)]; exact zfd hkl, zfd hkr2, fun j h1 h2 => by rw [zah (Ne.symm h2), zah (Ne.symm h1)]⟩;simp only [List.map_append, List.map_cons, List.map_nil] at happ ⊢;simp [zb9, ef, gIs, zm8, hok1, hrem, hok2, happ]
section
variable {h : Nat} {pl : List PlM} {ps qs : List HP} (A : zas c S h pl ps) (hq : qs.map (·.nm) = (["a", "b"] : List Str)) (hs : ∀ q ∈ qs, q ∈ ps /\ q.w0.length <= 20 /\ q.w1.length <= 20)
include A hq hs
theorem zzq {la lb ring : List Str} (e1 : zix ["a", "b"] qs "a" = la) (e2 : zix ["a", "b"] qs "b" = lb) (q : (["a", "b"] : List Str).find? (zgw (zix ["a", "b"] qs) ["a", "b"]) = none) (sh : ∀ S, zbe c [secT la lb] S = .ok (strL ring) S) (hc : ring.length <= 1000 /\ (PyData.shown (.list (ring.map PyData.str))).length <= 800) :
 ∃ S', zbs c [.obj h, strL ["a", "b"]] S = .exc c.ring (some [("ring", strL ring)]) S' := by
 have es := zqs A (names := ["a", "b"]) (by decide +kernel) hq hs (by decide);have g1 : (S ++ [Cell.lst [.str "a", .str "b"]] ++ [.lst []])[S.length]? = some (.lst ((["a", "b"] : List Str).map .str)) := by rw [List.append_assoc, zoy]; rfl
 have ef := zn3 (c := c) (sec := zix ["a", "b"] qs) (names := ["a", "b"]) g1 (fun x hx => hx) (by decide);have hw := zlr (c := c) (t0 := some (.obj h)) (t1 := some (strL ["a", "b"])) (t2 := some (secD ["a", "b"] (zix ["a", "b"] qs))) (t4 := some (.obj (S.length + 1))) (t5 := none) g1;rw [q] at ef;have eT : secD ["a", "b"] (zix ["a", "b"] qs) = secT la lb := by rw [<- e1, <- e2]; rfl
 rw [eT] at ef es hw;refine ⟨S ++ [Cell.lst [.str "a", .str "b"]] ++ [.lst []], ?_⟩;have hb : zb9 c [some (.obj h), some (strL ["a", "b"]), some (secT la lb), some (.obj S.length), some (.obj (S.length + 1)), none] (S ++ [Cell.lst [.str "a", .str "b"]] ++ [.lst []]) = .exc c.ring (some [("ring", strL ring)]) (S ++ [Cell.lst [.str "a", .str "b"]] ++ [.lst []]) := by
  generalize S ++ [Cell.lst [.str "a", .str "b"]] ++ [.lst []] = S2 at ef ⊢;have hss : ((za6 S2 (strL ring)).bind zi2) = some ring := by simp [strL, zkl]
  have er := sh S2;generalize secT la lb = q at ef er;simp only [strL] at hss;simp [zb9, ef, gIs, zm8, zot, er, strL, hss, zkl, hc]
 have W : zhw (zdz c) (zb9 c) [some (.obj h), some (strL ["a", "b"]), some (secT la lb), some (.obj S.length), some (.obj (S.length + 1)), none] (S ++ [Cell.lst [.str "a", .str "b"]] ++ [.lst []]) = .exc c.ring (some [("ring", strL ring)]) (S ++ [Cell.lst [.str "a", .str "b"]] ++ [.lst []]) := zr6 hw hb;have e1 : zjs (strL ["a", "b"]) S = .ok (.obj S.length) (S ++ [.lst [.str "a", .str "b"]]) := by simp [zjs, zf7, strL]
 have hlen : (S ++ [Cell.lst [.str "a", .str "b"]]).length = S.length + 1 := by simp
 generalize secT la lb = q at es W;generalize strL ["a", "b"] = N at es W e1;generalize S ++ [Cell.lst [.str "a", .str "b"]] = S1 at W e1 hlen;simp [zbs, zhp, es, e1, hlen, W]
theorem z3i (q1 : (["a", "b"] : List Str).find? (zgw (zix ["a", "b"] qs) ["a", "b"]) = some "a") (q2 : (["b"] : List Str).find? (zgw (zix ["a", "b"] qs) ["b"]) = some "b") :
 ∃ S', zbs c [.obj h, strL ["a", "b"]] S = .ok (.obj (S.length + 1)) S' /\ S'[S.length + 1]? = some (.lst ((["a", "b"] : List Str).map .str)) /\ ∀ j, j < S.length -> S'[j]? = S[j]? := by
 have es := zqs A (names := ["a", "b"]) (by decide +kernel) hq hs (by decide);have g1 : (S ++ [Cell.lst [.str "a", .str "b"]] ++ [.lst []])[S.length]? = some (.lst ((["a", "b"] : List Str).map .str)) := by rw [List.append_assoc, zoy]; rfl
 have g2 : (S ++ [Cell.lst [.str "a", .str "b"]] ++ [.lst []])[S.length + 1]? = some (.lst (([] : List Str).map .str)) := by rw [List.append_assoc, getR]; rfl
 have k1 : ∀ j, j < S.length -> (S ++ [Cell.lst [.str "a", .str "b"]] ++ [.lst []])[j]? = S[j]? := fun j hj => by rw [List.append_assoc, List.getElem?_append_left hj]
 have e1 : zjs (strL ["a", "b"]) S = .ok (.obj S.length) (S ++ [.lst [.str "a", .str "b"]]) := by simp [zjs, zf7, strL]
 have hlen : (S ++ [Cell.lst [.str "a", .str "b"]]).length = S.length + 1 := by simp
 generalize S ++ [Cell.lst [.str "a", .str "b"]] = S0 at g1 g2 k1 e1 hlen;generalize hS1 : S0 ++ [.lst []] = S1 at g1 g2 k1;generalize hD : secD ["a", "b"] (zix ["a", "b"] qs) = D at es;have ne : S.length ≠ S.length + 1 := by omega
 obtain ⟨S2, b1, m1, m2, k2⟩ := zt1 (c := c) (h := h) (t1 := some (strL ["a", "b"])) (x5 := none) (names := ["a", "b"]) g1 g2 ne (fun x hx => hx) q1 (by decide) (by decide);have w1 := zlr (c := c) (t0 := some (.obj h)) (t1 := some (strL ["a", "b"])) (t2 := some D) (t4 := some (.obj (S.length + 1))) (t5 := none) g1;have m1 : S2[S.length]? = some (.lst ((["b"] : List Str).map .str)) := m1;obtain ⟨S3, b2, n1, n2, k3⟩ := zt1 (c := c) (h := h) (t1 := some (strL ["a", "b"])) (x5 := some (.str "a")) (names := ["a", "b"]) m1 m2 ne (fun x hx => by simp at hx; simp [hx]) q2 (by decide) (by decide);have w2 := zlr (c := c) (t0 := some (.obj h)) (t1 := some (strL ["a", "b"])) (t2 := some D) (t4 := some (.obj (S.length + 1))) (t5 := some (.str "a")) m1;have n1 : S3[S.length]? = some (.lst (([] : List Str).map .str)) := n1;have w3 := zlr (c := c) (t0 := some (.obj h)) (t1 := some (strL ["a", "b"])) (t2 := some D) (t4 := some (.obj (S.length + 1))) (t5 := some (.str "b")) n1;rw [hD] at b1 b2;refine ⟨S3, ?_, n2, fun j hj => by rw [k3 j (by omega) (by omega), k2 j (by omega) (by omega)]; exact k1 j hj⟩;have W : zhw (zdz c) (zb9 c) [some (.obj h), some (strL ["a", "b"]), some D, some (.obj S.length), some (.obj (S.length + 1)), none] S1 = .ok (.nx [some (.obj h), some (strL ["a", "b"]), some D, some (.obj S.length), some (.obj (S.length + 1)), some (.str "b")]) S3 :=
  (zi7 w1 b1).trans ((zi7 w2 b2).trans (zt0 w3))
 generalize strL ["a", "b"] = N at es W e1;simp [zbs, zhp, es, e1, hlen, hS1, W]
end
end DN
namespace DN
open PySem L2 MF
variable {c : Cl} {S : Sto} {ρ : Ev} {sec : Str -> List Str} {names : List Str}
theorem zas.keep {h : Nat} {pl : List PlM} {ps : List HP} {S' : Sto} (A : zas c S h pl ps) (hk : ∀ j, j < S.length -> S'[j]? = S[j]?) : zas c S' h pl ps := by
 have lk : ∀ {i : Nat} {v : Cell}, S[i]? = some v -> S'[i]? = some v := fun {i v} e => by
  rw [hk i (by
   by_cases z : i < S.length
   ·exact z
   ·rw [List.getElem?_eq_none (by omega)] at e; cases e)]
  exact e
 exact ⟨lk A.hall, lk A.places, lk A.pieces, fun q hq => lk (A.place q hq), fun p hp => ⟨lk (A.piece p hp).o, lk (A.piece p hp).a0, lk (A.piece p hp).a1, lk (A.piece p hp).a2, lk (A.piece p hp).a3⟩, A.far, A.pw, A.nd⟩
end DN
namespace DN
open PySem L2 MF
variable {c : Cl} {S : Sto}
section
variable {h : Nat} {pl : List PlM} {ps : List HP}
theorem zr8 (A : zas c S h pl ps) {nm : Str} {pm : PlM} {k r : T} (hn : pl.find? (fun p => decide (p.nm = nm)) = some pm) (sm : Sm nm) : zar c [.obj h, .str nm, k, r] S = .exc c.nameThere none S := by
 have e1 : valT (plD pl) (.inr nm) = some (.obj pm.i) := by rw [zkm, hn]; rfl
 obtain ⟨l1, l2, l3, l4⟩ := len3 "there is a place " " already" sm (by decide) (by decide);simp [zar, zd5, A.ins, zgu, gDin, A.dPlaces, keyT, e1, l1, l2, l3, l4]
theorem zr9 (A : zas c S h pl ps) {nm : Str} {k r : T} (hn : pl.find? (fun p => decide (p.nm = nm)) = none) (hl : pl.length = 8) : zar c [.obj h, .str nm, k, r] S = .exc c.tooMany none S := by
 have e1 : valT (plD pl) (.inr nm) = none := by rw [zkm, hn]; rfl
 have e7 : zk8 (.obj (h + 1)) S = .ok (.int (plD pl).length) S := by simp [zk8, A.places]
 have hlen : (8 : Int) <= (plD pl).length := by simp [plD, hl]
 simp [zar, zd5, A.ins, zgu, gDin, A.dPlaces, keyT, e1, e7, hlen]
theorem zqt (A : zas c S h pl ps) {nm q : Str} {dd b : T} (hn : nm ∉ ps.map (·.nm)) (hq : pl.find? (fun p => decide (p.nm = q)) = none) (sm : Sm q) : zau c [.obj h, .str nm, .str q, dd, b] S = .exc c.noPlace none S := by
 have e1 : valT (psD ps) (.inr nm) = none := by rw [zig, zih hn]; rfl
 have hm := zbm (m := Str.ofString "find_place") h (by simp) (by simp);have e2 := zii A hq sm;simp [zau, zfp, A.ins, zde, gDin, A.dPieces, keyT, e1, hm, e2]
theorem zsa (A : zas c S h pl ps) {nm q : Str} {dd : T} {pm : PlM} (hn : nm ∉ ps.map (·.nm)) (hq : pl.find? (fun p => decide (p.nm = q)) = some pm) (hl : ps.length = 24) : zau c [.obj h, .str nm, .str q, dd, .non] S = .exc c.tooMany none S := by
 have e1 : valT (psD ps) (.inr nm) = none := by rw [zig, zih hn]; rfl
 have hm := zbm (m := Str.ofString "find_place") h (by simp) (by simp);have e2 := zez A hq;have e7 : zk8 (.obj (h + 2)) S = .ok (.int (psD ps).length) S := by simp [zk8, A.pieces]
 have hlen : (24 : Int) <= (psD ps).length := by simp [psD, hl]
 simp [zau, zfp, A.ins, zde, gDin, A.dPieces, keyT, e1, hm, e2, zl7, zm8, e7, hlen]
theorem zuq (A : zas c S h pl ps) {q : Str} (hq : pl.find? (fun p => decide (p.nm = q)) = none) (sm : Sm q) : zhr c [.obj h, .str q] S = .exc c.noPlace none S := by
 have ma := zbm (m := Str.ofString "at") h (by simp) (by simp);simp [zhr, zr1, A.ins, ma, zr4 A hq sm]
theorem zur (A : zas c S h pl ps) {q : Str} {n : T} (hq : pl.find? (fun p => decide (p.nm = q)) = none) (sm : Sm q) : zcr c [.obj h, .str q, n] S = .exc c.noPlace none S := by
 have ma := zbm (m := Str.ofString "at") h (by simp) (by simp);simp [zcr, zow, A.ins, ma, zr4 A hq sm]
theorem zko {q n : T} {C : Addr} {fs : Option (List (Str × T))} {S' : Sto} (e : zcr c [.obj h, q, n] S = .exc C fs S') : zc1 c [.obj h, q, n] S = .exc C fs S' := by
 simp [zc1, zkk, e]
theorem zkp {q n : T} {C : Addr} {fs : Option (List (Str × T))} {S' : Sto} (e : zcr c [.obj h, q, n] S = .exc C fs S') : zca c [.obj h, q, n] S = .exc C fs S' := by
 simp [zca, zic, e]
end
def addT : T := .tup [.str "add", .int 1]
def zus : T := .tup [.str "fail", .int 7]
def pA : HP := newP "a" "hub" addT none 4
def pB : HP := newP "b" "hub" zus none 9
def plH (r : Str) : List PlM := [⟨"hub", "chain", r, 3⟩]
theorem zg0 (r : Str) : ∃ S, zav c [.str r] [] = .ok (.obj 0) S /\ zas c S 0 (plH r) [pA, pB] /\ S.length = 14 := by
 have H0 := z8a (c := c) (S := []);have i0 := zr2 (c := c) (S := []);have o1 := z0x H0 (nm := "hub") (k := "chain") (r := r) rfl (by decide);have H1 := H0.open_ (nm := "hub") (k := "chain") (r := r);have l0 : ([] ++ [Cell.ins c.hall (zer 0), .dic [], .dic []] : Sto).length = 3 := rfl;have hm1 := zbm (m := Str.ofString "open_place") 0 (by simp) (by simp);have hm2 := zbm (m := Str.ofString "hang") 0 (by simp) (by simp);change zas c _ 0 (plH r) [] at H1;generalize eS1 : (([] ++ [Cell.ins c.hall (zer ([] : Sto).length), .dic [], .dic []] : Sto).set (([] : Sto).length + 1) (.dic (plD ([] ++ [⟨"hub", "chain", r, ([] ++ [Cell.ins c.hall (zer ([] : Sto).length), .dic [], .dic []] : Sto).length⟩]))) ++ [.ins c.place [("kind", .str "chain"), ("rule", .str r)]]) = S1 at o1 H1;have len1 : S1.length = 4 := by rw [<- eS1]; rfl
 have g1 := zxi H1 (nm := "a") (q := "hub") (dd := addT) (pm := ⟨"hub", "chain", r, 3⟩) (by simp) (by simp [plH]) (by decide);have H2 := H1.hang (nm := "a") (q := "hub") (dd := addT) (br := none) (by simp);rw [len1] at g1 H2;change zas c _ 0 (plH r) [pA] at H2;generalize eS2 : (S1.set (0 + 2) (.dic (psD ([] ++ [newP "a" "hub" addT none 4]))) ++ (newP "a" "hub" addT none 4).block c) = S2 at g1 H2;have len2 : S2.length = 9 := by rw [<- eS2]; simp [len1, HP.block]
 have g2 := zxi H2 (nm := "b") (q := "hub") (dd := zus) (pm := ⟨"hub", "chain", r, 3⟩) (by simp [pA, newP]) (by simp [plH]) (by decide);have H3 := H2.hang (nm := "b") (q := "hub") (dd := zus) (br := none) (by simp [pA, newP]);rw [len2] at g2 H3;change zas c _ 0 (plH r) [pA, pB] at H3;generalize eS3 : (S2.set (0 + 2) (.dic (psD ([pA] ++ [newP "b" "hub" zus none 9]))) ++ (newP "b" "hub" zus none 9).block c) = S3 at g2 H3;have len3 : S3.length = 14 := by rw [<- eS3]; simp [len2, HP.block]
 refine ⟨S3, ?_, H3, len3⟩;have i1 : zcy c [.obj 0] [.ins c.hall []] = .ok .non [.ins c.hall (zer 0), .dic [], .dic []] := i0;have o1 : zar c [.obj 0, .str "hub", .str "chain", .str r] [.ins c.hall (zer 0), .dic [], .dic []] = .ok .non S1 := o1;have H0 : zg3 [Cell.ins c.hall (zer 0), .dic [], .dic []] c.hall (.obj 0) = some (0, zer 0) := H0.ins;unfold addT at g1;unfold zus at g2;simp [zav, zk2, i1, H0, o1, H1.ins, H2.ins, hm1, hm2, g1, g2]
theorem z3j (n : Int) : ∃ S', zbp c [.int n] [] = .exc c.nameThere none S' := by
 obtain ⟨S, e, A, -⟩ := zg0 (c := c) "hold";have hm1 := zbm (m := Str.ofString "open_place") 0 (by simp) (by simp);have hm2 := zbm (m := Str.ofString "hang") 0 (by simp) (by simp);have a0 := zr8 (c := c) A (nm := "hub") (pm := ⟨"hub", "chain", "hold", 3⟩) (k := .str "all") (r := .str "hand") (by simp [plH]) (by unfold Sm; decide +kernel);have a1 := zmq (c := c) A (nm := "b") (q := "nowhere") (dd := .tup [.str "none"]) (b := .str "c") (by simp [pA, pB, newP]) (by unfold Sm; decide +kernel);have a2 := zmq (c := c) A (nm := "a") (q := "hub") (dd := .tup [.str "none"]) (b := .non) (by simp [pA, pB, newP]) (by unfold Sm; decide +kernel);refine ⟨S, ?_⟩;by_cases h0 : n % 3 = 0
 ·simp [zbp, zea, e, A.ins, hm1, hm2, h0, a0]
 ·by_cases h1 : n % 3 = 1
  ·simp [zbp, zea, e, A.ins, hm1, hm2, h1, a1]
  ·simp [zbp, zea, e, A.ins, hm1, hm2, h0, h1, a2]
theorem z3k (n : Int) : ∃ S', zax c [.int n] [] = .exc c.noPlace none S' := by
 obtain ⟨S, e, A, -⟩ := zg0 (c := c) "hold";have hm1 := zbm (m := Str.ofString "at") 0 (by simp) (by simp);have hm2 := zbm (m := Str.ofString "hang") 0 (by simp) (by simp);have sm : Sm (Str.ofString "nowhere") := by unfold Sm; decide +kernel
 have hq : (plH "hold").find? (fun p => decide (p.nm = Str.ofString "nowhere")) = none := by simp [plH]
 have a0 := zqt (c := c) A (nm := "c") (q := "nowhere") (dd := .tup [.str "none"]) (b := .str "d") (by simp [pA, pB, newP]) hq sm;have a1 := zr4 A hq sm;have a2 := zuq A hq sm;have a3 := zur (n := .int n) A hq sm;have a4 := zko a3;have a5 := zkp a3;refine ⟨S, ?_⟩;by_cases h0 : n % 6 = 0
 ·simp [zax, zbf, e, A.ins, hm1, hm2, h0, a0]
 ·by_cases h1 : n % 6 = 1
  ·simp [zax, zbf, e, A.ins, hm1, hm2, h1, a1]
  ·by_cases h2 : n % 6 = 2
   ·simp [zax, zbf, e, A.ins, hm1, hm2, h2, a2]
   ·by_cases h3 : n % 6 = 3
    ·simp [zax, zbf, e, A.ins, hm1, hm2, h3, a3]
    ·by_cases h4 : n % 6 = 4
     ·simp [zax, zbf, e, A.ins, hm1, hm2, h4, a4]
     ·simp [zax, zbf, e, A.ins, hm1, hm2, h0, h1, h2, h3, h4, a5]
end DN
namespace DN
open PySem L2 MF
variable {c : Cl} {S : Sto}
structure Rn where
 kind : Str
 rule : Str
 num : T
 deeds : List T
 held : List T
 brk : Bool
 prs : List T
 fnd : T
 ard : List T
def Rn.fs (x : Rn) (r : Nat) : List (Str × T) := [("kind", .str x.kind), ("rule", .str x.rule), ("number", x.num), ("deeds", .obj (r + 1)), ("held", .obj (r + 2)), ("broken", .bl x.brk), ("pairs", .obj (r + 3)), ("found", x.fnd), ("around", .obj (r + 4))]
def Rn.block (c : Cl) (x : Rn) (r : Nat) : List Cell := [.ins c.run (x.fs r), .lst x.deeds, .lst x.held, .lst x.prs, .lst x.ard]
structure zff (c : Cl) (S : Sto) (r : Nat) (x : Rn) : Prop where
 o : S[r]? = some (.ins c.run (x.fs r))
 d : S[r + 1]? = some (.lst x.deeds)
 h : S[r + 2]? = some (.lst x.held)
 p : S[r + 3]? = some (.lst x.prs)
 a : S[r + 4]? = some (.lst x.ard)
section
variable {r : Nat} {x : Rn}
theorem zff.ins (R : zff c S r x) : zg3 S c.run (.obj r) = some (r, x.fs r) := zgb R.o
theorem lkK : (x.fs r).lookup (Str.ofString "kind") = some (.str x.kind) := by simp [Rn.fs, List.lookup_cons]
theorem lkR : (x.fs r).lookup (Str.ofString "rule") = some (.str x.rule) := by simp [Rn.fs, List.lookup_cons]
theorem lkN : (x.fs r).lookup (Str.ofString "number") = some x.num := by simp [Rn.fs, List.lookup_cons]
theorem lkD : (x.fs r).lookup (Str.ofString "deeds") = some (.obj (r + 1)) := by simp [Rn.fs, List.lookup_cons]
theorem lkB : (x.fs r).lookup (Str.ofString "broken") = some (.bl x.brk) := by simp [Rn.fs, List.lookup_cons]
theorem z0y : (x.fs r).length < 900 := by simp [Rn.fs]
theorem zqu : (x.fs r).lookup (Str.ofString "over") = none := by simp [Rn.fs, List.lookup_cons]
theorem zqv : (x.fs r).lookup (Str.ofString "step") = none := by simp [Rn.fs, List.lookup_cons]
theorem z0z : (x.fs r).lookup (Str.ofString "perform") = none := by simp [Rn.fs, List.lookup_cons]
theorem z6t : (x.fs r).lookup (Str.ofString "fall") = none := by simp [Rn.fs, List.lookup_cons]
theorem z6u : (x.fs r).lookup (Str.ofString "hear") = none := by simp [Rn.fs, List.lookup_cons]
theorem z3l : (x.fs r).lookup (Str.ofString "leave_the_rest") = none := by simp [Rn.fs, List.lookup_cons]
theorem z3m : (x.fs r).lookup (Str.ofString "answer") = none := by simp [Rn.fs, List.lookup_cons]
theorem zut (k ru : Str) (n : T) (ds : List T) : zeo c [.obj S.length, .str k, .str ru, n, .lst ds] (S ++ [.ins c.run []]) = .ok .non (S ++ (Rn.mk k ru n ds [] false [] .non []).block c S.length) := by
 simp [zeo, zi3, zxh, Rn.block, Rn.fs, zjs, zf7]
theorem zff.setD (R : zff c S r x) (ds : List T) : zff c (S.set (r + 1) (.lst ds)) r { x with deeds := ds } :=
 ⟨by rw [zah (by omega)]; exact R.o, zfd R.d, by rw [zah (by omega)]; exact R.h, by rw [zah (by omega)]; exact R.p, by rw [zah (by omega)]; exact R.a⟩
theorem zff.setO {y : Rn} (R : zff c S r x) (e1 : y.deeds = x.deeds) (e2 : y.held = x.held) (e3 : y.prs = x.prs) (e4 : y.ard = x.ard) : zff c (S.set r (.ins c.run (y.fs r))) r y :=
 ⟨zfd R.o, by rw [zah (by omega), e1]; exact R.d, by rw [zah (by omega), e2]; exact R.h, by rw [zah (by omega), e3]; exact R.p, by rw [zah (by omega), e4]; exact R.a⟩
theorem z3n (t : T) : zma (Str.ofString "number") t (x.fs r) = Rn.fs { x with num := t } r := by simp [Rn.fs]
theorem z3o (b : Bool) : zma (Str.ofString "broken") (.bl b) (x.fs r) = Rn.fs { x with brk := b } r := by simp [Rn.fs]
theorem zqw (R : zff c S r x) : zd9 c [.obj r] S = .ok (.bl x.deeds.isEmpty) S := by
 have e := zr5 (zgy R.d);simp [zd9, znz, R.ins, lkD, e]
theorem z3p (R : zff c S r x) : zbx c [.obj r] S = .ok .non (S.set (r + 1) (.lst [])) := by
 simp [zbx, zga, R.ins, lkD, zki R.d, zp3, cellL, R.d]
theorem zsb (R : zff c S r x) (hr : x.rule = "hand") {nm : Str} {cd : T} (sm : Sm nm) :
 ∃ S', zep c [.obj r, .str nm, cd] S = .exc c.deedFault (some [("piece", .str nm), ("code", cd)]) S' /\ zff c S' r { x with brk := true, deeds := [] } := by
 obtain ⟨kind, rule, num, deeds, held, brk, prs, fnd, ard⟩ := x;simp only at hr;subst hr;have R1 := R.setO (y := ⟨kind, "hand", num, deeds, held, true, prs, fnd, ard⟩) rfl rfl rfl rfl;have R2 := R1.setD [];have l := z3p R1;have ok : okM false (.str nm) cd = true := by
  unfold Sm at sm;simp [okM, okW];omega
 refine ⟨_, ?_, R2⟩;simp [zep, zi4, R.ins, lkR, z3o, z0y, R1.ins, z3l, l, zjt, ok]
theorem zuu (a n : Int) : zhf c [.tup [.str "add", .int a], .int n] S = .ok (.int (n + a)) S := by
 simp [zhf, zn0]
theorem zqx (R : zff c S r x) (hk : x.kind = "chain") (t : T) : zeq c [.obj r, t] S = .ok .non (S.set r (.ins c.run (Rn.fs { x with num := t } r))) := by
 obtain ⟨kind, rule, num, deeds, held, brk, prs, fnd, ard⟩ := x;simp only at hk;subst hk;simp [zeq, zi5, R.ins, lkK, z3n, z0y]
theorem zuv (R : zff c S r x) (hk : x.kind = "chain") {n : Int} (hn : x.num = .int n) {nm : T} (a : Int) :
 zbo c [.obj r, nm, .tup [.str "add", .int a]] S = .ok .non (S.set r (.ins c.run (Rn.fs { x with num := .int (n + a) } r))) := by
 have e1 := zuu (c := c) (S := S) a n;have e2 := zqx R hk (.int (n + a));obtain ⟨kind, rule, num, deeds, held, brk, prs, fnd, ard⟩ := x;simp only at hk hn;subst hk hn;simp [zbo, zfu, R.ins, lkK, lkN, e1, z6u, e2]
theorem zsc (R : zff c S r x) (hr : x.rule = "hand") {nm : Str} {cd : T} (sm : Sm nm) :
 ∃ S', zbo c [.obj r, .str nm, .tup [.str "fail", cd]] S = .exc c.deedFault (some [("piece", .str nm), ("code", cd)]) S' /\ zff c S' r { x with brk := true, deeds := [] } := by
 obtain ⟨S', e, R'⟩ := zsb R hr (nm := nm) (cd := cd) sm;refine ⟨S', ?_, R'⟩;simp [zbo, zfu, R.ins, z6t, e]
theorem zuw (R : zff c S r x) (hk : x.kind = "chain") {n a : Int} (hn : x.num = .int n) {nm : Str} {ds : List T} (hd : x.deeds = .tup [.str nm, .tup [.str "add", .int a]] :: ds) :
 ∃ S', zap c [.obj r] S = .ok (.str nm) S' /\ zff c S' r { x with num := .int (n + a), deeds := ds } := by
 have o := zqw R;rw [hd] at o;have d := R.d;rw [hd] at d;have R1 := R.setD ds;have R2 := R1.setO (y := { x with num := .int (n + a), deeds := ds }) rfl rfl rfl rfl;have p := zuv R1 hk hn (nm := .str nm) a;refine ⟨_, ?_, R2⟩;simp [zap, zg5, R.ins, zqu, o, lkD, zki d, znx, cellL, d, R1.ins, z0z, p]
theorem zsd (R : zff c S r x) (hr : x.rule = "hand") {nm : Str} {cd : T} {ds : List T} (sm : Sm nm) (hd : x.deeds = .tup [.str nm, .tup [.str "fail", cd]] :: ds) :
 ∃ S', zap c [.obj r] S = .exc c.deedFault (some [("piece", .str nm), ("code", cd)]) S' /\ zff c S' r { x with brk := true, deeds := [] } := by
 have o := zqw R;rw [hd] at o;have d := R.d;rw [hd] at d;have R1 := R.setD ds;obtain ⟨S', p, R2⟩ := zsc R1 hr (nm := nm) (cd := cd) sm;refine ⟨S', ?_, R2⟩;simp [zap, zg5, R.ins, zqu, o, lkD, zki d, znx, cellL, d, R1.ins, z0z, p]
theorem zjj (R : zff c S r x) (h : x.brk = true \/ x.deeds ≠ []) : zci c [.obj r] S = .exc c.noAnswer none S := by
 have o := zqw R;by_cases b : x.brk = true
 ·simp [zci, zf8, R.ins, lkB, b]
 ·have b : x.brk = false := by simpa using b
  have d : x.deeds.isEmpty = false := by
   cases e : x.deeds with
   | nil => rw [b, e] at h; simp at h
   | cons y ys => rfl
  rw [d] at o;simp [zci, zf8, R.ins, lkB, b, zqu, o]
theorem zqy {C : Addr} {fs : Option (List (Str × T))} {S1 S2 : Sto} {t : T} {y : Rn} (R : zff c S r x) (hd : x.deeds ≠ []) (e1 : zap c [.obj r] S = .ok t S1) (R1 : zff c S1 r y) (hd1 : y.deeds ≠ []) (e2 : zap c [.obj r] S1 = .exc C fs S2) :
 zf3 c [.obj r] S = .exc C fs S2 := by
 have emp : ∀ l : List T, l ≠ [] -> l.isEmpty = false := fun l h => by cases l with
  | nil => exact absurd rfl h
  | cons => rfl
 have o := zqw R;have o1 := zqw R1;rw [emp _ hd] at o;rw [emp _ hd1] at o1;have w0 : zdn c [some (.obj r)] S = .ok true S := by simp [zdn, R.ins, zqu, o]
 have w1 : zdn c [some (.obj r)] S1 = .ok true S1 := by simp [zdn, R1.ins, zqu, o1]
 have b0 : zdm c [some (.obj r)] S = .ok (.nx [some (.obj r)]) S1 := by simp [zdm, R.ins, zqv, e1]
 have b1 : zdm c [some (.obj r)] S1 = .exc C fs S2 := by simp [zdm, R1.ins, zqv, e2]
 have W : zhw (zdn c) (zdm c) [some (.obj r)] S = .exc C fs S2 := (zi7 w0 b0).trans (zr6 w1 b1);simp [zf3, zk1, W]
end
theorem zux {ρ : Ev} {S1 : Sto} {js : List Nat} {it : DI} {tc : DT} {te : DE} {ts : List T} {st : Sto -> Prop} {p : T -> Bool} {f : T -> T} (hit : it ρ S = .ok (ts, st) S1) (hst : st S1) (hl : ts.length <= 1000)
 (hc : ∀ t ∈ ts, tc (some t :: js.map fun j => (ρ[j]?).join) S1 = .ok (p t) S1) (he : ∀ t ∈ ts, p t = true -> te (some t :: js.map fun j => (ρ[j]?).join) S1 = .ok (f t) S1) :
 zgr 1 js it (zb0 0) tc te finF ρ S = .ok (.lst ((ts.filter p).map f)) S1 := by
 have e := zgs (ρ := ρ) (S := S1) (js := js) (it := fun _ => fun S => .ok (ts, st) S) (tc := tc) (te := te) rfl hst hl hc he;unfold zgr at e ⊢;rw [zbw] at e ⊢;rw [hit];exact e
theorem zxx {ps dds : List HP} (nd : (ps.map (·.nm)).Nodup) (hd : ∀ p ∈ dds, p ∈ ps) {p : HP} (hp : p ∈ dds) : dds.find? (fun q => decide (q.nm = p.nm)) = some p := by
 cases e : dds.find? (fun q => decide (q.nm = p.nm)) with
 | none =>
   have := List.find?_eq_none.mp e p hp;simp at this
 | some p' =>
   have h1 : p'.nm = p.nm := by simpa using List.find?_some e
   have h2 := zge nd (hd p' (List.mem_of_find?_eq_some e));have h3 := zge nd (hd p hp);rw [h1, h3] at h2;exact h2.symm
theorem zqz {h k : Nat} {pl : List PlM} {ps dds : List HP} {pm : PlM} {q : Str} {tn n : T} {S1 : Sto} (A : zas c S h pl ps) (hq : pl.find? (fun p => decide (p.nm = q)) = some pm)
 (eo : zbs c [.obj h, tn] S = .ok (.obj k) S1) (ek : S1[k]? = some (.lst (dds.map fun p => .str p.nm))) (A1 : zas c S1 h pl ps) (hd : ∀ p ∈ dds, p ∈ ps) (hl : dds.length <= 100) :
 zda c [.obj h, .str q, tn, n] S = .ok (.obj S1.length) (S1 ++ (Rn.mk pm.kind pm.rule n (dds.map fun p => .tup [.str p.nm, p.dd]) [] false [] .non []).block c S1.length) := by
 have hm1 := zbm (m := Str.ofString "find_place") h (by simp) (by simp);have hm2 := zbm (m := Str.ofString "find_piece") h (by simp) (by simp);have e1 := zez A hq;have pmm : pm ∈ pl := List.mem_of_find?_eq_some hq;have Pl := zgb (A1.place pm pmm);have cc := zux (ρ := [some (.obj h), some (.str q), some tn, some n, some (.obj pm.i), none]) (S := S) (S1 := S1) (js := [0]) (it := zfz c) (tc := yesD) (te := zg4 c) (ts := dds.map fun p => .str p.nm) (st := fun S' => za6 S' (.obj k) = some (dds.map fun p => .str p.nm)) (p := fun _ => true)
  (f := fun t => match t with | .str x => (match dds.find? (fun p => decide (p.nm = x)) with | some p => .tup [.str x, p.dd] | none => .non) | _ => .non)
  (by simp [zfz, eo, zgy ek]) (zgy ek) (by simp; omega) (fun t ht => rfl) (fun t ht _ => by
   obtain ⟨p, hp, rfl⟩ := List.mem_map.mp ht;have e2 := zf4 A1 (zge A1.nd (hd p hp));have e3 := zxx A1.nd hd hp;have Po := zgb (A1.piece p (hd p hp)).o;have lk : p.fs.lookup (Str.ofString "deed") = some p.dd := by simp [HP.fs, List.lookup_cons]
   simp [zg4, A1.ins, hm2, e2, Po, lk, e3])
 have ef : ((dds.map fun p => T.str p.nm).filter fun _ => true).map (fun t => match t with | .str x => (match dds.find? (fun p => decide (p.nm = x)) with | some p => T.tup [.str x, p.dd] | none => .non) | _ => .non) = dds.map fun p => T.tup [.str p.nm, p.dd] := by
  rw [List.filter_eq_self.mpr (by simp), List.map_map];refine List.map_congr_left fun p hp => ?_;have e3 := zxx A1.nd hd hp;simp [e3]
 rw [ef] at cc;have ri := zut (c := c) (S := S1) pm.kind pm.rule n (dds.map fun p => .tup [.str p.nm, p.dd]);generalize dds.map (fun p => T.tup [.str p.nm, p.dd]) = DL at cc ri ⊢;have lk1 : List.lookup (Str.ofString "kind") [(Str.ofString "kind", T.str pm.kind), (Str.ofString "rule", T.str pm.rule)] = some (.str pm.kind) := by simp [List.lookup_cons]
 have lk2 : List.lookup (Str.ofString "rule") [(Str.ofString "kind", T.str pm.kind), (Str.ofString "rule", T.str pm.rule)] = some (.str pm.rule) := by simp [List.lookup_cons]
 simp [zda, zib, A.ins, hm1, e1, cc, Pl, lk1, lk2, ri]
theorem zxy {x : Rn} : zff c (S ++ x.block c S.length) S.length x := ⟨by rw [zoy]; rfl, by rw [getR]; rfl, by rw [getR]; rfl, by rw [getR]; rfl, by rw [getR]; rfl⟩
end DN
namespace DN
open PySem L2 MF
variable {c : Cl} {S : Sto}
def zo2 (nd : Str -> Option (List Str)) : Nat -> List Str -> List Str -> Option (Option (List Str))
 | 0, _, _ => none
 | f + 1, g, l => match l.getLast? with
   | none => some (some g)
   | some x => if x ∈ g then zo2 nd f g l.dropLast else match nd x with
     | none => some none
     | some ws => zo2 nd f (g ++ [x]) (l.dropLast ++ ws)
def zg1 (ps : List HP) (x : Str) : Option (List Str) := (ps.find? fun p => decide (p.nm = x)).map (·.w2)
section
variable {S0 : Sto} {h kg kl : Nat} {pl : List PlM} {ps : List HP}
theorem zzr {k : Nat} {l : List Str} {x : Str} (e : S[k]? = some (.lst ((l ++ [x]).map .str))) : gPop (.obj k) [] S = .ok (.str x) (S.set k (.lst (l.map .str))) := by
 simp [gPop, cellL, e]
theorem zij (A0 : zas c S0 h pl ps) (hg : S0.length <= kg) (hl : S0.length <= kl) (ne : kg ≠ kl) (h24 : ps.length <= 24) (hw : ∀ p ∈ ps, p.w2.length <= 10) (sm : ∀ x, zg1 ps x = none -> ∀ p ∈ ps, x ∈ p.w2 -> Sm x) {t1 : Option T} :
 ∀ (f : Nat) (g l : List Str) (m : Nat) {x4 x5 : Option T} {S : Sto} {res : Option (List Str)}, f <= m -> g.Nodup -> (∀ x ∈ g, x ∈ ps.map (·.nm)) -> l.length <= 1 + 10 * g.length -> (∀ x ∈ l, zg1 ps x = none -> Sm x) ->
   S[kg]? = some (.dic (zbt g)) -> S[kl]? = some (.lst (l.map .str)) -> (∀ j, j < S0.length -> S[j]? = S0[j]?) -> zo2 (zg1 ps) f g l = some res ->
   match res with
   | some G => ∃ S' x4' x5', zf1 (zch c) (zbi c) m [some (.obj h), t1, some (.obj kg), some (.obj kl), x4, x5] S = .ok (.nx [some (.obj h), t1, some (.obj kg), some (.obj kl), x4', x5']) S' /\ S'[kg]? = some (.dic (zbt G)) /\ (∀ j, j < S0.length -> S'[j]? = S0[j]?)
   | none => ∃ S', zf1 (zch c) (zbi c) m [some (.obj h), t1, some (.obj kg), some (.obj kl), x4, x5] S = .exc c.noPiece none S' /\ (∀ j, j < S0.length -> S'[j]? = S0[j]?)
 | 0, _, _, _, _, _, _, _, _, _, _, _, _, _, _, _, e => by simp [zo2] at e
 | f + 1, g, l, 0, _, _, _, _, hm, _, _, _, _, _, _, _, _ => by omega
 | f + 1, g, l, m + 1, x4, x5, S, res, hm, nd, sub, ll, sml, eg, el, kp, e => by
   have tr := zr5 (zgy el);cases hx : l.getLast? with
   | none =>
     have hn : l = [] := List.getLast?_eq_none_iff.mp hx;subst hn;simp only [zo2, hx, Option.some.injEq] at e;subst e;have tr : truM (.obj kl) S = .ok false S := tr;exact ⟨S, x4, x5, by simp [zf1, zch, tr], eg, kp⟩
   | some x =>
     obtain ⟨q, rfl⟩ := List.getLast?_eq_some_iff.mp hx;have tr : truM (.obj kl) S = .ok true S := by rw [tr]; simp
     have wt : zch c [some (.obj h), t1, some (.obj kg), some (.obj kl), x4, x5] S = .ok true S := by simp [zch, tr]
     have ok := zki el;have pp := zzr el;have k1 : ∀ j, j < S0.length -> (S.set kl (.lst (q.map .str)))[j]? = S0[j]? := fun j hj => by rw [zah (by omega)]; exact kp j hj
     have g1 : (S.set kl (.lst (q.map .str)))[kg]? = some (.dic (zbt g)) := by rw [zah (Ne.symm ne)]; exact eg
     have l1 : (S.set kl (.lst (q.map .str)))[kl]? = some (.lst (q.map .str)) := zfd el;simp only [zo2, hx, List.dropLast_concat] at e;generalize S.set kl (.lst (q.map .str)) = S1 at pp k1 g1 l1;have glen : g.length <= 24 := by
      have := zxk g (ps.map (·.nm)) nd sub;simp at this;omega
     by_cases hxg : x ∈ g
     ·rw [if_pos hxg] at e
      have dn : zeh (.str x) (.obj kg) S1 = .ok (.bl false) S1 := by simp [zeh, zgc, g1, keyT, zgv, hxg]
      have ih := zij A0 hg hl ne h24 hw sm (t1 := t1) f g q m (x4 := some (.str x)) (x5 := x5) (S := S1) (by omega) nd sub (by simp at ll; omega) (fun y hy => sml y (by simp [hy])) g1 l1 k1 e;have bd : zbi c [some (.obj h), t1, some (.obj kg), some (.obj kl), x4, x5] S = .ok (.nx [some (.obj h), t1, some (.obj kg), some (.obj kl), some (.str x), x5]) S1 := by
       simp [zbi, ok, pp, dn]
      cases res with
      | none =>
        obtain ⟨S', w1, w2⟩ := ih;exact ⟨S', (zi7 wt bd).trans w1, w2⟩
      | some G =>
        obtain ⟨S', x4', x5', w1, w2, w3⟩ := ih;exact ⟨S', x4', x5', (zi7 wt bd).trans w1, w2, w3⟩
     ·rw [if_neg hxg] at e
      have A1 := A0.keep k1;have dn : zeh (.str x) (.obj kg) S1 = .ok (.bl true) S1 := by simp [zeh, zgc, g1, keyT, zgv, hxg]
      have hm2 := zbm (m := Str.ofString "find_piece") h (by simp) (by simp);cases hp : ps.find? (fun p => decide (p.nm = x)) with
      | none =>
        have hn : zg1 ps x = none := by simp [zg1, hp]
        simp only [hn, Option.some.injEq] at e;subst e;have hnot : x ∉ ps.map (·.nm) := fun hc => by
         obtain ⟨p, h1, h2⟩ := List.mem_map.mp hc;have := List.find?_eq_none.mp hp p h1;simp [h2] at this
        have fp := zd2 A1 hnot (sml x (by simp) hn);refine ⟨S1, zr6 wt ?_, k1⟩;simp [zbi, ok, pp, dn, A1.ins, hm2, fp]
      | some p =>
        have pm : p ∈ ps := List.mem_of_find?_eq_some hp;have pn : p.nm = x := by simpa using List.find?_some hp
        have hn : zg1 ps x = some p.w2 := by simp [zg1, hp]
        simp only [hn] at e;have fp := zf4 A1 hp;have e1 : valT (zbt g) (.inr x) = none := by simp [zgv, hxg]
        have P2 := (A1.piece p pm);have pf := A0.far p pm;have plt : p.i + 4 < S0.length := by
         have := (A0.piece p pm).a3;exact (List.getElem?_eq_some_iff.mp this).1
        have pu : putT (zbt g) (.inr x) (.bl true) = zbt (g ++ [x]) := by rw [zjz e1]; simp [zbt]
        have gl : (zbt g).length <= 900 := by simp [zbt]; omega
        have k2 : ∀ j, j < S0.length -> (S1.set kg (.dic (zbt (g ++ [x]))))[j]? = S0[j]? := fun j hj => by rw [zah (by omega)]; exact k1 j hj
        have g2 : (S1.set kg (.dic (zbt (g ++ [x]))))[kg]? = some (.dic (zbt (g ++ [x]))) := zfd g1;have l2 : (S1.set kg (.dic (zbt (g ++ [x]))))[kl]? = some (.lst (q.map .str)) := by rw [zah ne]; exact l1
        generalize hS2 : S1.set kg (.dic (zbt (g ++ [x]))) = S2 at k2 g2 l2;have A2 := A0.keep k2;have Po := zgb (A2.piece p pm).o;have lk : p.fs.lookup (Str.ofString "needs") = some (.obj (p.i + 3)) := by simp [HP.fs, List.lookup_cons]
        have w := hw p pm;have ex := zy8 (k := kl) (y := .obj (p.i + 3)) l2 (zgy (A2.piece p pm).a2) (by simp at ll ⊢; omega);have k3 : ∀ j, j < S0.length -> (S2.set kl (.lst (q.map .str ++ p.w2.map .str)))[j]? = S0[j]? := fun j hj => by rw [zah (by omega)]; exact k2 j hj
        have g3 : (S2.set kl (.lst (q.map .str ++ p.w2.map .str)))[kg]? = some (.dic (zbt (g ++ [x]))) := by rw [zah (Ne.symm ne)]; exact g2
        have l3 : (S2.set kl (.lst (q.map .str ++ p.w2.map .str)))[kl]? = some (.lst ((q ++ p.w2).map .str)) := by rw [zfd l2]; simp
        generalize S2.set kl (.lst (q.map .str ++ p.w2.map .str)) = S3 at ex k3 g3 l3;have ih := zij A0 hg hl ne h24 hw sm (t1 := t1) f (g ++ [x]) (q ++ p.w2) m (x4 := some (.str x)) (x5 := some (.obj p.i)) (S := S3) (by omega)
         (List.nodup_append.mpr ⟨nd, by simp, fun a ha b hb e => hxg (by rw [List.mem_singleton.mp hb] at e; exact e ▸ ha)⟩)
         (fun y hy => by
          rcases List.mem_append.mp hy with hy | hy
          ·exact sub y hy
          ·rw [List.mem_singleton.mp hy, <- pn]; exact List.mem_map_of_mem pm)
         (by simp at ll ⊢; omega) (fun y hy hn => by
          rcases List.mem_append.mp hy with hy | hy
          ·exact sml y (by simp [hy]) hn
          ·exact sm y hn p pm hy) g3 l3 k3 e
        have bd : zbi c [some (.obj h), t1, some (.obj kg), some (.obj kl), x4, x5] S = .ok (.nx [some (.obj h), t1, some (.obj kg), some (.obj kl), some (.str x), some (.obj p.i)]) S3 := by
         simp [zbi, ok, pp, dn, A1.ins, hm2, fp, keyT, g1, gl, pu, hS2, Po, lk, zki l2, ex]
        cases res with
        | none =>
          obtain ⟨S', w1, w2⟩ := ih;exact ⟨S', (zi7 wt bd).trans w1, w2⟩
        | some G =>
          obtain ⟨S', x4', x5', w1, w2, w3⟩ := ih;exact ⟨S', x4', x5', (zi7 wt bd).trans w1, w2, w3⟩
theorem zq0 {S S' : Sto} (h : ∀ j, j < S.length -> S'[j]? = S[j]?) : S'.take S.length = S := by
 refine List.ext_getElem? fun j => ?_;by_cases hj : j < S.length
 ·rw [List.getElem?_take_of_lt hj, h j hj]
 ·rw [List.getElem?_eq_none (by simp; omega), List.getElem?_eq_none (by omega)]
theorem z3q {S S' : Sto} {k : Nat} {g : List Str} (hk : S.length <= k) (e : S'[k]? = some (.dic (zbt g))) : fz S' S.length 6 (.obj k) = some (.dic (zbt g)) := by
 unfold fz;rw [if_neg (by simp only [HB]; omega)];simp only [e];unfold zbt;rw [zlq (k := fun x => ((Sum.inr x : Key), T.bl true)) fun x _ => ?_]
 ·rfl
 ·unfold fz
  rw [if_pos (by simp only [HB])];rfl
theorem zzs (A : zas c S h pl ps) (h24 : ps.length <= 24) (hw : ∀ p ∈ ps, p.w2.length <= 10) (sm : ∀ x, zg1 ps x = none -> ∀ p ∈ ps, x ∈ p.w2 -> Sm x) {nm : Str} (smn : zg1 ps nm = none -> Sm nm) {f : Nat} (hf : f <= 1000) {res : Option (List Str)} (e : zo2 (zg1 ps) f [] [nm] = some res) :
 zel c [.obj h, .str nm] S = match res with
  | some G => .ok (.dic (zbt G)) S
  | none => .exc c.noPiece none S := by
 have kp : ∀ j, j < S.length -> (S ++ [Cell.dic []] ++ [.lst [.str nm]])[j]? = S[j]? := fun j hj => by rw [List.append_assoc, List.getElem?_append_left hj]
 have g0 : (S ++ [Cell.dic []] ++ [.lst [.str nm]])[S.length]? = some (.dic (zbt [])) := by rw [List.append_assoc, zoy]; rfl
 have l0 : (S ++ [Cell.dic []] ++ [.lst [.str nm]])[S.length + 1]? = some (.lst (([nm]).map .str)) := by rw [List.append_assoc, getR]; rfl
 have W := zij A (Nat.le_refl _) (Nat.le_succ _) (by omega) h24 hw sm (kg := S.length) (kl := S.length + 1) (t1 := some (.str nm)) f [] [nm] 1000 (x4 := none) (x5 := none) hf .nil (by simp) (by simp) (fun x hx => by rw [List.mem_singleton.mp hx]; exact smn) g0 l0 kp e;have hlen : (S ++ [Cell.dic []]).length = S.length + 1 := by simp
 cases res with
 | none =>
   obtain ⟨S', w1, w2⟩ := W;have run : runD 6 (zek c) [.obj h, .str nm] S = .exc c.noPiece none S' := by
    simp [zek, zhw] at w1 ⊢;simp [w1]
   exact z2s run (zq0 w2)
 | some G =>
   obtain ⟨S', x4, x5, w1, w2, w3⟩ := W;have run : runD 6 (zek c) [.obj h, .str nm] S = .ok (.obj S.length) S' := by
    simp [zek, zhw] at w1 ⊢;simp [w1]
   unfold zel frzF;rw [run];simp only [if_pos (zq0 w3), z3q (Nat.le_refl _) w2]
def znc (ps : List HP) (G : List Str) : List Str := (ps.map (·.nm)).filter fun x => decide (x ∈ G)
theorem z00 (A : zas c S h pl ps) (h24 : ps.length <= 24) (hw : ∀ p ∈ ps, p.w2.length <= 10 /\ p.w3.length <= 10) (sm : ∀ x, zg1 ps x = none -> ∀ p ∈ ps, x ∈ p.w2 -> Sm x) {nm : Str} (smn : zg1 ps nm = none -> Sm nm) {f : Nat} (hf : f <= 1000) {res : Option (List Str)} (e : zo2 (zg1 ps) f [] [nm] = some res)
 (smk : ∀ G, res = some G -> ∀ k ∈ zhh (znc ps G) (ps.map HP.w), (reprText k.a).length <= 1000 /\ (reprText k.b).length <= 1000) :
 zbz c [.obj h, .str nm] S = match res with
  | some G => (match zhh (znc ps G) (ps.map HP.w) with
    | [] => .ok (strL (znc ps G)) S
    | k :: _ => .exc c.barred (some [("one", .str k.a), ("other", .str k.b)]) S)
  | none => .exc c.noPiece none S := by
 have eg := zzs A h24 (fun p hp => (hw p hp).1) sm smn hf e;cases res with
 | none => simp [zbz, zgz, eg]
 | some G =>
   simp only at eg ⊢;have hm1 := zbm (m := Str.ofString "names") h (by simp) (by simp);have en := zxg A;have it1 : zem c [some (.obj h), some (.str nm), some (.dic (zbt G)), none, none] S = .ok ((ps.map (·.nm)).map .str, fun S' => za6 S' (strL (ps.map (·.nm))) = some ((ps.map (·.nm)).map .str)) S := by
    generalize ps.map (·.nm) = N at en ⊢;simp [zem, A.ins, hm1, en, strL]
   have cc := zgs (ρ := [some (.obj h), some (.str nm), some (.dic (zbt G)), none, none]) (S := S) (js := [2]) (it := zem c) (tc := zfy c) (te := zfx c) (ts := (ps.map (·.nm)).map .str) (st := fun S' => za6 S' (strL (ps.map (·.nm))) = some ((ps.map (·.nm)).map .str))
    (p := fun t => match t with | .str x => decide (x ∈ G) | _ => false) (f := id)
    it1 rfl (by simp; omega) (fun t ht => by
     obtain ⟨x, _, rfl⟩ := List.mem_map.mp ht;simp [zfy, ztw]) (fun t ht _ => by simp [zfx])
   have ef : (((ps.map (·.nm)).map T.str).filter (fun t => match t with | .str x => decide (x ∈ G) | _ => false)).map id = (znc ps G).map .str := by
    rw [List.filter_map]; simp [znc]; rfl
   rw [ef] at cc;have cc : zgr 1 [2] (zem c) (zb0 0) (zfy c) (zfx c) finF [some (.obj h), some (.str nm), some (.dic (zbt G)), none, none] S = .ok (strL (znc ps G)) S := cc;have el := z29 A (tn := strL (znc ps G)) (names := znc ps G) rfl hw h24;have sk := smk G rfl;generalize znc ps G = N at cc el sk ⊢;generalize zhh N (ps.map HP.w) = L at el sk ⊢;generalize strL N = NT at cc el ⊢;cases L with
   | nil => simp [zbz, zgz, eg, cc, el]
   | cons k ks =>
     obtain ⟨s1, s2⟩ := sk k (by simp);have ok : okM true (.str k.a) (.str k.b) = true := by simp [okM, okW, s1, s2]
     simp [zbz, zgz, eg, cc, el, Lk.t, zjt, ok]
end
end DN
namespace DN
open PySem L2 MF
variable {c : Cl} {S : Sto}
theorem smK (x : Str) (h : x = "a" \/ x = "b" \/ x = "c" \/ x = "d" \/ x = "hub" \/ x = "nowhere") : Sm x := by
 rcases h with rfl | rfl | rfl | rfl | rfl | rfl <;> (unfold Sm; decide +kernel)
theorem zse {h : Nat} {pl : List PlM} {ps : List HP} (A : zas c S h pl ps) {nm : Str} (hn : nm ∉ ps.map (·.nm)) (sm : Sm nm) : zd1 c [.obj h, .str nm] S = .exc c.noPiece none S := by
 have hm := zbm (m := Str.ofString "find_piece") h (by simp) (by simp);simp [zd1, zid, A.ins, hm, zd2 A hn sm]
theorem z3r (n : Int) : ∃ S', zbd c [.int n] [] = .exc c.noPiece none S' := by
 obtain ⟨S, e, A, -⟩ := zg0 (c := c) "hold";have hm1 := zbm (m := Str.ofString "hang") 0 (by simp) (by simp);have hm2 := zbm (m := Str.ofString "drop") 0 (by simp) (by simp);have hm3 := zbm (m := Str.ofString "switch") 0 (by simp) (by simp);have hm4 := zbm (m := Str.ofString "wish") 0 (by simp) (by simp);have a0 := zxl (c := c) A (nm := "c") (q := "hub") (b := "d") (dd := .tup [.str "none"]) (pm := ⟨"hub", "chain", "hold", 3⟩) (by simp [pA, pB, newP]) (by simp [plH]) (by simp [pA, pB, newP]) (smK _ (by simp));have a1 := zse (c := c) A (nm := "c") (by simp [pA, pB, newP]) (smK _ (by simp));have a2 := zr3 (c := c) A (nm := "c") (b := .bl true) (by simp [pA, pB, newP]) (smK _ (by simp));have a3 := zxm (c := c) A (nm := "c") (t0 := .lst [.str "a"]) (t1 := .non) (t2 := .non) (t3 := .non) (by simp [pA, pB, newP]) (smK _ (by simp));obtain ⟨S1, w1, A1, -, -⟩ := zqp A (p := pA) (by simp) (t0 := .non) (t1 := .non) (t2 := strL ["b", "c"]) (t3 := .non) (l0 := []) (l1 := []) (l2 := ["b", "c"]) (l3 := []) (fun _ => za5) (fun _ => za5) (fun _ => ze0 _) (fun _ => za5)
  (by simp [pA, newP]) (by simp [pA, newP]) (by simp [pA, newP]) (by simp [pA, newP])
 have ep : ([pA, pB].map fun q => if q.nm = pA.nm then zba pA [] [] ["b", "c"] [] else q) = [zba pA [] [] ["b", "c"] [], pB] := by simp [pA, pB, newP, zba]
 rw [ep] at A1;have w1 : za0 c [.obj 0, .str "a", .non, .non, .lst [.str "b", .str "c"], .non] S = .ok .non S1 := w1;have W := fun (nm : Str) (hn : nm = "a" \/ nm = "c") (z : zo2 (zg1 [zba pA [] [] ["b", "c"] [], pB]) 10 [] [nm] = some none) => z00 A1 (nm := nm) (f := 10) (res := none) (by simp) (by simp [pA, pB, newP, zba]) (fun x _ p hp hx => by
  simp only [List.mem_cons, List.not_mem_nil, or_false] at hp;rcases hp with rfl | rfl
  ·have hx : x = "b" \/ x = "c" := by simpa [pA, newP, zba] using hx
   exact smK x (by rcases hx with h | h <;> simp [h])
  ·simp [pB, newP] at hx) (fun _ => smK nm (by rcases hn with h | h <;> simp [h])) (by decide) z (fun G h => by cases h)
 have b0 := W "a" (.inl rfl) (by decide +kernel);have b1 := W "c" (.inr rfl) (by decide +kernel);simp only at b0 b1;by_cases h0 : n % 5 = 0
 ·exact ⟨S, by simp [zbd, zcs, e, A.ins, hm1, h0, a0]⟩
 by_cases h1 : n % 5 = 1
 ·exact ⟨S, by simp [zbd, zcs, e, A.ins, hm2, h1, a1]⟩
 by_cases h2 : n % 5 = 2
 ·exact ⟨S, by simp [zbd, zcs, e, A.ins, hm3, h2, a2]⟩
 by_cases h3 : n % 5 = 3
 ·exact ⟨S, by simp [zbd, zcs, e, A.ins, hm4, h3, a3]⟩
 refine ⟨S1, ?_⟩;rcases Int.emod_two_eq (n / 5) with g | g
 ·simp [zbd, zcs, e, A.ins, hm4, h0, h1, h2, h3, w1, g, b0]
 ·simp [zbd, zcs, e, A.ins, hm4, h0, h1, h2, h3, w1, g, b1]
theorem zq1 {t0 t2 : Option T} {ps : List HP} : ∀ (ls : List Str) {pl : List PlM} {x3 : Option T} {S : Sto}, zas c S 0 pl ps -> (pl.map (·.nm) ++ ls).Nodup -> pl.length <= 8 -> 8 < pl.length + ls.length ->
 ∃ S', zcx (fun _ => True) (zb0 3) (zdi c) (ls.map .str) [t0, some (.obj 0), t2, x3] S = .exc c.tooMany none S'
 | [], pl, x3, S, A, nd, h1, h2 => by simp at h2; omega
 | y :: ls, pl, x3, S, A, nd, h1, h2 => by
   have hm := zbm (m := Str.ofString "open_place") 0 (by simp) (by simp);have hy : y ∉ pl.map (·.nm) := fun hc => (List.nodup_append.mp nd).2.2 y hc y (by simp) rfl;have hn : pl.find? (fun p => decide (p.nm = y)) = none := by
    refine List.find?_eq_none.mpr fun p hp z => hy ?_;have z : p.nm = y := by simpa using z
    exact z ▸ List.mem_map_of_mem hp
   by_cases h8 : pl.length = 8
   ·have e := zr9 A (k := .str "all") (r := .str "hold") hn h8
    exact ⟨S, by simp [zcx, zb0, zdi, A.ins, hm, e]⟩
   ·have e := z0x A (k := "all") (r := "hold") hn (by omega)
    have A1 := A.open_ (nm := y) (k := "all") (r := "hold");generalize S.set (0 + 1) (.dic (plD (pl ++ [⟨y, "all", "hold", S.length⟩]))) ++ [.ins c.place [("kind", .str "all"), ("rule", .str "hold")]] = S1 at e A1;obtain ⟨S', w⟩ := zq1 ls (x3 := some (.str y)) (t0 := t0) (t2 := t2) A1 (by simpa using nd) (by simp; omega) (by simp at h2 ⊢; omega);have hb : zdi c [t0, some (.obj 0), t2, some (.str y)] S = .ok (.nx [t0, some (.obj 0), t2, some (.str y)]) S1 := by simp [zdi, A.ins, hm, e]
    exact ⟨S', by simp [zcx, zb0, hb, w]⟩
theorem zq2 {t0 t2 : Option T} {pl : List PlM} {pm : PlM} (hq : pl.find? (fun p => decide (p.nm = Str.ofString "hub")) = some pm) : ∀ (ls : List Str) {ps : List HP} {x3 : Option T} {S : Sto}, zas c S 0 pl ps -> (ps.map (·.nm) ++ ls).Nodup -> ps.length <= 24 -> 24 < ps.length + ls.length ->
 ∃ S', zcx (fun _ => True) (zb0 3) (zdj c) (ls.map .str) [t0, some (.obj 0), t2, x3] S = .exc c.tooMany none S'
 | [], ps, x3, S, A, nd, h1, h2 => by simp at h2; omega
 | y :: ls, ps, x3, S, A, nd, h1, h2 => by
   have hm := zbm (m := Str.ofString "hang") 0 (by simp) (by simp);have hy : y ∉ ps.map (·.nm) := fun hc => (List.nodup_append.mp nd).2.2 y hc y (by simp) rfl;by_cases h8 : ps.length = 24
   ·have e := zsa A (dd := .tup [.str "none"]) hy hq h8
    exact ⟨S, by simp [zcx, zb0, zdj, A.ins, hm, e]⟩
   ·have e := zxi A (dd := .tup [.str "none"]) hy hq (by omega)
    have A1 := A.hang (nm := y) (q := "hub") (dd := .tup [.str "none"]) (br := none) hy;generalize S.set (0 + 2) (.dic (psD (ps ++ [newP y "hub" (.tup [.str "none"]) none S.length]))) ++ (newP y "hub" (.tup [.str "none"]) none S.length).block c = S1 at e A1;obtain ⟨S', w⟩ := zq2 hq ls (x3 := some (.str y)) (t0 := t0) (t2 := t2) A1 (by simpa [newP] using nd) (by simp; omega) (by simp at h2 ⊢; omega);have hb : zdj c [t0, some (.obj 0), t2, some (.str y)] S = .ok (.nx [t0, some (.obj 0), t2, some (.str y)]) S1 := by simp [zdj, A.ins, hm, e]
    exact ⟨S', by simp [zcx, zb0, hb, w]⟩
def z3s : List Str := ["c", "d", "e", "f", "g", "h", "i", "j"]
def zxz : List Str := ["c", "d", "e", "f", "g", "h", "i", "j", "k", "l", "m", "n", "o", "p", "q", "r", "s", "t", "u", "v", "w", "x", "y"]
theorem z3t (n : Int) : ∃ S', zdo c [.int n] [] = .exc c.tooMany none S' := by
 obtain ⟨S, e, A, -⟩ := zg0 (c := c) "hold";have s8 : eSlS (eVar 2) zru (zrv (eC (.int 8))) [some (.int n), some (.obj 0), some (.str "cdefghijklmnopqrstuvwxyz"), none] S = .ok (.str "cdefghij") S := by
  have z : Txt.slice "cdefghijklmnopqrstuvwxyz" none (some 8) = "cdefghij" := by decide +kernel
  have l : (Str.ofString "cdefghijklmnopqrstuvwxyz").length <= 1000 := by decide +kernel
  simp [eSlS, zru, zrv, z, l]
 have s23 : eSlS (eVar 2) zru (zrv (eC (.int 23))) [some (.int n), some (.obj 0), some (.str "cdefghijklmnopqrstuvwxyz"), none] S = .ok (.str "cdefghijklmnopqrstuvwxy") S := by
  have z : Txt.slice "cdefghijklmnopqrstuvwxyz" none (some 23) = "cdefghijklmnopqrstuvwxy" := by decide +kernel
  have l : (Str.ofString "cdefghijklmnopqrstuvwxyz").length <= 1000 := by decide +kernel
  simp [eSlS, zru, zrv, z, l]
 have g8 : zkz "cdefghij" = z3s.map .str := by
  have : (Str.ofString "cdefghij").cps.toList.map (fun q => (⟨#[q]⟩ : Str)) = z3s := by decide +kernel
  rw [<- this, List.map_map]; rfl
 have g23 : zkz "cdefghijklmnopqrstuvwxy" = zxz.map .str := by
  have : (Str.ofString "cdefghijklmnopqrstuvwxy").cps.toList.map (fun q => (⟨#[q]⟩ : Str)) = zxz := by decide +kernel
  rw [<- this, List.map_map]; rfl
 obtain ⟨S1, l1⟩ := zq1 (c := c) (t0 := some (.int n)) (t2 := some (.str "cdefghijklmnopqrstuvwxyz")) z3s (x3 := none) A (by decide +kernel) (by decide) (by decide);obtain ⟨S2, l2⟩ := zq2 (c := c) (pm := ⟨"hub", "chain", "hold", 3⟩) (by simp [plH]) (t0 := some (.int n)) (t2 := some (.str "cdefghijklmnopqrstuvwxyz")) zxz (x3 := none) A (by decide +kernel) (by decide) (by decide);rw [<- g8] at l1;rw [<- g23] at l2;rcases Int.emod_two_eq n with h | h
 ·exact ⟨S1, by simp [zdo, zg6, e, h, sFor, iS, s8, l1]⟩
 ·exact ⟨S2, by simp [zdo, zg6, e, h, sFor, iS, s23, l2]⟩
theorem zj0 {r : Str} (A : zas c S 0 (plH r) [pA, pB]) (n : T) : ∃ S' k, zcr c [.obj 0, .str "hub", n] S = .ok (.obj k) S' /\ zff c S' k ⟨"chain", r, n, [.tup [.str "a", .tup [.str "add", .int 1]], .tup [.str "b", .tup [.str "fail", .int 7]]], [], false, [], .non, []⟩ := by
 have hm := zbm (m := Str.ofString "at") 0 (by simp) (by simp);have hq : (plH r).find? (fun p => decide (p.nm = Str.ofString "hub")) = some ⟨"hub", "chain", r, 3⟩ := by simp [plH]
 have ea := f_at A hq (by simp);have en : (([pA, pB].filter fun p => decide (p.pl = Str.ofString "hub") && p.on).map (·.nm)) = (["a", "b"] : List Str) := by simp [pA, pB, newP]
 rw [en] at ea;have hs : ∀ x ∈ [pA, pB], x ∈ [pA, pB] /\ x.w0.length <= 20 /\ x.w1.length <= 20 := by simp [pA, pB, newP]
 obtain ⟨S1, e1, e2, e3⟩ := z3i A (qs := [pA, pB]) rfl hs (by decide +kernel) (by decide +kernel);have eb := zqz (n := n) (dds := [pA, pB]) A hq e1 e2 (A.keep e3) (fun p h => h) (by decide);have ea : zdh c [.obj 0, .str "hub"] S = .ok (strL ["a", "b"]) S := ea;have eb : zda c [.obj 0, .str "hub", strL ["a", "b"], n] S = .ok (.obj S1.length) (S1 ++ (Rn.mk "chain" r n [.tup [.str "a", .tup [.str "add", .int 1]], .tup [.str "b", .tup [.str "fail", .int 7]]] [] false [] .non []).block c S1.length) := eb;refine ⟨_, S1.length, ?_, zxy⟩;generalize strL ["a", "b"] = N at ea eb;simp [zcr, zow, A.ins, hm, ea, eb]
theorem z01 {r : Nat} {n : Int} {ru : Str} (hr : ru = "hand") (nd : (e8 c).Nodup) (R : zff c S r ⟨"chain", ru, .int n, [.tup [.str "a", .tup [.str "add", .int 1]], .tup [.str "b", .tup [.str "fail", .int 7]]], [], false, [], .non, []⟩) :
 (∃ S1, zap c [.obj r] S = .ok (.str "a") S1 /\ zff c S1 r ⟨"chain", ru, .int (n + 1), [.tup [.str "b", .tup [.str "fail", .int 7]]], [], false, [], .non, []⟩ /\ ∃ S2, zap c [.obj r] S1 = .exc c.deedFault (some [("piece", .str "b"), ("code", .int 7)]) S2 /\ (∃ y, zff c S2 r y /\ y.brk = true) /\ zhg c [.obj r] S = .ok (.bl true) S2) := by
 obtain ⟨S1, e1, R1⟩ := zuw R rfl rfl rfl;obtain ⟨S2, e2, R2⟩ := zsd R1 hr (nm := "b") (cd := .int 7) (ds := []) (smK _ (by simp)) rfl;refine ⟨S1, e1, R1, S2, e2, ⟨_, R2, rfl⟩, ?_⟩;have s1 : subL (e8 c) c.deedFault c.deedFault = some true := by simp [subL, e8]
 simp [zhg, zn1, zie, zk3, R.ins, zqv, e1, R1.ins, e2, zza, s1, msk, calmR]
theorem z3u (nd : (e8 c).Nodup) (n : Int) : ∃ S', za9 c [.int n] [] = .exc c.noAnswer none S' := by
 obtain ⟨S, e, A, -⟩ := zg0 (c := c) "hand";obtain ⟨S1, k, eb, R⟩ := zj0 A (.int n);obtain ⟨S2, e1, R1, S3, e2, ⟨y, R3, hy⟩, et⟩ := z01 rfl nd R;have n0 := zjj R (.inr (by simp));have n1 := zjj R1 (.inr (by simp));have n2 := zjj R3 (.inl hy);by_cases h1 : n % 3 = 1
 ·exact ⟨S2, by simp [za9, zdd, e, eb, h1, R.ins, zqv, e1, R1.ins, z3m, n1]⟩
 by_cases h2 : n % 3 = 2
 ·exact ⟨S3, by simp [za9, zdd, e, eb, h2, R.ins, z3m, et, R3.ins, n2]⟩
 ·exact ⟨S1, by simp [za9, zdd, e, eb, h1, h2, R.ins, z3m, n0]⟩
theorem zmu {r : Str} {qa qb : HP} (A : zas c S 0 (plH r) [qa, qb]) (n : T) (hs : ∀ x ∈ [qa, qb], x.pl = "hub" /\ x.on = true /\ x.w0.length <= 20 /\ x.w1.length <= 20) (hn : [qa, qb].map (·.nm) = (["a", "b"] : List Str)) {la lb ring : List Str} (s1 : zix ["a", "b"] [qa, qb] "a" = la) (s2 : zix ["a", "b"] [qa, qb] "b" = lb) (q : (["a", "b"] : List Str).find? (zgw (zix ["a", "b"] [qa, qb]) ["a", "b"]) = none) (sh : ∀ S, zbe c [secT la lb] S = .ok (strL ring) S) (hc : ring.length <= 1000 /\ (PyData.shown (.list (ring.map PyData.str))).length <= 800) :
 ∃ fs S', zhr c [.obj 0, .str "hub"] S = .exc c.ring fs S' /\ zcr c [.obj 0, .str "hub", n] S = .exc c.ring fs S' := by
 have hm := zbm (m := Str.ofString "at") 0 (by simp) (by simp);have hm2 := zbm (m := Str.ofString "find_place") 0 (by simp) (by simp);have hq : (plH r).find? (fun p => decide (p.nm = Str.ofString "hub")) = some ⟨"hub", "chain", r, 3⟩ := by simp [plH]
 have ea := f_at A hq (by simp);obtain ⟨a1, a2, a3, a4⟩ := hs qa (by simp);obtain ⟨b1, b2, b3, b4⟩ := hs qb (by simp);have en : (([qa, qb].filter fun p => decide (p.pl = Str.ofString "hub") && p.on).map (·.nm)) = (["a", "b"] : List Str) := by rw [<- hn]; simp [a1, a2, b1, b2]
 rw [en] at ea;obtain ⟨S1, e1⟩ := zzq A hn (fun q hq => ⟨hq, (hs q hq).2.2⟩) s1 s2 q sh hc;have fpl := zez A hq;refine ⟨some [("ring", strL ring)], S1, by simp [zhr, zr1, A.ins, hm, ea, e1], ?_⟩;have eo : zda c [.obj 0, .str "hub", strL ["a", "b"], n] S = .exc c.ring (some [("ring", strL ring)]) S1 := by
  generalize strL ["a", "b"] = N at e1 ⊢;simp [zda, zib, A.ins, hm2, fpl, zgr, zfz, e1]
 generalize strL ["a", "b"] = N at ea eo;simp [zcr, zow, A.ins, hm, ea, eo]
theorem z3v (n : Int) : ∃ fs S', zcj c [.int n] [] = .exc c.ring fs S' := by
 obtain ⟨S, e, A, -⟩ := zg0 (c := c) "hold";have hm := zbm (m := Str.ofString "wish") 0 (by simp) (by simp);obtain ⟨S1, w1, A1, -, -⟩ := zqp A (p := pA) (by simp) (t0 := strL ["b"]) (t1 := .non) (t2 := .non) (t3 := .non) (l0 := ["b"]) (l1 := []) (l2 := []) (l3 := []) (fun _ => ze0 _) (fun _ => za5) (fun _ => za5) (fun _ => za5)
  (by simp [pA, newP]) (by simp [pA, newP]) (by simp [pA, newP]) (by simp [pA, newP])
 have ep : ([pA, pB].map fun q => if q.nm = pA.nm then zba pA ["b"] [] [] [] else q) = [zba pA ["b"] [] [] [], pB] := by simp [pA, pB, newP, zba]
 rw [ep] at A1;have w1 : za0 c [.obj 0, .str "a", .lst [.str "b"], .non, .non, .non] S = .ok .non S1 := w1;generalize hqa : zba pA ["b"] [] [] [] = qa at A1;obtain ⟨S2, w2, A2, -, -⟩ := zqp A1 (p := qa) (by simp) (t0 := strL ["a"]) (t1 := .non) (t2 := .non) (t3 := .non) (l0 := ["a"]) (l1 := []) (l2 := []) (l3 := []) (fun _ => ze0 _) (fun _ => za5) (fun _ => za5) (fun _ => za5)
  (by subst hqa; simp [pA, newP, zba]) (by subst hqa; simp [pA, newP, zba]) (by subst hqa; simp [pA, newP, zba]) (by subst hqa; simp [pA, newP, zba])
 obtain ⟨S3, w3, A3, -, -⟩ := zqp A1 (p := pB) (by simp) (t0 := strL ["a"]) (t1 := .non) (t2 := .non) (t3 := .non) (l0 := ["a"]) (l1 := []) (l2 := []) (l3 := []) (fun _ => ze0 _) (fun _ => za5) (fun _ => za5) (fun _ => za5)
  (by simp [pB, newP]) (by simp [pB, newP]) (by simp [pB, newP]) (by simp [pB, newP])
 have ep2 : ([qa, pB].map fun q => if q.nm = qa.nm then zba qa ["a"] [] [] [] else q) = [zba qa ["a"] [] [] [], pB] := by subst hqa; simp [pA, pB, newP, zba]
 have ep3 : ([qa, pB].map fun q => if q.nm = pB.nm then zba pB ["a"] [] [] [] else q) = [qa, zba pB ["a"] [] [] []] := by subst hqa; simp [pA, pB, newP, zba]
 rw [ep2] at A2;rw [ep3] at A3;have na : qa.nm = "a" := by subst hqa; rfl
 rw [na] at w2;have w2 : za0 c [.obj 0, .str "a", .lst [.str "a"], .non, .non, .non] S1 = .ok .non S2 := w2;have w3 : za0 c [.obj 0, .str "b", .lst [.str "a"], .non, .non, .non] S1 = .ok .non S3 := w3;obtain ⟨f2, T2, o2, b2⟩ := zmu A2 (.int n) (by subst hqa; simp [pA, pB, newP, zba]) (by subst hqa; rfl) (la := ["b", "a"]) (lb := []) (by subst hqa; decide +kernel) (by subst hqa; decide +kernel) (by subst hqa; decide +kernel) (fun _ => z6r) (by decide +kernel);obtain ⟨f3, T3, o3, b3⟩ := zmu A3 (.int n) (by subst hqa; simp [pA, pB, newP, zba]) (by subst hqa; rfl) (la := ["b"]) (lb := ["a"]) (by subst hqa; decide +kernel) (by subst hqa; decide +kernel) (by subst hqa; decide +kernel) (fun _ => z6s) (by decide +kernel);have c2 := zko b2;have c3 := zko b3;have m2 := zkp b2;have m3 := zkp b3;have i1 := A1.ins;rcases Int.emod_two_eq (n / 4) with g | g
 ·refine ⟨f2, T2, ?_⟩
  by_cases h0 : n % 4 = 0
  ·simp [zcj, zeb, e, A.ins, hm, w1, i1, g, w2, h0, o2]
  by_cases h1 : n % 4 = 1
  ·simp [zcj, zeb, e, A.ins, hm, w1, i1, g, w2, h1, b2]
  by_cases h2 : n % 4 = 2
  ·simp [zcj, zeb, e, A.ins, hm, w1, i1, g, w2, h2, c2]
  ·simp [zcj, zeb, e, A.ins, hm, w1, i1, g, w2, h0, h1, h2, m2]
 ·refine ⟨f3, T3, ?_⟩
  by_cases h0 : n % 4 = 0
  ·simp [zcj, zeb, e, A.ins, hm, w1, i1, g, w3, h0, o3]
  by_cases h1 : n % 4 = 1
  ·simp [zcj, zeb, e, A.ins, hm, w1, i1, g, w3, h1, b3]
  by_cases h2 : n % 4 = 2
  ·simp [zcj, zeb, e, A.ins, hm, w1, i1, g, w3, h2, c3]
  ·simp [zcj, zeb, e, A.ins, hm, w1, i1, g, w3, h0, h1, h2, m3]
end DN
namespace DN
open PySem L2 MF
variable {c : Cl} {S : Sto}
theorem z3w (n : Int) : ∃ fs S', zck c [.int n] [] = .exc c.barred fs S' := by
 obtain ⟨S, e, A, -⟩ := zg0 (c := c) "hold";have hm := zbm (m := Str.ofString "wish") 0 (by simp) (by simp);have W : ∀ y : Str, y = "a" \/ y = "b" -> ∃ S1, za0 c [.obj 0, .str "a", .non, .non, .lst [.str "b"], .lst [.str y]] S = .ok .non S1 /\ zg3 S1 c.hall (.obj 0) = some (0, zer 0) /\ ∃ fs, zbz c [.obj 0, .str "a"] S1 = .exc c.barred fs S1 := fun y hy => by
  obtain ⟨S1, w1, A1, -, -⟩ := zqp A (p := pA) (by simp) (t0 := .non) (t1 := .non) (t2 := strL ["b"]) (t3 := strL [y]) (l0 := []) (l1 := []) (l2 := ["b"]) (l3 := [y]) (fun _ => za5) (fun _ => za5) (fun _ => ze0 _) (fun _ => ze0 _)
   (by simp [pA, newP]) (by simp [pA, newP]) (by simp [pA, newP]) (by simp [pA, newP])
  have ep : ([pA, pB].map fun q => if q.nm = pA.nm then zba pA [] [] ["b"] [y] else q) = [zba pA [] [] ["b"] [y], pB] := by simp [pA, pB, newP, zba]
  rw [ep] at A1;have lk : zhh (znc [zba pA [] [] ["b"] [y], pB] ["a", "b"]) ([zba pA [] [] ["b"] [y], pB].map HP.w) = [⟨"bars", "a", y⟩] := by
   rcases hy with rfl | rfl <;> rfl
  have b := z00 A1 (nm := "a") (f := 10) (res := some ["a", "b"]) (by simp) (by simp [pA, pB, newP, zba]) (fun x _ p hp hx => by
   simp only [List.mem_cons, List.not_mem_nil, or_false] at hp;rcases hp with rfl | rfl
   ·have hx : x = "b" := by simpa [pA, newP, zba] using hx
    exact smK x (by simp [hx])
   ·simp [pB, newP] at hx) (fun _ => smK _ (by simp)) (by decide) (by rcases hy with rfl | rfl <;> decide +kernel) (fun G h k hk => by
    cases h;rw [lk] at hk;rw [List.mem_singleton.mp hk];rcases hy with rfl | rfl <;> decide +kernel)
  simp only [lk] at b;exact ⟨S1, w1, A1.ins, _, b⟩
 rcases Int.emod_two_eq n with h | h
 ·obtain ⟨S1, w, i, fs, b⟩ := W "a" (.inl rfl)
  exact ⟨fs, S1, by simp [zck, zf9, e, A.ins, hm, h, w, i, b]⟩
 ·obtain ⟨S1, w, i, fs, b⟩ := W "b" (.inr rfl)
  exact ⟨fs, S1, by simp [zck, zf9, e, A.ins, hm, h, w, i, b]⟩
theorem z3x (nd : (e8 c).Nodup) (n : Int) : ∃ fs S', zey c [.int n] [] = .exc c.deedFault fs S' := by
 obtain ⟨S, e, A, -⟩ := zg0 (c := c) "hand";obtain ⟨S1, k, eb, R⟩ := zj0 A (.int n);obtain ⟨S2, e1, R1, S3, e2, -, -⟩ := z01 rfl nd R;have ef := zqy R (by simp) e1 R1 (by simp) e2;have ec : zc1 c [.obj 0, .str "hub", .int n] S = .exc c.deedFault (some [("piece", .str "b"), ("code", .int 7)]) S3 := by
  simp [zc1, zkk, eb, ef]
 rcases Int.emod_two_eq n with h | h
 ·exact ⟨some [("piece", .str "b"), ("code", .int 7)], S3, by simp [zey, zif, e, h, ec]⟩
 ·exact ⟨some [("piece", .str "b"), ("code", .int 7)], S3, by simp [zey, zif, e, h, eb, R.ins, zqv, e1, R1.ins, e2]⟩
theorem zik (n : Int) {C : Addr} {fs : Option (List (Str × T))} {S' : Sto} {m : Int} {F : Fn} (h : zc2 c [some (.int m), some (.int n)] [] = (za3 (zbl (lenF 1 F) [] (zac (eVar 1) aNil))) [some (.int m), some (.int n)] []) (e : F [.int n] [] = .exc C fs S') : zgg c [.int m, .int n] [] = .exc C fs S' := by
 have h : zc2 c [some (.int m), some (.int n)] [] = .exc C fs S' := by rw [h]; simp [e]
 simp [zgg, h]
theorem zfg {a b : Int} {f g : DS} {n : Int} (h : decide (a = b) = false) : sIf (tst (e2 gEq (eVar 0) (eC (.int b)))) f g [some (.int a), some (.int n)] S = g [some (.int a), some (.int n)] S := by
 simp at h;simp [h]
theorem zmv {a : Int} {f g : DS} {n : Int} : sIf (tst (e2 gEq (eVar 0) (eC (.int a)))) f g [some (.int a), some (.int n)] S = f [some (.int a), some (.int n)] S := by
 simp
theorem z6v (nd : (e8 c).Nodup) (m n : Int) (h0 : 0 <= m) (h1 : m < 8) : ∃ C fs S', zgg c [.int m, .int n] [] = .exc C fs S' /\ (e8 c)[m.toNat]? = some C := by
 have hm : m = 0 \/ m = 1 \/ m = 2 \/ m = 3 \/ m = 4 \/ m = 5 \/ m = 6 \/ m = 7 := by omega
 rcases hm with rfl | rfl | rfl | rfl | rfl | rfl | rfl | rfl
 ·obtain ⟨S', e⟩ := z3j (c := c) n
  exact ⟨_, _, S', zik n (by unfold zc2; exact zmv) e, rfl⟩
 ·obtain ⟨S', e⟩ := z3k (c := c) n
  exact ⟨_, _, S', zik n (by unfold zc2; rw [zfg (by decide)]; exact zmv) e, rfl⟩
 ·obtain ⟨S', e⟩ := z3r (c := c) n
  exact ⟨_, _, S', zik n (by unfold zc2; rw [zfg (by decide)]; rw [zfg (by decide)]; exact zmv) e, rfl⟩
 ·obtain ⟨S', e⟩ := z3t (c := c) n
  exact ⟨_, _, S', zik n (by unfold zc2; rw [zfg (by decide)]; rw [zfg (by decide)]; rw [zfg (by decide)]; exact zmv) e, rfl⟩
 ·obtain ⟨S', e⟩ := z3u (c := c) nd n
  exact ⟨_, _, S', zik n (by unfold zc2; rw [zfg (by decide)]; rw [zfg (by decide)]; rw [zfg (by decide)]; rw [zfg (by decide)]; exact zmv) e, rfl⟩
 ·obtain ⟨fs, S', e⟩ := z3v (c := c) n
  exact ⟨_, _, S', zik n (by unfold zc2; rw [zfg (by decide)]; rw [zfg (by decide)]; rw [zfg (by decide)]; rw [zfg (by decide)]; rw [zfg (by decide)]; exact zmv) e, rfl⟩
 ·obtain ⟨fs, S', e⟩ := z3w (c := c) n
  exact ⟨_, _, S', zik n (by unfold zc2; rw [zfg (by decide)]; rw [zfg (by decide)]; rw [zfg (by decide)]; rw [zfg (by decide)]; rw [zfg (by decide)]; rw [zfg (by decide)]; exact zmv) e, rfl⟩
 ·obtain ⟨fs, S', e⟩ := z3x (c := c) nd n
  exact ⟨_, _, S', zik n (by unfold zc2; rw [zfg (by decide)]; rw [zfg (by decide)]; rw [zfg (by decide)]; rw [zfg (by decide)]; rw [zfg (by decide)]; rw [zfg (by decide)]; exact zfg (by decide)) e, rfl⟩
theorem is8 (nd : (e8 c).Nodup) {i j : Nat} {C D : Addr} (hi : (e8 c)[i]? = some C) (hj : (e8 c)[j]? = some D) : subL (e8 c) D C = some (decide (i = j)) := by
 have hm : C ∈ e8 c := List.mem_of_getElem? hi;unfold subL;rw [if_pos hm];congr 1;obtain ⟨li, ei⟩ := List.getElem?_eq_some_iff.mp hi;refine decide_eq_decide.mpr ⟨fun e => ?_, fun e => ?_⟩
 ·subst e
  exact (List.getElem?_inj li nd).mp (hi.trans hj.symm)
 ·subst e
  rw [hi] at hj;exact Option.some.inj hj
theorem z8e (nd : (e8 c).Nodup) (ns : List Int) : ∃ S', zmn c [.lst (ns.map .int)] [] = .ok (.bl true) S' := by
 have h0 := Int.emod_nonneg (cellAt ns 0) (show (8 : Int) ≠ 0 by decide);have h1 := Int.emod_lt_of_pos (cellAt ns 0) (show (0 : Int) < 8 by decide);have c0 := z0u (c := c) (S := []) ns 0 (by decide);have c1 := z0u (c := c) (S := []) ns 1 (by decide);obtain ⟨C, fs, S', e, hC⟩ := z6v nd (cellAt ns 0 % 8) (cellAt ns 1 % 9000) h0 h1;generalize hm8 : cellAt ns 0 % 8 = m at e hC h0 h1;generalize cellAt ns 1 = v at e c1;generalize ns.map T.int = L at c0 c1 ⊢;have hN : (S' ++ [Cell.exc C fs])[S'.length]? = some (.exc C fs) := by simp
 have hmem : C ∈ e8 c := List.mem_of_getElem? hC;generalize hNe : S' ++ [Cell.exc C fs] = N at hN;have gx : ∀ (j : Nat) (D : Addr), (e8 c)[j]? = some D -> gIsX (subL (e8 c) D) (.obj S'.length) N = .ok (.bl (decide (m.toNat = j))) N := fun j D hD => by
  have := is8 nd hC hD;simp only [gIsX, hN, this]
 have x0 := gx 0 c.nameThere rfl;have x1 := gx 1 c.noPlace rfl;have x2 := gx 2 c.noPiece rfl;have x3 := gx 3 c.tooMany rfl;have x4 := gx 4 c.noAnswer rfl;have x5 := gx 5 c.ring rfl;have x6 := gx 6 c.barred rfl;have x7 := gx 7 c.deedFault rfl;have sv : subH (e8 c) C = some true := if_pos hmem;have xv : gIsX (subH (e8 c)) (.obj S'.length) N = .ok (.bl true) N := by
  simp only [gIsX, hN, sv]
 have hb1 : zhs c [some (.lst L), some (.int m), some (.lst []), none] [] = .exc C fs S' := by
  simp [zhs, c1, e]
 generalize hFl : [T.bl (decide (m.toNat = 0)), .bl (decide (m.toNat = 1)), .bl (decide (m.toNat = 2)), .bl (decide (m.toNat = 3)), .bl (decide (m.toNat = 4)), .bl (decide (m.toNat = 5)), .bl (decide (m.toNat = 6)), .bl (decide (m.toNat = 7)), .bl true] = Fl;have hb2 : zht c [some (.lst L), some (.int m), some (.lst []), some (.obj S'.length)] N = .ok (.nx [some (.lst L), some (.int m), some (.lst Fl), some (.obj S'.length)]) N := by
  rw [<- hFl];simp only [zht];simp [x0, x1, x2, x3, x4, x5, x6, x7, xv]
 have hh : hdAs (subH (e8 c)) 3 (zht c) ztk C fs [some (.lst L), some (.int m), some (.lst []), none] S' = .ok (.nx [some (.lst L), some (.int m), some (.lst Fl), none]) N := by
  simp only [hdAs, sv, hNe];simp [hb2, calmR, MF.unI]
 have cc := zgs (ρ := [some (.lst L), some (.int m), some (.lst Fl), none]) (S := N) (js := [1]) (it := zjh c) (tc := yesD) (te := zjg c) (ts := zk9 0 8) (st := fun _ => True) (p := fun _ => true) (f := fun t => match t with | .int i => .bl (decide (i = m)) | _ => .non)
  (by simp [zjh]) trivial (by decide) (fun t ht => rfl) (fun t ht _ => by
   obtain ⟨i, _, rfl⟩ := List.mem_map.mp ht;simp [zjg])
 have e3 : gEq (.lst Fl) (.lst ((((zk9 0 8).filter fun _ => true).map fun t => match t with | .int i => T.bl (decide (i = m)) | _ => .non) ++ [.bl true])) N = .ok (.bl true) N := by
  have hm : m = 0 \/ m = 1 \/ m = 2 \/ m = 3 \/ m = 4 \/ m = 5 \/ m = 6 \/ m = 7 := by omega
  subst hFl;rcases hm with rfl | rfl | rfl | rfl | rfl | rfl | rfl | rfl <;> rfl
 have l8 : (((zk9 0 8).filter fun _ => true).map fun t => match t with | .int i => T.bl (decide (i = m)) | _ => .non).length = 8 := by rw [List.length_map, List.filter_eq_self.mpr (by simp)]; simp [zk9]
 generalize ((zk9 0 8).filter fun _ => true).map (fun t => match t with | .int i => T.bl (decide (i = m)) | _ => .non) = M8 at cc e3 l8;refine ⟨N, ?_⟩;simp [zmn, zqj, c0, hm8, hb1, msk, hh, cc, l8, e3]
end DN
namespace K12
open PySem L2 MF DN
def top (i : Nat) : Stmt := PySem.Challenge.pw_hookhall_k12_each_refusal_its_own.main.body.getD i (.Pass ⟨0, 0, 0, 0⟩)
structure Tx (K : PySem.W.Frag) (mg : Str -> Option Value) (c : Cl) : Prop where
 mh : zcu K c.hallError = some bmVE
 mro : ∀ C ∈ (e8 c), C ≠ c.hallError -> zcu K C = some (.ref c.hallError :: bmVE)
 n_ValueError : mg "ValueError" = none
 n_any : mg "any" = none
 c_MOST_PIECES : ∃ t, mg "MOST_PIECES" = some (.int 24 t)
 c_MOST_PLACES : ∃ t, mg "MOST_PLACES" = some (.int 8 t)
 cl_hall : Cls K c.hall
 a_hall_pieces : zce K c.hall "pieces"
 a_hall_places : zce K c.hall "places"
 cl_piece : Cls K c.piece
 a_piece_ahead : zce K c.piece "ahead"
 a_piece_bars : zce K c.piece "bars"
 a_piece_behind : zce K c.piece "behind"
 a_piece_by : zce K c.piece "by"
 a_piece_deed : zce K c.piece "deed"
 a_piece_needs : zce K c.piece "needs"
 a_piece_on : zce K c.piece "on"
 a_piece_place : zce K c.piece "place"
 cl_place : Cls K c.place
 a_place_kind : zce K c.place "kind"
 a_place_rule : zce K c.place "rule"
 cl_run : Cls K c.run
 a_run_around : zce K c.run "around"
 a_run_broken : zce K c.run "broken"
 a_run_deeds : zce K c.run "deeds"
 a_run_found : zce K c.run "found"
 a_run_held : zce K c.run "held"
 a_run_kind : zce K c.run "kind"
 a_run_number : zce K c.run "number"
 a_run_pairs : zce K c.run "pairs"
 a_run_rule : zce K c.run "rule"
 b_1 : PySem.W.specialIn K (.ref c.hallError) "__getattribute__" = some (some (.builtin "type.__getattribute__"))
 b_2 : PySem.W.readsIn K c.hallError (.type "type") = true
 b_3 : PySem.W.findCls K (.ref c.hallError) (.type "type") "__init__" = some (.val (.builtin "ValueError.__init__"))
 xc_barred : XCls K c.barred
 nf_barred_one : PySem.W.findIn K (.ref c.barred) "one" = some none
 nf_barred_other : PySem.W.findIn K (.ref c.barred) "other" = some none
 xc_deedFault : XCls K c.deedFault
 nf_deedFault_piece : PySem.W.findIn K (.ref c.deedFault) "piece" = some none
 nf_deedFault_code : PySem.W.findIn K (.ref c.deedFault) "code" = some none
 xc_ring : XCls K c.ring
 nf_ring_ring : PySem.W.findIn K (.ref c.ring) "ring" = some none
 n_isinstance : mg "isinstance" = none
 k_barred : ∀ C ∈ (e8 c), XKit K C /\ PySem.W.kitOne K (.ref C) (.ref c.barred) = some (decide (C = c.barred))
 k_deedFault : ∀ C ∈ (e8 c), XKit K C /\ PySem.W.kitOne K (.ref C) (.ref c.deedFault) = some (decide (C = c.deedFault))
 k_nameThere : ∀ C ∈ (e8 c), XKit K C /\ PySem.W.kitOne K (.ref C) (.ref c.nameThere) = some (decide (C = c.nameThere))
 k_noAnswer : ∀ C ∈ (e8 c), XKit K C /\ PySem.W.kitOne K (.ref C) (.ref c.noAnswer) = some (decide (C = c.noAnswer))
 k_noPiece : ∀ C ∈ (e8 c), XKit K C /\ PySem.W.kitOne K (.ref C) (.ref c.noPiece) = some (decide (C = c.noPiece))
 k_noPlace : ∀ C ∈ (e8 c), XKit K C /\ PySem.W.kitOne K (.ref C) (.ref c.noPlace) = some (decide (C = c.noPlace))
 k_ring : ∀ C ∈ (e8 c), XKit K C /\ PySem.W.kitOne K (.ref C) (.ref c.ring) = some (decide (C = c.ring))
 k_tooMany : ∀ C ∈ (e8 c), XKit K C /\ PySem.W.kitOne K (.ref C) (.ref c.tooMany) = some (decide (C = c.tooMany))
 kv : ∀ C ∈ (e8 c), XKit K C /\ PySem.W.kitOne K (.ref C) (.type "ValueError") = some true
 n_len : mg "len" = none
 n_list : mg "list" = none
 m_barred : mg "Barred" = some (.ref c.barred)
 m_deedFault : mg "DeedFault" = some (.ref c.deedFault)
 m_hallError : mg "HallError" = some (.ref c.hallError)
 m_nameThere : mg "NameThere" = some (.ref c.nameThere)
 m_noAnswer : mg "NoAnswer" = some (.ref c.noAnswer)
 m_noPiece : mg "NoPiece" = some (.ref c.noPiece)
 m_noPlace : mg "NoPlace" = some (.ref c.noPlace)
 m_ring : mg "Ring" = some (.ref c.ring)
 m_tooMany : mg "TooMany" = some (.ref c.tooMany)
 n_min : mg "min" = none
 d_deedFault : c.deedFault ≠ c.hallError
 qd_deedFault : zcu K c.deedFault = some (.ref c.hallError :: bmVE)
 n_range : mg "range" = none
 x_nameThere : PySem.W.excIn K c.nameThere bmVE "ValueError.__new__" = true
 x_noAnswer : PySem.W.excIn K c.noAnswer bmVE "ValueError.__new__" = true
 x_noPiece : PySem.W.excIn K c.noPiece bmVE "ValueError.__new__" = true
 x_noPlace : PySem.W.excIn K c.noPlace bmVE "ValueError.__new__" = true
 x_tooMany : PySem.W.excIn K c.tooMany bmVE "ValueError.__new__" = true
local macro_rules | `(tactic| walk_at "s") => `(tactic| exact ⟨rfl, rfl, rfl, by decide +kernel, rfl, by decide +kernel, by decide +kernel⟩)
abbrev zec : Stmt := top 40
theorem znd : zao ["script", "k"] ["script", "k"] (zab zec) := by walk_at "s"
abbrev zc3 : Stmt := zb7 (top 33) 0
theorem zla : zao ["self"] ["self"] (zab zc3) := by walk_at "s"
abbrev zcl : Stmt := zb7 (top 31) 0
theorem zkq : zao ["self", "kind", "rule"] ["self", "kind", "rule"] (zab zcl) := by walk_at "s"
abbrev zb2 : Stmt := zb7 (top 33) 1
theorem zj1 : zao ["self", "name", "kind", "rule"] ["self", "name", "kind", "rule"] (zab zb2) := by walk_at "s"
abbrev zb3 : Stmt := zb7 (top 33) 9
theorem zj2 : zao ["self", "name"] ["self", "name"] (zab zb3) := by walk_at "s"
abbrev zb4 : Stmt := zb7 (top 33) 10
theorem zj3 : zao ["self", "name"] ["self", "name"] (zab zb4) := by walk_at "s"
abbrev zcm : Stmt := zb7 (top 32) 0
theorem zkr : zao ["self", "place", "deed", "by"] ["self", "place", "deed", "by"] (zab zcm) := by walk_at "s"
abbrev zbv : Stmt := zb7 (top 33) 2
theorem zq3 : zao ["self", "name", "place", "deed", "by"] ["self", "name", "place", "deed", "by"] (zab zbv) := by walk_at "s"
abbrev ze2 : Stmt := top 41
theorem zj4 : zao ["rule", "hall"] ["rule"] (zab ze2) := by walk_at "s"
abbrev zb5 : Stmt := top 42
theorem zg2 : zao ["cell", "hall"] ["cell"] (zab zb5) := by walk_at "s"
abbrev zhi : Stmt := zb7 (top 33) 8
theorem zuy : zao ["self", "place"] ["self", "place"] (zab zhi) := by walk_at "s"
abbrev ze3 : Stmt := top 13
theorem zdf : zao ["hall", "names", "seconds", "name", "piece", "other"] ["hall", "names"] (zab ze3) := by walk_at "s"
abbrev zc4 : Stmt := top 14
theorem zh1 : zao ["seconds", "left", "name"] ["seconds", "left"] (zab zc4) := by walk_at "s"
abbrev zdp : Stmt := top 16
theorem zcd : zao ["seconds", "start", "rows", "reached", "longer", "row", "second"] ["seconds", "start"] (zab zdp) := by walk_at "s"
abbrev zc5 : Stmt := top 15
theorem zh2 : zao ["seconds", "rings"] ["seconds"] (zab zc5) := by walk_at "s"
abbrev zc6 : Stmt := zb7 (top 7) 0
theorem zlb : zao ["self", "ring"] ["self", "ring"] (zab zc6) := by walk_at "s"
abbrev zee : Stmt := top 12
theorem zes : zao ["hall", "names", "seconds", "left", "row", "name"] ["hall", "names"] (zab zee) := by walk_at "s"
abbrev zks : Stmt := top 11
theorem zzt : zao ["hall", "place"] ["hall", "place"] (zab zks) := by walk_at "s"
abbrev zdq : Stmt := zb7 (top 18) 0
theorem zmw : zao ["self", "kind", "rule", "number", "deeds"] ["self", "kind", "rule", "number", "deeds"] (zab zdq) := by walk_at "s"
abbrev ze4 : Stmt := top 22
theorem zhu : zao ["hall", "place", "names", "number", "spot", "deeds"] ["hall", "place", "names", "number"] (zab ze4) := by walk_at "s"
abbrev zkt : Stmt := top 21
theorem zzu : zao ["hall", "place", "number"] ["hall", "place", "number"] (zab zkt) := by walk_at "s"
abbrev zgh : Stmt := zb7 (top 18) 1
theorem zsf : zao ["self"] ["self"] (zab zgh) := by walk_at "s"
abbrev zbg : Stmt := zb7 (top 18) 9
theorem zil : zao ["self"] ["self"] (zab zbg) := by walk_at "s"
abbrev zbh : Stmt := zb7 (top 9) 0
theorem zim : zao ["self", "piece", "code"] ["self", "piece", "code"] (zab zbh) := by walk_at "s"
abbrev zgi : Stmt := zb7 (top 18) 6
theorem zsg : zao ["self", "name", "code"] ["self", "name", "code"] (zab zgi) := by walk_at "s"
abbrev zgj : Stmt := zb7 (top 18) 8
theorem zsh : zao ["self", "number"] ["self", "number"] (zab zgj) := by walk_at "s"
abbrev zn8 : Stmt := top 19
theorem z3y : zao ["deed", "number"] ["deed", "number"] (zab zn8) := by walk_at "s"
abbrev zef : Stmt := zb7 (top 18) 5
theorem zne : zao ["self", "name", "deed"] ["self", "name", "deed"] (zab zef) := by walk_at "s"
abbrev zgk : Stmt := zb7 (top 18) 2
theorem zmx : zao ["self", "pair"] ["self"] (zab zgk) := by walk_at "s"
abbrev ziv : Stmt := top 24
theorem zx0 : zao ["run"] ["run"] (zab ziv) := by walk_at "s"
abbrev zn9 : Stmt := top 23
theorem z3z : zao ["hall", "place", "number"] ["hall", "place", "number"] (zab zn9) := by walk_at "s"
abbrev zin : Stmt := top 27
abbrev zfv : Stmt := top 25
theorem zk4 : zao ["hall", "place", "number", "whole"] ["hall", "place", "number"] (zab zfv) := by walk_at "s"
abbrev zdr : Stmt := top 43
theorem zio : zao ["cell", "hall"] ["cell"] (zab zdr) := by walk_at "s"
abbrev zfw : Stmt := zb7 (top 33) 6
theorem zq4 : zao ["self", "name", "gone", "other", "piece"] ["self", "name"] (zab zfw) := by walk_at "s"
abbrev zeg : Stmt := zb7 (top 33) 7
theorem zi8 : zao ["self", "name", "on", "piece"] ["self", "name", "on"] (zab zeg) := by walk_at "s"
abbrev ziw : Stmt := top 34
theorem zx1 : zao ["names"] ["names"] (zab ziw) := by walk_at "s"
abbrev zbb : Stmt := zb7 (top 33) 3
theorem zk5 : zao ["self", "name", "ahead", "behind", "needs", "bars", "piece"] ["self", "name", "ahead", "behind", "needs", "bars"] (zab zbb) := by walk_at "s"
abbrev zds : Stmt := top 38
theorem zd3 : zao ["hall", "name", "gathered", "left", "one", "piece"] ["hall", "name"] (zab zds) := by walk_at "s"
abbrev ze5 : Stmt := zb7 (top 33) 5
theorem zo3 : zao ["self"] ["self"] (zab ze5) := by walk_at "s"
abbrev zku : Stmt := top 36
theorem zls : zao ["hall", "names", "told", "one", "piece"] ["hall", "names"] (zab zku) := by walk_at "s"
abbrev zb6 : Stmt := zb7 (top 8) 0
theorem zj5 : zao ["self", "one", "other"] ["self", "one", "other"] (zab zb6) := by walk_at "s"
abbrev ze6 : Stmt := top 37
theorem zgf : zao ["hall", "name", "gathered", "names", "told"] ["hall", "name"] (zab ze6) := by walk_at "s"
abbrev zdt : Stmt := top 44
theorem ziq : zao ["cell", "hall"] ["cell"] (zab zdt) := by walk_at "s"
abbrev zdu : Stmt := top 45
theorem zd4 : zao ["cell", "hall", "letters", "letter"] ["cell"] (zab zdu) := by walk_at "s"
abbrev zgl : Stmt := top 46
theorem zjk : zao ["run", "torn"] ["run"] (zab zgl) := by walk_at "s"
abbrev ze7 : Stmt := zb7 (top 18) 3
theorem zo4 : zao ["self"] ["self"] (zab ze7) := by walk_at "s"
abbrev zc7 : Stmt := top 47
theorem zh3 : zao ["cell", "run"] ["cell"] (zab zc7) := by walk_at "s"
abbrev zgm : Stmt := top 48
theorem zmy : zao ["cell", "hall"] ["cell"] (zab zgm) := by walk_at "s"
abbrev ze8 : Stmt := top 49
theorem zj6 : zao ["cell", "hall"] ["cell"] (zab ze8) := by walk_at "s"
abbrev ze9 : Stmt := top 50
theorem zhv : zao ["cell", "hall", "run"] ["cell"] (zab ze9) := by walk_at "s"
abbrev zgn : Stmt := top 51
theorem zsi : zao ["mode", "cell"] ["mode", "cell"] (zab zgn) := by walk_at "s"
abbrev zo5 : Stmt := top 52
theorem zmz : zao ["script", "mode", "flags", "e"] ["script"] (zab zo5) := by walk_at "s"
section
variable (P : Program) (w : World) {K : PySem.W.Frag} {mg : Str -> Option Value} (base : Heap) {c : Cl} (T : Tx K mg c) {f : Addr} {fd : FuncData} {dV : Value}
include T
set_option autoImplicit true
local macro_rules | `(tactic| walk_at "o") => `(tactic| first | exact Or.inl rfl | exact Or.inr rfl)
local macro_rules | `(tactic| walk_at "c") => `(tactic| exact ⟨rfl, (by first | exact Or.inr (Or.inl rfl) | exact Or.inr (Or.inr rfl)), (by walk_at "o"), (by walk_at "o"), rfl⟩)
theorem znf (F : FunV K "_law_cell_at" "_law_cell_at" zec dV f fd)  : FnOk P w K mg base (CXE P w) 1 f fd ["script", "k"] (spM 2 (zdc c)) :=
 mfx F znd fun _ _ _ _ _ _ hr hu1 hu6 => by exact (zae (s_if (t_lt (ev 1) (z7x (by rfl) T.n_len (ev 0))) (zaf (zfe (e_ix (ev 0) (ev 1)))) zdw) (zaf (zfe zaq)))
theorem zlc (F : FunV K "__init__" "Hall.__init__" zc3 dV f fd)  : FnOk P w K mg base (CXE P w) 1 f fd ["self"] (spM 1 (zcy c)) :=
 mfx F zla fun _ _ _ _ _ _ hr hu1 hu6 => by exact (zae (zgd T.cl_hall T.a_hall_places (ev 0) zl9) (zaf (zgd T.cl_hall T.a_hall_pieces (ev 0) zl9)))
theorem zkv (F : FunV K "__init__" "Place.__init__" zcl dV f fd)  : FnOk P w K mg base (CXE P w) 1 f fd ["self", "kind", "rule"] (spM 3 (zdg c)) :=
 mfx F zkq fun _ _ _ _ _ _ hr hu1 hu6 => by exact (zae (zgd T.cl_place T.a_place_kind (ev 0) (ev 1)) (zaf (zgd T.cl_place T.a_place_rule (ev 0) (ev 2))))
theorem zj7 (F : FunV K "open_place" "Hall.open_place" zb2 dV f fd) (G0 : MkAt P w K mg base 1 "Place" c.place ["self", "kind", "rule"] (zdg c) f0 g0) : FnOk P w K mg base (CXE P w) 3 f fd ["self", "name", "kind", "rule"] (spM 4 (zar c)) :=
 mfx F zj1 fun _ _ _ _ _ _ hr hu1 hu6 => by exact (zae (s_if (zwc hu1 (ev 1) (zdy T.cl_hall T.a_hall_places (ev 0))) (zaf (zje zgp (by rfl) T.x_nameThere (by rfl) T.m_nameThere (zaa (zln (.cons zam (.cons (ztd (ev 1)) (.cons zam .nil)))) zad))) zdw) (zae (s_if (t_ge (z0i (by rfl) T.n_len (zdy T.cl_hall T.a_hall_places (ev 0))) (z0p (by rfl) T.c_MOST_PLACES)) (zaf (zje zgp (by rfl) T.x_tooMany (by rfl) T.m_tooMany (zaa zam zad))) zdw) (zaf (zmb hu1 (zdy T.cl_hall T.a_hall_places (ev 0)) (ev 1) (zwr G0 hr (by rfl) zag (zaa (ev 2) (zaa (ev 3) zad)))))))
theorem zj8 (F : FunV K "find_place" "Hall.find_place" zb3 dV f fd)  : FnOk P w K mg base (CXE P w) 1 f fd ["self", "name"] (spM 2 (zaw c)) :=
 mfx F zj2 fun _ _ _ _ _ _ hr hu1 hu6 => by exact (zae (s_if (zlm hu1 (ev 1) (zdy T.cl_hall T.a_hall_places (ev 0))) (zaf (zje zgp (by rfl) T.x_noPlace (by rfl) T.m_noPlace (zaa (zln (.cons zam (.cons (ztd (ev 1)) .nil))) zad))) zdw) (zaf (zfe (zul hu1 (zdy T.cl_hall T.a_hall_places (ev 0)) (ev 1)))))
theorem zj9 (F : FunV K "find_piece" "Hall.find_piece" zb4 dV f fd)  : FnOk P w K mg base (CXE P w) 1 f fd ["self", "name"] (spM 2 (zak c)) :=
 mfx F zj3 fun _ _ _ _ _ _ hr hu1 hu6 => by exact (zae (s_if (zlm hu1 (ev 1) (zdy T.cl_hall T.a_hall_pieces (ev 0))) (zaf (zje zgp (by rfl) T.x_noPiece (by rfl) T.m_noPiece (zaa (zln (.cons zam (.cons (ztd (ev 1)) (.cons zam .nil)))) zad))) zdw) (zaf (zfe (zul hu1 (zdy T.cl_hall T.a_hall_pieces (ev 0)) (ev 1)))))
theorem zkw (F : FunV K "__init__" "Piece.__init__" zcm dV f fd)  : FnOk P w K mg base (CXE P w) 1 f fd ["self", "place", "deed", "by"] (spM 4 (zcg c)) :=
 mfx F zkr fun _ _ _ _ _ _ hr hu1 hu6 => by exact (zae (zgd T.cl_piece T.a_piece_place (ev 0) (ev 1)) (zae (zgd T.cl_piece T.a_piece_deed (ev 0) (ev 2)) (zae (zgd T.cl_piece T.a_piece_by (ev 0) (ev 3)) (zae (zgd T.cl_piece T.a_piece_on (ev 0) zk6) (zae (zgd T.cl_piece T.a_piece_ahead (ev 0) (zh6 zad)) (zae (zgd T.cl_piece T.a_piece_behind (ev 0) (zh6 zad)) (zae (zgd T.cl_piece T.a_piece_needs (ev 0) (zh6 zad)) (zaf (zgd T.cl_piece T.a_piece_bars (ev 0) (zh6 zad))))))))))
theorem zq5 (F : FunV K "hang" "Hall.hang" zbv dV f fd) (G0 : MeAt P w K mg base 2 c.hall "find_place" ["self", "name"] (zaw c) f0 g0) (G1 : MeAt P w K mg base 2 c.hall "find_piece" ["self", "name"] (zak c) f1 g1) (G2 : MkAt P w K mg base 1 "Piece" c.piece ["self", "place", "deed", "by"] (zcg c) f2 g2) : FnOk P w K mg base (CXE P w) 3 f fd ["self", "name", "place", "deed", "by"] (spM 5 (zau c)) :=
 mfx F zq3 fun _ _ _ _ _ _ hr hu1 hu6 => by exact (zae (s_if (zwc hu1 (ev 1) (zdy T.cl_hall T.a_hall_pieces (ev 0))) (zaf (zje zgp (by rfl) T.x_nameThere (by rfl) T.m_nameThere (zaa (zln (.cons zam (.cons (ztd (ev 1)) (.cons zam .nil)))) zad))) zdw) (zae (zat (zc8 G0 hr zag (ev 0) (zaa (ev 2) zad))) (zae (s_if (z2f (ev 4) zi1) (zaf (zat (zc8 G1 hr zag (ev 0) (zaa (ev 4) zad)))) zdw) (zae (s_if (t_ge (z0i (by rfl) T.n_len (zdy T.cl_hall T.a_hall_pieces (ev 0))) (z0p (by rfl) T.c_MOST_PIECES)) (zaf (zje zgp (by rfl) T.x_tooMany (by rfl) T.m_tooMany (zaa zam zad))) zdw) (zaf (zmb hu1 (zdy T.cl_hall T.a_hall_pieces (ev 0)) (ev 1) (zwr G2 hr (by rfl) zag (zaa (ev 2) (zaa (ev 3) (zaa (ev 4) zad))))))))))
theorem zo6 (F : FunV K "_law_filled" "_law_filled" ze2 dV f fd) (G0 : MkAt P w K mg base 2 "Hall" c.hall ["self"] (zcy c) f0 g0) (G1 : MeAt P w K mg base 3 c.hall "open_place" ["self", "name", "kind", "rule"] (zar c) f1 g1) (G2 : MeAt P w K mg base 3 c.hall "hang" ["self", "name", "place", "deed", "by"] (zau c) f2 g2) (B21 : zfa K g2 ["self", "name", "place", "deed", "by"] [.none]) : FnOk P w K mg base (CXE P w) 4 f fd ["rule"] (spM 1 (zav c)) :=
 mfx F zj4 fun _ _ _ _ _ _ hr hu1 hu6 => by exact (zae (zcw (i := 1) zj4.nd (by rfl) (by walk_at "o") (z2n G0 hr (by rfl) zag)) (zae (zat (zc8 G1 hr zag (ev 1) (zaa zam (zaa zam (zaa (ev 0) zad))))) (zae (zat (zh7 G2 hr zag B21 zhc zhd (ev 1) (zaa zam (zaa zam (zaa (zm9 (zaa zam (zaa zaq zad))) zad))))) (zae (zat (zh7 G2 hr zag B21 zhc zhd (ev 1) (zaa zam (zaa zam (zaa (zm9 (zaa zam (zaa zaq zad))) zad))))) (zaf (zfe (ev 1)))))))
theorem zka (F : FunV K "_law_names_there" "_law_names_there" zb5 dV f fd) (G0 : FnAt P w K mg base 4 "_law_filled" ["rule"] (zav c) f0 g0) (G1 : MeAt P w K mg base 4 c.hall "open_place" ["self", "name", "kind", "rule"] (zar c) f1 g1) (G2 : MeAt P w K mg base 4 c.hall "hang" ["self", "name", "place", "deed", "by"] (zau c) f2 g2) (B21 : zfa K g2 ["self", "name", "place", "deed", "by"] [.none]) : FnOk P w K mg base (CXE P w) 5 f fd ["cell"] (spM 1 (zbp c)) :=
 mfx F zg2 fun _ _ _ _ _ _ hr hu1 hu6 => by exact (zae (zcw (i := 1) zg2.nd (by rfl) (by walk_at "o") (zaz G0 hr (by rfl) zag (zaa zam zad))) (zaf (s_if (t_eq hu6 (zgq (ev 0) zaq) zaq) (zaf (zat (zc8 G1 hr zag (ev 1) (zaa zam (zaa zam (zaa zam zad)))))) (zaf (s_if (t_eq hu6 (zgq (ev 0) zaq) zaq) (zaf (zat (zc8 G2 hr zag (ev 1) (zaa zam (zaa zam (zaa (zm9 (zaa zam zad)) (zaa zam zad))))))) (zaf (zat (zh7 G2 hr zag B21 zhc zhd (ev 1) (zaa zam (zaa zam (zaa (zm9 (zaa zam zad)) zad)))))))))))
theorem zuz (F : FunV K "at" "Hall.at" zhi dV f fd) (G0 : MeAt P w K mg base 1 c.hall "find_place" ["self", "name"] (zaw c) f0 g0) : FnOk P w K mg base (CXE P w) 2 f fd ["self", "place"] (spM 2 (zdh c)) :=
 mfx F zuy fun _ _ _ _ _ _ hr hu1 hu6 => by exact (zae (zat (zc8 G0 hr zag (ev 0) (zaa (ev 1) zad))) (zaf (zfe (z2x (xs := ["place"]) (js := [1]) (nts := ["name", "piece"]) (by rfl) ⟨rfl, by decide +kernel, rfl, by decide +kernel, (fun p hp => by rcases List.mem_singleton.mp hp with rfl; rfl), rfl, ⟨(by walk_at "c"), trivial⟩⟩ (zdy T.cl_hall T.a_hall_pieces (ev 0))  (fun _ _ _ => (z4d (by rfl) (zsr (zct (i := 0) (show (["name", "piece", "place"] : List Str).Nodup by decide +kernel) (by rfl) (by walk_at "o")) (zsr (zct (i := 1) (show (["name", "piece", "place"] : List Str).Nodup by decide +kernel) (by rfl) (by walk_at "o")) z1b)))) (z2j _ _ _) (fun _ _ _ => ((z5n (t_eq hu6 (zdy T.cl_piece T.a_piece_place (ev 1)) (ev 2)) (z0g (zk7 (zdy T.cl_piece T.a_piece_on (ev 1)))))).pt) (fun _ _ _ => (ev 0)) zop))))
theorem zo7 (F : FunV K "seconds_of" "seconds_of" ze3 dV f fd) (G0 : MeAt P w K mg base 1 c.hall "find_piece" ["self", "name"] (zak c) f0 g0) : FnOk P w K mg base (CXE P w) 2 f fd ["hall", "names"] (spM 2 (zf2 c)) :=
 FnOk.frz (mfx F zdf fun _ _ _ _ _ _ hr hu1 hu6 => by exact (zae (zcw (i := 2) zdf.nd (by rfl) (by walk_at "o") zl9) (zae (znb PassesOwn.leaving (by rfl) (zfj (ev 1)) (zfl _) (zct (i := 3) zdf.nd (by rfl) (by walk_at "o")) (zdv _) (zaf (zmb hu1 (ev 2) (ev 3) zl9))) (zae (znb PassesOwn.leaving (by rfl) (zfj (ev 1)) (zfl _) (zct (i := 3) zdf.nd (by rfl) (by walk_at "o")) (zdv _) (zae (zcw (i := 4) zdf.nd (by rfl) (by walk_at "o") (zc8 G0 hr zag (ev 0) (zaa (ev 3) zad))) (zae (znb PassesOwn.leaving (by rfl) (zfj (zdy T.cl_piece T.a_piece_ahead (ev 4))) (zfl _) (zct (i := 5) zdf.nd (by rfl) (by walk_at "o")) (zdv _) (zaf (s_if (zwc hu1 (ev 5) (ev 2)) (zaf (zmb hu1 (zul hu1 (ev 2) (ev 3)) (ev 5) zk6)) zdw))) (zaf (znb PassesOwn.leaving (by rfl) (zfj (zdy T.cl_piece T.a_piece_behind (ev 4))) (zfl _) (zct (i := 5) zdf.nd (by rfl) (by walk_at "o")) (zdv _) (zaf (s_if (zwc hu1 (ev 5) (ev 2)) (zaf (zmb hu1 (zul hu1 (ev 2) (ev 5)) (ev 3) zk6)) zdw))))))) (zaf (zfe (ev 2)))))))
theorem zld (F : FunV K "earliest_free" "earliest_free" zc4 dV f fd)  : FnOk P w K mg base (CXE P w) 1 f fd ["seconds", "left"] (spM 2 (zcz c)) :=
 mfx F zh1 fun _ _ _ _ _ _ hr hu1 hu6 => by exact (zae (znb PassesOwn.leaving (by rfl) (zfj (ev 1)) (zfl _) (zct (i := 2) zh1.nd (by rfl) (by walk_at "o")) (zdv _) (zaf (s_if (zyx (zk7 (z75 (by rfl) (by rfl) T.n_any (z0l (xs := ["name", "seconds"]) (js := [2, 0]) (nts := ["first"]) (by rfl) ⟨rfl, by decide +kernel, rfl, by decide +kernel, (fun p hp => by rcases List.mem_cons.mp hp with rfl | hp; (· rfl); rcases List.mem_singleton.mp hp with rfl; rfl), rfl, ⟨(by walk_at "c"), ⟨(by walk_at "c"), trivial⟩⟩⟩ (zfj (ev 1)) (zfl _) (fun _ _ _ => (zct (i := 0) (show (["first", "name", "seconds"] : List Str).Nodup by decide +kernel) (by rfl) (by walk_at "o"))) (zdv _) (fun _ _ _ => (z7v hu1 (ev 1) (zul hu1 (ev 2) (ev 0)))) zop)))) (zaf (zfe (ev 2))) zdw))) (zaf (zfe zi1)))
theorem zm0 (F : FunV K "ring_through" "ring_through" zdp dV f fd)  : FnOk P w K mg base (CXE P w) 1 f fd ["seconds", "start"] (spM 2 (zbc c)) :=
 FnOk.frz (mfx F zcd fun _ _ _ _ _ _ hr hu1 hu6 => by exact (zae (zcw (i := 2) zcd.nd (by rfl) (by walk_at "o") (zhb (zaa (zhb (zaa (ev 1) zad)) zad))) (zae (zcw (i := 3) zcd.nd (by rfl) (by walk_at "o") (z2y (ev 1) zk6)) (zae (zoo PassesOwn.leaving (zk7 (ev 2)) (zae (zcw (i := 4) zcd.nd (by rfl) (by walk_at "o") (zh6 zad)) (zae (znb PassesOwn.leaving (by rfl) (zfj (ev 2)) (zfl _) (zct (i := 5) zcd.nd (by rfl) (by walk_at "o")) (zdv _) (zaf (znb PassesOwn.leaving (by rfl) (zvz (zul hu1 (ev 0) (e_ix (ev 5) (z78 zaq)))) zwj (zct (i := 6) zcd.nd (by rfl) (by walk_at "o")) (zdv _) (zae (s_if (t_eq hu6 (ev 6) (ev 1)) (zaf (zfe (ev 5))) zdw) (zaf (s_if (zlm hu1 (ev 6) (ev 3)) (zae (zmb hu1 (ev 3) (ev 6) zk6) (zaf (zat (z5t (ev 4) (zaa (zv5 (ev 5) (zhb (zaa (ev 6) zad))) zad))))) zdw)))))) (zaf (zcw (i := 2) zcd.nd (by rfl) (by walk_at "o") (ev 4)))))) (zaf (zfe (zhb zad)))))))
theorem zle (F : FunV K "shortest_ring" "shortest_ring" zc5 dV f fd) (G0 : FnAt P w K mg base 1 "ring_through" ["seconds", "start"] (zbc c) f0 g0) : FnOk P w K mg base (CXE P w) 2 f fd ["seconds"] (spM 1 (zbe c)) :=
 mfx F zh2 fun _ _ _ _ _ _ hr hu1 hu6 => by exact (zae (z0m (i := 1) (xs := ["seconds"]) (js := [0]) (nts := ["name"]) (by rfl) ⟨rfl, by decide +kernel, rfl, by decide +kernel, (fun p hp => by rcases List.mem_singleton.mp hp with rfl; rfl), rfl, ⟨(by walk_at "c"), trivial⟩⟩ (zvz (ev 0)) zwj (fun _ _ _ => (zct (i := 0) (show (["name", "seconds"] : List Str).Nodup by decide +kernel) (by rfl) (by walk_at "o"))) (zdv _) (fun _ _ _ => (z24 G0 hr (by rfl) ztc (zaa (ev 1) (zaa (ev 0) zad)))) zop zh2.nd (by rfl) (by walk_at "o") zws) (zaf (zfe (zze (by rfl) (by rfl) T.n_min (by rfl) T.n_len (zrr (xs := []) (js := []) (nts := ["ring"]) (by rfl) ⟨rfl, by decide +kernel, rfl, by decide +kernel, (fun p hp => absurd hp List.not_mem_nil), rfl, trivial⟩ (zfj (ev 1)) (zfl _) (fun _ _ _ => (zct (i := 0) (show (["ring"] : List Str).Nodup by decide +kernel) (by rfl) (by walk_at "o"))) (zdv _) (fun _ _ _ => (zk7 (ev 0))) (fun _ _ _ => (ev 0)) zop)))))
theorem zlf (F : FunV K "__init__" "Ring.__init__" zc6 dV f fd) (q : zej K c.ring f = true) : FnOk P w K mg base (CXE P w) 1 f fd ["self", "ring"] (spX1 c.ring "ring") :=
 zzf F zlb T.xc_ring q T.nf_ring_ring (fun cdv A outer s H E hr => zit (zoc (zoh (by rfl) T.m_hallError T.b_1 T.b_2 T.b_3 (zev (zfh (i := 0) (by rfl) (by first | exact Or.inl rfl | exact Or.inr (Or.inl rfl) | exact Or.inr (Or.inr rfl))) (zev (zjr (.cons zpf (.cons (zzd hr.gd hr.units (zfh (i := 1) (by rfl) (by first | exact Or.inl rfl | exact Or.inr (Or.inl rfl) | exact Or.inr (Or.inr rfl)))) .nil))) ziy)))) (zob (zl3 (zfh (i := 0) (by rfl) (by first | exact Or.inl rfl | exact Or.inr (Or.inl rfl) | exact Or.inr (Or.inr rfl))) (zpn zh4 (by rfl) T.n_list PyProof.Rows.boot_list (zev (zfh (i := 1) (by rfl) (by first | exact Or.inl rfl | exact Or.inr (Or.inl rfl) | exact Or.inr (Or.inr rfl))) ziy)) (by rfl)))) (zzh "the wishes go round: " (by decide)) (zxc K)
theorem zng (F : FunV K "order_among" "order_among" zee dV f fd) (G0 : FnAt P w K mg base 2 "seconds_of" ["hall", "names"] (zf2 c) f0 g0) (G1 : FnAt P w K mg base 2 "earliest_free" ["seconds", "left"] (zcz c) f1 g1) (G2 : FnAt P w K mg base 2 "shortest_ring" ["seconds"] (zbe c) f2 g2) (G3 : X1At P w K mg base 1 c.ring "ring" ["self", "ring"] f3 g3) : FnOk P w K mg base (CXE P w) 3 f fd ["hall", "names"] (spM 2 (zbs c)) :=
 mfx F zes fun _ _ _ _ _ _ hr hu1 hu6 => by exact (zae (zcw (i := 2) zes.nd (by rfl) (by walk_at "o") (zaz G0 hr (by rfl) zag (zaa (ev 0) (zaa (ev 1) zad)))) (zae (zcw (i := 3) zes.nd (by rfl) (by walk_at "o") (zwe (by rfl) (by rfl) T.n_list (ev 1))) (zae (zcw (i := 4) zes.nd (by rfl) (by walk_at "o") (zh6 zad)) (zae (zoo PassesOwn.leaving (zk7 (ev 3)) (zae (zcw (i := 5) zes.nd (by rfl) (by walk_at "o") (zaz G1 hr (by rfl) zag (zaa (ev 2) (zaa (ev 3) zad)))) (zae (s_if (t_is (ev 5) zi1) (zaf (zzg zkg (by rfl) G3.q G3.hf G3.ok hr G3.hb (by rfl) T.m_ring (zaa (zaz G2 hr (by rfl) zag (zaa (ev 2) zad)) zad))) zdw) (zae (zat (zy6 (ev 3) (zaa (ev 5) zad))) (zaf (zat (z5t (ev 4) (zaa (ev 5) zad)))))))) (zaf (zfe (ev 4)))))))
theorem zzv (F : FunV K "order" "order" zks dV f fd) (G0 : FnAt P w K mg base 3 "order_among" ["hall", "names"] (zbs c) f0 g0) (G1 : MeAt P w K mg base 3 c.hall "at" ["self", "place"] (zdh c) f1 g1) : FnOk P w K mg base (CXE P w) 4 f fd ["hall", "place"] (spM 2 (zhr c)) :=
 mfx F zzt fun _ _ _ _ _ _ hr hu1 hu6 => by exact (zaf (zfe (zaz G0 hr (by rfl) zag (zaa (ev 0) (zaa (zc8 G1 hr zag (ev 0) (zaa (ev 1) zad)) zad)))))
theorem zm1 (F : FunV K "__init__" "Run.__init__" zdq dV f fd)  : FnOk P w K mg base (CXE P w) 1 f fd ["self", "kind", "rule", "number", "deeds"] (spM 5 (zeo c)) :=
 mfx F zmw fun _ _ _ _ _ _ hr hu1 hu6 => by exact (zae (zgd T.cl_run T.a_run_kind (ev 0) (ev 1)) (zae (zgd T.cl_run T.a_run_rule (ev 0) (ev 2)) (zae (zgd T.cl_run T.a_run_number (ev 0) (ev 3)) (zae (zgd T.cl_run T.a_run_deeds (ev 0) (zwe (by rfl) (by rfl) T.n_list (ev 4))) (zae (zgd T.cl_run T.a_run_held (ev 0) (zh6 zad)) (zae (zgd T.cl_run T.a_run_broken (ev 0) zk6) (zae (zgd T.cl_run T.a_run_pairs (ev 0) (zh6 zad)) (zae (zgd T.cl_run T.a_run_found (ev 0) zi1) (zaf (zgd T.cl_run T.a_run_around (ev 0) (zh6 zad)))))))))))
theorem zo8 (F : FunV K "begin_over" "begin_over" ze4 dV f fd) (G0 : MeAt P w K mg base 3 c.hall "find_place" ["self", "name"] (zaw c) f0 g0) (G1 : FnAt P w K mg base 3 "order_among" ["hall", "names"] (zbs c) f1 g1) (G2 : MeAt P w K mg base 3 c.hall "find_piece" ["self", "name"] (zak c) f2 g2) (G3 : MkAt P w K mg base 2 "Run" c.run ["self", "kind", "rule", "number", "deeds"] (zeo c) f3 g3) : FnOk P w K mg base (CXE P w) 4 f fd ["hall", "place", "names", "number"] (spM 4 (zda c)) :=
 mfx F zhu fun _ _ _ _ _ _ hr hu1 hu6 => by exact (zae (zcw (i := 4) zhu.nd (by rfl) (by walk_at "o") (zc8 G0 hr zag (ev 0) (zaa (ev 1) zad))) (zae (z0m (i := 5) (xs := ["hall"]) (js := [0]) (nts := ["name"]) (by rfl) ⟨rfl, by decide +kernel, rfl, by decide +kernel, (fun p hp => by rcases List.mem_singleton.mp hp with rfl; rfl), rfl, ⟨(by walk_at "c"), trivial⟩⟩ (zfj (zaz G1 hr (by rfl) zag (zaa (ev 0) (zaa (ev 2) zad)))) (zfl _) (fun _ _ _ => (zct (i := 0) (show (["name", "hall"] : List Str).Nodup by decide +kernel) (by rfl) (by walk_at "o"))) (zdv _) (fun _ _ _ => (zm9 (zaa (ev 0) (zaa (zdy T.cl_piece T.a_piece_deed (z25 G2 hr ztc (ev 1) (zaa (ev 0) zad))) zad)))) zop zhu.nd (by rfl) (by walk_at "o") zws) (zaf (zfe (zwr G3 hr (by rfl) zag (zaa (zdy T.cl_place T.a_place_kind (ev 4)) (zaa (zdy T.cl_place T.a_place_rule (ev 4)) (zaa (ev 3) (zaa (ev 5) zad)))))))))
theorem zzw (F : FunV K "begin" "begin" zkt dV f fd) (G0 : FnAt P w K mg base 4 "begin_over" ["hall", "place", "names", "number"] (zda c) f0 g0) (G1 : MeAt P w K mg base 4 c.hall "at" ["self", "place"] (zdh c) f1 g1) : FnOk P w K mg base (CXE P w) 5 f fd ["hall", "place", "number"] (spM 3 (zcr c)) :=
 mfx F zzu fun _ _ _ _ _ _ hr hu1 hu6 => by exact (zaf (zfe (zaz G0 hr (by rfl) zag (zaa (ev 0) (zaa (ev 1) (zaa (zc8 G1 hr zag (ev 0) (zaa (ev 1) zad)) (zaa (ev 2) zad)))))))
theorem zsj (F : FunV K "over" "Run.over" zgh dV f fd)  : FnOk P w K mg base (CXE P w) 1 f fd ["self"] (spM 1 (zd9 c)) :=
 mfx F zsf fun _ _ _ _ _ _ hr hu1 hu6 => by exact (zaf (zfe (z7s (zdy T.cl_run T.a_run_deeds (ev 0)))))
theorem zir (F : FunV K "leave_the_rest" "Run.leave_the_rest" zbg dV f fd)  : FnOk P w K mg base (CXE P w) 1 f fd ["self"] (spM 1 (zbx c)) :=
 mfx F zil fun _ _ _ _ _ _ hr hu1 hu6 => by exact (zaf (zat (z2h (zdy T.cl_run T.a_run_deeds (ev 0)))))
theorem zis (F : FunV K "__init__" "DeedFault.__init__" zbh dV f fd) (q : zej K c.deedFault f = true) : FnOk P w K mg base (CXE P w) 1 f fd ["self", "piece", "code"] (spX2 c.deedFault "piece" "code" false) :=
 ztl F zim T.xc_deedFault q T.nf_deedFault_piece T.nf_deedFault_code (fun cdv A outer s H E hr => zit (zoc (zoh (by rfl) T.m_hallError T.b_1 T.b_2 T.b_3 (zev (zfh (i := 0) (by rfl) (by first | exact Or.inl rfl | exact Or.inr (Or.inl rfl) | exact Or.inr (Or.inr rfl))) (zev (zjr (.cons zpf (.cons (zoi (zfh (i := 1) (by rfl) (by first | exact Or.inl rfl | exact Or.inr (Or.inl rfl) | exact Or.inr (Or.inr rfl)))) (.cons zpf .nil)))) ziy)))) (zit (zl3 (zfh (i := 0) (by rfl) (by first | exact Or.inl rfl | exact Or.inr (Or.inl rfl) | exact Or.inr (Or.inr rfl))) (zfh (i := 1) (by rfl) (by first | exact Or.inl rfl | exact Or.inr (Or.inl rfl) | exact Or.inr (Or.inr rfl))) (by rfl)) (zob (zl3 (zfh (i := 0) (by rfl) (by first | exact Or.inl rfl | exact Or.inr (Or.inl rfl) | exact Or.inr (Or.inr rfl))) (zfh (i := 2) (by rfl) (by first | exact Or.inl rfl | exact Or.inr (Or.inl rfl) | exact Or.inr (Or.inr rfl))) (by rfl))))) (z23 "the deed of " " fell" (by decide) (by decide))
theorem zsk (F : FunV K "fall" "Run.fall" zgi dV f fd) (G0 : MeAt P w K mg base 2 c.run "leave_the_rest" ["self"] (zbx c) f0 g0) (G1 : X2At P w K mg base 1 c.deedFault "piece" "code" false ["self", "piece", "code"] f1 g1) : FnOk P w K mg base (CXE P w) 3 f fd ["self", "name", "code"] (spM 3 (zep c)) :=
 mfx F zsg fun _ _ _ _ _ _ hr hu1 hu6 => by exact (zae (s_if (t_eq hu6 (zdy T.cl_run T.a_run_rule (ev 0)) zam) (zae (zgd T.cl_run T.a_run_broken (ev 0) zk6) (zae (zat (zfm G0 hr zag (ev 0))) (zaf (ztm zkg (by rfl) (by decide) G1.q G1.hf G1.ok hr G1.hb (by rfl) T.m_deedFault (zaa (ev 1) (zaa (ev 2) zad)))))) zdw) zjv)
theorem zsl (F : FunV K "hear" "Run.hear" zgj dV f fd)  : FnOk P w K mg base (CXE P w) 1 f fd ["self", "number"] (spM 2 (zeq c)) :=
 mfx F zsh fun _ _ _ _ _ _ hr hu1 hu6 => by exact (zaf (s_if (t_eq hu6 (zdy T.cl_run T.a_run_kind (ev 0)) zam) zjv (zaf (zgd T.cl_run T.a_run_number (ev 0) (ev 1)))))
theorem z30 (F : FunV K "said" "said" zn8 dV f fd)  : FnOk P w K mg base (CXE P w) 1 f fd ["deed", "number"] (spM 2 (zhf c)) :=
 mfx F z3y fun _ _ _ _ _ _ hr hu1 hu6 => by exact (zae (s_if (t_eq hu6 (e_ix (ev 0) zaq) zam) (zaf (zfe (zv5 (ev 1) (e_ix (ev 0) zaq)))) zdw) zjv)
theorem znh (F : FunV K "perform" "Run.perform" zef dV f fd) (G0 : MeAt P w K mg base 3 c.run "fall" ["self", "name", "code"] (zep c) f0 g0) (G1 : MeAt P w K mg base 3 c.run "hear" ["self", "number"] (zeq c) f1 g1) (G2 : FnAt P w K mg base 3 "said" ["deed", "number"] (zhf c) f2 g2) : FnOk P w K mg base (CXE P w) 4 f fd ["self", "name", "deed"] (spM 3 (zbo c)) :=
 mfx F zne fun _ _ _ _ _ _ hr hu1 hu6 => by exact (zaf (s_if (t_eq hu6 (e_ix (ev 2) zaq) zam) (zaf (zat (zc8 G0 hr zag (ev 0) (zaa (ev 1) (zaa (e_ix (ev 2) zaq) zad))))) (zaf (s_if (t_eq hu6 (zdy T.cl_run T.a_run_kind (ev 0)) zam) zjv (zaf (s_if (t_eq hu6 (zdy T.cl_run T.a_run_kind (ev 0)) zam) zjv (zaf (s_if (t_ne hu6 (e_ix (ev 2) zaq) zam) (zaf (zat (zc8 G1 hr zag (ev 0) (zaa (zaz G2 hr (by rfl) zag (zaa (ev 2) (zaa (zdy T.cl_run T.a_run_number (ev 0)) zad))) zad)))) zdw))))))))
theorem zsm (F : FunV K "step" "Run.step" zgk dV f fd) (G0 : MeAt P w K mg base 4 c.run "over" ["self"] (zd9 c) f0 g0) (G1 : MeAt P w K mg base 4 c.run "perform" ["self", "name", "deed"] (zbo c) f1 g1) : FnOk P w K mg base (CXE P w) 5 f fd ["self"] (spM 1 (zap c)) :=
 mfx F zmx fun _ _ _ _ _ _ hr hu1 hu6 => by exact (zae (s_if (zk7 (zfm G0 hr zag (ev 0))) (zaf (zfe zi1)) zdw) (zae (zcw (i := 1) zmx.nd (by rfl) (by walk_at "o") (z2g (zdy T.cl_run T.a_run_deeds (ev 0)) (zaa zaq zad))) (zae (zat (zc8 G1 hr zag (ev 0) (zaa (e_ix (ev 1) zaq) (zaa (e_ix (ev 1) zaq) zad)))) (zaf (zfe (e_ix (ev 1) zaq))))))
theorem zx2 (F : FunV K "finish" "finish" ziv dV f fd) (G0 : MeAt P w K mg base 5 c.run "over" ["self"] (zd9 c) f0 g0) (G1 : MeAt P w K mg base 5 c.run "step" ["self"] (zap c) f1 g1) : FnOk P w K mg base (CXE P w) 6 f fd ["run"] (spM 1 (zf3 c)) :=
 mfx F zx0 fun _ _ _ _ _ _ hr hu1 hu6 => by exact (zae (zoo PassesOwn.leaving (zyx (zk7 (zfm G0 hr zag (ev 0)))) (zaf (zat (zfm G1 hr zag (ev 0))))) zjv)
theorem z31 (F : FunV K "call" "call" zn9 dV f fd) (G0 : FnAt P w K mg base 6 "finish" ["run"] (zf3 c) f0 g0) (G1 : FnAt P w K mg base 6 "begin" ["hall", "place", "number"] (zcr c) f1 g1) : FnOk P w K mg base (CXE P w) 7 f fd ["hall", "place", "number"] (spM 3 (zc1 c)) :=
 mfx F z3z fun _ _ _ _ _ _ hr hu1 hu6 => by exact (zaf (zfe (zaz G0 hr (by rfl) zag (zaa (zaz G1 hr (by rfl) zag (zaa (ev 0) (zaa (ev 1) (zaa (ev 2) zad)))) zad))))
theorem zu0 (F : FunV K "outcome" "outcome" zin dV f fd) : FnOk P w K mg base (CXE P w) 1 f fd ["run"] (spM 1 (z27 c)) := z6h
theorem zq6 (F : FunV K "mattering" "mattering" zfv dV f fd) (G0 : FnAt P w K mg base 5 "outcome" ["run"] (z27 c) f0 g0) (G1 : FnAt P w K mg base 5 "begin" ["hall", "place", "number"] (zcr c) f1 g1) : FnOk P w K mg base (CXE P w) 6 f fd ["hall", "place", "number"] (spM 3 (zca c)) :=
 mfx F zk4 fun _ _ _ _ _ _ hr hu1 hu6 => by exact (zae (zcw (i := 3) zk4.nd (by rfl) (by walk_at "o") (zaz G0 hr (by rfl) zag (zaa (zaz G1 hr (by rfl) zag (zaa (ev 0) (zaa (ev 1) (zaa (ev 2) zad)))) zad))) zjv)
theorem zm2 (F : FunV K "_law_no_place" "_law_no_place" zdr dV f fd) (G0 : FnAt P w K mg base 7 "_law_filled" ["rule"] (zav c) f0 g0) (G1 : MeAt P w K mg base 7 c.hall "hang" ["self", "name", "place", "deed", "by"] (zau c) f1 g1) (G2 : MeAt P w K mg base 7 c.hall "at" ["self", "place"] (zdh c) f2 g2) (G3 : FnAt P w K mg base 7 "order" ["hall", "place"] (zhr c) f3 g3) (G4 : FnAt P w K mg base 7 "begin" ["hall", "place", "number"] (zcr c) f4 g4) (G5 : FnAt P w K mg base 7 "call" ["hall", "place", "number"] (zc1 c) f5 g5) (G6 : FnAt P w K mg base 7 "mattering" ["hall", "place", "number"] (zca c) f6 g6) : FnOk P w K mg base (CXE P w) 8 f fd ["cell"] (spM 1 (zax c)) :=
 mfx F zio fun _ _ _ _ _ _ hr hu1 hu6 => by exact (zae (zcw (i := 1) zio.nd (by rfl) (by walk_at "o") (zaz G0 hr (by rfl) zag (zaa zam zad))) (zaf (s_if (t_eq hu6 (zgq (ev 0) zaq) zaq) (zaf (zat (zc8 G1 hr zag (ev 1) (zaa zam (zaa zam (zaa (zm9 (zaa zam zad)) (zaa zam zad))))))) (zaf (s_if (t_eq hu6 (zgq (ev 0) zaq) zaq) (zaf (zat (zc8 G2 hr zag (ev 1) (zaa zam zad)))) (zaf (s_if (t_eq hu6 (zgq (ev 0) zaq) zaq) (zaf (zat (zaz G3 hr (by rfl) zag (zaa (ev 1) (zaa zam zad))))) (zaf (s_if (t_eq hu6 (zgq (ev 0) zaq) zaq) (zaf (zat (zaz G4 hr (by rfl) zag (zaa (ev 1) (zaa zam (zaa (ev 0) zad)))))) (zaf (s_if (t_eq hu6 (zgq (ev 0) zaq) zaq) (zaf (zat (zaz G5 hr (by rfl) zag (zaa (ev 1) (zaa zam (zaa (ev 0) zad)))))) (zaf (zat (zaz G6 hr (by rfl) zag (zaa (ev 1) (zaa zam (zaa (ev 0) zad)))))))))))))))))
theorem zq7 (F : FunV K "drop" "Hall.drop" zfw dV f fd) (G0 : MeAt P w K mg base 1 c.hall "find_piece" ["self", "name"] (zak c) f0 g0) : FnOk P w K mg base (CXE P w) 2 f fd ["self", "name"] (spM 2 (zd1 c)) :=
 mfx F zq4 fun _ _ _ _ _ _ hr hu1 hu6 => by exact (zae (zat (zc8 G0 hr zag (ev 0) (zaa (ev 1) zad))) zjv)
theorem zni (F : FunV K "switch" "Hall.switch" zeg dV f fd) (G0 : MeAt P w K mg base 1 c.hall "find_piece" ["self", "name"] (zak c) f0 g0) : FnOk P w K mg base (CXE P w) 2 f fd ["self", "name", "on"] (spM 3 (zfc c)) :=
 mfx F zi8 fun _ _ _ _ _ _ hr hu1 hu6 => by exact (zae (zcw (i := 3) zi8.nd (by rfl) (by walk_at "o") (zc8 G0 hr zag (ev 0) (zaa (ev 1) zad))) (zaf (zgd T.cl_piece T.a_piece_on (ev 3) (ev 2))))
theorem zx3 (F : FunV K "wished" "wished" ziw dV f fd)  : FnOk P w K mg base (CXE P w) 1 f fd ["names"] (spM 1 (zdx c)) :=
 mfx F zx1 fun _ _ _ _ _ _ hr hu1 hu6 => by exact (zaf (zfe (z2e (t_is (ev 0) zi1) (zhb zad) (z0k (by rfl) (by rfl) T.n_list (ev 0)))))
theorem zq8 (F : FunV K "wish" "Hall.wish" zbb dV f fd) (G0 : MeAt P w K mg base 1 c.hall "find_piece" ["self", "name"] (zak c) f0 g0) (G1 : FnAt P w K mg base 1 "wished" ["names"] (zdx c) f1 g1) : FnOk P w K mg base (CXE P w) 2 f fd ["self", "name", "ahead", "behind", "needs", "bars"] (spM 6 (za0 c)) :=
 mfx F zk5 fun _ _ _ _ _ _ hr hu1 hu6 => by exact (zae (zcw (i := 6) zk5.nd (by rfl) (by walk_at "o") (zc8 G0 hr zag (ev 0) (zaa (ev 1) zad))) (zae (zat (zrq (zdy T.cl_piece T.a_piece_ahead (ev 6)) (zaa (zaz G1 hr (by rfl) zag (zaa (ev 2) zad)) zad))) (zae (zat (zrq (zdy T.cl_piece T.a_piece_behind (ev 6)) (zaa (zaz G1 hr (by rfl) zag (zaa (ev 3) zad)) zad))) (zae (zat (zrq (zdy T.cl_piece T.a_piece_needs (ev 6)) (zaa (zaz G1 hr (by rfl) zag (zaa (ev 4) zad)) zad))) (zaf (zat (zrq (zdy T.cl_piece T.a_piece_bars (ev 6)) (zaa (zaz G1 hr (by rfl) zag (zaa (ev 5) zad)) zad))))))))
theorem zm3 (F : FunV K "gather_needs" "gather_needs" zds dV f fd) (G0 : MeAt P w K mg base 1 c.hall "find_piece" ["self", "name"] (zak c) f0 g0) : FnOk P w K mg base (CXE P w) 2 f fd ["hall", "name"] (spM 2 (zel c)) :=
 FnOk.frz (mfx F zd3 fun _ _ _ _ _ _ hr hu1 hu6 => by exact (zae (zcw (i := 2) zd3.nd (by rfl) (by walk_at "o") zl9) (zae (zcw (i := 3) zd3.nd (by rfl) (by walk_at "o") (zh6 (zaa (ev 1) zad))) (zae (zoo PassesOwn.leaving (zk7 (ev 3)) (zae (zcw (i := 4) zd3.nd (by rfl) (by walk_at "o") (z7z (ev 3))) (zaf (s_if (zlm hu1 (ev 4) (ev 2)) (zae (zcw (i := 5) zd3.nd (by rfl) (by walk_at "o") (zc8 G0 hr zag (ev 0) (zaa (ev 4) zad))) (zae (zmb hu1 (ev 2) (ev 4) zk6) (zaf (zat (zrq (ev 3) (zaa (zdy T.cl_piece T.a_piece_needs (ev 5)) zad)))))) zdw)))) (zaf (zfe (ev 2)))))))
theorem zo9 (F : FunV K "names" "Hall.names" ze5 dV f fd)  : FnOk P w K mg base (CXE P w) 1 f fd ["self"] (spM 1 (zc9 c)) :=
 mfx F zo3 fun _ _ _ _ _ _ hr hu1 hu6 => by exact (zaf (zfe (z0k (by rfl) (by rfl) T.n_list (zdy T.cl_hall T.a_hall_pieces (ev 0)))))
theorem zzx (F : FunV K "lacks" "lacks" zku dV f fd) (G0 : MeAt P w K mg base 1 c.hall "names" ["self"] (zc9 c) f0 g0) (G1 : MeAt P w K mg base 1 c.hall "find_piece" ["self", "name"] (zak c) f1 g1) : FnOk P w K mg base (CXE P w) 2 f fd ["hall", "names"] (spM 2 (zou c)) :=
 FnOk.frz (mfx F zls fun _ _ _ _ _ _ hr hu1 hu6 => by exact (zae (zcw (i := 2) zls.nd (by rfl) (by walk_at "o") (zh6 zad)) (zae (znb PassesOwn.leaving (by rfl) (zfj (zfm G0 hr zag (ev 0))) (zfl _) (zct (i := 3) zls.nd (by rfl) (by walk_at "o")) (zdv _) (zaf (s_if (t_in hu6 (ev 3) (ev 1)) (zae (zcw (i := 4) zls.nd (by rfl) (by walk_at "o") (zc8 G1 hr zag (ev 0) (zaa (ev 3) zad))) (zae (zat (zrq (ev 2) (zaa (zrr (xs := ["one", "names"]) (js := [3, 1]) (nts := ["other"]) (by rfl) ⟨rfl, by decide +kernel, rfl, by decide +kernel, (fun p hp => by rcases List.mem_cons.mp hp with rfl | hp; (· rfl); rcases List.mem_singleton.mp hp with rfl; rfl), rfl, ⟨(by walk_at "c"), ⟨(by walk_at "c"), trivial⟩⟩⟩ (zfj (zdy T.cl_piece T.a_piece_needs (ev 4))) (zfl _) (fun _ _ _ => (zct (i := 0) (show (["other", "one", "names"] : List Str).Nodup by decide +kernel) (by rfl) (by walk_at "o"))) (zdv _) (fun _ _ _ => (z2c hu6 (ev 0) (ev 2))) (fun _ _ _ => (zm9 (zaa zam (zaa (ev 1) (zaa (ev 0) zad))))) zop) zad))) (zaf (zat (zrq (ev 2) (zaa (zrr (xs := ["one", "names"]) (js := [3, 1]) (nts := ["other"]) (by rfl) ⟨rfl, by decide +kernel, rfl, by decide +kernel, (fun p hp => by rcases List.mem_cons.mp hp with rfl | hp; (· rfl); rcases List.mem_singleton.mp hp with rfl; rfl), rfl, ⟨(by walk_at "c"), ⟨(by walk_at "c"), trivial⟩⟩⟩ (zfj (zdy T.cl_piece T.a_piece_bars (ev 4))) (zfl _) (fun _ _ _ => (zct (i := 0) (show (["other", "one", "names"] : List Str).Nodup by decide +kernel) (by rfl) (by walk_at "o"))) (zdv _) (fun _ _ _ => (t_in hu6 (ev 0) (ev 2))) (fun _ _ _ => (zm9 (zaa zam (zaa (ev 1) (zaa (ev 0) zad))))) zop) zad)))))) zdw))) (zaf (zfe (ev 2))))))
theorem zkb (F : FunV K "__init__" "Barred.__init__" zb6 dV f fd) (q : zej K c.barred f = true) : FnOk P w K mg base (CXE P w) 1 f fd ["self", "one", "other"] (spX2 c.barred "one" "other" true) :=
 ztl F zj5 T.xc_barred q T.nf_barred_one T.nf_barred_other (fun cdv A outer s H E hr => zit (zoc (zoh (by rfl) T.m_hallError T.b_1 T.b_2 T.b_3 (zev (zfh (i := 0) (by rfl) (by first | exact Or.inl rfl | exact Or.inr (Or.inl rfl) | exact Or.inr (Or.inr rfl))) (zev (zjr (.cons (zoi (zfh (i := 1) (by rfl) (by first | exact Or.inl rfl | exact Or.inr (Or.inl rfl) | exact Or.inr (Or.inr rfl)))) (.cons zpf (.cons (zoi (zfh (i := 2) (by rfl) (by first | exact Or.inl rfl | exact Or.inr (Or.inl rfl) | exact Or.inr (Or.inr rfl)))) .nil)))) ziy)))) (zit (zl3 (zfh (i := 0) (by rfl) (by first | exact Or.inl rfl | exact Or.inr (Or.inl rfl) | exact Or.inr (Or.inr rfl))) (zfh (i := 1) (by rfl) (by first | exact Or.inl rfl | exact Or.inr (Or.inl rfl) | exact Or.inr (Or.inr rfl))) (by rfl)) (zob (zl3 (zfh (i := 0) (by rfl) (by first | exact Or.inl rfl | exact Or.inr (Or.inl rfl) | exact Or.inr (Or.inr rfl))) (zfh (i := 2) (by rfl) (by first | exact Or.inl rfl | exact Or.inr (Or.inl rfl) | exact Or.inr (Or.inr rfl))) (by rfl))))) (z22 " bars " (by decide))
theorem zpa (F : FunV K "with_needs" "with_needs" ze6 dV f fd) (G0 : FnAt P w K mg base 2 "gather_needs" ["hall", "name"] (zel c) f0 g0) (G1 : MeAt P w K mg base 2 c.hall "names" ["self"] (zc9 c) f1 g1) (G2 : FnAt P w K mg base 2 "lacks" ["hall", "names"] (zou c) f2 g2) (G3 : X2At P w K mg base 1 c.barred "one" "other" true ["self", "one", "other"] f3 g3) : FnOk P w K mg base (CXE P w) 3 f fd ["hall", "name"] (spM 2 (zbz c)) :=
 mfx F zgf fun _ _ _ _ _ _ hr hu1 hu6 => by exact (zae (zcw (i := 2) zgf.nd (by rfl) (by walk_at "o") (zaz G0 hr (by rfl) zag (zaa (ev 0) (zaa (ev 1) zad)))) (zae (z2k (i := 3) (xs := ["gathered"]) (js := [2]) (nts := ["one"]) (by rfl) ⟨rfl, by decide +kernel, rfl, by decide +kernel, (fun p hp => by rcases List.mem_singleton.mp hp with rfl; rfl), rfl, ⟨(by walk_at "c"), trivial⟩⟩ (zfj (zfm G1 hr zag (ev 0))) (zfl _) (fun _ _ _ => (zct (i := 0) (show (["one", "gathered"] : List Str).Nodup by decide +kernel) (by rfl) (by walk_at "o"))) (zdv _) (fun _ _ _ => (zwc hu1 (ev 0) (ev 1))) (fun _ _ _ => (ev 0)) zop zgf.nd (by rfl) (by walk_at "o") zws) (zae (zcw (i := 4) zgf.nd (by rfl) (by walk_at "o") (zaz G2 hr (by rfl) zag (zaa (ev 0) (zaa (ev 3) zad)))) (zae (s_if (zk7 (ev 4)) (zaf (ztm zkg (by rfl) (by decide) G3.q G3.hf G3.ok hr G3.hb (by rfl) T.m_barred (zaa (e_ix (e_ix (ev 4) zaq) zaq) (zaa (e_ix (e_ix (ev 4) zaq) zaq) zad)))) zdw) (zaf (zfe (ev 3)))))))
theorem zm4 (F : FunV K "_law_no_piece" "_law_no_piece" zdt dV f fd) (G0 : FnAt P w K mg base 4 "_law_filled" ["rule"] (zav c) f0 g0) (G1 : MeAt P w K mg base 4 c.hall "hang" ["self", "name", "place", "deed", "by"] (zau c) f1 g1) (G2 : MeAt P w K mg base 4 c.hall "drop" ["self", "name"] (zd1 c) f2 g2) (G3 : MeAt P w K mg base 4 c.hall "switch" ["self", "name", "on"] (zfc c) f3 g3) (G4 : MeAt P w K mg base 4 c.hall "wish" ["self", "name", "ahead", "behind", "needs", "bars"] (za0 c) f4 g4) (B41 : zfa K g4 ["self", "name", "ahead", "behind", "needs", "bars"] [.none]) (B43 : zfa K g4 ["self", "name", "ahead", "behind", "needs", "bars"] [.none, .none, .none]) (G5 : FnAt P w K mg base 4 "with_needs" ["hall", "name"] (zbz c) f5 g5) : FnOk P w K mg base (CXE P w) 5 f fd ["cell"] (spM 1 (zbd c)) :=
 mfx F ziq fun _ _ _ _ _ _ hr hu1 hu6 => by exact (zae (zcw (i := 1) ziq.nd (by rfl) (by walk_at "o") (zaz G0 hr (by rfl) zag (zaa zam zad))) (zaf (s_if (t_eq hu6 (zgq (ev 0) zaq) zaq) (zaf (zat (zc8 G1 hr zag (ev 1) (zaa zam (zaa zam (zaa (zm9 (zaa zam zad)) (zaa zam zad))))))) (zaf (s_if (t_eq hu6 (zgq (ev 0) zaq) zaq) (zaf (zat (zc8 G2 hr zag (ev 1) (zaa zam zad)))) (zaf (s_if (t_eq hu6 (zgq (ev 0) zaq) zaq) (zaf (zat (zc8 G3 hr zag (ev 1) (zaa zam (zaa zk6 zad))))) (zaf (s_if (t_eq hu6 (zgq (ev 0) zaq) zaq) (zaf (zat (zh7 G4 hr zag B43 zmd zme (ev 1) (zaa zam (zaa (zhb (zaa zam zad)) zad))))) (zae (zat (zh7 G4 hr zag B41 zhc zhd (ev 1) (zaa zam (zaa zi1 (zaa zi1 (zaa (zhb (zaa zam (zaa zam zad))) zad)))))) (zaf (zat (zaz G5 hr (by rfl) zag (zaa (ev 1) (zaa (e_ix (zhb (zaa zam (zaa zam zad))) (zgq (z5h (ev 0) zaq) zaq)) zad)))))))))))))))
theorem zm5 (F : FunV K "_law_too_many" "_law_too_many" zdu dV f fd) (G0 : FnAt P w K mg base 4 "_law_filled" ["rule"] (zav c) f0 g0) (G1 : MeAt P w K mg base 4 c.hall "open_place" ["self", "name", "kind", "rule"] (zar c) f1 g1) (G2 : MeAt P w K mg base 4 c.hall "hang" ["self", "name", "place", "deed", "by"] (zau c) f2 g2) (B21 : zfa K g2 ["self", "name", "place", "deed", "by"] [.none]) : FnOk P w K mg base (CXE P w) 5 f fd ["cell"] (spM 1 (zdo c)) :=
 mfx F zd4 fun _ _ _ _ _ _ hr hu1 hu6 => by exact (zae (zcw (i := 1) zd4.nd (by rfl) (by walk_at "o") (zaz G0 hr (by rfl) zag (zaa zam zad))) (zae (zcw (i := 2) zd4.nd (by rfl) (by walk_at "o") zam) (zaf (s_if (t_eq hu6 (zgq (ev 0) zaq) zaq) (zaf (znb PassesOwn.leaving (by rfl) (zxd (zto (ev 2) z0n (z0o zaq))) zxf (zct (i := 3) zd4.nd (by rfl) (by walk_at "o")) (zdv _) (zaf (zat (zc8 G1 hr zag (ev 1) (zaa (ev 3) (zaa zam (zaa zam zad)))))))) (zaf (znb PassesOwn.leaving (by rfl) (zxd (zto (ev 2) z0n (z0o zaq))) zxf (zct (i := 3) zd4.nd (by rfl) (by walk_at "o")) (zdv _) (zaf (zat (zh7 G2 hr zag B21 zhc zhd (ev 1) (zaa (ev 3) (zaa zam (zaa (zm9 (zaa zam zad)) zad))))))))))))
theorem zsn (F : FunV K "_law_torn" "_law_torn" zgl dV f fd) (G0 : MeAt P w K mg base 5 c.run "step" ["self"] (zap c) f0 g0) : FnOk P w K mg base (CXE P w) 6 f fd ["run"] (spM 1 (zhg c)) :=
 mfx F zjk fun _ _ _ _ _ _ hr hu1 hu6 => by exact (zae (zcw (i := 1) zjk.nd (by rfl) (by walk_at "o") zk6) (zae (z6a (js := []) (fb := (zie c)) (fun pn kn xe R hk pas own => (zae (zat (zfm G0 hr pas (ev 0))) (zaf (zat (zfm G0 hr pas (ev 0)))))) (z74 (by rfl) T.m_deedFault T.qd_deedFault (z6f T.mro T.mh T.d_deedFault) (fun _ => (zaf (zcw (i := 1) zjk.nd (by rfl) (by walk_at "o") zk6))) z0r)) (zaf (zfe (ev 1)))))
theorem zpb (F : FunV K "answer" "Run.answer" ze7 dV f fd) (G0 : MeAt P w K mg base 1 c.run "over" ["self"] (zd9 c) f0 g0) : FnOk P w K mg base (CXE P w) 2 f fd ["self"] (spM 1 (zci c)) :=
 mfx F zo4 fun _ _ _ _ _ _ hr hu1 hu6 => by exact (zae (s_if ((t_or (zk7 (zdy T.cl_run T.a_run_broken (ev 0))) (z7r (zyx (zk7 (zfm G0 hr zag (ev 0))))))).pt (zaf (zje zgp (by rfl) T.x_noAnswer (by rfl) T.m_noAnswer (zaa zam zad))) zdw) zjv)
theorem zlg (F : FunV K "_law_no_answer" "_law_no_answer" zc7 dV f fd) (G0 : FnAt P w K mg base 6 "begin" ["hall", "place", "number"] (zcr c) f0 g0) (G1 : FnAt P w K mg base 6 "_law_filled" ["rule"] (zav c) f1 g1) (G2 : MeAt P w K mg base 6 c.run "step" ["self"] (zap c) f2 g2) (G3 : FnAt P w K mg base 6 "_law_torn" ["run"] (zhg c) f3 g3) (G4 : MeAt P w K mg base 6 c.run "answer" ["self"] (zci c) f4 g4) : FnOk P w K mg base (CXE P w) 7 f fd ["cell"] (spM 1 (za9 c)) :=
 mfx F zh3 fun _ _ _ _ _ _ hr hu1 hu6 => by exact (zae (zcw (i := 1) zh3.nd (by rfl) (by walk_at "o") (zaz G0 hr (by rfl) zag (zaa (zaz G1 hr (by rfl) zag (zaa zam zad)) (zaa zam (zaa (ev 0) zad))))) (zae (s_if (t_eq hu6 (zgq (ev 0) zaq) zaq) (zaf (zat (zfm G2 hr zag (ev 1)))) zdw) (zae (s_if ((z5n (t_eq hu6 (zgq (ev 0) zaq) zaq) (z0g (zyx (zk7 (zaz G3 hr (by rfl) zag (zaa (ev 1) zad))))))).pt (zaf z5v) zdw) (zaf (zat (zfm G4 hr zag (ev 1)))))))
theorem zso (F : FunV K "_law_ring" "_law_ring" zgm dV f fd) (G0 : FnAt P w K mg base 7 "_law_filled" ["rule"] (zav c) f0 g0) (G1 : MeAt P w K mg base 7 c.hall "wish" ["self", "name", "ahead", "behind", "needs", "bars"] (za0 c) f1 g1) (B13 : zfa K g1 ["self", "name", "ahead", "behind", "needs", "bars"] [.none, .none, .none]) (G2 : FnAt P w K mg base 7 "order" ["hall", "place"] (zhr c) f2 g2) (G3 : FnAt P w K mg base 7 "begin" ["hall", "place", "number"] (zcr c) f3 g3) (G4 : FnAt P w K mg base 7 "call" ["hall", "place", "number"] (zc1 c) f4 g4) (G5 : FnAt P w K mg base 7 "mattering" ["hall", "place", "number"] (zca c) f5 g5) : FnOk P w K mg base (CXE P w) 8 f fd ["cell"] (spM 1 (zcj c)) :=
 mfx F zmy fun _ _ _ _ _ _ hr hu1 hu6 => by exact (zae (zcw (i := 1) zmy.nd (by rfl) (by walk_at "o") (zaz G0 hr (by rfl) zag (zaa zam zad))) (zae (zat (zh7 G1 hr zag B13 zmd zme (ev 1) (zaa zam (zaa (zhb (zaa zam zad)) zad)))) (zae (zat (zh7 G1 hr zag B13 zmd zme (ev 1) (zaa (e_ix (zhb (zaa zam (zaa zam zad))) (zgq (z5h (ev 0) zaq) zaq)) (zaa (zhb (zaa zam zad)) zad)))) (zaf (s_if (t_eq hu6 (zgq (ev 0) zaq) zaq) (zaf (zat (zaz G2 hr (by rfl) zag (zaa (ev 1) (zaa zam zad))))) (zaf (s_if (t_eq hu6 (zgq (ev 0) zaq) zaq) (zaf (zat (zaz G3 hr (by rfl) zag (zaa (ev 1) (zaa zam (zaa (ev 0) zad)))))) (zaf (s_if (t_eq hu6 (zgq (ev 0) zaq) zaq) (zaf (zat (zaz G4 hr (by rfl) zag (zaa (ev 1) (zaa zam (zaa (ev 0) zad)))))) (zaf (zat (zaz G5 hr (by rfl) zag (zaa (ev 1) (zaa zam (zaa (ev 0) zad)))))))))))))))
theorem zpc (F : FunV K "_law_barred" "_law_barred" ze8 dV f fd) (G0 : FnAt P w K mg base 4 "_law_filled" ["rule"] (zav c) f0 g0) (G1 : MeAt P w K mg base 4 c.hall "wish" ["self", "name", "ahead", "behind", "needs", "bars"] (za0 c) f1 g1) (G2 : FnAt P w K mg base 4 "with_needs" ["hall", "name"] (zbz c) f2 g2) : FnOk P w K mg base (CXE P w) 5 f fd ["cell"] (spM 1 (zck c)) :=
 mfx F zj6 fun _ _ _ _ _ _ hr hu1 hu6 => by exact (zae (zcw (i := 1) zj6.nd (by rfl) (by walk_at "o") (zaz G0 hr (by rfl) zag (zaa zam zad))) (zae (zat (zc8 G1 hr zag (ev 1) (zaa zam (zaa zi1 (zaa zi1 (zaa (zhb (zaa zam zad)) (zaa (e_ix (zhb (zaa (zhb (zaa zam zad)) (zaa (zhb (zaa zam zad)) zad))) (zgq (ev 0) zaq)) zad))))))) (zaf (zat (zaz G2 hr (by rfl) zag (zaa (ev 1) (zaa zam zad)))))))
theorem zpd (F : FunV K "_law_faulty" "_law_faulty" ze9 dV f fd) (G0 : FnAt P w K mg base 7 "_law_filled" ["rule"] (zav c) f0 g0) (G1 : FnAt P w K mg base 7 "call" ["hall", "place", "number"] (zc1 c) f1 g1) (G2 : FnAt P w K mg base 7 "begin" ["hall", "place", "number"] (zcr c) f2 g2) (G3 : MeAt P w K mg base 7 c.run "step" ["self"] (zap c) f3 g3) : FnOk P w K mg base (CXE P w) 8 f fd ["cell"] (spM 1 (zey c)) :=
 mfx F zhv fun _ _ _ _ _ _ hr hu1 hu6 => by exact (zae (zcw (i := 1) zhv.nd (by rfl) (by walk_at "o") (zaz G0 hr (by rfl) zag (zaa zam zad))) (zaf (s_if (t_eq hu6 (zgq (ev 0) zaq) zaq) (zaf (zat (zaz G1 hr (by rfl) zag (zaa (ev 1) (zaa zam (zaa (ev 0) zad)))))) (zae (zcw (i := 2) zhv.nd (by rfl) (by walk_at "o") (zaz G2 hr (by rfl) zag (zaa (ev 1) (zaa zam (zaa (ev 0) zad))))) (zae (zat (zfm G3 hr zag (ev 2))) (zaf (zat (zfm G3 hr zag (ev 2)))))))))
theorem zsp (F : FunV K "_law_done" "_law_done" zgn dV f fd) (G0 : FnAt P w K mg base 8 "_law_names_there" ["cell"] (zbp c) f0 g0) (G1 : FnAt P w K mg base 8 "_law_no_place" ["cell"] (zax c) f1 g1) (G2 : FnAt P w K mg base 8 "_law_no_piece" ["cell"] (zbd c) f2 g2) (G3 : FnAt P w K mg base 8 "_law_too_many" ["cell"] (zdo c) f3 g3) (G4 : FnAt P w K mg base 8 "_law_no_answer" ["cell"] (za9 c) f4 g4) (G5 : FnAt P w K mg base 8 "_law_ring" ["cell"] (zcj c) f5 g5) (G6 : FnAt P w K mg base 8 "_law_barred" ["cell"] (zck c) f6 g6) (G7 : FnAt P w K mg base 8 "_law_faulty" ["cell"] (zey c) f7 g7) : FnOk P w K mg base (CXE P w) 9 f fd ["mode", "cell"] (spM 2 (zgg c)) :=
 mfx F zsi fun _ _ _ _ _ _ hr hu1 hu6 => by exact (zaf (s_if (t_eq hu6 (ev 0) zaq) (zaf (zat (zaz G0 hr (by rfl) zag (zaa (ev 1) zad)))) (zaf (s_if (t_eq hu6 (ev 0) zaq) (zaf (zat (zaz G1 hr (by rfl) zag (zaa (ev 1) zad)))) (zaf (s_if (t_eq hu6 (ev 0) zaq) (zaf (zat (zaz G2 hr (by rfl) zag (zaa (ev 1) zad)))) (zaf (s_if (t_eq hu6 (ev 0) zaq) (zaf (zat (zaz G3 hr (by rfl) zag (zaa (ev 1) zad)))) (zaf (s_if (t_eq hu6 (ev 0) zaq) (zaf (zat (zaz G4 hr (by rfl) zag (zaa (ev 1) zad)))) (zaf (s_if (t_eq hu6 (ev 0) zaq) (zaf (zat (zaz G5 hr (by rfl) zag (zaa (ev 1) zad)))) (zaf (s_if (t_eq hu6 (ev 0) zaq) (zaf (zat (zaz G6 hr (by rfl) zag (zaa (ev 1) zad)))) (zaf (zat (zaz G7 hr (by rfl) zag (zaa (ev 1) zad))))))))))))))))))
theorem z6w (F : FunV K "law" "law" zo5 dV f fd) (G0 : FnAt P w K mg base 9 "_law_cell_at" ["script", "k"] (zdc c) f0 g0) (G1 : FnAt P w K mg base 9 "_law_done" ["mode", "cell"] (zgg c) f1 g1) : FnOk P w K mg base (CXE P w) 10 f fd ["script"] (spM 1 (zmn c)) :=
 mfx F zmz fun _ _ _ _ _ _ hr hu1 hu6 => by exact (zae (zcw (i := 1) zmz.nd (by rfl) (by walk_at "o") (zgq (zaz G0 hr (by rfl) zag (zaa (ev 0) (zaa zaq zad))) zaq)) (zae (zcw (i := 2) zmz.nd (by rfl) (by walk_at "o") (zhb zad)) (zae (z6a (js := []) (fb := (zhs c)) (fun pn kn xe R hk pas own => (zaf (zat (zaz G1 hr (by rfl) pas (zaa (ev 1) (zaa (zgq (zaz G0 hr (by rfl) pas (zaa (ev 0) (zaa zaq zad))) zaq) zad)))))) (h_as (i := 3) zmz.nd (by rfl) (by rfl) (by rfl) T.m_hallError T.mh (z6e T.mro T.mh) (fun _ => (zae (zcw (i := 2) zmz.nd (by rfl) (by walk_at "o") (zhb (zaa (zqb (by rfl) T.n_isinstance (ev 3) (by rfl) T.m_nameThere (zky T.k_nameThere)) (zaa (zqb (by rfl) T.n_isinstance (ev 3) (by rfl) T.m_noPlace (zky T.k_noPlace)) (zaa (zqb (by rfl) T.n_isinstance (ev 3) (by rfl) T.m_noPiece (zky T.k_noPiece)) (zaa (zqb (by rfl) T.n_isinstance (ev 3) (by rfl) T.m_tooMany (zky T.k_tooMany)) zad)))))) (zae (zcw (i := 2) zmz.nd (by rfl) (by walk_at "o") (zv5 (ev 2) (zhb (zaa (zqb (by rfl) T.n_isinstance (ev 3) (by rfl) T.m_noAnswer (zky T.k_noAnswer)) (zaa (zqb (by rfl) T.n_isinstance (ev 3) (by rfl) T.m_ring (zky T.k_ring)) (zaa (zqb (by rfl) T.n_isinstance (ev 3) (by rfl) T.m_barred (zky T.k_barred)) zad)))))) (zaf (zcw (i := 2) zmz.nd (by rfl) (by walk_at "o") (zv5 (ev 2) (zhb (zaa (zqb (by rfl) T.n_isinstance (ev 3) (by rfl) T.m_deedFault (zky T.k_deedFault)) (zaa (z6b (by rfl) T.n_isinstance (ev 3) (by rfl) T.n_ValueError (z6g T.kv)) zad))))))))) z0r)) (zaf (zfe (e_eq hu6 (ev 2) (zv5 (z0l (xs := ["mode"]) (js := [1]) (nts := ["k"]) (by rfl) ⟨rfl, by decide +kernel, rfl, by decide +kernel, (fun p hp => by rcases List.mem_singleton.mp hp with rfl; rfl), rfl, ⟨(by walk_at "c"), trivial⟩⟩ (zu6 (by rfl) T.n_range (zaa zaq zad)) zwh (fun _ _ _ => (zct (i := 0) (show (["k", "mode"] : List Str).Nodup by decide +kernel) (by rfl) (by walk_at "o"))) (zdv _) (fun _ _ _ => (e_eq hu6 (ev 0) (ev 1))) zop) (zhb (zaa zk6 zad)))))))))
end
end K12
namespace K12
open PySem L2 MF DN
local macro_rules | `(tactic| walk_at "1") => `(tactic| (intro _ _ _ _ _ _ us hl; obtain ⟨a0, e⟩ := len1 hl; subst e; rfl))
local macro_rules | `(tactic| walk_at "2") => `(tactic| (intro _ _ _ _ _ _ us hl; obtain ⟨a0, a1, e⟩ := len2 hl; subst e; rfl))
local macro_rules | `(tactic| walk_at "3") => `(tactic| (intro _ _ _ _ _ _ us hl; obtain ⟨a0, a1, a2, e⟩ := len3 hl; subst e; rfl))
local macro_rules | `(tactic| walk_at "4") => `(tactic| (intro _ _ _ _ _ _ us hl; obtain ⟨a0, a1, a2, a3, e⟩ := len4 hl; subst e; rfl))
local macro_rules | `(tactic| walk_at "5") => `(tactic| (intro _ _ _ _ _ _ us hl; obtain ⟨a0, a1, a2, a3, a4, e⟩ := len5 hl; subst e; rfl))
theorem znj {K : W.Frag} {T : Addr} {oc : Value} {od an : Option Addr} {sl : Array (Option Value)} {n : Nat} {kV dc pm cd ct : Value} (l : K.lookup T = some ⟨oc, od, .seq #[.none] n, sl⟩) : zfa K (W.fnOf "hang" "Hall.hang" (zan zbv) (zal zbv) (zab zbv) (.ref T) kV dc pm an cd ct) ["self", "name", "place", "deed", "by"] [] := fun s us X hl => by
 obtain ⟨_, _, _, _, _, rfl⟩ := len5 (show us.length = 5 by simpa using hl);exact W.binds_K X rfl l rfl rfl rfl
theorem zha {K : W.Frag} {T : Addr} {oc : Value} {od an : Option Addr} {sl : Array (Option Value)} {n : Nat} {kV dc pm cd ct : Value} (l : K.lookup T = some ⟨oc, od, .seq #[.none] n, sl⟩) : zfa K (W.fnOf "hang" "Hall.hang" (zan zbv) (zal zbv) (zab zbv) (.ref T) kV dc pm an cd ct) ["self", "name", "place", "deed", "by"] [.none] := fun s us X hl => by
 obtain ⟨_, _, _, _, rfl⟩ := len4 (show us.length = 4 by simpa using hl);exact W.binds_K X rfl l rfl rfl rfl
theorem znk {K : W.Frag} {T : Addr} {oc : Value} {od an : Option Addr} {sl : Array (Option Value)} {n : Nat} {kV dc pm cd ct : Value} (l : K.lookup T = some ⟨oc, od, .seq #[.none, .none, .none, .none] n, sl⟩) : zfa K (W.fnOf "wish" "Hall.wish" (zan zbb) (zal zbb) (zab zbb) (.ref T) kV dc pm an cd ct) ["self", "name", "ahead", "behind", "needs", "bars"] [] := fun s us X hl => by
 obtain ⟨_, _, _, _, _, _, rfl⟩ := len6 (show us.length = 6 by simpa using hl);exact W.binds_K X rfl l rfl rfl rfl
theorem znl {K : W.Frag} {T : Addr} {oc : Value} {od an : Option Addr} {sl : Array (Option Value)} {n : Nat} {kV dc pm cd ct : Value} (l : K.lookup T = some ⟨oc, od, .seq #[.none, .none, .none, .none] n, sl⟩) : zfa K (W.fnOf "wish" "Hall.wish" (zan zbb) (zal zbb) (zab zbb) (.ref T) kV dc pm an cd ct) ["self", "name", "ahead", "behind", "needs", "bars"] [.none] := fun s us X hl => by
 obtain ⟨_, _, _, _, _, rfl⟩ := len5 (show us.length = 5 by simpa using hl);exact W.binds_K X rfl l rfl rfl rfl
theorem zi9 {K : W.Frag} {T : Addr} {oc : Value} {od an : Option Addr} {sl : Array (Option Value)} {n : Nat} {kV dc pm cd ct : Value} (l : K.lookup T = some ⟨oc, od, .seq #[.none, .none, .none, .none] n, sl⟩) : zfa K (W.fnOf "wish" "Hall.wish" (zan zbb) (zal zbb) (zab zbb) (.ref T) kV dc pm an cd ct) ["self", "name", "ahead", "behind", "needs", "bars"] [.none, .none, .none] := fun s us X hl => by
 obtain ⟨_, _, _, rfl⟩ := len3 (show us.length = 3 by simpa using hl);exact W.binds_K X rfl l rfl rfl rfl
theorem all_mk {l : W.OpenLaw} {w : World} {K : W.Frag} {h : Heap} {mg : Str -> Option Value} {fa : Addr} {y0b yx y1k y0d y9 yp y0l y0q y0r y0a y1u yq y6 y7j y3x y3i y2y y2u y30 y3j y55 yah y8w y4e y9t y91 y5h y6j y5v y2p y7h y7x y4b y8s y7u y8b y1t y0j y8f y8a yo2 y4y y8e yj2 yp4 yek y9r y6h y75 y51 yie y5b y9x y6l y61 ymu y1i y8i y6x y6u ybz y63 y5s ybx y8u y8m ybg y7 : Addr} {yk3 yk8 yeu yfe yef yed yci yce yd3 ycd yct ycy yeg yel ynp ydj ykv ykm ymw ycg yd0 yq1 yqj ym3 yky yf7 yex yil ygj yfc yet yfi yg5 yji ykh yhc yj0 yhi yhd ylp yml yj1 yhm yon ypw yab ya8 ya0 y9y yp5 yoa yos yok yrv yrq yjs yk0 yp0 yp3 yr6 yr3 yry yrz yq5 ypz ynb ynh yht yh1 ynl yn3 yjq yjm yr4 yqw ynv ydt ymj yi9 yhn yl7 ylh yrg yro yd9 yc5 yku ylo ygo yhj yh2 yhk yog ypp ymz ym4 yg1 yf2 ypb yo3 yli yl5 yl8 ykj yo7 yp8 y02 yr : Option Addr} {yk2 yfv ydz yd8 ycm yc7 ye9 yns yle ylm ycu yq0 ymn yew yhq yf4 yfu yjn yhp yh0 yll yiq yoj ya6 ya4 yop yps ys5 yjk yoz yr5 ys0 yqi ynd yh4 yn9 yk7 yrb yn8 ylz ygp ymp yrj ycj ymr yhr yin yoq ykn yf6 ypi ylu ymf yo1 yz : Array (Option Value)} {yk6 yjh yjg ykg yaq yjl ygc yff yf8 yg2 y8c yfs yee ye1 yec yea y7w ye2 ycl ycw yd5 ycp y72 ycf ych yc9 ycs ycq y71 yd6 yd7 ycx yck yca y73 yco ye3 yej yen yem y7t yeh yn2 ydv ydo ydh y8r ydw ymq ykr ykl ykq ykx ybd ym9 ycv ycn ycb yc8 y70 ycr yqd yq7 yq4 yq6 yj9 yqg ykw yko ylk ym8 ybt ym0 ygb yfl yfh yf5 y89 yg3 yj3 ygg yi2 ygq y9p yhb yfg yf1 yf9 yfq y85 yfd yes yfo yfk yf3 y87 yg8 yjp yka yjo yke yao yk1 yig yiz yh3 yit y9j yhw yij yic yiw yha y9a yid ymk ylt yld ymb ybs ylj yhv yho ygn yhh y9k yhf ype yol ypf ypt yer yo9 ya5 ya9 yaj y9w y4u yae yai yac yad ya3 y58 y9z ypx yov ypa yo5 ygd yo8 yod yo6 yoc ypg yge ypr yrs yrr ys1 ys3 yqn yrt ykb ykc yk9 yju yau ykf ypj yph yob ypv yfm ypo yqr yr1 yqo yr8 ymc yqu yrw ys6 yru yrx yq3 ys4 yqb yq2 yqk yql yjc yqf yne ynm ynr ynn yds ynu yhe ygk yi0 yip y9n ygf ynt ynj yni yna ydc yn6 yk5 yje ykd yjj yar yjt yqp yqt yqs yr9 ymv yra yn7 ydn ydb ydq y8y ydp yl9 yi1 yhl yhx ygs y98 yh7 yls ymd ylb yl1 ybl ymy yrf yre yri yrk yny yrn yd1 yd4 yd2 ycz y74 yc6 ylc ym2 ylf yme yb3 yla ygr ygy yhy ygx y9i yik ygi yhz yiu ygh y9e ygu yoi ypc ynz yp6 yga ypd yl6 ymx ykk yl0 ybc ym6 yfw yfz yez yg7 y84 yfy yp7 yoe yoy ypl yey yp1 ykp ym1 ykz ylg ybw yly ym7 ykt yks ymt ybv ymm yp9 yof yp2 yox yfn ypm y01 yt yv ys y8 yu : Value} {ygm yhg : Tok} {yn5 ynf : Nat}
 (X : K.In h) (G : h.Ns mainGlobals mg) (hfa : mg "law" = some (.ref fa))
 (ymo : W.nsIn K mainGlobals "Hall" = some (some (.ref y0b)))
 (yia : W.nsIn K mainGlobals "Piece" = some (some (.ref yx)))
 (yhs : W.nsIn K mainGlobals "Place" = some (some (.ref y1k)))
 (yow : W.nsIn K mainGlobals "Run" = some (some (.ref y0d)))
 (y8o : W.nsIn K mainGlobals "HallError" = some (some (.ref y9)))
 (y90 : W.nsIn K mainGlobals "NameThere" = some (some (.ref yp)))
 (ybu : W.nsIn K mainGlobals "NoPlace" = some (some (.ref y0l)))
 (ybh : W.nsIn K mainGlobals "NoPiece" = some (some (.ref y0q)))
 (yba : W.nsIn K mainGlobals "TooMany" = some (some (.ref y0r)))
 (y9q : W.nsIn K mainGlobals "NoAnswer" = some (some (.ref y0a)))
 (yn1 : W.nsIn K mainGlobals "Ring" = some (some (.ref y1u)))
 (ydy : W.nsIn K mainGlobals "Barred" = some (some (.ref yq)))
 (y8z : W.nsIn K mainGlobals "DeedFault" = some (some (.ref y6)))
 (y7c : W.nsIn K mainGlobals "_law_cell_at" = some (some (.ref y7j)))
 (y3v : K.lookup y7j = some ⟨yk6, yk3, .func (W.fnOf "_law_cell_at" "_law_cell_at" (zan zec) (zal zec) (zab zec) .none yjh yjg ykg yk8 yaq yjl), yk2⟩)
 (y1c : W.codeIn K yaq "_law_cell_at" = true)
 (y2m : W.keepIn K (.ref y7j) = true)
 (y5p : W.findIn K (.ref y0b) "__init__" = some (some (.ref y3x)))
 (y5g : W.isFn K (.ref y3x) = true)
 (y2h : K.lookup y3x = some ⟨ygc, yeu, .func (W.fnOf "__init__" "Hall.__init__" (zan zc3) (zal zc3) (zab zc3) .none yff yf8 yg2 yfe y8c yfs), yfv⟩)
 (y0s : W.codeIn K y8c "Hall.__init__" = true)
 (y2n : W.keepIn K (.ref y3x) = true)
 (y59 : W.findIn K (.ref y1k) "__init__" = some (some (.ref y3i)))
 (y4x : W.isFn K (.ref y3i) = true)
 (y20 : K.lookup y3i = some ⟨yee, yef, .func (W.fnOf "__init__" "Place.__init__" (zan zcl) (zal zcl) (zab zcl) .none ye1 yec yea yed y7w ye2), ydz⟩)
 (y0e : W.codeIn K y7w "Place.__init__" = true)
 (y24 : W.keepIn K (.ref y3i) = true)
 (y1d : W.findIn K (.ref y0b) "open_place" = some (some (.ref y2y)))
 (y1s : W.isFn K (.ref y2y) = true)
 (y1h : K.lookup y2y = some ⟨ycl, yci, .func (W.fnOf "open_place" "Hall.open_place" (zan zb2) (zal zb2) (zab zb2) .none ycw yd5 ycp yce y72 ycf), yd8⟩)
 (y06 : W.codeIn K y72 "Hall.open_place" = true)
 (yg : W.keepIn K (.ref y2y) = true)
 (y1m : W.findIn K (.ref y0b) "find_place" = some (some (.ref y2u)))
 (y1f : W.isFn K (.ref y2u) = true)
 (y1n : K.lookup y2u = some ⟨ych, yd3, .func (W.fnOf "find_place" "Hall.find_place" (zan zb3) (zal zb3) (zab zb3) .none yc9 ycs ycq ycd y71 yd6), ycm⟩)
 (y08 : W.codeIn K y71 "Hall.find_place" = true)
 (yf : W.keepIn K (.ref y2u) = true)
 (ye : W.findIn K (.ref y0b) "find_piece" = some (some (.ref y30)))
 (yh : W.isFn K (.ref y30) = true)
 (y1b : K.lookup y30 = some ⟨yd7, yct, .func (W.fnOf "find_piece" "Hall.find_piece" (zan zb4) (zal zb4) (zab zb4) .none ycx yck yca ycy y73 yco), yc7⟩)
 (y04 : W.codeIn K y73 "Hall.find_piece" = true)
 (y2 : W.keepIn K (.ref y30) = true)
 (y54 : W.findIn K (.ref yx) "__init__" = some (some (.ref y3j)))
 (y5a : W.isFn K (.ref y3j) = true)
 (y26 : K.lookup y3j = some ⟨ye3, yeg, .func (W.fnOf "__init__" "Piece.__init__" (zan zcm) (zal zcm) (zab zcm) .none yej yen yem yel y7t yeh), ye9⟩)
 (y0f : W.codeIn K y7t "Piece.__init__" = true)
 (y25 : W.keepIn K (.ref y3j) = true)
 (y2w : W.findIn K (.ref y0b) "hang" = some (some (.ref y55)))
 (y2v : W.isFn K (.ref y55) = true)
 (y4w : K.lookup y55 = some ⟨yn2, ynp, .func (W.fnOf "hang" "Hall.hang" (zan zbv) (zal zbv) (zab zbv) (.ref yah) ydv ydo ydh ydj y8r ydw), yns⟩)
 (y22 : W.codeIn K y8r "Hall.hang" = true)
 (ym : W.keepIn K (.ref y55) = true)
 (yy : K.lookup yah = some ⟨ymq, ykv, .seq #[.none] yn5, yle⟩)
 (y0c : W.nsIn K mainGlobals "_law_filled" = some (some (.ref y8w)))
 (y42 : K.lookup y8w = some ⟨ykr, ykm, .func (W.fnOf "_law_filled" "_law_filled" (zan ze2) (zal ze2) (zab ze2) .none ykl ykq ykx ymw ybd ym9), ylm⟩)
 (y2c : W.codeIn K ybd "_law_filled" = true)
 (y5 : W.keepIn K (.ref y8w) = true)
 (y4c : W.nsIn K mainGlobals "_law_names_there" = some (some (.ref y4e)))
 (y1o : K.lookup y4e = some ⟨ycv, ycg, .func (W.fnOf "_law_names_there" "_law_names_there" (zan zb5) (zal zb5) (zab zb5) .none ycn ycb yc8 yd0 y70 ycr), ycu⟩)
 (y09 : W.codeIn K y70 "_law_names_there" = true)
 (y0p : W.keepIn K (.ref y4e) = true)
 (y7f : W.findIn K (.ref y0b) "at" = some (some (.ref y9t)))
 (y7b : W.isFn K (.ref y9t) = true)
 (y7r : K.lookup y9t = some ⟨yqd, yq1, .func (W.fnOf "at" "Hall.at" (zan zhi) (zal zhi) (zab zhi) .none yq7 yq4 yq6 yqj yj9 yqg), yq0⟩)
 (y4d : W.codeIn K yj9 "Hall.at" = true)
 (y27 : W.keepIn K (.ref y9t) = true)
 (y8q : W.nsIn K mainGlobals "seconds_of" = some (some (.ref y91)))
 (y47 : K.lookup y91 = some ⟨ykw, ym3, .func (W.fnOf "seconds_of" "seconds_of" (zan ze3) (zal ze3) (zab ze3) .none yko ylk ym8 yky ybt ym0), ymn⟩)
 (y2b : W.codeIn K ybt "seconds_of" = true)
 (y3c : W.keepIn K (.ref y91) = true)
 (y5l : W.nsIn K mainGlobals "earliest_free" = some (some (.ref y5h)))
 (y2q : K.lookup y5h = some ⟨ygb, yf7, .func (W.fnOf "earliest_free" "earliest_free" (zan zc4) (zal zc4) (zab zc4) .none yfl yfh yf5 yex y89 yg3), yew⟩)
 (y0n : W.codeIn K y89 "earliest_free" = true)
 (y18 : W.keepIn K (.ref y5h) = true)
 (y6t : W.nsIn K mainGlobals "ring_through" = some (some (.ref y6j)))
 (y39 : K.lookup y6j = some ⟨yj3, yil, .func (W.fnOf "ring_through" "ring_through" (zan zdp) (zal zdp) (zab zdp) .none ygg yi2 ygq ygj y9p yhb), yhq⟩)
 (y0z : W.codeIn K y9p "ring_through" = true)
 (y1w : W.keepIn K (.ref y6j) = true)
 (y5n : W.nsIn K mainGlobals "shortest_ring" = some (some (.ref y5v)))
 (y2i : K.lookup y5v = some ⟨yfg, yfc, .func (W.fnOf "shortest_ring" "shortest_ring" (zan zc5) (zal zc5) (zab zc5) .none yf1 yf9 yfq yet y85 yfd), yf4⟩)
 (y0m : W.codeIn K y85 "shortest_ring" = true)
 (y1a : W.keepIn K (.ref y5v) = true)
 (y99 : W.findIn K (.ref y1u) "__init__" = some (some (.ref y2p)))
 (y5w : W.isFn K (.ref y2p) = true)
 (y2l : K.lookup y2p = some ⟨yes, yfi, .func (W.fnOf "__init__" "Ring.__init__" (zan zc6) (zal zc6) (zab zc6) .none yfo yfk yf3 yg5 y87 yg8), yfu⟩)
 (y0t : W.codeIn K y87 "Ring.__init__" = true)
 (y2k : W.keepIn K (.ref y2p) = true)
 (y56 : W.nsIn K mainGlobals "order_among" = some (some (.ref y7h)))
 (y3w : K.lookup y7h = some ⟨yjp, yji, .func (W.fnOf "order_among" "order_among" (zan zee) (zal zee) (zab zee) .none yka yjo yke ykh yao yk1), yjn⟩)
 (y1p : W.codeIn K yao "order_among" = true)
 (y0v : W.keepIn K (.ref y7h) = true)
 (y4t : W.nsIn K mainGlobals "order" = some (some (.ref y7x)))
 (y3s : K.lookup y7x = some ⟨yig, yhc, .func (W.fnOf "order" "order" (zan zks) (zal zks) (zab zks) .none yiz yh3 yit yj0 y9j yhw), yhp⟩)
 (y1g : W.codeIn K y9j "order" = true)
 (y0x : W.keepIn K (.ref y7x) = true)
 (y6v : W.findIn K (.ref y0d) "__init__" = some (some (.ref y4b)))
 (y6k : W.isFn K (.ref y4b) = true)
 (y35 : K.lookup y4b = some ⟨yij, yhi, .func (W.fnOf "__init__" "Run.__init__" (zan zdq) (zal zdq) (zab zdq) .none yic yiw yha yhd y9a yid), yh0⟩)
 (y10 : W.codeIn K y9a "Run.__init__" = true)
 (y34 : W.keepIn K (.ref y4b) = true)
 (y8p : W.nsIn K mainGlobals "begin_over" = some (some (.ref y8s)))
 (y43 : K.lookup y8s = some ⟨ymk, ylp, .func (W.fnOf "begin_over" "begin_over" (zan ze4) (zal ze4) (zab ze4) .none ylt yld ymb yml ybs ylj), yll⟩)
 (y2a : W.codeIn K ybs "begin_over" = true)
 (y3a : W.keepIn K (.ref y8s) = true)
 (y33 : W.nsIn K mainGlobals "begin" = some (some (.ref y7u)))
 (y3n : K.lookup y7u = some ⟨yhv, yj1, .func (W.fnOf "begin" "begin" (zan zkt) (zal zkt) (zab zkt) .none yho ygn yhh yhm y9k yhf), yiq⟩)
 (y1q : W.codeIn K y9k "begin" = true)
 (yn : W.keepIn K (.ref y7u) = true)
 (y6b : W.findIn K (.ref y0d) "over" = some (some (.ref y8b)))
 (y68 : W.isFn K (.ref y8b) = true)
 (y6c : K.lookup y8b = some ⟨ype, yon, .func (W.fnOf "over" "Run.over" (zan zgh) (zal zgh) (zab zgh) .none yol ypf ypt ypw yer yo9), yoj⟩)
 (y3k : W.codeIn K yer "Run.over" = true)
 (y14 : W.keepIn K (.ref y8b) = true)
 (y3g : W.findIn K (.ref y0d) "leave_the_rest" = some (some (.ref y1t)))
 (y3f : W.isFn K (.ref y1t) = true)
 (y0h : K.lookup y1t = some ⟨ya5, yab, .func (W.fnOf "leave_the_rest" "Run.leave_the_rest" (zan zbg) (zal zbg) (zab zbg) .none ya9 yaj y9w ya8 y4u yae), ya6⟩)
 (yk : W.codeIn K y4u "Run.leave_the_rest" = true)
 (yw : W.keepIn K (.ref y1t) = true)
 (y5e : W.findIn K (.ref y6) "__init__" = some (some (.ref y0j)))
 (y3h : W.isFn K (.ref y0j) = true)
 (y0i : K.lookup y0j = some ⟨yai, ya0, .func (W.fnOf "__init__" "DeedFault.__init__" (zan zbh) (zal zbh) (zab zbh) .none yac yad ya3 y9y y58 y9z), ya4⟩)
 (yl : W.codeIn K y58 "DeedFault.__init__" = true)
 (y0k : W.keepIn K (.ref y0j) = true)
 (yb0 : W.findIn K (.ref y0d) "fall" = some (some (.ref y8f)))
 (yaz : W.isFn K (.ref y8f) = true)
 (y6a : K.lookup y8f = some ⟨ypx, yp5, .func (W.fnOf "fall" "Run.fall" (zan zgi) (zal zgi) (zab zgi) .none yov ypa yo5 yoa ygd yo8), yop⟩)
 (y3l : W.codeIn K ygd "Run.fall" = true)
 (y4k : W.keepIn K (.ref y8f) = true)
 (ybf : W.findIn K (.ref y0d) "hear" = some (some (.ref y8a)))
 (yb7 : W.isFn K (.ref y8a) = true)
 (y6g : K.lookup y8a = some ⟨yod, yos, .func (W.fnOf "hear" "Run.hear" (zan zgj) (zal zgj) (zab zgj) .none yo6 yoc ypg yok yge ypr), yps⟩)
 (y3t : W.codeIn K yge "Run.hear" = true)
 (y4n : W.keepIn K (.ref y8a) = true)
 (yoo : W.nsIn K mainGlobals "said" = some (some (.ref yo2)))
 (yg6 : K.lookup yo2 = some ⟨yrs, yrv, .func (W.fnOf "said" "said" (zan zn8) (zal zn8) (zab zn8) .none yrr ys1 ys3 yrq yqn yrt), ys5⟩)
 (yal : W.codeIn K yqn "said" = true)
 (yc4 : W.keepIn K (.ref yo2) = true)
 (y7l : W.findIn K (.ref y0d) "perform" = some (some (.ref y4y)))
 (y7i : W.isFn K (.ref y4y) = true)
 (y3p : K.lookup y4y = some ⟨ykb, yjs, .func (W.fnOf "perform" "Run.perform" (zan zef) (zal zef) (zab zef) .none ykc yk9 yju yk0 yau ykf), yjk⟩)
 (y1j : W.codeIn K yau "Run.perform" = true)
 (y2j : W.keepIn K (.ref y4y) = true)
 (y4m : W.findIn K (.ref y0d) "step" = some (some (.ref y8e)))
 (y4p : W.isFn K (.ref y8e) = true)
 (y67 : K.lookup y8e = some ⟨ypj, yp0, .func (W.fnOf "step" "Run.step" (zan zgk) (zal zgk) (zab zgk) .none yph yob ypv yp3 yfm ypo), yoz⟩)
 (y3o : W.codeIn K yfm "Run.step" = true)
 (y0g : W.keepIn K (.ref y8e) = true)
 (yi6 : W.nsIn K mainGlobals "finish" = some (some (.ref yj2)))
 (y9f : K.lookup yj2 = some ⟨yqr, yr6, .func (W.fnOf "finish" "finish" (zan ziv) (zal ziv) (zab ziv) .none yr1 yqo yr8 yr3 ymc yqu), yr5⟩)
 (y5x : W.codeIn K ymc "finish" = true)
 (y78 : W.keepIn K (.ref yj2) = true)
 (yfp : W.nsIn K mainGlobals "call" = some (some (.ref yp4)))
 (yg0 : K.lookup yp4 = some ⟨yrw, yry, .func (W.fnOf "call" "call" (zan zn9) (zal zn9) (zab zn9) .none ys6 yru yrx yrz yq3 ys4), ys0⟩)
 (yaa : W.codeIn K yq3 "call" = true)
 (y5z : W.keepIn K (.ref yp4) = true)
 (yei : W.nsIn K mainGlobals "outcome" = some (some (.ref yek)))
 (y80 : K.lookup yek = some ⟨yqb, yq5, .func (W.fnOf "outcome" "outcome" (zan zin) (zal zin) (zab zin) .none yq2 yqk yql ypz yjc yqf), yqi⟩)
 (y4j : W.codeIn K yjc "outcome" = true)
 (y5q : W.keepIn K (.ref yek) = true)
 (y76 : W.nsIn K mainGlobals "mattering" = some (some (.ref y9r)))
 (y53 : K.lookup y9r = some ⟨yne, ynb, .func (W.fnOf "mattering" "mattering" (zan zfv) (zal zfv) (zab zfv) .none ynm ynr ynn ynh yds ynu), ynd⟩)
 (y2t : W.codeIn K yds "mattering" = true)
 (y21 : W.keepIn K (.ref y9r) = true)
 (y6w : W.nsIn K mainGlobals "_law_no_place" = some (some (.ref y6h)))
 (y38 : K.lookup y6h = some ⟨yhe, yht, .func (W.fnOf "_law_no_place" "_law_no_place" (zan zdr) (zal zdr) (zab zdr) .none ygk yi0 yip yh1 y9n ygf), yh4⟩)
 (y11 : W.codeIn K y9n "_law_no_place" = true)
 (y1v : W.keepIn K (.ref y6h) = true)
 (yak : W.findIn K (.ref y0b) "drop" = some (some (.ref y75)))
 (y9s : W.isFn K (.ref y75) = true)
 (y52 : K.lookup y75 = some ⟨ynt, ynl, .func (W.fnOf "drop" "Hall.drop" (zan zfw) (zal zfw) (zab zfw) .none ynj yni yna yn3 ydc yn6), yn9⟩)
 (y2z : W.codeIn K ydc "Hall.drop" = true)
 (y3y : W.keepIn K (.ref y75) = true)
 (y7m : W.findIn K (.ref y0b) "switch" = some (some (.ref y51)))
 (y7e : W.isFn K (.ref y51) = true)
 (y3q : K.lookup y51 = some ⟨yk5, yjq, .func (W.fnOf "switch" "Hall.switch" (zan zeg) (zal zeg) (zab zeg) .none yje ykd yjj yjm yar yjt), yk7⟩)
 (y1r : W.codeIn K yar "Hall.switch" = true)
 (y2g : W.keepIn K (.ref y51) = true)
 (yib : W.nsIn K mainGlobals "wished" = some (some (.ref yie)))
 (y9b : K.lookup yie = some ⟨yqp, yr4, .func (W.fnOf "wished" "wished" (zan ziw) (zal ziw) (zab ziw) .none yqt yqs yr9 yqw ymv yra), yrb⟩)
 (y5u : W.codeIn K ymv "wished" = true)
 (y79 : W.keepIn K (.ref yie) = true)
 (y4v : W.findIn K (.ref y0b) "wish" = some (some (.ref y5b)))
 (y4z : W.isFn K (.ref y5b) = true)
 (y50 : K.lookup y5b = some ⟨yn7, ynv, .func (W.fnOf "wish" "Hall.wish" (zan zbb) (zal zbb) (zab zbb) (.ref y9x) ydn ydb ydq ydt y8y ydp), yn8⟩)
 (y23 : W.codeIn K y8y "Hall.wish" = true)
 (y0u : W.keepIn K (.ref y5b) = true)
 (y03 : K.lookup y9x = some ⟨yl9, ymj, .seq #[.none, .none, .none, .none] ynf, ylz⟩)
 (y6n : W.nsIn K mainGlobals "gather_needs" = some (some (.ref y6l)))
 (y37 : K.lookup y6l = some ⟨yi1, yi9, .func (W.fnOf "gather_needs" "gather_needs" (zan zds) (zal zds) (zab zds) .none yhl yhx ygs yhn y98 yh7), ygp⟩)
 (y13 : W.codeIn K y98 "gather_needs" = true)
 (y1z : W.keepIn K (.ref y6l) = true)
 (y64 : W.findIn K (.ref y0b) "names" = some (some (.ref y61)))
 (y60 : W.isFn K (.ref y61) = true)
 (y46 : K.lookup y61 = some ⟨yls, yl7, .func (W.fnOf "names" "Hall.names" (zan ze5) (zal ze5) (zab ze5) .none ymd ylb yl1 ylh ybl ymy), ymp⟩)
 (y2e : W.codeIn K ybl "Hall.names" = true)
 (y15 : W.keepIn K (.ref y61) = true)
 (yl3 : W.nsIn K mainGlobals "lacks" = some (some (.ref ymu)))
 (yb6 : K.lookup ymu = some ⟨yrf, yrg, .func (W.fnOf "lacks" "lacks" (zan zku) (zal zku) (zab zku) .none yre yri yrk yro yny yrn), yrj⟩)
 (y82 : W.codeIn K yny "lacks" = true)
 (y9c : W.keepIn K (.ref ymu) = true)
 (y7n : W.findIn K (.ref yq) "__init__" = some (some (.ref y1i)))
 (y4h : W.isFn K (.ref y1i) = true)
 (y1e : K.lookup y1i = some ⟨yd1, yd9, .func (W.fnOf "__init__" "Barred.__init__" (zan zb6) (zal zb6) (zab zb6) .none yd4 yd2 ycz yc5 y74 yc6), ycj⟩)
 (y07 : W.codeIn K y74 "Barred.__init__" = true)
 (y1l : W.keepIn K (.ref y1i) = true)
 (y65 : W.nsIn K mainGlobals "with_needs" = some (some (.ref y8i)))
 (y4a : K.lookup y8i = some ⟨ylc, yku, .func (W.fnOf "with_needs" "with_needs" (zan ze6) (zal ze6) (zab ze6) .none ym2 ylf yme ylo yb3 yla), ymr⟩)
 (y2f : W.codeIn K yb3 "with_needs" = true)
 (y17 : W.keepIn K (.ref y8i) = true)
 (y6i : W.nsIn K mainGlobals "_law_no_piece" = some (some (.ref y6x)))
 (y32 : K.lookup y6x = some ⟨ygr, ygo, .func (W.fnOf "_law_no_piece" "_law_no_piece" (zan zdt) (zal zdt) (zab zdt) .none ygy yhy ygx yhj y9i yik), yhr⟩)
 (y0y : W.codeIn K y9i "_law_no_piece" = true)
 (y1x : W.keepIn K (.ref y6x) = true)
 (y6z : W.nsIn K mainGlobals "_law_too_many" = some (some (.ref y6u)))
 (y36 : K.lookup y6u = some ⟨ygi, yh2, .func (W.fnOf "_law_too_many" "_law_too_many" (zan zdu) (zal zdu) (zab zdu) .none yhz yiu ygh yhk y9e ygu), yin⟩)
 (y12 : W.codeIn K y9e "_law_too_many" = true)
 (y1y : W.keepIn K (.ref y6u) = true)
 (ybm : W.nsIn K mainGlobals "_law_torn" = some (some (.ref ybz)))
 (y69 : K.lookup ybz = some ⟨yoi, yog, .func (W.fnOf "_law_torn" "_law_torn" (zan zgl) (zal zgl) (zab zgl) .none ypc ynz yp6 ypp yga ypd), yoq⟩)
 (y3u : W.codeIn K yga "_law_torn" = true)
 (y4l : W.keepIn K (.ref ybz) = true)
 (y8h : W.findIn K (.ref y0d) "answer" = some (some (.ref y63)))
 (y95 : W.isFn K (.ref y63) = true)
 (y45 : K.lookup y63 = some ⟨yl6, ymz, .func (W.fnOf "answer" "Run.answer" (zan ze7) (zal ze7) (zab ze7) .none ymx ykk yl0 ym4 ybc ym6), ykn⟩)
 (y2d : W.codeIn K ybc "Run.answer" = true)
 (y3d : W.keepIn K (.ref y63) = true)
 (y5k : W.nsIn K mainGlobals "_law_no_answer" = some (some (.ref y5s)))
 (y2o : K.lookup y5s = some ⟨yfw, yg1, .func (W.fnOf "_law_no_answer" "_law_no_answer" (zan zc7) (zal zc7) (zab zc7) .none yfz yez yg7 yf2 y84 yfy), yf6⟩)
 (y0o : W.codeIn K y84 "_law_no_answer" = true)
 (y19 : W.keepIn K (.ref y5s) = true)
 (ybi : W.nsIn K mainGlobals "_law_ring" = some (some (.ref ybx)))
 (y6d : K.lookup ybx = some ⟨yp7, ypb, .func (W.fnOf "_law_ring" "_law_ring" (zan zgm) (zal zgm) (zab zgm) .none yoe yoy ypl yo3 yey yp1), ypi⟩)
 (y3m : W.codeIn K yey "_law_ring" = true)
 (y4o : W.keepIn K (.ref ybx) = true)
 (y94 : W.nsIn K mainGlobals "_law_barred" = some (some (.ref y8u)))
 (y48 : K.lookup y8u = some ⟨ykp, yli, .func (W.fnOf "_law_barred" "_law_barred" (zan ze8) (zal ze8) (zab ze8) .none ym1 ykz ylg yl5 ybw yly), ylu⟩)
 (y29 : W.codeIn K ybw "_law_barred" = true)
 (y3e : W.keepIn K (.ref y8u) = true)
 (y8j : W.nsIn K mainGlobals "_law_faulty" = some (some (.ref y8m)))
 (y49 : K.lookup y8m = some ⟨ym7, yl8, .func (W.fnOf "_law_faulty" "_law_faulty" (zan ze9) (zal ze9) (zab ze9) .none ykt yks ymt ykj ybv ymm), ymf⟩)
 (y28 : W.codeIn K ybv "_law_faulty" = true)
 (y3b : W.keepIn K (.ref y8m) = true)
 (yc0 : W.nsIn K mainGlobals "_law_done" = some (some (.ref ybg)))
 (y6f : K.lookup ybg = some ⟨yp9, yo7, .func (W.fnOf "_law_done" "_law_done" (zan zgn) (zal zgn) (zab zgn) .none yof yp2 yox yp8 yfn ypm), yo1⟩)
 (y3r : W.codeIn K yfn "_law_done" = true)
 (y4q : W.keepIn K (.ref ybg) = true)
 (y4 : W.nsIn K mainGlobals "law" = some (some (.ref y7)))
 (y3 : K.lookup y7 = some ⟨y01, y02, .func (W.fnOf "law" "law" (zan zo5) (zal zo5) (zab zo5) .none yt yv ys yr y8 yu), yz⟩)
 (y0 : W.codeIn K y8 "law" = true)
 (y1 : W.keepIn K (.ref y7) = true)
 (yb : W.plainGet K y0b Str.empty = true)
 (yc : W.hasDictIn K y0b = true)
 (ya : W.plainOver K y0b = true)
 (yd : W.findIn K (.ref y0b) "__setattr__" = some (some (.builtin "object.__setattr__")))
 (yms : W.makesIn K y0b = true)
 (yma : W.keepIn K (.ref y0b) = true)
 (yi7 : W.plainGet K yx Str.empty = true)
 (yi4 : W.hasDictIn K yx = true)
 (yiy : W.plainOver K yx = true)
 (ygw : W.findIn K (.ref yx) "__setattr__" = some (some (.builtin "object.__setattr__")))
 (yj4 : W.makesIn K yx = true)
 (yih : W.keepIn K (.ref yx) = true)
 (yh6 : W.plainGet K y1k Str.empty = true)
 (yh8 : W.hasDictIn K y1k = true)
 (ygz : W.plainOver K y1k = true)
 (ygl : W.findIn K (.ref y1k) "__setattr__" = some (some (.builtin "object.__setattr__")))
 (yix : W.makesIn K y1k = true)
 (yio : W.keepIn K (.ref y1k) = true)
 (y2x : W.plainGet K y0d Str.empty = true)
 (y2r : W.hasDictIn K y0d = true)
 (y31 : W.plainOver K y0d = true)
 (y2s : W.findIn K (.ref y0d) "__setattr__" = some (some (.builtin "object.__setattr__")))
 (ypy : W.makesIn K y0d = true)
 (ypn : W.keepIn K (.ref y0d) = true)
 (y8k : W.nsIn K mainGlobals "ValueError" = some none)
 (yqy : W.nsIn K mainGlobals "any" = some none)
 (y5t : W.nsIn K mainGlobals "MOST_PIECES" = some (some (.int 24 ygm)))
 (y5j : W.nsIn K mainGlobals "MOST_PLACES" = some (some (.int 8 yhg)))
 (y5o : W.findIn K (.ref y0b) "pieces" = some none)
 (y5r : W.findIn K (.ref y0b) "places" = some none)
 (y5i : W.findIn K (.ref yx) "ahead" = some none)
 (y6p : W.findIn K (.ref yx) "bars" = some none)
 (y57 : W.findIn K (.ref yx) "behind" = some none)
 (y97 : W.findIn K (.ref yx) "by" = some none)
 (y6r : W.findIn K (.ref yx) "deed" = some none)
 (y5m : W.findIn K (.ref yx) "needs" = some none)
 (y96 : W.findIn K (.ref yx) "on" = some none)
 (y5y : W.findIn K (.ref yx) "place" = some none)
 (y6y : W.findIn K (.ref y1k) "kind" = some none)
 (y6o : W.findIn K (.ref y1k) "rule" = some none)
 (y6m : W.findIn K (.ref y0d) "around" = some none)
 (y6s : W.findIn K (.ref y0d) "broken" = some none)
 (y7p : W.findIn K (.ref y0d) "deeds" = some none)
 (y7s : W.findIn K (.ref y0d) "found" = some none)
 (y8t : W.findIn K (.ref y0d) "held" = some none)
 (y8x : W.findIn K (.ref y0d) "kind" = some none)
 (y6q : W.findIn K (.ref y0d) "number" = some none)
 (y7a : W.findIn K (.ref y0d) "pairs" = some none)
 (y8n : W.findIn K (.ref y0d) "rule" = some none)
 (y8g : W.nsIn K mainGlobals "isinstance" = some none)
 (yr2 : W.nsIn K mainGlobals "len" = some none)
 (yom : W.nsIn K mainGlobals "list" = some none)
 (yqz : W.nsIn K mainGlobals "min" = some none)
 (ym5 : W.nsIn K mainGlobals "range" = some none)
 (ya1 : W.excIn K yp bmVE "ValueError.__new__" = true)
 (yc1 : W.excIn K y0a bmVE "ValueError.__new__" = true)
 (ye4 : W.excIn K y0q bmVE "ValueError.__new__" = true)
 (ye8 : W.excIn K y0l bmVE "ValueError.__new__" = true)
 (ye0 : W.excIn K y0r bmVE "ValueError.__new__" = true)
 (nd : [yp, y0l, y0q, y0r, y0a, y1u, yq, y6].Nodup)
 (ye5 : zcu K yq = some (.ref y9 :: bmVE))
 (y62 : zcu K y6 = some (.ref y9 :: bmVE))
 (y8l : zcu K y9 = some bmVE)
 (y8v : zcu K yp = some (.ref y9 :: bmVE))
 (y9v : zcu K y0a = some (.ref y9 :: bmVE))
 (yb4 : zcu K y0q = some (.ref y9 :: bmVE))
 (ybj : zcu K y0l = some (.ref y9 :: bmVE))
 (ymh : zcu K y1u = some (.ref y9 :: bmVE))
 (ybr : zcu K y0r = some (.ref y9 :: bmVE))
 (y00 : y6 ≠ y9)
 (bi1 : W.specialIn K (.ref y9) "__getattribute__" = some (some (.builtin "type.__getattribute__")))
 (yqq : W.readsIn K y9 (.type "type") = true)
 (yr0 : W.findCls K (.ref y9) (.type "type") "__init__" = some (.val (.builtin "ValueError.__init__")))
 (ybo : W.findIn K (.ref yq) "__setattr__" = some (some (.builtin "object.__setattr__")))
 (yb2 : W.hasDictIn K yq = true)
 (yc2 : zkf K yq = true)
 (y7y : W.findIn K (.ref yq) "one" = some none)
 (y5f : W.findIn K (.ref yq) "other" = some none)
 (y9u : zej K yq y1i = true)
 (y83 : W.findIn K (.ref y6) "__setattr__" = some (some (.builtin "object.__setattr__")))
 (y7q : W.hasDictIn K y6 = true)
 (y7g : zkf K y6 = true)
 (y3z : W.findIn K (.ref y6) "piece" = some none)
 (y4g : W.findIn K (.ref y6) "code" = some none)
 (y66 : zej K y6 y0j = true)
 (yi5 : W.findIn K (.ref y1u) "__setattr__" = some (some (.builtin "object.__setattr__")))
 (ygv : W.hasDictIn K y1u = true)
 (yh9 : zkf K y1u = true)
 (y93 : W.findIn K (.ref y1u) "ring" = some none)
 (yev : zej K y1u y2p = true)
 (khn : W.specialIn K (.builtin "object.__class__") "__get__" = some (some (.builtin "getset_descriptor.__get__")))
 (ktk : W.takesIn K (.builtin "object.__class__") = some true)
 (y7d : ∀ C ∈ [yp, y0l, y0q, y0r, y0a, y1u, yq, y6], XKit K C)
 (xk : ∀ C ∈ [yp, y0l, y0q, y0r, y0a, y1u, yq, y6], ∀ D ∈ [yq, y6, yp, y0a, y0q, y0l, y1u, y0r], W.kitOne K (.ref C) (.ref D) = some (decide (C = D)))
 (xkv : ∀ C ∈ [yp, y0l, y0q, y0r, y0a, y1u, yq, y6], W.kitOne K (.ref C) (.type "ValueError") = some true)
 (nl : zw4 K = true)
 : ∃ fd : FuncData, (∀ (s : Shared) (v : Value), BindsTo s fd ⟨[v], []⟩ [("script", v)]) /\ ∀ base : Heap, K.In base -> base.Ns mainGlobals mg -> FnOk l.prog w K mg base CX0 10 fa fd ["script"] (zy9 K) := by
 let c : Cl := { hall := y0b, place := y1k, piece := yx, run := y0d, hallError := y9, nameThere := yp, noPlace := y0l, noPiece := y0q, tooMany := y0r, noAnswer := y0a, ring := y1u, barred := yq, deedFault := y6 };have e0 := hfa.symm.trans (W.mg_of X G y4);cases e0;have T0 : Tx K mg c := ⟨y8l, (List.forall_mem_cons.mpr ⟨(fun _ => y8v), List.forall_mem_cons.mpr ⟨(fun _ => ybj), List.forall_mem_cons.mpr ⟨(fun _ => yb4), List.forall_mem_cons.mpr ⟨(fun _ => ybr), List.forall_mem_cons.mpr ⟨(fun _ => y9v), List.forall_mem_cons.mpr ⟨(fun _ => ymh), List.forall_mem_cons.mpr ⟨(fun _ => ye5), List.forall_mem_cons.mpr ⟨(fun _ => y62), fun _ h => absurd h List.not_mem_nil⟩⟩⟩⟩⟩⟩⟩⟩), W.mg_none_of X G y8k, W.mg_none_of X G yqy, ⟨_, W.mg_of X G y5t⟩, ⟨_, W.mg_of X G y5j⟩, ⟨yb, yc, ya, yd⟩, y5o, y5r, ⟨yi7, yi4, yiy, ygw⟩, y5i, y6p, y57, y97, y6r, y5m, y96, y5y, ⟨yh6, yh8, ygz, ygl⟩, y6y, y6o, ⟨y2x, y2r, y31, y2s⟩, y6m, y6s, y7p, y7s, y8t, y8x, y6q, y7a, y8n, bi1, yqq, yr0, ⟨ybo, yb2, yc2⟩, y7y, y5f, ⟨y83, y7q, y7g⟩, y3z, y4g, ⟨yi5, ygv, yh9⟩, y93, W.mg_none_of X G y8g, (fun C h => ⟨y7d C h, xk C h _ (.head _)⟩), (fun C h => ⟨y7d C h, xk C h _ (.tail _ (.head _))⟩), (fun C h => ⟨y7d C h, xk C h _ (.tail _ (.tail _ (.head _)))⟩), (fun C h => ⟨y7d C h, xk C h _ (.tail _ (.tail _ (.tail _ (.head _))))⟩), (fun C h => ⟨y7d C h, xk C h _ (.tail _ (.tail _ (.tail _ (.tail _ (.head _)))))⟩), (fun C h => ⟨y7d C h, xk C h _ (.tail _ (.tail _ (.tail _ (.tail _ (.tail _ (.head _))))))⟩), (fun C h => ⟨y7d C h, xk C h _ (.tail _ (.tail _ (.tail _ (.tail _ (.tail _ (.tail _ (.head _)))))))⟩), (fun C h => ⟨y7d C h, xk C h _ (.tail _ (.tail _ (.tail _ (.tail _ (.tail _ (.tail _ (.tail _ (.head _))))))))⟩), (fun C h => ⟨y7d C h, xkv C h⟩), W.mg_none_of X G yr2, W.mg_none_of X G yom, W.mg_of X G ydy, W.mg_of X G y8z, W.mg_of X G y8o, W.mg_of X G y90, W.mg_of X G y9q, W.mg_of X G ybh, W.mg_of X G ybu, W.mg_of X G yn1, W.mg_of X G yba, W.mg_none_of X G yqz, y00, y62, W.mg_none_of X G ym5, ya1, yc1, ye4, ye8, ye0⟩;have yb1 := zay (st := zec) y3v y1c y2m;have ylw := yb1.binds (ps := ["script", "k"]) (by walk_at "2");have y9o := zay (st := zc3) y2h y0s y2n;have yis := y9o.binds (ps := ["self"]) (by walk_at "1");have y88 := zay (st := zcl) y20 y0e y24;have yg4 := y88.binds (ps := ["self", "kind", "rule"]) (by walk_at "3");have y81 := zay (st := zb2) y1h y06 yg;have y4i := y81.binds (ps := ["self", "name", "kind", "rule"]) (by walk_at "4");have y7v := zay (st := zb3) y1n y08 yf;have y4f := y7v.binds (ps := ["self", "name"]) (by walk_at "2");have y7z := zay (st := zb4) y1b y04 y2;have yo := y7z.binds (ps := ["self", "name"]) (by walk_at "2");have y8d := zay (st := zcm) y26 y0f y25;have yfx := y8d.binds (ps := ["self", "place", "deed", "by"]) (by walk_at "4");have yo0 : FunV K "hang" "Hall.hang" zbv (.ref yah) y55 _ := ⟨⟨_, _, _, _, _, _, _, _, _, rfl, y4w, y22⟩, ym⟩;have y4s := znj (kV := ydv) (dc := ydo) (pm := ydh) (an := ydj) (cd := y8r) (ct := ydw) yy;have ydi := zay (st := ze2) y42 y2c y5;have y16 := ydi.binds (ps := ["rule"]) (by walk_at "1");have y7k := zay (st := zb5) y1o y09 y0p;have ye6 := y7k.binds (ps := ["cell"]) (by walk_at "1");have ylx := zay (st := zhi) y7r y4d y27;have yeb := ylx.binds (ps := ["self", "place"]) (by walk_at "2");have ydd := zay (st := ze3) y47 y2b y3c;have ynk := ydd.binds (ps := ["hall", "names"]) (by walk_at "2");have y9h := zay (st := zc4) y2q y0n y18;have yh5 := y9h.binds (ps := ["seconds", "left"]) (by walk_at "2");have yan := zay (st := zdp) y39 y0z y1w;have yjf := yan.binds (ps := ["seconds", "start"]) (by walk_at "2");have y9l := zay (st := zc5) y2i y0m y1a;have ygt := y9l.binds (ps := ["seconds"]) (by walk_at "1");have y9m := zay (st := zc6) y2l y0t y2k;have yif := y9m.binds (ps := ["self", "ring"]) (by walk_at "2");have ybe := zay (st := zee) y3w y1p y0v;have ybp := ybe.binds (ps := ["hall", "names"]) (by walk_at "2");have ybq := zay (st := zks) y3s y1g y0x;have ybb := ybq.binds (ps := ["hall", "place"]) (by walk_at "2");have yav := zay (st := zdq) y35 y10 y34;have yjr := yav.binds (ps := ["self", "kind", "rule", "number", "deeds"]) (by walk_at "5");have yde := zay (st := ze4) y43 y2a y3a;have yn4 := yde.binds (ps := ["hall", "place", "names", "number"]) (by walk_at "4");have ybn := zay (st := zkt) y3n y1q yn;have y6e := ybn.binds (ps := ["hall", "place", "number"]) (by walk_at "3");have yj8 := zay (st := zgh) y6c y3k y14;have yb9 := yj8.binds (ps := ["self"]) (by walk_at "1");have y5c := zay (st := zbg) y0h yk yw;have yay := y5c.binds (ps := ["self"]) (by walk_at "1");have y5d := zay (st := zbh) y0i yl y0k;have yax := y5d.binds (ps := ["self", "piece", "code"]) (by walk_at "3");have yjb := zay (st := zgi) y6a y3l y4k;have yq9 := yjb.binds (ps := ["self", "name", "code"]) (by walk_at "3");have yjd := zay (st := zgj) y6g y3t y4n;have yq8 := yjd.binds (ps := ["self", "number"]) (by walk_at "2");have yrd := zay (st := zn8) yg6 yal yc4;have ys7 := yrd.binds (ps := ["deed", "number"]) (by walk_at "2");have yb5 := zay (st := zef) y3p y1j y2j;have yn0 := yb5.binds (ps := ["self", "name", "deed"]) (by walk_at "3");have yj6 := zay (st := zgk) y67 y3o y0g;have y86 := yj6.binds (ps := ["self"]) (by walk_at "1");have ynw := zay (st := ziv) y9f y5x y78;have yrm := ynw.binds (ps := ["run"]) (by walk_at "1");have yrc := zay (st := zn9) yg0 yaa y5z;have you := yrc.binds (ps := ["hall", "place", "number"]) (by walk_at "3");have yl4 := zay (st := zin) y80 y4j y5q;have yr7 := yl4.binds (ps := ["run"]) (by walk_at "1");have yfa := zay (st := zfv) y53 y2t y21;have yfj := yfa.binds (ps := ["hall", "place", "number"]) (by walk_at "3");have yaw := zay (st := zdr) y38 y11 y1v;have yki := yaw.binds (ps := ["cell"]) (by walk_at "1");have yf0 := zay (st := zfw) y52 y2z y3y;have ypu := yf0.binds (ps := ["self", "name"]) (by walk_at "2");have ybk := zay (st := zeg) y3q y1r y2g;have yln := ybk.binds (ps := ["self", "name", "on"]) (by walk_at "3");have ynx := zay (st := ziw) y9b y5u y79;have yrl := ynx.binds (ps := ["names"]) (by walk_at "1");have yoh : FunV K "wish" "Hall.wish" zbb (.ref y9x) y5b _ := ⟨⟨_, _, _, _, _, _, _, _, _, rfl, y50, y23⟩, y0u⟩;have yag := znk (kV := ydn) (dc := ydb) (pm := ydq) (an := ydt) (cd := y8y) (ct := ydp) y03;have yas := zay (st := zds) y37 y13 y1z;have yjx := yas.binds (ps := ["hall", "name"]) (by walk_at "2");have ydl := zay (st := ze5) y46 y2e y15;have ydu := ydl.binds (ps := ["self"]) (by walk_at "1");have yqm := zay (st := zku) yb6 y82 y9c;have yrp := yqm.binds (ps := ["hall", "names"]) (by walk_at "2");have y7o := zay (st := zb6) y1e y07 y1l;have yep := y7o.binds (ps := ["self", "one", "other"]) (by walk_at "3");have ydk := zay (st := ze6) y4a y2f y17;have ydr := ydk.binds (ps := ["hall", "name"]) (by walk_at "2");have yat := zay (st := zdt) y32 y0y y1x;have yjy := yat.binds (ps := ["cell"]) (by walk_at "1");have yam := zay (st := zdu) y36 y12 y1y;have yjv := yam.binds (ps := ["cell"]) (by walk_at "1");have yj5 := zay (st := zgl) y69 y3u y4l;have yqh := yj5.binds (ps := ["run"]) (by walk_at "1");have ydf := zay (st := ze7) y45 y2d y3d;have ync := ydf.binds (ps := ["self"]) (by walk_at "1");have y9d := zay (st := zc7) y2o y0o y19;have yi3 := y9d.binds (ps := ["cell"]) (by walk_at "1");have yja := zay (st := zgm) y6d y3m y4o;have yqc := yja.binds (ps := ["cell"]) (by walk_at "1");have ydx := zay (st := ze8) y48 y29 y3e;have ynq := ydx.binds (ps := ["cell"]) (by walk_at "1");have ydm := zay (st := ze9) y49 y28 y3b;have yno := ydm.binds (ps := ["cell"]) (by walk_at "1");have yj7 := zay (st := zgn) y6f y3r y4q;have yqa := yj7.binds (ps := ["mode", "cell"]) (by walk_at "2");have yi := zay (st := zo5) y3 y0 y1;have y05 := yi.binds (ps := ["script"]) (by walk_at "1");refine ⟨W.fnOf "law" "law" (zan zo5) (zal zo5) (zab zo5) .none yt yv ys yr y8 yu, fun s v => .of_eq rfl, fun base _ _ => ?_⟩;have yk4 := znf l.prog w base T0 yb1.toV;have yg9 := zlc l.prog w base T0 y9o.toV;have ye7 := zkv l.prog w base T0 y88.toV;have y41 := zj7 l.prog w base T0 y81.toV ⟨ye7.mono (by decide), W.mg_of X G yhs, ⟨yix, y59, y4x, yio⟩, yg4⟩;have y40 := zj8 l.prog w base T0 y7v.toV;have yj := zj9 l.prog w base T0 y7z.toV;have yeo := zkw l.prog w base T0 y8d.toV;have y44 := zq5 l.prog w base T0 yo0 ⟨y40.mono (by decide), ⟨yb, yc, ya, yd⟩, ⟨y1m, y1f, yf⟩, y4f⟩ ⟨yj.mono (by decide), ⟨yb, yc, ya, yd⟩, ⟨ye, yh, y2⟩, yo⟩ ⟨yeo.mono (by decide), W.mg_of X G yia, ⟨yj4, y54, y5a, yih⟩, yfx⟩;have y0w := zo6 l.prog w base T0 ydi.toV ⟨yg9.mono (by decide), W.mg_of X G ymo, ⟨yms, y5p, y5g, yma⟩, yis⟩ ⟨y41.mono (by decide), ⟨yb, yc, ya, yd⟩, ⟨y1d, y1s, yg⟩, y4i⟩ ⟨y44.mono (by decide), ⟨yb, yc, ya, yd⟩, ⟨y2w, y2v, ym⟩, y4s⟩ (zha yy);have ycc := zka l.prog w base T0 y7k.toV ⟨y0w.mono (by decide), W.mg_of X G y0c, y5, y16⟩ ⟨y41.mono (by decide), ⟨yb, yc, ya, yd⟩, ⟨y1d, y1s, yg⟩, y4i⟩ ⟨y44.mono (by decide), ⟨yb, yc, ya, yd⟩, ⟨y2w, y2v, ym⟩, y4s⟩ (zha yy);have yc3 := zuz l.prog w base T0 ylx.toV ⟨y40.mono (by decide), ⟨yb, yc, ya, yd⟩, ⟨y1m, y1f, yf⟩, y4f⟩;have ylq := zo7 l.prog w base T0 ydd.toV ⟨yj.mono (by decide), ⟨yb, yc, ya, yd⟩, ⟨ye, yh, y2⟩, yo⟩;have yft := zld l.prog w base T0 y9h.toV;have yii := zm0 l.prog w base T0 yan.toV;have yfr := zle l.prog w base T0 y9l.toV ⟨yii.mono (by decide), W.mg_of X G y6t, y1w, yjf⟩;have yeq := zlf l.prog w base T0 y9m.toV yev;have yap := zng l.prog w base T0 ybe.toV ⟨ylq.mono (by decide), W.mg_of X G y8q, y3c, ynk⟩ ⟨yft.mono (by decide), W.mg_of X G y5l, y18, yh5⟩ ⟨yfr.mono (by decide), W.mg_of X G y5n, y1a, ygt⟩ ⟨yeq.mono (by decide), yev, y5w, yif⟩;have y9g := zzv l.prog w base T0 ybq.toV ⟨yap.mono (by decide), W.mg_of X G y56, y0v, ybp⟩ ⟨yc3.mono (by decide), ⟨yb, yc, ya, yd⟩, ⟨y7f, y7b, y27⟩, yeb⟩;have yim := zm1 l.prog w base T0 yav.toV;have ymg := zo8 l.prog w base T0 yde.toV ⟨y40.mono (by decide), ⟨yb, yc, ya, yd⟩, ⟨y1m, y1f, yf⟩, y4f⟩ ⟨yap.mono (by decide), W.mg_of X G y56, y0v, ybp⟩ ⟨yj.mono (by decide), ⟨yb, yc, ya, yd⟩, ⟨ye, yh, y2⟩, yo⟩ ⟨yim.mono (by decide), W.mg_of X G yow, ⟨ypy, y6v, y6k, ypn⟩, yjr⟩;have y4r := zzw l.prog w base T0 ybn.toV ⟨ymg.mono (by decide), W.mg_of X G y8p, y3a, yn4⟩ ⟨yc3.mono (by decide), ⟨yb, yc, ya, yd⟩, ⟨y7f, y7b, y27⟩, yeb⟩;have ya7 := zsj l.prog w base T0 yj8.toV;have yaf := zir l.prog w base T0 y5c.toV;have ya2 := zis l.prog w base T0 y5d.toV y66;have yot := zsk l.prog w base T0 yjb.toV ⟨yaf.mono (by decide), ⟨y2x, y2r, y31, y2s⟩, ⟨y3g, y3f, yw⟩, yay⟩ ⟨ya2.mono (by decide), y66, y3h, yax⟩;have ypk := zsl l.prog w base T0 yjd.toV;have ys2 := z30 l.prog w base T0 yrd.toV;have yjw := znh l.prog w base T0 yb5.toV ⟨yot.mono (by decide), ⟨y2x, y2r, y31, y2s⟩, ⟨yb0, yaz, y4k⟩, yq9⟩ ⟨ypk.mono (by decide), ⟨y2x, y2r, y31, y2s⟩, ⟨ybf, yb7, y4n⟩, yq8⟩ ⟨ys2.mono (by decide), W.mg_of X G yoo, yc4, ys7⟩;have y77 := zsm l.prog w base T0 yj6.toV ⟨ya7.mono (by decide), ⟨y2x, y2r, y31, y2s⟩, ⟨y6b, y68, y14⟩, yb9⟩ ⟨yjw.mono (by decide), ⟨y2x, y2r, y31, y2s⟩, ⟨y7l, y7i, y2j⟩, yn0⟩;have yqv := zx2 l.prog w base T0 ynw.toV ⟨ya7.mono (by decide), ⟨y2x, y2r, y31, y2s⟩, ⟨y6b, y68, y14⟩, yb9⟩ ⟨y77.mono (by decide), ⟨y2x, y2r, y31, y2s⟩, ⟨y4m, y4p, y0g⟩, y86⟩;have ylv := z31 l.prog w base T0 yrc.toV ⟨yqv.mono (by decide), W.mg_of X G yi6, y78, yrm⟩ ⟨y4r.mono (by decide), W.mg_of X G y33, yn, y6e⟩;have yqe := zu0 l.prog w base T0 yl4.toV;have ydg := zq6 l.prog w base T0 yfa.toV ⟨yqe.mono (by decide), W.mg_of X G yei, y5q, yr7⟩ ⟨y4r.mono (by decide), W.mg_of X G y33, yn, y6e⟩;have yi8 := zm2 l.prog w base T0 yaw.toV ⟨y0w.mono (by decide), W.mg_of X G y0c, y5, y16⟩ ⟨y44.mono (by decide), ⟨yb, yc, ya, yd⟩, ⟨y2w, y2v, ym⟩, y4s⟩ ⟨yc3.mono (by decide), ⟨yb, yc, ya, yd⟩, ⟨y7f, y7b, y27⟩, yeb⟩ ⟨y9g.mono (by decide), W.mg_of X G y4t, y0x, ybb⟩ ⟨y4r.mono (by decide), W.mg_of X G y33, yn, y6e⟩ ⟨ylv.mono (by decide), W.mg_of X G yfp, y5z, you⟩ ⟨ydg.mono (by decide), W.mg_of X G y76, y21, yfj⟩;have yng := zq7 l.prog w base T0 yf0.toV ⟨yj.mono (by decide), ⟨yb, yc, ya, yd⟩, ⟨ye, yh, y2⟩, yo⟩;have yjz := zni l.prog w base T0 ybk.toV ⟨yj.mono (by decide), ⟨yb, yc, ya, yd⟩, ⟨ye, yh, y2⟩, yo⟩;have yqx := zx3 l.prog w base T0 ynx.toV;have y92 := zq8 l.prog w base T0 yoh ⟨yj.mono (by decide), ⟨yb, yc, ya, yd⟩, ⟨ye, yh, y2⟩, yo⟩ ⟨yqx.mono (by decide), W.mg_of X G yib, y79, yrl⟩;have yir := zm3 l.prog w base T0 yas.toV ⟨yj.mono (by decide), ⟨yb, yc, ya, yd⟩, ⟨ye, yh, y2⟩, yo⟩;have yb8 := zo9 l.prog w base T0 ydl.toV;have yrh := zzx l.prog w base T0 yqm.toV ⟨yb8.mono (by decide), ⟨yb, yc, ya, yd⟩, ⟨y64, y60, y15⟩, ydu⟩ ⟨yj.mono (by decide), ⟨yb, yc, ya, yd⟩, ⟨ye, yh, y2⟩, yo⟩;have yda := zkb l.prog w base T0 y7o.toV y9u;have yby := zpa l.prog w base T0 ydk.toV ⟨yir.mono (by decide), W.mg_of X G y6n, y1z, yjx⟩ ⟨yb8.mono (by decide), ⟨yb, yc, ya, yd⟩, ⟨y64, y60, y15⟩, ydu⟩ ⟨yrh.mono (by decide), W.mg_of X G yl3, y9c, yrp⟩ ⟨yda.mono (by decide), y9u, y4h, yep⟩;have yhu := zm4 l.prog w base T0 yat.toV ⟨y0w.mono (by decide), W.mg_of X G y0c, y5, y16⟩ ⟨y44.mono (by decide), ⟨yb, yc, ya, yd⟩, ⟨y2w, y2v, ym⟩, y4s⟩ ⟨yng.mono (by decide), ⟨yb, yc, ya, yd⟩, ⟨yak, y9s, y3y⟩, ypu⟩ ⟨yjz.mono (by decide), ⟨yb, yc, ya, yd⟩, ⟨y7m, y7e, y2g⟩, yln⟩ ⟨y92.mono (by decide), ⟨yb, yc, ya, yd⟩, ⟨y4v, y4z, y0u⟩, yag⟩ (znl y03) (zi9 y03) ⟨yby.mono (by decide), W.mg_of X G y65, y17, ydr⟩;have yiv := zm5 l.prog w base T0 yam.toV ⟨y0w.mono (by decide), W.mg_of X G y0c, y5, y16⟩ ⟨y41.mono (by decide), ⟨yb, yc, ya, yd⟩, ⟨y1d, y1s, yg⟩, y4i⟩ ⟨y44.mono (by decide), ⟨yb, yc, ya, yd⟩, ⟨y2w, y2v, ym⟩, y4s⟩ (zha yy);have yor := zsn l.prog w base T0 yj5.toV ⟨y77.mono (by decide), ⟨y2x, y2r, y31, y2s⟩, ⟨y4m, y4p, y0g⟩, y86⟩;have ymi := zpb l.prog w base T0 ydf.toV ⟨ya7.mono (by decide), ⟨y2x, y2r, y31, y2s⟩, ⟨y6b, y68, y14⟩, yb9⟩;have yfb := zlg l.prog w base T0 y9d.toV ⟨y4r.mono (by decide), W.mg_of X G y33, yn, y6e⟩ ⟨y0w.mono (by decide), W.mg_of X G y0c, y5, y16⟩ ⟨y77.mono (by decide), ⟨y2x, y2r, y31, y2s⟩, ⟨y4m, y4p, y0g⟩, y86⟩ ⟨yor.mono (by decide), W.mg_of X G ybm, y4l, yqh⟩ ⟨ymi.mono (by decide), ⟨y2x, y2r, y31, y2s⟩, ⟨y8h, y95, y3d⟩, ync⟩;have ypq := zso l.prog w base T0 yja.toV ⟨y0w.mono (by decide), W.mg_of X G y0c, y5, y16⟩ ⟨y92.mono (by decide), ⟨yb, yc, ya, yd⟩, ⟨y4v, y4z, y0u⟩, yag⟩ (zi9 y03) ⟨y9g.mono (by decide), W.mg_of X G y4t, y0x, ybb⟩ ⟨y4r.mono (by decide), W.mg_of X G y33, yn, y6e⟩ ⟨ylv.mono (by decide), W.mg_of X G yfp, y5z, you⟩ ⟨ydg.mono (by decide), W.mg_of X G y76, y21, yfj⟩;have ylr := zpc l.prog w base T0 ydx.toV ⟨y0w.mono (by decide), W.mg_of X G y0c, y5, y16⟩ ⟨y92.mono (by decide), ⟨yb, yc, ya, yd⟩, ⟨y4v, y4z, y0u⟩, yag⟩ ⟨yby.mono (by decide), W.mg_of X G y65, y17, ydr⟩;have yl2 := zpd l.prog w base T0 ydm.toV ⟨y0w.mono (by decide), W.mg_of X G y0c, y5, y16⟩ ⟨ylv.mono (by decide), W.mg_of X G yfp, y5z, you⟩ ⟨y4r.mono (by decide), W.mg_of X G y33, yn, y6e⟩ ⟨y77.mono (by decide), ⟨y2x, y2r, y31, y2s⟩, ⟨y4m, y4p, y0g⟩, y86⟩;have yo4 := zsp l.prog w base T0 yj7.toV ⟨ycc.mono (by decide), W.mg_of X G y4c, y0p, ye6⟩ ⟨yi8.mono (by decide), W.mg_of X G y6w, y1v, yki⟩ ⟨yhu.mono (by decide), W.mg_of X G y6i, y1x, yjy⟩ ⟨yiv.mono (by decide), W.mg_of X G y6z, y1y, yjv⟩ ⟨yfb.mono (by decide), W.mg_of X G y5k, y19, yi3⟩ ⟨ypq.mono (by decide), W.mg_of X G ybi, y4o, yqc⟩ ⟨ylr.mono (by decide), W.mg_of X G y94, y3e, ynq⟩ ⟨yl2.mono (by decide), W.mg_of X G y8j, y3b, yno⟩;have oklaw := z6w l.prog w base T0 yi.toV ⟨yk4.mono (by decide), W.mg_of X G y7c, y2m, ylw⟩ ⟨yo4.mono (by decide), W.mg_of X G yc0, y4q, yqa⟩;exact z58 oklaw nl fun ns hl => z8e (c := c) nd ns
end K12
open PySem PySem.W PyProof.Rows
local macro_rules | `(tactic| walk_at "k") => `(tactic| first | kernel_rfl! | k_is)
theorem PySem.Challenge.cw_hookhall_k12_each_refusal_its_own_holds : PySem.Challenge.rw_hookhall_k12_each_refusal_its_own.Holds := by
 w_on; o_law; k_head; (case hw => w_witness2)
 k_fill
 refine MF.walkM (l := PySem.Challenge.rw_hookhall_k12_each_refusal_its_own) (k := 10) ⟨rfl, by decide, by decide, rfl⟩ rfl rfl (fun w h Y => W.kIn_of Y) ?F
 case F =>
  intro w mg fa h KX G hmg
  refine' K12.all_mk KX G hmg ?ymo ?yia ?yhs ?yow ?y8o ?y90 ?ybu ?ybh ?yba ?y9q ?yn1 ?ydy ?y8z ?y7c ?y3v ?y1c ?y2m ?y5p ?y5g ?y2h ?y0s ?y2n ?y59 ?y4x ?y20 ?y0e ?y24 ?y1d ?y1s ?y1h ?y06 ?yg ?y1m ?y1f ?y1n ?y08 ?yf ?ye ?yh ?y1b ?y04 ?y2 ?y54 ?y5a ?y26 ?y0f ?y25 ?y2w ?y2v ?y4w ?y22 ?ym ?yy ?y0c ?y42 ?y2c ?y5 ?y4c ?y1o ?y09 ?y0p ?y7f ?y7b ?y7r ?y4d ?y27 ?y8q ?y47 ?y2b ?y3c ?y5l ?y2q ?y0n ?y18 ?y6t ?y39 ?y0z ?y1w ?y5n ?y2i ?y0m ?y1a ?y99 ?y5w ?y2l ?y0t ?y2k ?y56 ?y3w ?y1p ?y0v ?y4t ?y3s ?y1g ?y0x ?y6v ?y6k ?y35 ?y10 ?y34 ?y8p ?y43 ?y2a ?y3a ?y33 ?y3n ?y1q ?yn ?y6b ?y68 ?y6c ?y3k ?y14 ?y3g ?y3f ?y0h ?yk ?yw ?y5e ?y3h ?y0i ?yl ?y0k ?yb0 ?yaz ?y6a ?y3l ?y4k ?ybf ?yb7 ?y6g ?y3t ?y4n ?yoo ?yg6 ?yal ?yc4 ?y7l ?y7i ?y3p ?y1j ?y2j ?y4m ?y4p ?y67 ?y3o ?y0g ?yi6 ?y9f ?y5x ?y78 ?yfp ?yg0 ?yaa ?y5z ?yei ?y80 ?y4j ?y5q ?y76 ?y53 ?y2t ?y21 ?y6w ?y38 ?y11 ?y1v ?yak ?y9s ?y52 ?y2z ?y3y ?y7m ?y7e ?y3q ?y1r ?y2g ?yib ?y9b ?y5u ?y79 ?y4v ?y4z ?y50 ?y23 ?y0u ?y03 ?y6n ?y37 ?y13 ?y1z ?y64 ?y60 ?y46 ?y2e ?y15 ?yl3 ?yb6 ?y82 ?y9c ?y7n ?y4h ?y1e ?y07 ?y1l ?y65 ?y4a ?y2f ?y17 ?y6i ?y32 ?y0y ?y1x ?y6z ?y36 ?y12 ?y1y ?ybm ?y69 ?y3u ?y4l ?y8h ?y95 ?y45 ?y2d ?y3d ?y5k ?y2o ?y0o ?y19 ?ybi ?y6d ?y3m ?y4o ?y94 ?y48 ?y29 ?y3e ?y8j ?y49 ?y28 ?y3b ?yc0 ?y6f ?y3r ?y4q ?y4 ?y3 ?y0 ?y1 ?yb ?yc ?ya ?yd ?yms ?yma ?yi7 ?yi4 ?yiy ?ygw ?yj4 ?yih ?yh6 ?yh8 ?ygz ?ygl ?yix ?yio ?y2x ?y2r ?y31 ?y2s ?ypy ?ypn ?y8k ?yqy ?y5t ?y5j ?y5o ?y5r ?y5i ?y6p ?y57 ?y97 ?y6r ?y5m ?y96 ?y5y ?y6y ?y6o ?y6m ?y6s ?y7p ?y7s ?y8t ?y8x ?y6q ?y7a ?y8n ?y8g ?yr2 ?yom ?yqz ?ym5 ?ya1 ?yc1 ?ye4 ?ye8 ?ye0 ?nd ?ye5 ?y62 ?y8l ?y8v ?y9v ?yb4 ?ybj ?ymh ?ybr ?y00 ?bi1 ?yqq ?yr0 ?ybo ?yb2 ?yc2 ?y7y ?y5f ?y9u ?y83 ?y7q ?y7g ?y3z ?y4g ?y66 ?yi5 ?ygv ?yh9 ?y93 ?yev ?khn ?ktk ?y7d ?xk ?xkv ?nl
  (case ymo | yia | yhs | yow | y8o | y90 | ybu | ybh | yba | y9q | yn1 | ydy | y8z | y7c | y3v | y1c | y2m | y5p | y5g | y2h | y0s | y2n | y59 | y4x | y20 | y0e | y24 | y1d | y1s | y1h | y06 | yg | y1m | y1f | y1n | y08 | yf | ye | yh | y1b | y04 | y2 | y54 | y5a | y26 | y0f | y25 | y2w | y2v | y4w | y22 | ym | yy | y0c | y42 | y2c | y5 | y4c | y1o | y09 | y0p | y7f | y7b | y7r | y4d | y27 | y8q | y47 | y2b | y3c | y5l | y2q | y0n | y18 | y6t | y39 | y0z | y1w | y5n | y2i | y0m | y1a | y99 | y5w | y2l | y0t | y2k | y56 | y3w | y1p | y0v | y4t | y3s | y1g | y0x | y6v | y6k | y35 | y10 | y34 | y8p | y43 | y2a | y3a | y33 | y3n | y1q | yn | y6b | y68 | y6c | y3k | y14 | y3g | y3f | y0h | yk | yw | y5e | y3h | y0i | yl | y0k | yb0 | yaz | y6a | y3l | y4k | ybf | yb7 | y6g | y3t | y4n | yoo | yg6 | yal | yc4 | y7l | y7i | y3p | y1j | y2j | y4m | y4p | y67 | y3o | y0g | yi6 | y9f | y5x | y78 | yfp | yg0 | yaa | y5z | yei | y80 | y4j | y5q | y76 | y53 | y2t | y21 | y6w | y38 | y11 | y1v | yak | y9s | y52 | y2z | y3y | y7m | y7e | y3q | y1r | y2g | yib | y9b | y5u | y79 | y4v | y4z | y50 | y23 | y0u | y03 | y6n | y37 | y13 | y1z | y64 | y60 | y46 | y2e | y15 | yl3 | yb6 | y82 | y9c | y7n | y4h | y1e | y07 | y1l | y65 | y4a | y2f | y17 | y6i | y32 | y0y | y1x | y6z | y36 | y12 | y1y | ybm | y69 | y3u | y4l | y8h | y95 | y45 | y2d | y3d | y5k | y2o | y0o | y19 | ybi | y6d | y3m | y4o | y94 | y48 | y29 | y3e | y8j | y49 | y28 | y3b | yc0 | y6f | y3r | y4q | y4 | y3 | y0 | y1 | yb | yc | ya | yd | yms | yma | yi7 | yi4 | yiy | ygw | yj4 | yih | yh6 | yh8 | ygz | ygl | yix | yio | y2x | y2r | y31 | y2s | ypy | ypn | y8k | yqy | y5t | y5j | y5o | y5r | y5i | y6p | y57 | y97 | y6r | y5m | y96 | y5y | y6y | y6o | y6m | y6s | y7p | y7s | y8t | y8x | y6q | y7a | y8n | y8g | yr2 | yom | yqz | ym5 => k_is)
  (case ya1 | yc1 | ye4 | ye8 | ye0 => walk_at "k")
  (case nd => decide)
  (case ye5 | y62 | y8l | y8v | y9v | yb4 | ybj | ymh | ybr => walk_at "k")
  (case y00 => decide)
  (case bi1 => k_is)
  (case yqq | yr0 => walk_at "k")
  (case ybo => k_is)
  (case yb2 | yc2 => walk_at "k")
  (case y7y | y5f => k_is)
  (case y9u => walk_at "k")
  (case y83 => k_is)
  (case y7q | y7g => walk_at "k")
  (case y3z | y4g => k_is)
  (case y66 => walk_at "k")
  (case yi5 => k_is)
  (case ygv | yh9 => walk_at "k")
  (case y93 => k_is)
  (case yev | khn | ktk => walk_at "k")
  (case y7d => intro C h; simp only [List.mem_cons, List.not_mem_nil, or_false] at h; rcases h with rfl | rfl | rfl | rfl | rfl | rfl | rfl | rfl <;> exact ⟨⟨by walk_at "k", by walk_at "k", by walk_at "k", by walk_at "k"⟩, by walk_at "k", by walk_at "k", by walk_at "k", by walk_at "k"⟩)
  (case xk => intro C h D g; simp only [List.mem_cons, List.not_mem_nil, or_false] at h g; rcases h with rfl | rfl | rfl | rfl | rfl | rfl | rfl | rfl <;> rcases g with rfl | rfl | rfl | rfl | rfl | rfl | rfl | rfl <;> walk_at "k")
  (case xkv => intro C h; simp only [List.mem_cons, List.not_mem_nil, or_false] at h; rcases h with rfl | rfl | rfl | rfl | rfl | rfl | rfl | rfl <;> walk_at "k")
  (case nl => walk_at "k")
end
