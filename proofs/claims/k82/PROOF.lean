import PyProof.Rows.All
import Wide.All
import OpenK.AllK
import Wide.FinOn
import Lean
import PyProof.EqAt
import PyProof.EqKinds
import PyProof.TupleCall
import PySem.Challenge.RW_readgrove_k82_trees_written
set_option Elab.async false
set_option linter.all false
set_option maxRecDepth 100000
namespace L2
open PySem PySem.Spec PyProof.Rows
abbrev Key := Sum Int Str
def ziK : Key → Value → Bool
 | .inl k, v => Value.isInt k v
 | .inr x, v => Value.isStrOf x v
def keyH (w : World) : Key → Int
 | .inl k => hashInt k
 | .inr x => hashStr w x
theorem zbc : ∀ {k : Key} {v : Value}, ziK k v = true → (∃ i t, k = Sum.inl i ∧ v = Value.int i t) ∨ (∃ x t, k = Sum.inr x ∧ v = Value.str x t)
 | .inl i, v, h => by
  obtain ⟨t, e⟩ := Value.isInt_shape (k := i) (v := v) h
  exact .inl ⟨i, t, rfl, e⟩
 | .inr x, v, h => by
  obtain ⟨t, e⟩ := Value.isStrOf_shape (x := x) (v := v) h
  exact .inr ⟨x, t, rfl, e⟩
theorem zlz (i : Int) (t : Tok) : ziK (.inl i) (.int i t) = true := by simp [ziK, Value.isInt]
theorem zlA (x : Str) (t : Tok) : ziK (.inr x) (.str x t) = true := by simp [ziK, Value.isStrOf]
theorem zrw (a b : Int) : decide ((Sum.inl a : Key) = Sum.inl b) = (a == b) := by
 by_cases e : a = b
 ·subst e; simp
 ·have h : ¬ (Sum.inl a : Key) = Sum.inl b := fun q => e (Sum.inl.inj q)
  rw [decide_eq_false h]
  exact (beq_eq_false_iff_ne.mpr e).symm
theorem zrx (a b : Str) : decide ((Sum.inr a : Key) = Sum.inr b) = decide (a = b) := by
 by_cases e : a = b
 ·subst e; simp
 ·have h : ¬ (Sum.inr a : Key) = Sum.inr b := fun q => e (Sum.inr.inj q)
  rw [decide_eq_false h, decide_eq_false e]
theorem zry (a : Int) (b : Str) : decide ((Sum.inl a : Key) = Sum.inr b) = false := decide_eq_false (fun q => nomatch q)
theorem zrz (a : Str) (b : Int) : decide ((Sum.inr a : Key) = Sum.inl b) = false := decide_eq_false (fun q => nomatch q)
def zaz (prog : Program) (w : World) : PySem.KeyKind prog w Key where
 is := ziK
 hash := keyH w
 inj := fun v a b ha hb => by
  rcases zbc ha with ⟨i, t, rfl, rfl⟩ | ⟨x, t, rfl, rfl⟩
  ·rcases zbc hb with ⟨j, u, rfl, e⟩ | ⟨y, u, rfl, e⟩
   ·injection e with e1 _; rw [e1]
   ·exact nomatch e
  ·rcases zbc hb with ⟨j, u, rfl, e⟩ | ⟨y, u, rfl, e⟩
   ·exact nomatch e
   ·injection e with e1 _; rw [e1]
 byValue := fun k v h => by
  rcases zbc h with ⟨i, t, rfl, rfl⟩ | ⟨x, t, rfl, rfl⟩ <;> rfl
 pyHash := fun hv h => by
  rcases zbc hv with ⟨i, t, rfl, rfl⟩ | ⟨x, t, rfl, rfl⟩
  ·exact wpAny_pyHash_int h
  ·exact wpAny_pyHash_str h
 eqBool := fun hu hv h => by
  rcases zbc hu with ⟨i, t, rfl, rfl⟩ | ⟨x, t, rfl, rfl⟩
  ·rcases zbc hv with ⟨j, u, rfl, rfl⟩ | ⟨y, u, rfl, rfl⟩
   ·rw [zrw] at h; exact wpAny_eqBool_int h
   ·rw [zry] at h; exact SeqAt.EqAt.int_str i t y u _ _ _ _ h
  ·rcases zbc hv with ⟨j, u, rfl, rfl⟩ | ⟨y, u, rfl, rfl⟩
   ·rw [zrz] at h; exact SeqAt.EqAt.str_int x t j u _ _ _ _ h
   ·rw [zrx] at h; exact wpAny_eqBool_str h
 «strs» := fun k x t v h => by
  rcases zbc h with ⟨i, u, rfl, e⟩ | ⟨y, u, rfl, e⟩
  ·exact nomatch e
  ·injection e with e1 _
   subst e1
   cases v <;> rfl
theorem ziL (prog : Program) (w : World) (i : Int) (t : Tok) : (zaz prog w).is (.inl i) (.int i t) = true := zlz i t
theorem ziM (prog : Program) (w : World) (x : Str) (t : Tok) : (zaz prog w).is (.inr x) (.str x t) = true := zlA x t
end L2
namespace L2
open PySem PySem.Spec PyProof.Rows
inductive V where
 | non | bl (b : Bool) | int (i : Int) | str (x : Str) | byt (b : Array UInt8) | flt (b : UInt64) | ref (a : Addr) | ty (n : String)
 deriving DecidableEq
def RelV : V → Value → Prop
 | .non, u => u = Value.none
 | .bl b, u => u = Value.bool b
 | .int i, u => ∃ t, u = Value.int i t
 | .str x, u => ∃ t, u = Value.str x t
 | .byt b, u => ∃ t, u = Value.bytes b t
 | .flt b, u => ∃ t, u = Value.float b t
 | .ref a, u => u = Value.ref a
 | .ty n, u => u = Value.type n
abbrev Vals : List V → List Value → Prop := Paired RelV
theorem Vals.length {xs : List V} {us : List Value} (r : Vals xs us) : xs.length = us.length := Paired.length r
theorem Vals.get : ∀ {xs : List V} {us : List Value} {i : Nat} {x : V}, Vals xs us → xs[i]? = some x → ∃ u, us[i]? = some u ∧ RelV x u
 | _, _, _, _, .nil, e => by simp at e
 | _, _, 0, _, .cons r _, e => by simp at e; subst e; exact ⟨_, rfl, r⟩
 | _, _, i + 1, x, .cons _ t, e => by
  obtain ⟨u, h1, h2⟩ := Vals.get (i := i) (x := x) t (by simpa using e)
  exact ⟨u, by simpa using h1, h2⟩
theorem Vals.set {x : V} {u : Value} (r : RelV x u) : ∀ {xs : List V} {us : List Value} (i : Nat), Vals xs us → Vals (xs.set i x) (us.set i u)
 | _, _, _, .nil => .nil
 | _, _, 0, .cons _ t => .cons r t
 | _, _, i + 1, .cons q t => .cons q (Vals.set r i t)
theorem Vals.append : ∀ {xs ys : List V} {us ws : List Value}, Vals xs us → Vals ys ws → Vals (xs ++ ys) (us ++ ws)
 | _, _, _, _, .nil, s => s
 | _, _, _, _, .cons r t, s => .cons r (Vals.append t s)
theorem Vals.take : ∀ {xs : List V} {us : List Value} (n : Nat), Vals xs us → Vals (xs.take n) (us.take n)
 | _, _, 0, _ => .nil
 | _, _, _ + 1, .nil => .nil
 | _, _, n + 1, .cons r t => .cons r (Vals.take n t)
theorem Vals.drop : ∀ {xs : List V} {us : List Value} (n : Nat), Vals xs us → Vals (xs.drop n) (us.drop n)
 | _, _, 0, r => r
 | _, _, _ + 1, .nil => .nil
 | _, _, n + 1, .cons _ t => Vals.drop n t
def RelO : Option V → Option Value → Prop
 | some v, some u => RelV v u
 | none, none => True
 | _, _ => False
def KV {κ : Type} : List (κ × V) → List (κ × Value) → Prop := Paired fun (p : κ × V) (q : κ × Value) => p.1 = q.1 ∧ RelV p.2 q.2
def kV : Key → V
 | .inl i => .int i
 | .inr x => .str x
inductive HO where
 /-- a list -/
 | lst (xs : List V)
 /-- a tuple (never changes) -/
 | tup (xs : List V)
 /-- a dict whose keys are ints and texts; one whose keys are tuples of ints and texts (the empty one is both) -/
 | dK (kvs : List (Key × V)) | dT (kvs : List (List Key × V))
 /-- a set of ints: its members, its size -/
 | set (S : Int → Bool) (n : Nat)
 /-- an instance of the class at C, its dict at dx, its attributes -/
 | ins (C dx : Addr) (fs : List (Str × V))
 /-- the dict of the instance at x -/
 | own (x : Addr)
 /-- the dict of an exception -/
 | xd (fs : List (Str × V))
 /-- a bound method, f of x -/
 | met (f x : Addr)
 /-- a range object lo, lo + 1, .. below hi -/
 | rng (lo hi : Int)
 /-- a thing that is known to the object (the script; a dict while a loop walks it): read, never written while it is so -/
 | frz (o : Obj) (u : HO)
 /-- a code object's table -/
 | tbl (ps : Array Value)
 /-- any other thing, by what is true of its one object (a def of one's own: SetO a S n := HO.ext fun h => ..) -/
 | ext (φ : Heap → Prop)
abbrev Hp := Addr → Option HO
def upd (H : Hp) (a : Addr) (o : HO) : Hp := fun b => if b = a then some o else H b
theorem za0 {H : Hp} {a : Addr} {o : HO} : upd H a o a = some o := by unfold upd; rw [if_pos rfl]
theorem zaA {H : Hp} {a b : Addr} {o : HO} (h : b ≠ a) : upd H a o b = H b := by unfold upd; rw [if_neg h]
theorem ztM {H : Hp} {a b : Addr} {o u : HO} (h : H a = some o) (h' : H b = some u) (d : o ≠ u) : a ≠ b := by
 intro e; subst e; rw [h] at h'; exact d (Option.some.inj h')
theorem zal {H : Hp} {a b : Addr} {o : HO} (h : H a = some o) (h' : H b = none) : a ≠ b := by
 intro e; subst e; rw [h] at h'; cases h'
section
variable (P : Program) (w : World)
def zbw (H : Hp) (h : Heap) (a : Addr) : HO → Prop
 | .lst xs => xs.length ≤ sizeLine ∧ ∃ (its : List Value) (n : Nat), Vals xs its ∧ h.get? a = some { cls := .type "list", data := .seq its.toArray n }
 | .tup xs => xs.length ≤ sizeLine ∧ ∃ its : List Value, Vals xs its ∧ IsTup h a its.toArray
 | .dK kvs => kvs.length ≤ sizeLine ∧ (a == sysModules) = false ∧ ∃ vs, KV kvs vs ∧ h.DictOf (zaz P w) a vs
 | .dT kvs => kvs.length ≤ sizeLine ∧ (a == sysModules) = false ∧ ∃ xs : List (List Key × Addr × Value),
   Paired (fun (p : List Key × V) (q : List Key × Addr × Value) => p.1 = q.1 ∧ H q.2.1 = some (.tup (p.1.map kV)) ∧ RelV p.2 q.2.2) kvs xs ∧
   ∃ o es ep, h.get? a = some o ∧ o.ExactDict ∧ o.data = .dict es ep ∧ es.toList = xs.map (entryOfKey (tupleKind (zaz P w))) ∧ (xs.map (·.1)).Nodup
 | .set S n => h.SetOf (intKind P w) a S n
 | .ins C dx fs => H dx = some (.own a) ∧ fs.length ≤ 1000 ∧ dx ≠ a ∧ h.get? a = some (PySem.W.instObj C dx) ∧
   ∃ mA, h.Ns1 dx mA ∧ (∀ f, RelO (fs.lookup f) (mA f)) ∧ PySem.Within mA (fs.map (·.1))
 | .own _ => ∃ o, h.get? a = some o
 | .xd fs => ∃ mA, h.Ns1 a mA ∧ ∀ f, RelO (fs.lookup f) (mA f)
 | .rng lo hi => ∃ t u v, h.get? a = some { cls := .type "range", data := .fields #[.int lo t, .int hi u, .int 1 v] }
 | .frz o u => h.get? a = some o ∧ zbw H h a u
 | .tbl ps => h.get? a = some { cls := .none, data := .fields ps }
 | .met f x => h.get? a = some (PySem.W.methodObj (.ref f) (.ref x))
 | .ext φ => φ h ∧ (∃ o, h.get? a = some o) ∧ ∀ h1 h2 : Heap, φ h1 → (∀ o, h1.get? a = some o → h2.get? a = some o) → φ h2
def HOk (H : Hp) (h : Heap) : Prop := ∀ a o, H a = some o → zbw P w H h a o
end
section
variable {P : Program} {w : World} {H H' : Hp} {h h' : Heap} {a : Addr} {o : HO}
theorem zbw.lt (x : zbw P w H h a o) : a < h.objs.size := by
 cases o with
 | lst xs => obtain ⟨_, _, _, _, e⟩ := x; exact Heap.lt_size e
 | tup xs => obtain ⟨_, _, _, p⟩ := x; exact p.lt
 | dK kvs => obtain ⟨_, _, _, _, o, _, _, e, _⟩ := x; exact Heap.lt_size e
 | dT kvs => obtain ⟨_, _, _, _, o, _, _, e, _⟩ := x; exact Heap.lt_size e
 | set S n => obtain ⟨o, _, _, _, e, _⟩ := x; exact Heap.lt_size e
 | ins C dx fs => obtain ⟨_, _, _, e, _⟩ := x; exact Heap.lt_size e
 | own y => obtain ⟨_, e⟩ := x; exact Heap.lt_size e
 | xd fs => obtain ⟨_, ⟨_, _, _, e, _⟩, _⟩ := x; exact Heap.lt_size e
 | rng lo hi => obtain ⟨_, _, _, e⟩ := x; exact Heap.lt_size e
 | frz ob u => obtain ⟨e, _⟩ := x; exact Heap.lt_size e
 | tbl ps => exact Heap.lt_size (show h.get? a = some _ from x)
 | met f y => exact Heap.lt_size (show h.get? a = some _ from x)
 | ext φ => obtain ⟨_, ⟨_, e⟩, _⟩ := x; exact Heap.lt_size e
theorem Paired.mapP {α β : Type} {F G : α → β → Prop} : ∀ {l₁ : List α} {l₂ : List β}, Paired F l₁ l₂ → (∀ a b, F a b → G a b) → Paired G l₁ l₂
 | _, _, .nil, _ => .nil
 | _, _, .cons r t, f => .cons (f _ _ r) (Paired.mapP t f)
theorem zbw.stay (x : zbw P w H h a o) (k : ∀ b u, (b = a ∨ H b = some (.own a)) → h.get? b = some u → h'.get? b = some u)
  (ho : ∀ b, H b = some (.own a) → H' b = some (.own a)) (ht : ∀ b xs, H b = some (.tup xs) → H' b = some (.tup xs)) : zbw P w H' h' a o := by
 induction o with
 | lst xs => obtain ⟨z, its, n, r, e⟩ := x; exact ⟨z, its, n, r, k _ _ (.inl rfl) e⟩
 | tup xs => obtain ⟨z, its, r, ob, e, c⟩ := x; exact ⟨z, its, r, ob, k _ _ (.inl rfl) e, c⟩
 | dK kvs => obtain ⟨z, y, vs, r, ob, es, ep, e, c⟩ := x; exact ⟨z, y, vs, r, ob, es, ep, k _ _ (.inl rfl) e, c⟩
 | dT kvs =>
  obtain ⟨z, y, xs, r, ob, es, ep, e, c⟩ := x
  exact ⟨z, y, xs, Paired.mapP r fun p q z => ⟨z.1, ht _ _ z.2.1, z.2.2⟩, ob, es, ep, k _ _ (.inl rfl) e, c⟩
 | set S n => obtain ⟨ob, es, ep, t, e, c⟩ := x; exact ⟨ob, es, ep, t, k _ _ (.inl rfl) e, c⟩
 | ins C dx fs =>
  obtain ⟨d, z, ne, e, mA, ⟨od, es, ep, e2, c⟩, r⟩ := x
  exact ⟨ho _ d, z, ne, k _ _ (.inl rfl) e, mA, ⟨od, es, ep, k _ _ (.inr d) e2, c⟩, r⟩
 | own y => obtain ⟨ob, e⟩ := x; exact ⟨ob, k _ _ (.inl rfl) e⟩
 | xd fs => obtain ⟨mA, ⟨od, es, ep, e, c⟩, r⟩ := x; exact ⟨mA, ⟨od, es, ep, k _ _ (.inl rfl) e, c⟩, r⟩
 | rng lo hi => obtain ⟨t, u, v, e⟩ := x; exact ⟨t, u, v, k _ _ (.inl rfl) e⟩
 | frz ob u ih => obtain ⟨e, q⟩ := x; exact ⟨k _ _ (.inl rfl) e, ih q⟩
 | tbl ps =>
  have e : h.get? a = some { cls := .none, data := .fields ps } := x
  show h'.get? a = some { cls := .none, data := .fields ps }
  exact k a _ (.inl rfl) e
 | met f y =>
  have e : h.get? a = some (PySem.W.methodObj (.ref f) (.ref y)) := x
  show h'.get? a = some (PySem.W.methodObj (.ref f) (.ref y))
  exact k a _ (.inl rfl) e
 | ext φ => obtain ⟨p, ⟨o, e⟩, st⟩ := x; exact ⟨st _ _ p fun o q => k _ _ (.inl rfl) q, ⟨o, k _ _ (.inl rfl) e⟩, st⟩
theorem HOk.lt (x : HOk P w H h) (e : H a = some o) : a < h.objs.size := (x a o e).lt
theorem HOk.fresh (x : HOk P w H h) (e : h.objs.size ≤ a) : H a = none := by
 cases q : H a with
 | none => rfl
 | some u => exact absurd (Nat.lt_of_lt_of_le (x.lt q) e) (Nat.lt_irrefl _)
theorem HOk.kept (x : HOk P w H h) (k : ∀ b u, h.get? b = some u → h'.get? b = some u) : HOk P w H h' := fun a o e =>
 (x a o e).stay (fun b u _ q => k b u q) (fun _ q => q) fun _ _ q => q
theorem HOk.laid (x : HOk P w H h) (k : ∀ b u, h.get? b = some u → h'.get? b = some u) (hp : h.objs.size ≤ a) (new : zbw P w (upd H a o) h' a o) : HOk P w (upd H a o) h' := fun b u e => by
 have hn := x.fresh hp
 by_cases hb : b = a
 ·subst hb; rw [za0] at e; cases e; exact new
 ·rw [zaA hb] at e
  exact (x b u e).stay (fun c v _ q => k c v q) (fun c q => by rw [zaA (zal q hn)]; exact q) fun c xs q => by rw [zaA (zal q hn)]; exact q
end
def Rd (H : Hp) (a : Addr) (u : HO) : Prop := H a = some u ∨ ∃ o, H a = some (.frz o u)
theorem Rd.ok {P : Program} {w : World} {H : Hp} {h : Heap} {a : Addr} {u : HO} (r : Rd H a u) (x : HOk P w H h) : zbw P w H h a u := by
 rcases r with r | ⟨o, r⟩
 ·exact x a u r
 ·obtain ⟨_, q⟩ := x a _ r
  exact q
def Mut : Option HO → Prop
 | some (.lst _) => True
 | some (.dK _) => True
 | some (.dT _) => True
 | some (.set _ _) => True
 | some (.ins _ _ _) => True
 | some (.ext _) => True
 | _ => False
section
variable {P : Program} {w : World} {H : Hp} {h h' : Heap} {x e : Addr} {o' : HO}
theorem HOk.write (ok : HOk P w H h) (mu : Mut (H x)) (he : e = x ∨ H e = some (.own x)) (k : ∀ b u, b ≠ e → h.get? b = some u → h'.get? b = some u) (heo : ∃ u, h'.get? e = some u)
  (new : zbw P w (upd H x o') h' x o') : HOk P w (upd H x o') h' := fun b u q => by
 have nown : ∀ c y, H c = some (.own y) → c ≠ x := fun c y r z => by subst z; rw [r] at mu; exact mu
 have ntup : ∀ c xs, H c = some (.tup xs) → c ≠ x := fun c xs r z => by subst z; rw [r] at mu; exact mu
 by_cases hb : b = x
 ·subst hb; rw [za0] at q; cases q; exact new
 ·rw [zaA hb] at q
  by_cases hbe : b = e
  ·have q' : H b = some (.own x) := by
    rcases he with z | z
    ·exact absurd (hbe.trans z) hb
    ·rw [hbe]; exact z
   rw [q] at q'; cases q'
   obtain ⟨v, hv⟩ := heo
   exact ⟨v, by rw [hbe]; exact hv⟩
  ·refine (ok b u q).stay (fun c v hc r => k c v ?_ r) (fun c r => by rw [zaA (nown c b r)]; exact r) fun c xs r => by rw [zaA (ntup c xs r)]; exact r
   rcases hc with rfl | hc
   ·exact hbe
   ·rintro rfl
    rcases he with z | z
    ·exact nown c b hc z
    ·rw [hc] at z; cases z; exact hb rfl
end
structure Un (fs ex : List Addr) (H H' : Hp) (h h' : Heap) : Prop where
 keep : ∀ b o, h.get? b = some o → H b = none → b ∉ fs → b ∉ ex → h'.get? b = some o
 slot : ∀ b o, h.get? b = some o → H b = none → b ∈ fs → b ∉ ex → ∃ sl, h'.get? b = some { o with slots := sl }
 free : ∀ b o, h.get? b = some o → H b = none → b ∉ ex → H' b = none
 there : ∀ b o, h.get? b = some o → b ∉ ex → ∃ o', h'.get? b = some o'
 tups : ∀ b xs, H b = some (.tup xs) → H' b = some (.tup xs)
 frzs : ∀ b o u, H b = some (.frz o u) → H' b = some (.frz o u)
 tbls : ∀ b ps, H b = some (.tbl ps) → ∃ more, H' b = some (.tbl (ps ++ more))
section
variable {fs fs' ex ex' : List Addr} {H H1 H2 : Hp} {h h1 h2 h' : Heap} {a x e : Addr} {o : HO}
theorem Un.any (u : Un fs ex H H1 h h1) {b : Addr} {ob : Obj} (q : h.get? b = some ob) (n : H b = none) (hx : b ∉ ex) : ∃ sl, h1.get? b = some { ob with slots := sl } := by
 by_cases hb : b ∈ fs
 ·exact u.slot b ob q n hb hx
 ·exact ⟨ob.slots, u.keep b ob q n hb hx⟩
theorem Un.kept (k : ∀ b u, h.get? b = some u → h'.get? b = some u) : Un fs ex H H h h' :=
 ⟨fun b ob q _ _ _ => k b ob q, fun b ob q _ _ _ => ⟨ob.slots, k b ob q⟩, fun _ _ _ n _ => n, fun b ob q _ => ⟨ob, k b ob q⟩, fun _ _ q => q, fun _ _ _ q => q, fun _ ps q => ⟨#[], by rw [q]; simp⟩⟩
theorem Un.refl : Un fs ex H H h h := Un.kept fun _ _ q => q
theorem Un.laid (k : ∀ b u, h.get? b = some u → h'.get? b = some u) (hp : h.objs.size ≤ a) (hn : H a = none) : Un fs ex H (upd H a o) h h' where
 keep := fun b u q _ _ _ => k b u q
 slot := fun b u q _ _ _ => ⟨u.slots, k b u q⟩
 free := fun b u q n _ => by rw [zaA (Nat.ne_of_lt (Nat.lt_of_lt_of_le (Heap.lt_size q) hp))]; exact n
 there := fun b u q _ => ⟨u, k b u q⟩
 tups := fun b xs q => by rw [zaA (zal q hn)]; exact q
 frzs := fun b u xs q => by rw [zaA (zal q hn)]; exact q
 tbls := fun b ps q => ⟨#[], by rw [zaA (zal q hn), q]; simp⟩
theorem Un.write (mu : Mut (H x)) (he : e = x ∨ H e = some (.own x)) (k : ∀ b u, b ≠ e → h.get? b = some u → h'.get? b = some u) (heo : ∃ u, h'.get? e = some u) : Un fs ex H (upd H x o) h h' := by
 have hx : ∀ b, H b = none → b ≠ x := fun b n z => by subst z; rw [n] at mu; exact mu
 have hb : ∀ b, H b = none → b ≠ e := fun b n z => by
  subst z
  rcases he with r | r
  ·exact hx b n r
  ·rw [n] at r; cases r
 have hm : ∀ b u, H b = some u → ¬ Mut (some u) → b ≠ x := fun b u q nm z => by subst z; rw [q] at mu; exact nm mu
 refine ⟨fun b u q n _ _ => k b u (hb b n) q, fun b u q n _ _ => ⟨u.slots, k b u (hb b n) q⟩, fun b u q n _ => by rw [zaA (hx b n)]; exact n, fun b u q _ => ?_,
  fun b xs q => by rw [zaA (hm b _ q fun z => z)]; exact q, fun b u xs q => by rw [zaA (hm b _ q fun z => z)]; exact q, fun b ps q => ⟨#[], by rw [zaA (hm b _ q fun z => z), q]; simp⟩⟩
 by_cases hbe : b = e
 ·subst hbe; exact heo
 ·exact ⟨u, k b u hbe q⟩
end
def trk (h : Heap) (H : Hp) : List Addr := (List.range h.objs.size).filter fun a => (H a).isSome
def hidT (h : Heap) (H : Hp) : Heap := PySem.W.hideAll h (trk h H)
theorem zlB (h : Heap) (H : Hp) : (hidT h H).objs.size = h.objs.size := PySem.W.hideAll_size _ _
theorem znt {h : Heap} {H : Hp} {b : Addr} {o : Obj} (e : h.get? b = some o) (n : H b = none) : (hidT h H).get? b = some o :=
 PySem.W.hideAll_get _ e fun hm => by
  have q : (H b).isSome = true := (List.mem_filter.mp hm).2
  rw [n] at q; simp at q
theorem zpv {h : Heap} {H : Hp} {b : Addr} {o : Obj} (e : (hidT h H).get? b = some o) : h.get? b = some o ∧ H b = none := by
 have e' : h.get? b = some o := PySem.W.of_hideAll (trk h H) e
 refine ⟨e', ?_⟩
 cases q : H b with
 | none => rfl
 | some x =>
  have hm : b ∈ trk h H := List.mem_filter.mpr ⟨List.mem_range.mpr (Heap.lt_size e'), by simp [q]⟩
  have z : (hidT h H).get? b = none := PySem.W.hideAll_none (trk h H) hm
  rw [z] at e; cases e
end L2
namespace L2
open PySem PySem.Spec PyProof.Rows
structure Mod (K : PySem.W.Frag) (mg : Str → Option Value) (base : Heap) : Prop where
 kin : K.In base
 glob : base.Ns mainGlobals mg
 blt : ∃ mb, base.Ns builtinsNs mb ∧ ∀ x : Str, x ≠ "__name__" → mb x = bootBuiltins x
 nolimit : base.NoLimit
structure Cx where
 prog : Program
 w : World
 K : PySem.W.Frag
 mg : Str → Option Value
 base : Heap
 A : Around
 N : List Str
 s₀ : Shared
 H₀ : Hp
 env : Env
 outer : List Env
 stack : List Env
 ex : List Addr
 fn : Str → Bool
 calm : Bool
 pn : List (Addr × Obj)
 xe : Value → Shared → Prop
def frs (l : List Env) : List Addr := l.filterMap (·.frame)
abbrev Cx.fs (X : Cx) : List Addr := frs X.outer
def Vis (sc : Scope) (x : Str) : Prop := sc.names.lookup x = some .local ∨ sc.names.lookup x = some .cell ∨ sc.names.lookup x = some .free
def Loc (sc : Scope) (x : Str) : Prop := sc.names.lookup x = some .local ∨ sc.names.lookup x = some .cell
def Look (env : Env) (h : Heap) (m : Str → Option Value) (x : Str) (u : Value) : Prop :=
 (env.kindOf x = some .local ∧ m x = some u) ∨ ((env.kindOf x = some .cell ∨ env.kindOf x = some .free) ∧ ∃ c, env.cells.lookup x = some c ∧ h.IsCell c (some u))
structure Cx.Ok (X : Cx) : Prop where
 mod : Mod X.K X.mg X.base
 kind : X.env.scope.kind = .function
 glob : X.env.globals = mainGlobals
 blt : X.env.builtins = builtinsNs
 above : X.s₀.heap.objs.size ≤ X.env.locals
 inj : ∀ x y c, X.env.cells.lookup x = some c → X.env.cells.lookup y = some c → x = y
 has : ∀ x, (X.env.kindOf x = some .cell ∨ X.env.kindOf x = some .free) → ∃ c, X.env.cells.lookup x = some c
 cab : ∀ x c, X.fn x = true → X.env.cells.lookup x = some c → X.s₀.heap.objs.size ≤ c
 hd : X.calm = true → X.A.handled = none
 frames : X.A.frames = some X.stack
 stk : X.stack = X.outer ∨ (X.stack = X.env :: X.outer ∧ X.env.frame = some X.env.locals)
 exf : ∀ b ∈ X.ex, b ≠ X.env.locals ∧ ∀ x c, X.env.cells.lookup x = some c → c ≠ b
 bs : ∀ b o, X.base.get? b = some o → X.s₀.heap.get? b = some o ∧ X.H₀ b = none
 bsz : X.base.objs.size ≤ X.s₀.heap.objs.size
 noex : ∀ b o, X.base.get? b = some o → b ∉ X.ex
 exfs : ∀ b ∈ X.ex, b ∉ X.fs
 funs : X.s₀.heap.FunFrames X.base X.outer
 frf : ∀ b ∈ X.fs, X.H₀ b = none
structure Inv (X : Cx) (pins : List (Addr × Obj)) (σ : List (Option V)) (H : Hp) (s : Shared) : Prop where
 ok : X.Ok
 os : s.os = X.s₀.os
 bare : AllBare s.gens
 base : Un X.fs X.ex X.H₀ H X.s₀.heap s.heap
 loc : ∃ m, s.heap.Ns X.env.locals m ∧ ∀ (i : Nat) (x : Str) (v : V), X.N[i]? = some x → σ[i]? = some (some v) → Vis X.env.scope x → ∃ u, RelV v u ∧ Look X.env s.heap m x u
 cell : ∀ x c, X.env.cells.lookup x = some c → ∃ v, s.heap.IsCell c v
 free : H X.env.locals = none
 freeC : ∀ x c, X.env.cells.lookup x = some c → H c = none
 pin : ∀ p ∈ X.pn ++ pins, s.heap.get? p.1 = some p.2 ∧ H p.1 = none ∧ p.1 ≠ X.env.locals ∧ p.1 ∉ X.fs ∧ ∀ v, p.2.data ≠ .cell v
 hok : HOk X.prog X.w H s.heap
 len : σ.length = X.N.length
section
variable {X : Cx} {pins : List (Addr × Obj)} {σ : List (Option V)} {H H' : Hp} {s : Shared} {h' : Heap}
theorem Cx.Ok.nofr (ok : X.Ok) {b : Addr} {o : Obj} (e : X.base.get? b = some o) : b ∉ X.fs := fun hb => by
 have := (ok.funs.mem hb).1
 rw [e] at this; cases this
theorem Inv.bs (I : Inv X pins σ H s) : ∀ b o, X.base.get? b = some o → s.heap.get? b = some o ∧ H b = none := fun b o e =>
 ⟨I.base.keep b o (I.ok.bs b o e).1 (I.ok.bs b o e).2 (I.ok.nofr e) (I.ok.noex b o e), I.base.free b o (I.ok.bs b o e).1 (I.ok.bs b o e).2 (I.ok.noex b o e)⟩
theorem Inv.bk (I : Inv X pins σ H s) : ∀ b o, X.base.get? b = some o → s.heap.get? b = some o := fun b o e => (I.bs b o e).1
theorem Inv.mod (I : Inv X pins σ H s) : Mod X.K X.mg X.base := I.ok.mod
theorem Inv.kIn (I : Inv X pins σ H s) : X.K.In s.heap := I.ok.mod.kin.keeps I.bk
theorem Inv.lt (I : Inv X pins σ H s) : X.env.locals < s.heap.objs.size := let ⟨_, hn, _⟩ := I.loc; hn.lt
theorem Inv.sz (I : Inv X pins σ H s) : X.s₀.heap.objs.size ≤ s.heap.objs.size := Nat.le_trans I.ok.above (Nat.le_of_lt I.lt)
theorem Inv.nofs (I : Inv X pins σ H s) {a : Addr} (h : s.heap.objs.size ≤ a) : a ∉ X.fs := fun hb => by
 obtain ⟨_, o, ho, _⟩ := I.ok.funs.mem hb
 exact absurd (Nat.lt_of_lt_of_le (Heap.lt_size ho) (Nat.le_trans I.sz h)) (Nat.lt_irrefl _)
theorem Inv.cne (I : Inv X pins σ H s) : ∀ x c, X.env.cells.lookup x = some c → c ≠ X.env.locals := fun x c e z => by
 obtain ⟨v, o, ho, hd⟩ := I.cell x c e
 obtain ⟨m, ⟨o', es, ep, ho', hd', _⟩, _⟩ := I.loc
 rw [z, ho'] at ho; cases ho; rw [hd'] at hd; cases hd
theorem Inv.funs (I : Inv X pins σ H s) : s.heap.FunFrames X.base X.outer := by
 have all : ∀ (l : List Env), (∀ b ∈ frs l, b ∈ X.fs) → X.s₀.heap.FunFrames X.base l → s.heap.FunFrames X.base l := by
  intro l
  induction l with
  | nil => intro _ _; trivial
  | cons env r ih =>
   intro hs hl
   obtain ⟨hk, ⟨L, o, hf, hn, ho, hd⟩, hr⟩ := hl
   have hL : L ∈ X.fs := hs L (by unfold frs; rw [List.filterMap_cons, hf]; exact List.mem_cons_self)
   obtain ⟨sl, e⟩ := I.base.slot L o ho (I.ok.frf L hL) hL fun z => I.ok.exfs L z hL
   exact ⟨hk, ⟨L, _, hf, hn, e, hd⟩, ih (fun b hb => hs b (by unfold frs; rw [List.filterMap_cons, hf]; exact List.mem_cons_of_mem _ hb)) hr⟩
 exact all X.outer (fun _ hb => hb) I.ok.funs
theorem Inv.stack (I : Inv X pins σ H s) : s.heap.FunFrames X.base X.stack := by
 rcases I.ok.stk with e | ⟨e, hf⟩
 ·rw [e]; exact I.funs
 ·rw [e]
  obtain ⟨m, hn, _⟩ := I.loc
  refine .cons (by rw [I.ok.kind]; decide) hf hn ?_ I.funs
  exact Heap.get?_none_of_le (Nat.le_trans I.ok.bsz I.ok.above)
theorem Inv.stkSub (I : Inv X pins σ H s) : ∀ b ∈ frs X.stack, b ∈ X.env.locals :: X.fs := fun b hb => by
 rcases I.ok.stk with e | ⟨e, hf⟩
 ·rw [e] at hb; exact List.mem_cons_of_mem _ hb
 ·rw [e] at hb
  unfold frs at hb
  rw [List.filterMap_cons, hf] at hb
  exact hb
theorem Inv.stkFree (I : Inv X pins σ H s) : ∀ b ∈ frs X.stack, H b = none := fun b hb => by
 rcases List.mem_cons.mp (I.stkSub b hb) with e | hb
 ·rw [e]; exact I.free
 ·obtain ⟨_, o, ho, _⟩ := I.ok.funs.mem hb
  exact I.base.free b o ho (I.ok.frf b hb) fun z => I.ok.exfs b z hb
theorem Inv.step {g' : Array GenState} {t' : Nat} {d' : Drawn} {ch : List Addr} (I : Inv X pins σ H s)
  (hch : ∀ b ∈ ch, (b ∈ X.ex ∨ X.s₀.heap.objs.size ≤ b) ∧ b ≠ X.env.locals ∧ (∀ x c, X.env.cells.lookup x = some c → c ≠ b) ∧ ∀ p ∈ X.pn ++ pins, p.1 ≠ b)
  (keep : ∀ b o, b ≠ X.env.locals → b ∉ X.fs → b ∉ ch → s.heap.get? b = some o → H b = none → h'.get? b = some o)
  (slot : ∀ b o, b ≠ X.env.locals → b ∈ X.fs → b ∉ ch → s.heap.get? b = some o → H b = none → ∃ sl, h'.get? b = some { o with slots := sl }) (free : ∀ b o, b ∉ ch → s.heap.get? b = some o → H b = none → H' b = none)
  (there : ∀ b o, b ∉ ch → s.heap.get? b = some o → ∃ o', h'.get? b = some o')
  (tups : ∀ b xs, H b = some (.tup xs) → H' b = some (.tup xs)) (frzs : ∀ b o u, H b = some (.frz o u) → H' b = some (.frz o u)) (tbls : ∀ b ps, H b = some (.tbl ps) → ∃ more, H' b = some (.tbl (ps ++ more)))
  (ns : ∀ m, s.heap.Ns X.env.locals m → h'.Ns X.env.locals m) (hok : HOk X.prog X.w H' h') (hg : AllBare g') :
  Inv X pins σ H' { s with heap := h', gens := g', drawn := d', toks := t' } := by
 have neL : ∀ b o, X.s₀.heap.get? b = some o → b ≠ X.env.locals := fun b o e => Nat.ne_of_lt (Nat.lt_of_lt_of_le (Heap.lt_size e) I.ok.above)
 have neC : ∀ b o, X.s₀.heap.get? b = some o → b ∉ X.ex → b ∉ ch := fun b o e hx hb => by
  rcases (hch b hb).1 with z | z
  ·exact hx z
  ·exact absurd (Nat.lt_of_lt_of_le (Heap.lt_size e) z) (Nat.lt_irrefl _)
 have cellK : ∀ x c, X.env.cells.lookup x = some c → ∀ v, s.heap.IsCell c v → h'.IsCell c v := fun x c e v ⟨o, ho, hd⟩ => by
  have nch : c ∉ ch := fun z => (hch c z).2.2.1 x c e rfl
  by_cases hc : c ∈ X.fs
  ·obtain ⟨sl, q⟩ := slot c o (I.cne x c e) hc nch ho (I.freeC x c e)
   exact ⟨_, q, hd⟩
  ·exact ⟨o, keep c o (I.cne x c e) hc nch ho (I.freeC x c e), hd⟩
 refine ⟨I.ok, I.os, hg, ⟨fun b o e n hb hx => ?_, fun b o e n hb hx => ?_, fun b o e n hx => ?_, fun b o e hx => ?_, fun b xs e => tups b xs (I.base.tups b xs e), fun b o xs e => frzs b o xs (I.base.frzs b o xs e), fun b ps e => ?_⟩, ?_, fun x c e => ?_, ?_, fun x c e => ?_, fun p hp => ?_, hok, I.len⟩
 ·exact keep b o (neL b o e) hb (neC b o e hx) (I.base.keep b o e n hb hx) (I.base.free b o e n hx)
 ·obtain ⟨sl, e1⟩ := I.base.slot b o e n hb hx
  obtain ⟨sl', e2⟩ := slot b _ (neL b o e) hb (neC b o e hx) e1 (I.base.free b o e n hx)
  exact ⟨sl', e2⟩
 ·obtain ⟨o', e1⟩ := I.base.there b o e hx
  exact free b o' (neC b o e hx) e1 (I.base.free b o e n hx)
 ·obtain ⟨o', e1⟩ := I.base.there b o e hx
  exact there b o' (neC b o e hx) e1
 ·obtain ⟨m1, e1⟩ := I.base.tbls b ps e
  obtain ⟨m2, e2⟩ := tbls b _ e1
  exact ⟨m1 ++ m2, by rw [e2, Array.append_assoc]⟩
 ·obtain ⟨m, hn, hl⟩ := I.loc
  refine ⟨m, ns m hn, fun i x v e1 e2 e3 => ?_⟩
  obtain ⟨u, r, l⟩ := hl i x v e1 e2 e3
  refine ⟨u, r, ?_⟩
  rcases l with l | ⟨k, c, e, z⟩
  ·exact .inl l
  ·exact .inr ⟨k, c, e, cellK x c e _ z⟩
 ·obtain ⟨v, z⟩ := I.cell x c e
  exact ⟨v, cellK x c e v z⟩
 ·obtain ⟨m, ⟨o, _, _, ho, _⟩, _⟩ := I.loc
  exact free _ o (fun z => (hch _ z).2.1 rfl) ho I.free
 ·obtain ⟨v, o, ho, hd⟩ := I.cell x c e
  exact free c o (fun z => (hch c z).2.2.1 x c e rfl) ho (I.freeC x c e)
 ·obtain ⟨e, n, ne, nf, d⟩ := I.pin p hp
  have nch : p.1 ∉ ch := fun z => (hch p.1 z).2.2.2 p hp rfl
  exact ⟨keep p.1 p.2 ne nf nch e n, free p.1 p.2 nch e n, ne, nf, d⟩
theorem Inv.un {t' : Nat} (I : Inv X pins σ H s) (u : Un X.fs [] H H' s.heap h') (hok : HOk X.prog X.w H' h') : Inv X pins σ H' { s with heap := h', toks := t' } := by
 obtain ⟨m, ⟨o, es, ep, ho, r⟩, _⟩ := id I.loc
 obtain ⟨sl, hL⟩ := u.any ho I.free (by simp)
 exact I.step (g' := s.gens) (d' := s.drawn) (ch := []) (fun _ z => nomatch z) (fun b o _ hb _ e n => u.keep b o e n hb (by simp)) (fun b o _ hb _ e n => u.slot b o e n hb (by simp)) (fun b o _ e n => u.free b o e n (by simp)) (fun b o _ e => u.there b o e (by simp)) u.tups u.frzs u.tbls (fun m' hm => by
  obtain ⟨o', es', ep', ho', r'⟩ := hm
  rw [ho] at ho'; cases ho'
  exact ⟨_, es', ep', hL, r'⟩) hok I.bare
theorem Inv.call {g' : Array GenState} {t' : Nat} {d' : Drawn} {ch : List Addr} (I : Inv X pins σ H s) (u : Un (frs X.stack) ch H H' s.heap h') (hok : HOk X.prog X.w H' h') (hg : AllBare g')
  (hch : ∀ b ∈ ch, (b ∈ X.ex ∨ X.s₀.heap.objs.size ≤ b) ∧ b ≠ X.env.locals ∧ (∀ x c, X.env.cells.lookup x = some c → c ≠ b) ∧ ∀ p ∈ X.pn ++ pins, p.1 ≠ b) :
  Inv X pins σ H' { s with heap := h', gens := g', drawn := d', toks := t' } := by
 obtain ⟨m, ⟨o, es, ep, ho, r⟩, _⟩ := id I.loc
 obtain ⟨sl, hL⟩ := u.any ho I.free fun z => (hch _ z).2.1 rfl
 exact I.step (ch := ch) hch (fun b o hL hb hc e n => u.keep b o e n (fun z => (List.mem_cons.mp (I.stkSub b z)).elim hL hb) hc) (fun b o _ _ hc e n => u.any e n hc) (fun b o hc e n => u.free b o e n hc) (fun b o hc e => u.there b o e hc) u.tups u.frzs u.tbls (fun m' hm => by
  obtain ⟨o', es', ep', ho', r'⟩ := hm
  rw [ho] at ho'; cases ho'
  exact ⟨_, es', ep', hL, r'⟩) hok hg
theorem Inv.turned {t' : Nat} {it : Addr} (I : Inv X pins σ H s) (k : ∀ b o, b ≠ it → s.heap.get? b = some o → h'.get? b = some o) (hn : H it = none) (hL : it ≠ X.env.locals)
  (h1 : it ∈ X.ex ∨ X.s₀.heap.objs.size ≤ it) (h2 : ∀ x c, X.env.cells.lookup x = some c → c ≠ it) (h3 : ∀ p ∈ X.pn ++ pins, p.1 ≠ it) : Inv X pins σ H { s with heap := h', toks := t' } := by
 have nit : ∀ b u, H b = some u → b ≠ it := fun b u e z => by rw [z, hn] at e; cases e
 refine I.step (g' := s.gens) (d' := s.drawn) (ch := [it]) (fun b hb => ?_) (fun b o _ _ hc e _ => k b o (fun z => hc (by simp [z])) e) (fun b o _ _ hc e _ => ⟨o.slots, k b o (fun z => hc (by simp [z])) e⟩) (fun _ _ _ _ n => n)
  (fun b o hc e => ⟨o, k b o (fun z => hc (by simp [z])) e⟩) (fun _ _ e => e) (fun _ _ _ e => e) (fun b ps e => ⟨#[], by rw [e]; simp⟩) (fun m hm => ?_) (fun b u e => ?_) I.bare
 ·have e : b = it := by simpa using hb
  subst e
  exact ⟨h1, hL, h2, h3⟩
 ·obtain ⟨o, es, ep, ho, r⟩ := hm
  exact ⟨o, es, ep, k _ o (Ne.symm hL) ho, r⟩
 ·refine (I.hok b u e).stay (fun c v hc q => k c v ?_ q) (fun _ q => q) fun _ _ q => q
  rcases hc with z | z
  ·rw [z]; exact nit b u e
  ·exact nit c _ z
theorem Inv.tok (I : Inv X pins σ H s) (t : Nat) : Inv X pins σ H { s with toks := t } := I.un (h' := s.heap) (t' := t) Un.refl I.hok
theorem Inv.kept {t' : Nat} (I : Inv X pins σ H s) (k : ∀ b u, s.heap.get? b = some u → h'.get? b = some u) : Inv X pins σ H { s with heap := h', toks := t' } := I.un (Un.kept k) (I.hok.kept k)
theorem Inv.laid {a : Addr} {o : HO} {t' : Nat} (I : Inv X pins σ H s) (k : ∀ b u, s.heap.get? b = some u → h'.get? b = some u) (hp : s.heap.objs.size ≤ a) (new : zbw X.prog X.w (upd H a o) h' a o) :
  Inv X pins σ (upd H a o) { s with heap := h', toks := t' } := I.un (Un.laid k hp (I.hok.fresh hp)) (I.hok.laid k hp new)
theorem Inv.write {x e : Addr} {o : HO} {t' : Nat} (I : Inv X pins σ H s) (mu : Mut (H x)) (he : e = x ∨ H e = some (.own x)) (k : ∀ b u, b ≠ e → s.heap.get? b = some u → h'.get? b = some u) (heo : ∃ u, h'.get? e = some u)
  (new : zbw X.prog X.w (upd H x o) h' x o) : Inv X pins σ (upd H x o) { s with heap := h', toks := t' } := I.un (Un.write mu he k heo) (I.hok.write mu he k heo new)
theorem Inv.pins_of {pins' : List (Addr × Obj)} (I : Inv X pins σ H s) (h : ∀ p ∈ pins', s.heap.get? p.1 = some p.2 ∧ H p.1 = none ∧ p.1 ≠ X.env.locals ∧ p.1 ∉ X.fs ∧ ∀ v, p.2.data ≠ .cell v) : Inv X pins' σ H s :=
 ⟨I.ok, I.os, I.bare, I.base, I.loc, I.cell, I.free, I.freeC, fun p hp => (List.mem_append.mp hp).elim (fun z => I.pin p (List.mem_append_left _ z)) (h p), I.hok, I.len⟩
theorem zgC {N : List Str} (hN : N.Nodup) {i j : Nat} {x : Str} (a : N[i]? = some x) (b : N[j]? = some x) : i = j := by
 obtain ⟨h1, e1⟩ := List.getElem?_eq_some_iff.mp a
 obtain ⟨h2, e2⟩ := List.getElem?_eq_some_iff.mp b
 exact (List.getElem_inj hN).mp (e1.trans e2.symm)
theorem zhh {M : Model} {A : Around} {E : Value → Shared → Prop} {i : Nat} {x : Str} {v : V} {u : Value} {Q : Unit → Shared → Prop} (I : Inv X pins σ H s) (hN : X.N.Nodup) (hi : X.N[i]? = some x) (hx : Loc X.env.scope x) (r : RelV v u)
  (h : ∀ s', Inv X pins (σ.set i (some v)) H s' → (∃ a, Heap.SameBut a s.heap s'.heap ∧ (a = X.env.locals ∨ X.env.cells.lookup x = some a)) → Q () s') (hf : X.fn x = true ∨ X.env.scope.names.lookup x = some .local := by first | exact .inl rfl | exact .inr rfl | assumption) : wpAny M A (storeName X.env x u) Q E s := by
 obtain ⟨m, hn, hl⟩ := id I.loc
 have hcls : (X.env.scope.kind == .class || (X.env.scope.kind == .module && X.env.locals != X.env.globals)) = false := by rw [I.ok.kind]; rfl
 have hiσ : i < σ.length := by rw [I.len]; exact (List.getElem?_eq_some_iff.mp hi).1
 have cne := I.cne
 have tracked : ∀ {a : Addr} {h' : Heap}, (∃ o, s.heap.get? a = some o ∧ H a = none) → Heap.SameBut a s.heap h' → HOk X.prog X.w H h' := fun {a h'} ha hs b ob e => by
  obtain ⟨_, _, hfree⟩ := ha
  refine (I.hok b ob e).stay (fun c w' hc q => (hs.2 c ?_).trans q) (fun _ q => q) fun _ _ q => q
  rintro rfl
  rcases hc with rfl | hc
  ·rw [hfree] at e; cases e
  ·rw [hfree] at hc; cases hc
 rcases hx with hk | hk
 ·refine wpAny_storeName_local hk hn (fun h' hn' hs => ?_) hcls
  obtain ⟨oL, _, _, hoL, _⟩ := id hn
  refine h _ ⟨I.ok, I.os, I.bare, ⟨fun b o e n hb hx => ?_, fun b o e n hb hx => ?_, I.base.free, fun b o e hx => ?_, I.base.tups, I.base.frzs, I.base.tbls⟩, ⟨_, hn', fun j y v' e1 e2 e3 => ?_⟩, fun y c e => ?_, I.free, I.freeC, fun p hp => ?_, tracked ⟨oL, hoL, I.free⟩ hs, by simpa using I.len⟩ ⟨_, hs, .inl rfl⟩
  ·exact (hs.2 b (Nat.ne_of_lt (Nat.lt_of_lt_of_le (Heap.lt_size e) I.ok.above))).trans (I.base.keep b o e n hb hx)
  ·obtain ⟨sl, e1⟩ := I.base.slot b o e n hb hx
   exact ⟨sl, (hs.2 b (Nat.ne_of_lt (Nat.lt_of_lt_of_le (Heap.lt_size e) I.ok.above))).trans e1⟩
  ·obtain ⟨o', e1⟩ := I.base.there b o e hx
   exact ⟨o', (hs.2 b (Nat.ne_of_lt (Nat.lt_of_lt_of_le (Heap.lt_size e) I.ok.above))).trans e1⟩
  ·by_cases hj : j = i
   ·subst hj
    rw [hi] at e1; cases e1
    rw [List.getElem?_set_self hiσ] at e2
    cases e2
    exact ⟨u, r, .inl ⟨hk, by simp⟩⟩
   ·rw [List.getElem?_set_ne (Ne.symm hj)] at e2
    obtain ⟨u', r', q⟩ := hl j y v' e1 e2 e3
    refine ⟨u', r', ?_⟩
    rcases q with ⟨k, e⟩ | ⟨k, c, e, z⟩
    ·refine .inl ⟨k, ?_⟩
     have : y ≠ x := fun e => hj (zgC hN e1 (e ▸ hi))
     simp [this, e]
    ·exact .inr ⟨k, c, e, z.sameBut hs (cne y c e)⟩
  ·obtain ⟨w', z⟩ := I.cell y c e
   exact ⟨w', z.sameBut hs (cne y c e)⟩
  ·obtain ⟨e, n, ne, nf, d⟩ := I.pin p hp
   exact ⟨(hs.2 p.1 ne).trans e, n, ne, nf, d⟩
 ·have hfn : X.fn x = true := by
   rcases hf with z | z
   ·exact z
   ·rw [z] at hk; cases hk
  obtain ⟨c, hc⟩ := I.ok.has x (.inl hk)
  obtain ⟨w', z⟩ := I.cell x c hc
  refine wpAny_storeName_cell I.ok.kind hk hc z (fun h' hc' hs => ?_)
  obtain ⟨oc, hoc, hocd⟩ := id z
  refine h { s with heap := h' } ⟨I.ok, I.os, I.bare, ⟨fun b o e n hb hx => ?_, fun b o e n hb hx => ?_, I.base.free, fun b o e hx => ?_, I.base.tups, I.base.frzs, I.base.tbls⟩, ⟨m, hn.sameBut hs (Ne.symm (cne x c hc)), fun j y v' e1 e2 e3 => ?_⟩, fun y c' e => ?_, I.free, I.freeC, fun p hp => ?_, tracked ⟨oc, hoc, I.freeC x c hc⟩ hs, by simpa using I.len⟩ ⟨c, hs, .inr hc⟩
  ·exact (hs.2 b (Nat.ne_of_lt (Nat.lt_of_lt_of_le (Heap.lt_size e) (I.ok.cab x c hfn hc)))).trans (I.base.keep b o e n hb hx)
  ·obtain ⟨sl, e1⟩ := I.base.slot b o e n hb hx
   exact ⟨sl, (hs.2 b (Nat.ne_of_lt (Nat.lt_of_lt_of_le (Heap.lt_size e) (I.ok.cab x c hfn hc)))).trans e1⟩
  ·obtain ⟨o', e1⟩ := I.base.there b o e hx
   exact ⟨o', (hs.2 b (Nat.ne_of_lt (Nat.lt_of_lt_of_le (Heap.lt_size e) (I.ok.cab x c hfn hc)))).trans e1⟩
  ·by_cases hj : j = i
   ·subst hj
    rw [hi] at e1; cases e1
    rw [List.getElem?_set_self hiσ] at e2
    cases e2
    exact ⟨u, r, .inr ⟨.inl hk, c, hc, hc'⟩⟩
   ·rw [List.getElem?_set_ne (Ne.symm hj)] at e2
    obtain ⟨u', r', q⟩ := hl j y v' e1 e2 e3
    refine ⟨u', r', ?_⟩
    rcases q with q | ⟨k, c', e, z'⟩
    ·exact .inl q
    ·refine .inr ⟨k, c', e, z'.sameBut hs ?_⟩
     rintro rfl
     exact hj (zgC hN e1 (I.ok.inj _ _ _ e hc ▸ hi))
  ·by_cases hcc : c' = c
   ·subst hcc; exact ⟨_, hc'⟩
   ·obtain ⟨w2, z2⟩ := I.cell y c' e
    exact ⟨w2, z2.sameBut hs hcc⟩
  ·obtain ⟨e, n, ne, nf, d⟩ := I.pin p hp
   refine ⟨(hs.2 p.1 ?_).trans e, n, ne, nf, d⟩
   intro q
   rw [q, hoc] at e
   have q' : oc = p.2 := Option.some.inj e
   exact d w' (by rw [← q']; exact hocd)
theorem zdV {M : Model} {A : Around} {E : Value → Shared → Prop} {i : Nat} {x : Str} {v : V} {u : Value} {Q : Unit → Shared → Prop} (I : Inv X pins σ H s) (hN : X.N.Nodup) (hi : X.N[i]? = some x) (hx : Loc X.env.scope x) (r : RelV v u)
  (h : ∀ s', Inv X pins (σ.set i (some v)) H s' → Q () s') (hf : X.fn x = true ∨ X.env.scope.names.lookup x = some .local := by first | exact .inl rfl | exact .inr rfl | assumption) : wpAny M A (storeName X.env x u) Q E s :=
 zhh I hN hi hx r (fun s' I' _ => h s' I') hf
theorem Inv.call' {s' : Shared} {ch : List Addr} (I : Inv X pins σ H s) (ho : s'.os = s.os) (u : Un (frs X.stack) ch H H' s.heap s'.heap) (hok : HOk X.prog X.w H' s'.heap) (hg : AllBare s'.gens)
  (hch : ∀ b ∈ ch, (b ∈ X.ex ∨ X.s₀.heap.objs.size ≤ b) ∧ b ≠ X.env.locals ∧ (∀ x c, X.env.cells.lookup x = some c → c ≠ b) ∧ ∀ p ∈ X.pn ++ pins, p.1 ≠ b) : Inv X pins σ H' s' := by
 obtain ⟨h', g', d', t', o'⟩ := s'
 have e : o' = s.os := ho
 subst e
 exact I.call (g' := g') (t' := t') (d' := d') u hok hg hch
end
abbrev XK := Value → Option Addr → Hp → Prop
abbrev St := List (Option V)
abbrev VK := V → Hp → Prop
abbrev TE := St → Hp → VK → Prop
abbrev TT := St → Hp → (Bool → Hp → Prop) → Prop
abbrev TA := St → Hp → (List V → Hp → Prop) → Prop
structure Ends where
 nx : St → Hp → Prop
 rt : VK
 bk : St → Hp → Prop := fun _ _ => False
 ct : St → Hp → Prop := fun _ _ => False
abbrev TS := Ends → St → Hp → Prop
def EP (X : Cx) (pins : List (Addr × Obj)) (σ : St) (Q : VK) (u : Value) (s' : Shared) : Prop := ∃ v H', Inv X pins σ H' s' ∧ RelV v u ∧ Q v H'
def TP (X : Cx) (pins : List (Addr × Obj)) (σ : St) (Q : Bool → Hp → Prop) (b : Bool) (s' : Shared) : Prop := ∃ H', Inv X pins σ H' s' ∧ Q b H'
def AP (X : Cx) (pins : List (Addr × Obj)) (σ : St) (Q : List V → Hp → Prop) (us : List Value) (s' : Shared) : Prop := ∃ vs H', Inv X pins σ H' s' ∧ Vals vs us ∧ Q vs H'
def SP (X : Cx) (pins : List (Addr × Obj)) (D : Ends) (f : Flow) (s' : Shared) : Prop :=
 match f with
 | .next => ∃ σ' H', Inv X pins σ' H' s' ∧ D.nx σ' H'
 | .brk => ∃ σ' H', Inv X pins σ' H' s' ∧ D.bk σ' H'
 | .cont => ∃ σ' H', Inv X pins σ' H' s' ∧ D.ct σ' H'
 | .ret u => ∃ v σ' H', Inv X pins σ' H' s' ∧ RelV v u ∧ D.rt v H'
def PE (X : Cx) (e : Expr) (t : TE) : Prop :=
 ∀ (pins : List (Addr × Obj)) (s : Shared) (σ : St) (H : Hp) (Q : VK), Inv X pins σ H s → t σ H Q → wpAny (model X.prog X.w) X.A (eval e X.env) (EP X pins σ Q) X.xe s
def PT (X : Cx) (e : Expr) (t : TT) : Prop :=
 ∀ (pins : List (Addr × Obj)) (s : Shared) (σ : St) (H : Hp) (Q : Bool → Hp → Prop), Inv X pins σ H s → t σ H Q → wpAny (model X.prog X.w) X.A (isTrue e X.env (eval e X.env)) (TP X pins σ Q) X.xe s
def PW (X : Cx) (e : Expr) (t : TT) : Prop :=
 ∀ (whole : Sem Value) (pins : List (Addr × Obj)) (s : Shared) (σ : St) (H : Hp) (Q : Bool → Hp → Prop), Inv X pins σ H s → t σ H Q → wpAny (model X.prog X.w) X.A (isTrue e X.env whole) (TP X pins σ Q) X.xe s
theorem PW.pt {X : Cx} {e : Expr} {t : TT} (h : PW X e t) : PT X e t := h _
def PA (X : Cx) (es : List Expr) (t : TA) : Prop :=
 ∀ (pos : Pos) (pins : List (Addr × Obj)) (s : Shared) (σ : St) (H : Hp) (Q : List V → Hp → Prop), Inv X pins σ H s → t σ H Q → wpAny (model X.prog X.w) X.A (spliced (backTo pos (starEach es X.env))) (AP X pins σ Q) X.xe s
def PS (X : Cx) (st : Stmt) (t : TS) : Prop :=
 ∀ (pins : List (Addr × Obj)) (s : Shared) (σ : St) (H : Hp) (D : Ends), Inv X pins σ H s → t D σ H → wpAny (model X.prog X.w) X.A (exec st X.env) (SP X pins D) X.xe s
def PSs (X : Cx) (st : List Stmt) (t : TS) : Prop :=
 ∀ (pins : List (Addr × Obj)) (s : Shared) (σ : St) (H : Hp) (D : Ends), Inv X pins σ H s → t D σ H → wpAny (model X.prog X.w) X.A (execs st X.env) (SP X pins D) X.xe s
theorem thn {α : Type} {t : Sem α} {Q Q' : α → Shared → Prop} {M : Model} {A : Around} {E : Value → Shared → Prop} {s : Shared} (h : wpAny M A t Q E s) (hQ : ∀ a s, Q a s → Q' a s) : wpAny M A t Q' E s := wpAny_mono h hQ fun _ _ x => x
end L2
namespace L2
open PySem PySem.Spec PyProof.Rows
section
variable {X : Cx}
def tVar (i : Nat) : TE := fun σ H Q => ∃ v, σ[i]? = some (some v) ∧ Q v H
def tC (v : V) : TE := fun _ H Q => Q v H
theorem zrA {i : Nat} {x : Str} {pos : Pos} (hN : X.N[i]? = some x) (hv : Vis X.env.scope x) (hd : (x == ("__debug__" : Str)) = false := by decide) (hcd : (x == ("__classdict__" : Str)) = false := by decide) : PE X (.Name x pos) (tVar i) := by
 intro pins s σ H Q I h
 obtain ⟨v, e, h⟩ := h
 obtain ⟨m, hn, hl⟩ := I.loc
 obtain ⟨u, r, l⟩ := hl i x v hN e hv
 have fin : EP X pins σ Q u s := ⟨v, H, I, r, h⟩
 rcases l with ⟨hk, hm⟩ | ⟨hk, c, hc, hcell⟩
 ·exact wpAny_Name (wpAny_loadName_local I.ok.kind hk hn hm fin) hd
 ·rcases hk with hk | hk
  ·exact wpAny_Name (wpAny_loadName_cell I.ok.kind hk hc hcell fin) hd
  ·exact wpAny_Name (wpAny_loadName_free I.ok.kind hk hc hcell fin hcd) hd
theorem zrB {i j pos} : PE X (.Constant (.int i) j pos) (tC (.int i)) := fun _ _ _ H _ I h => wpAny_Constant_int ⟨.int i, H, I.tok _, ⟨_, rfl⟩, h⟩
theorem ztN {b j pos} : PE X (.Constant (.bool b) j pos) (tC (.bl b)) := fun _ _ _ H _ I h => Constant_bool ⟨.bl b, H, I, rfl, h⟩
theorem zrC {j pos} : PE X (.Constant .none j pos) (tC .non) := fun _ _ _ H _ I h => Constant_none ⟨.non, H, I, rfl, h⟩
theorem zrD {x j pos} : PE X (.Constant (.str x) j pos) (tC (.str x)) := fun _ _ _ H _ I h => Calls.Constant_str ⟨.str x, H, I.tok _, ⟨_, rfl⟩, h⟩
def Gl (X : Cx) (x : Str) : Prop := X.env.kindOf x = some .globalImplicit
theorem zfi {E : Value → Shared → Prop} {pins : List (Addr × Obj)} {s : Shared} {σ : St} {H : Hp} {x : Str} {u : Value} {pos : Pos} {Q : Value → Shared → Prop} (I : Inv X pins σ H s) (hg : Gl X x) (hm : X.mg x = some u) (h : Q u s)
  (hd : (x == ("__debug__" : Str)) = false := by decide) : wpAny (model X.prog X.w) X.A (eval (.Name x pos) X.env) Q E s :=
 Calls.Name_function_global I.ok.kind hg (Calls.loadGlobal_global (by rw [I.ok.glob]; exact I.mod.glob.keeps I.bk) hm h) hd
theorem zgk {E : Value → Shared → Prop} {pins : List (Addr × Obj)} {s : Shared} {σ : St} {H : Hp} {x : Str} {u : Value} {pos : Pos} {Q : Value → Shared → Prop} (I : Inv X pins σ H s) (hg : Gl X x) (hm : X.mg x = none) (hv : bootBuiltins x = some u) (h : Q u s)
  (hn : x ≠ "__name__" := by decide) (hd : (x == ("__debug__" : Str)) = false := by decide) : wpAny (model X.prog X.w) X.A (eval (.Name x pos) X.env) Q E s := by
 obtain ⟨mb, h1, h2⟩ := I.mod.blt
 exact Calls.Name_function_global I.ok.kind hg (Calls.loadGlobal_builtin (by rw [I.ok.glob]; exact I.mod.glob.keeps I.bk) hm (by rw [I.ok.blt]; exact h1.keeps I.bk) ((h2 x hn).trans hv) h) hd
theorem zpw {x : Str} {v : V} {u : Value} {pos : Pos} (hg : Gl X x) (hm : X.mg x = some u) (r : RelV v u) (hd : (x == ("__debug__" : Str)) = false := by decide) : PE X (.Name x pos) (tC v) :=
 fun _ _ _ H _ I h => zfi I hg hm ⟨v, H, I, r, h⟩ hd
theorem zpx {x : Str} {v : V} {u : Value} {pos : Pos} (hg : Gl X x) (hm : X.mg x = none) (hv : bootBuiltins x = some u) (r : RelV v u) (hn : x ≠ "__name__" := by decide) (hd : (x == ("__debug__" : Str)) = false := by decide) : PE X (.Name x pos) (tC v) :=
 fun _ _ _ H _ I h => zgk I hg hm hv ⟨v, H, I, r, h⟩ hn hd
variable {a b : Expr} {ta tb : TE} {pos : Pos}
variable {tA tB' : TT} {rest : List Expr}
def tAnd (t u : TT) : TT := fun σ H Q => t σ H fun c H1 => if c = true then u σ H1 Q else Q false H1
def tOr (t u : TT) : TT := fun σ H Q => t σ H fun c H1 => if c = true then Q true H1 else u σ H1 Q
def tNot (t : TT) : TT := fun σ H Q => t σ H fun c H1 => Q (!c) H1
theorem zpy (ha : PT X a tA) : PW X (.BoolOp .And [a] pos) tA := by
 intro wh pins s σ H Q I h
 refine isTrue_and (thn (ha pins s σ H Q I h) fun c s1 e => ?_)
 cases c with
 | true => exact isTrue_and_nil e
 | false => exact e
theorem zrE (ha : PT X a tA) : PW X (.BoolOp .Or [a] pos) tA := by
 intro wh pins s σ H Q I h
 refine isTrue_or (thn (ha pins s σ H Q I h) fun c s1 e => ?_)
 cases c with
 | false => exact isTrue_or_nil e
 | true => exact e
theorem zrF (ha : PT X a tA) (hb : PW X (.BoolOp .And (b :: rest) pos) tB') : PW X (.BoolOp .And (a :: b :: rest) pos) (tAnd tA tB') := by
 intro wh pins s σ H Q I h
 refine isTrue_and (thn (ha pins s σ H _ I h) fun c s1 ⟨H1, I1, q1⟩ => ?_)
 cases c with
 | true => exact hb wh pins s1 σ H1 Q I1 q1
 | false => exact ⟨H1, I1, q1⟩
theorem ztO (ha : PT X a tA) (hb : PW X (.BoolOp .Or (b :: rest) pos) tB') : PW X (.BoolOp .Or (a :: b :: rest) pos) (tOr tA tB') := by
 intro wh pins s σ H Q I h
 refine isTrue_or (thn (ha pins s σ H _ I h) fun c s1 ⟨H1, I1, q1⟩ => ?_)
 cases c with
 | true => exact ⟨H1, I1, q1⟩
 | false => exact hb wh pins s1 σ H1 Q I1 q1
theorem zrG (ha : PT X a tA) : PT X (.UnaryOp .Not a pos) (tNot tA) := by
 intro pins s σ H Q I h
 exact isTrue_not (ha pins s σ H (fun c H1 => Q (!c) H1) I h)
def ztP (ta tb : TE) : TE := fun σ H Q => ta σ H fun x H1 => ∃ c, x = .bl c ∧ if c = true then tb σ H1 Q else Q (.bl false) H1
def tOrV (ta tb : TE) : TE := fun σ H Q => ta σ H fun x H1 => ∃ c, x = .bl c ∧ if c = true then Q (.bl true) H1 else tb σ H1 Q
def ztQ (ta : TE) : TE := fun σ H Q => ta σ H fun x H1 => ∃ c, x = .bl c ∧ Q (.bl (!c)) H1
theorem zrH {op} {t : TE} (h : PE X a t) : PE X (.BoolOp op [a] pos) t := fun pins s σ H Q I hw => BoolOp_one (h pins s σ H Q I hw)
theorem zrI (ha : PE X a ta) (hb : PE X (.BoolOp .And (b :: rest) pos) tb) : PE X (.BoolOp .And (a :: b :: rest) pos) (ztP ta tb) := by
 intro pins s σ H Q I h
 refine BoolOp_and (thn (ha pins s σ H _ I h) fun v s1 ⟨x, H1, I1, r1, q1⟩ => ?_)
 obtain ⟨c, rfl, q1⟩ := q1
 cases r1
 refine wpAny_truthy_bool ?_
 cases c with
 | true => exact hb pins s1 σ H1 Q I1 q1
 | false => exact ⟨.bl false, H1, I1, rfl, q1⟩
theorem ztR (ha : PE X a ta) (hb : PE X (.BoolOp .Or (b :: rest) pos) tb) : PE X (.BoolOp .Or (a :: b :: rest) pos) (tOrV ta tb) := by
 intro pins s σ H Q I h
 refine BoolOp_or (thn (ha pins s σ H _ I h) fun v s1 ⟨x, H1, I1, r1, q1⟩ => ?_)
 obtain ⟨c, rfl, q1⟩ := q1
 cases r1
 refine wpAny_truthy_bool ?_
 cases c with
 | false => exact hb pins s1 σ H1 Q I1 q1
 | true => exact ⟨.bl true, H1, I1, rfl, q1⟩
theorem zrJ (ha : PE X a ta) : PE X (.UnaryOp .Not a pos) (ztQ ta) := by
 intro pins s σ H Q I h
 refine UnaryOp_ (thn (ha pins s σ H _ I h) fun v s1 ⟨x, H1, I1, r1, q1⟩ => ?_)
 obtain ⟨c, rfl, q1⟩ := q1
 cases r1
 exact not_of (wpAny_truthy_bool ⟨.bl (!c), H1, I1, rfl, q1⟩)
def tIf (t : TT) (ta tb : TE) : TE := fun σ H Q => t σ H fun c H1 => if c = true then ta σ H1 Q else tb σ H1 Q
theorem znu {c : Expr} (hc : PT X c tA) (ha : PE X a ta) (hb : PE X b tb) : PE X (.IfExp c a b pos) (tIf tA ta tb) := by
 intro pins s σ H Q I h
 refine wpAny_IfExp (thn (hc pins s σ H _ I h) fun d s1 ⟨H1, I1, q1⟩ => ?_)
 cases d with
 | true => exact ha pins s1 σ H1 Q I1 q1
 | false => exact hb pins s1 σ H1 Q I1 q1
end
end L2
namespace L2
open PySem PySem.Spec PyProof.Rows
def SqL (K : PySem.W.Frag) (H : Hp) (a : Addr) (xs : List V) : Prop :=
 Rd H a (.lst xs) ∨
  ∃ (o : Obj) (its : Array Value) (n : Nat), K.lookup a = some o ∧ o.cls = .type "list" ∧ o.dict = none ∧ o.data = .seq its n ∧ its.size ≤ sizeLine ∧ Vals xs its.toList
def SqT (K : PySem.W.Frag) (H : Hp) (a : Addr) (xs : List V) : Prop :=
 Rd H a (.tup xs) ∨
  ∃ (o : Obj) (its : Array Value) (n : Nat), K.lookup a = some o ∧ o.cls = .type "tuple" ∧ o.data = .seq its n ∧ its.size ≤ sizeLine ∧ Vals xs its.toList
def absV : Value → Option V
 | .none => some .non
 | .bool b => some (.bl b)
 | .int i _ => some (.int i)
 | .str x _ => some (.str x)
 | .bytes b _ => some (.byt b)
 | .float b _ => some (.flt b)
 | .ref a => some (.ref a)
 | .type n => some (.ty n)
 | _ => none
theorem RelV.abs {x : V} {u : Value} (r : RelV x u) : absV u = some x := by
 cases x with
 | non => cases r; rfl
 | bl _ => cases r; rfl
 | int _ => obtain ⟨t, rfl⟩ := r; rfl
 | str _ => obtain ⟨t, rfl⟩ := r; rfl
 | byt _ => obtain ⟨t, rfl⟩ := r; rfl
 | flt _ => obtain ⟨t, rfl⟩ := r; rfl
 | ref _ => cases r; rfl
 | ty _ => cases r; rfl
theorem RelV.inj {x y : V} {u : Value} (r : RelV x u) (q : RelV y u) : x = y := Option.some.inj (r.abs.symm.trans q.abs)
theorem Vals.inj : ∀ {xs ys : List V} {us : List Value}, Vals xs us → Vals ys us → xs = ys
 | _, _, _, .nil, .nil => rfl
 | _, _, _, .cons r t, .cons r' t' => by rw [r.inj r', Vals.inj t t']
section
variable {X : Cx} {pins : List (Addr × Obj)} {σ : St} {H : Hp} {s : Shared} {a : Addr} {xs ys : List V}
theorem SqL.of {K : PySem.W.Frag} (h : H a = some (.lst xs)) : SqL K H a xs := .inl (.inl h)
theorem SqT.of {K : PySem.W.Frag} (h : H a = some (.tup xs)) : SqT K H a xs := .inl (.inl h)
theorem Inv.list (I : Inv X pins σ H s) (h : SqL X.K H a xs) : ∃ its : List Value, Vals xs its ∧ PlainL s.heap a its.toArray ∧ xs.length ≤ sizeLine := by
 rcases h with h | ⟨o, its, n, hk, hc, hd, hs, hz, r⟩
 ·obtain ⟨z, its, n, r, e⟩ := h.ok I.hok
  exact ⟨its, r, ⟨_, n, e, rfl, rfl, rfl⟩, z⟩
 ·refine ⟨its.toList, r, ⟨o, n, I.kIn a o hk, hc, hd, by simpa using hs⟩, ?_⟩
  have e := r.length
  simp only [Array.length_toList] at e
  omega
theorem Inv.tuple (I : Inv X pins σ H s) (h : SqT X.K H a xs) : ∃ its : List Value, Vals xs its ∧ IsTup s.heap a its.toArray ∧ xs.length ≤ sizeLine := by
 rcases h with h | ⟨o, its, n, hk, hc, hs, hz, r⟩
 ·obtain ⟨z, its, r, p⟩ := h.ok I.hok
  exact ⟨its, r, p, z⟩
 ·refine ⟨its.toList, r, ⟨o, I.kIn a o hk, hc, n, by simpa using hs⟩, ?_⟩
  have e := r.length
  simp only [Array.length_toList] at e
  omega
theorem Inv.list_inj (I : Inv X pins σ H s) (h : SqL X.K H a xs) (h' : SqL X.K H a ys) : xs = ys := by
 obtain ⟨its, r, ⟨o, n, e, _, _, d⟩, _⟩ := I.list h
 obtain ⟨its', r', ⟨o', n', e', _, _, d'⟩, _⟩ := I.list h'
 rw [e] at e'; cases e'
 rw [d] at d'
 injection d' with d1 _
 have : its = its' := by simpa using congrArg Array.toList d1
 subst this
 exact r.inj r'
theorem Inv.tuple_inj (I : Inv X pins σ H s) (h : SqT X.K H a xs) (h' : SqT X.K H a ys) : xs = ys := by
 obtain ⟨its, r, ⟨o, e, _, n, d⟩, _⟩ := I.tuple h
 obtain ⟨its', r', ⟨o', e', _, n', d'⟩, _⟩ := I.tuple h'
 rw [e] at e'; cases e'
 rw [d] at d'
 injection d' with d1 _
 have : its = its' := by simpa using congrArg Array.toList d1
 subst this
 exact r.inj r'
end
abbrev Cx.wish (X : Cx) (E : Value → Shared → Prop) : Cx := { X with xe := E }
abbrev Cx.nox (X : Cx) : Cx := X.wish fun _ _ => False
theorem Cx.Ok.wish {X : Cx} (ok : X.Ok) (E : Value → Shared → Prop) : (X.wish E).Ok :=
 ⟨ok.mod, ok.kind, ok.glob, ok.blt, ok.above, ok.inj, ok.has, ok.cab, ok.hd, ok.frames, ok.stk, ok.exf, ok.bs, ok.bsz, ok.noex, ok.exfs, ok.funs, ok.frf⟩
theorem Cx.Ok.unwish {X : Cx} {E : Value → Shared → Prop} (ok : (X.wish E).Ok) : X.Ok :=
 ⟨ok.mod, ok.kind, ok.glob, ok.blt, ok.above, ok.inj, ok.has, ok.cab, ok.hd, ok.frames, ok.stk, ok.exf, ok.bs, ok.bsz, ok.noex, ok.exfs, ok.funs, ok.frf⟩
section
variable {X : Cx} {pins : List (Addr × Obj)} {σ : St} {H : Hp} {s : Shared} {E : Value → Shared → Prop}
theorem Inv.wish (I : Inv X pins σ H s) (E : Value → Shared → Prop) : Inv (X.wish E) pins σ H s := ⟨I.ok.wish E, I.os, I.bare, I.base, I.loc, I.cell, I.free, I.freeC, I.pin, I.hok, I.len⟩
theorem Inv.unwish (I : Inv (X.wish E) pins σ H s) : Inv X pins σ H s := ⟨I.ok.unwish, I.os, I.bare, I.base, I.loc, I.cell, I.free, I.freeC, I.pin, I.hok, I.len⟩
theorem SP.unwish {D : Ends} {f : Flow} {s' : Shared} (h : SP (X.wish E) pins D f s') : SP X pins D f s' := by
 cases f with
 | next => obtain ⟨σ', H', I, q⟩ := h; exact ⟨σ', H', I.unwish, q⟩
 | brk => obtain ⟨σ', H', I, q⟩ := h; exact ⟨σ', H', I.unwish, q⟩
 | cont => obtain ⟨σ', H', I, q⟩ := h; exact ⟨σ', H', I.unwish, q⟩
 | ret u => obtain ⟨v, σ', H', I, r, q⟩ := h; exact ⟨v, σ', H', I.unwish, r, q⟩
theorem PSs.nox {st : List Stmt} {t : TS} (h : PSs X.nox st t) : PSs X st t := fun pins s σ H D I hw =>
 wpAny_mono (h pins s σ H D (I.wish _) hw) (fun _ _ q => q.unwish) fun _ _ z => False.elim z
end
section
variable {X : Cx} {st : Stmt} {rest : List Stmt} {t u : TS} {e : Expr} {te : TE} {pos : Pos}
def ztS : TS := fun D σ H => D.nx σ H
def tSeq (t u : TS) : TS := fun D σ H => t { D with nx := u D } σ H
theorem zlC : PSs X [] ztS := fun _ _ σ H _ I h => wpAny_execs_nil ⟨σ, H, I, h⟩
theorem zjQ (h1 : PS X st t) (h2 : PSs X rest u) : PSs X (st :: rest) (tSeq t u) := by
 intro pins s σ H D I h
 refine wpAny_execs_cons (thn (h1 pins s σ H { D with nx := u D } I h) fun f s1 q => ?_)
 cases f with
 | next =>
  obtain ⟨σ', H', I', q⟩ := q
  exact h2 pins s1 σ' H' D I' q
 | ret v => exact q
 | brk => exact q
 | cont => exact q
theorem zlD (h1 : PS X st t) : PSs X [st] t := by
 intro pins s σ H D I h
 refine wpAny_execs_cons (thn (h1 pins s σ H D I h) fun f s1 q => ?_)
 cases f with
 | next => exact wpAny_execs_nil q
 | ret v => exact q
 | brk => exact q
 | cont => exact q
theorem Inv.quiet {pins : List (Addr × Obj)} {σ : St} {H : Hp} {s : Shared} (I : Inv X pins σ H s) : interactive X.env = false := by simp [interactive, I.ok.kind]
def ztT (te : TE) : TS := fun D σ H => te σ H fun _ H1 => D.nx σ H1
theorem zlE (he : PE X e te) (hs : swapsWith e none pos.line X.env = pure false := by rfl) : PS X (.Expr e pos) (ztT te) := by
 intro pins s σ H D I h
 exact wpAny_Expr_any (thn (he pins s σ H _ I h) fun v s1 ⟨x, H1, I1, r1, q1⟩ => ⟨σ, H1, I1, q1⟩) I.quiet hs
def tRet (te : TE) : TS := fun D σ H => te σ H D.rt
theorem zoJ (he : PE X e te) : PS X (.Return (some e) pos) (tRet te) := by
 intro pins s σ H D I h
 exact wpAny_Return_some (thn (he pins s σ H _ I h) fun v s1 ⟨x, H1, I1, r1, q1⟩ => ⟨x, σ, H1, I1, r1, q1⟩)
def tIfS (c : TT) (t u : TS) : TS := fun D σ H => c σ H fun b H1 => if b = true then t D σ H1 else u D σ H1
theorem zrK {c : Expr} {a b : List Stmt} {tc : TT} (hc : PT X c tc) (ha : PSs X a t) (hb : PSs X b u) : PS X (.If c a b pos) (tIfS tc t u) := by
 intro pins s σ H D I h
 refine wpAny_If (thn (hc pins s σ H _ I h) fun d s1 ⟨H1, I1, q1⟩ => ?_)
 cases d with
 | true => exact ha pins s1 σ H1 D I1 q1
 | false => exact hb pins s1 σ H1 D I1 q1
end
abbrev TG := V → St → Hp → (St → Hp → Prop) → Prop
abbrev TGs := List V → St → Hp → (St → Hp → Prop) → Prop
def PG (X : Cx) (target : Expr) (t : TG) : Prop :=
 ∀ (pins : List (Addr × Obj)) (s : Shared) (σ : St) (H : Hp) (v : V) (u : Value) (Q : St → Hp → Prop), Inv X pins σ H s → RelV v u → t v σ H Q →
  wpAny (model X.prog X.w) X.A (assign target X.env u) (fun _ s' => ∃ σ' H', Inv X pins σ' H' s' ∧ Q σ' H') X.xe s
def PGs (X : Cx) (ts : List Expr) (t : TGs) : Prop :=
 ∀ (pins : List (Addr × Obj)) (s : Shared) (σ : St) (H : Hp) (vs : List V) (us : List Value) (Q : St → Hp → Prop), Inv X pins σ H s → Vals vs us → t vs σ H Q →
  wpAny (model X.prog X.w) X.A (assignInOrder ((assignEach ts X.env).map (·.2)) us) (fun _ s' => ∃ σ' H', Inv X pins σ' H' s' ∧ Q σ' H') X.xe s
abbrev TSet := V → V → V → Hp → (Hp → Prop) → Prop
def PSet (X : Cx) (t : TSet) : Prop :=
 ∀ (pins : List (Addr × Obj)) (s : Shared) (σ : St) (H : Hp) (o i v : V) (ov iv u : Value) (Q : Hp → Prop), Inv X pins σ H s → RelV o ov → RelV i iv → RelV v u → t o i v H Q →
  wpAny (model X.prog X.w) X.A (setItem ov iv u) (fun _ s' => ∃ H', Inv X pins σ H' s' ∧ Q H') X.xe s
section
variable {X : Cx} {pos : Pos}
def znv (i : Nat) : TG := fun v σ H Q => Q (σ.set i (some v)) H
theorem zpz {i : Nat} {x : Str} (hN : X.N.Nodup) (hi : X.N[i]? = some x) (hx : Loc X.env.scope x) (hf : X.fn x = true ∨ X.env.scope.names.lookup x = some .local := by first | exact .inl rfl | exact .inr rfl | assumption) : PG X (.Name x pos) (znv i) := by
 intro pins s σ H v u Q I r h
 exact wpAny_assign_Name (zdV I hN hi hx r (fun s' I' => ⟨_, H, I', h⟩) hf)
def gNil : TGs := fun vs σ H Q => vs = [] ∧ Q σ H
def ztU (t : TG) (u : TGs) : TGs := fun vs σ H Q => ∃ v r, vs = v :: r ∧ t v σ H fun σ' H' => u r σ' H' Q
theorem zpA : PGs X [] gNil := by
 intro pins s σ H vs us Q I r h
 obtain ⟨e, h⟩ := h
 subst e
 cases r
 exact assignInOrder_nil ⟨σ, H, I, h⟩
theorem znw {e : Expr} {es : List Expr} {t : TG} {u : TGs} (h1 : PG X e t) (h2 : PGs X es u)
  (hs : (assignEach (e :: es) X.env).map (·.2) = assign e X.env :: (assignEach es X.env).map (·.2) := by rfl) : PGs X (e :: es) (ztU t u) := by
 intro pins s σ H vs us Q I r h
 obtain ⟨v, vr, e1, h⟩ := h
 subst e1
 cases r with
 | cons r rr =>
  rw [hs]
  refine assignInOrder_cons (thn (h1 pins s σ H _ _ _ I r h) fun _ s1 ⟨σ1, H1, I1, q1⟩ => ?_)
  exact h2 pins s1 σ1 H1 _ _ Q I1 rr q1
def gTup (K : PySem.W.Frag) (n : Nat) (t : TGs) : TG := fun v σ H Q => ∃ a xs, v = .ref a ∧ SqT K H a xs ∧ xs.length = n ∧ t xs σ H Q
theorem zrL {es : List Expr} {k : Nat} {t : TGs} {n : Nat} (hc : X.calm = true) (h : PGs X es t)
  (hn : (assignEach es X.env).length = n := by rfl) (hst : (assignEach es X.env).findIdx? (·.1) = none := by rfl) : PG X (.Tuple es k pos) (gTup X.K n t) := by
 intro pins s σ H v u Q I r hw
 obtain ⟨a, xs, e1, hq, hl, hw⟩ := hw
 subst e1
 cases r
 obtain ⟨its, rv, ht, hz⟩ := I.tuple hq
 refine assign_Tuple_tuple (I.ok.hd hc) ht (by simp [hn, ← hl, rv.length]) hst fun h' hx => ?_
 have I1 : Inv X pins σ H { s with heap := h' } := I.kept (t' := s.toks) fun b o e => hx b o (Nat.ne_of_lt (Heap.lt_size e)) e
 exact h pins _ σ H xs _ Q I1 (by simpa using rv) hw
def gSub (to ti : TE) (t : TSet) : TG := fun v σ H Q => to σ H fun o H1 => ti σ H1 fun i H2 => t o i v H2 fun H3 => Q σ H3
theorem zrM {o i : Expr} {to ti : TE} {t : TSet} (ho : PE X o to) (hi : PE X i ti) (hs : PSet X t)
  (ha : ∀ v, assign (.Subscript o i pos) X.env v = (do
   let ov ← holding [v] (eval o X.env)
   let iv ← holding [v, ov] (eval i X.env)
   standAt pos
   holding [v, ov, iv] (setItem ov iv v)
   release [v, ov, iv] []) := by intro _; rfl) : PG X (.Subscript o i pos) (gSub to ti t) := by
 intro pins s σ H v u Q I r h
 rw [ha]
 refine wpAny_bind (wpAny_holding (thn (ho pins s σ H _ I h) fun ov s1 ⟨x, H1, I1, r1, q1⟩ => ?_))
 refine wpAny_bind (wpAny_holding (thn (hi pins s1 σ H1 _ I1 q1) fun iv s2 ⟨y, H2, I2, r2, q2⟩ => ?_))
 refine wpAny_bind (wpAny_standAt (wpAny_bind (wpAny_holding (thn (hs pins s2 σ H2 x y v ov iv u _ I2 r1 r2 r q2) fun _ s3 ⟨H3, I3, q3⟩ => ?_))))
 exact wpAny_release ⟨σ, H3, I3, q3⟩
def tAsg (te : TE) (g : TG) : TS := fun D σ H => te σ H fun x H1 => g x σ H1 D.nx
theorem zrN {tg e : Expr} {te : TE} {g : TG} (he : PE X e te) (hg : PG X tg g) (hs : swapsWithSole [tg] e pos.line X.env = pure false := by rfl) (hw : swappedStores [tg] e X.env = pure none := by rfl)
  (h1 : (assignEach [tg] X.env).map (·.2) = [assign tg X.env] := by rfl) : PS X (.Assign [tg] e pos) (tAsg te g) := by
 intro pins s σ H D I h
 refine wpAny_Assign_stores (thn (he pins s σ H _ I h) fun v s1 ⟨x, H1, I1, r1, q1⟩ => ?_) hs hw
 rw [h1]
 exact thn (hg pins s1 σ H1 x v _ I1 r1 q1) fun _ s2 q => q
theorem zoK {i : Nat} {x : Str} {e : Expr} {te : TE} {pos' : Pos} (hN : X.N.Nodup) (hi : X.N[i]? = some x) (hx : Loc X.env.scope x) (he : PE X e te) (hs : swapsWith e (some (.Name x pos')) pos.line X.env = pure false := by rfl) (hf : X.fn x = true ∨ X.env.scope.names.lookup x = some .local := by first | exact .inl rfl | exact .inr rfl | assumption) :
  PS X (.Assign [.Name x pos'] e pos) (tAsg te (znv i)) := by
 intro pins s σ H D I h
 refine wpAny_Assign_Name (thn (he pins s σ H _ I h) fun v s1 ⟨y, H1, I1, r1, q1⟩ => ?_) hs
 exact zdV I1 hN hi hx r1 (fun s2 I2 => ⟨_, H1, I2, q1⟩) hf
end
section
variable {X : Cx} {pos : Pos}
def zrO (c : TT) (tb : TS) : TS := fun D σ H => ∃ W : Nat → St → Hp → Prop, (∃ m, W m σ H) ∧ ∀ m σ H, W m σ H →
 c σ H fun b H1 => if b = true then ∃ N : St → Hp → Prop, (∀ σ' H', N σ' H' → ∃ m', m' < m ∧ W m' σ' H') ∧ tb { D with nx := N, ct := N, bk := D.nx } σ H1 else D.nx σ H1
theorem znx {c : Expr} {body : List Stmt} {tc : TT} {tb : TS} (hp : PassesOwn (model X.prog X.w) X.A X.env X.xe) (hc : PT X c tc) (hb : PSs X body tb) : PS X (.While c body [] pos) (zrO tc tb) := by
 intro pins s σ H D I h
 obtain ⟨W, ⟨m0, w0⟩, turn⟩ := h
 refine wpAny_While (codeAny_whileLoop (fun n s' => ∃ σ' H', Inv X pins σ' H' s' ∧ W n σ' H') ?_ m0 ⟨σ, H, I, w0⟩)
 rintro n s1 ⟨σ1, H1, I1, w1⟩
 refine wpAny_passesOwn hp (thn (hc pins s1 σ1 H1 _ I1 (turn n σ1 H1 w1)) fun b s2 ⟨H2, I2, q2⟩ => ?_)
 cases b with
 | true =>
  obtain ⟨N, hN, q2⟩ := q2
  rw [if_pos rfl]
  refine wpAny_passesOwn hp (thn (hb pins s2 σ1 H2 _ I2 q2) fun f s3 q3 => ?_)
  cases f with
  | next =>
   obtain ⟨σ3, H3, I3, n3⟩ := q3
   obtain ⟨m', hm, w3⟩ := hN σ3 H3 n3
   exact ⟨m', hm, σ3, H3, I3, w3⟩
  | cont =>
   obtain ⟨σ3, H3, I3, n3⟩ := q3
   obtain ⟨m', hm, w3⟩ := hN σ3 H3 n3
   exact ⟨m', hm, σ3, H3, I3, w3⟩
  | brk => exact q3
  | ret v => exact q3
 | false =>
  rw [if_neg Bool.false_ne_true]
  exact wpAny_execs_nil ⟨σ1, H2, I2, q2⟩
end
structure It where
 go : Nat → Hp → Prop
 yld : Nat → Hp → V → Hp → Prop
 stop : Nat → Hp → Prop
def FpOk (X : Cx) (pins : List (Addr × Obj)) (H : Hp) (b : Addr) : Prop :=
 H b = none ∧ b ≠ X.env.locals ∧ b ∉ X.fs ∧ (b ∈ X.ex ∨ X.s₀.heap.objs.size ≤ b) ∧ (∀ x c, X.env.cells.lookup x = some c → c ≠ b) ∧ ∀ p ∈ X.pn ++ pins, p.1 ≠ b
theorem Inv.fpOk {X : Cx} {pins : List (Addr × Obj)} {σ : St} {H H' : Hp} {s : Shared} {b : Addr} (I : Inv X pins σ H s) (hb : s.heap.objs.size ≤ b) (hn : H' b = none) : FpOk X pins H' b := by
 refine ⟨hn, Nat.ne_of_gt (Nat.lt_of_lt_of_le I.lt hb), I.nofs hb, .inr (Nat.le_trans I.sz hb), fun x c e z => ?_, fun p hp z => ?_⟩
 ·obtain ⟨v, q⟩ := I.cell x c e
  exact absurd (Nat.lt_of_lt_of_le q.lt (by rw [z]; exact hb)) (Nat.lt_irrefl _)
 ·exact absurd (Nat.lt_of_lt_of_le (Heap.lt_size (I.pin p hp).1) (by rw [z]; exact hb)) (Nat.lt_irrefl _)
structure Turn (P : Program) (w : World) (K : PySem.W.Frag) (tg : Expr) (J : It) (fp : List Addr) (it : Addr) (tn : Nat → Heap → Prop) : Prop where
 mem : it ∈ fp
 obj : ∀ i h, tn i h → ∀ b ∈ fp, ∃ o, h.get? b = some o ∧ ∀ v, o.data ≠ .cell v
 keep : ∀ i h h', tn i h → (∀ b ∈ fp, ∀ o, h.get? b = some o → h'.get? b = some o) → tn i h'
 item : ∀ (X : Cx), X.prog = P → X.w = w → X.K = K → X.calm = true → ∀ (i : Nat) (pins : List (Addr × Obj)) (s : Shared) (σ : St) (H : Hp) (E : Value → Shared → Prop), Inv X pins σ H s → (∀ b ∈ fp, FpOk X pins H b) → tn i s.heap → J.go i H →
  wpAny (model P w) X.A (pyNext (.ref it)) (fun r s1 => ∃ u, r = some u ∧
   wpAny (model P w) X.A (letOwnedTupleGo tg (.ref it) u) (fun _ s2 => ∃ x H', Inv X pins σ H' s2 ∧ RelV x u ∧ J.yld i H x H' ∧ tn (i + 1) s2.heap ∧ ∀ b ∈ fp, H' b = none) E s1) E s
 done : ∀ (X : Cx), X.prog = P → X.w = w → X.K = K → X.calm = true → ∀ (i : Nat) (pins : List (Addr × Obj)) (s : Shared) (σ : St) (H : Hp) (E : Value → Shared → Prop), Inv X pins σ H s → (∀ b ∈ fp, FpOk X pins H b) → tn i s.heap → J.stop i H →
  wpAny (model P w) X.A (pyNext (.ref it)) (fun r s1 => r = none ∧ Inv X pins σ H s1) E s
 self : ∀ (A : Around) (i : Nat) (s : Shared) (Q : Value → Shared → Prop) (E : Value → Shared → Prop), tn i s.heap → Q (.ref it) s → wpAny (model P w) A (pyIter (.ref it)) Q E s
abbrev TI := St → Hp → (It → Hp → Prop) → Prop
def PIE (X : Cx) (pins : List (Addr × Obj)) (σ : St) (tg : Expr) (R : It → Hp → Prop) (itv : Value) (s2 : Shared) : Prop :=
 ∃ (it : Addr) (fp : List Addr) (tn : Nat → Heap → Prop) (J : It) (H' : Hp), itv = .ref it ∧ Inv X pins σ H' s2 ∧ Turn X.prog X.w X.K tg J fp it tn ∧ tn 0 s2.heap ∧ (∀ b ∈ fp, FpOk X pins H' b) ∧ R J H'
def PI (X : Cx) (tg iter : Expr) (wi : TI) : Prop :=
 ∀ (pins : List (Addr × Obj)) (s : Shared) (σ : St) (H : Hp) (R : It → Hp → Prop), Inv X pins σ H s → wi σ H R →
  wpAny (model X.prog X.w) X.A (eval iter X.env) (fun v s1 => wpAny (model X.prog X.w) X.A (pyIter v) (PIE X pins σ tg R) X.xe s1) X.xe s
theorem zny {M : Model} {A : Around} {E : Value → Shared → Prop} {s : Shared} {tg : Expr} {it : Addr} {u : Value} {o : Obj} {n : String} {vs : Array Value} {Q : Unit → Shared → Prop} (ho : s.heap.get? it = some o) (hc : o.cls = .type n) (hd : o.data = .fields vs)
  (hn : ["enumerate", "zip", "dict_itemiterator", "dict_reverseitemiterator", "odict_iterator", "itertools.zip_longest", "itertools.pairwise"].contains n = false) (hQ : Q () s) : wpAny M A (letOwnedTupleGo tg (.ref it) u) Q E s := by
 unfold letOwnedTupleGo
 cases tg <;> first
  | exact wpAny_pure hQ
  | (cases u <;> first
    | exact wpAny_pure hQ
    | (refine wpAny_bind (wpAny_load ho ?_)
       rw [hc, hd]
       show wpAny M A (if (["enumerate", "zip", "dict_itemiterator", "dict_reverseitemiterator", "odict_iterator", "itertools.zip_longest", "itertools.pairwise"].contains n && vs[0]? == some (rawInt _)) = true then _ else _) Q E s
       rw [if_neg (by intro h; rw [hn, Bool.false_and] at h; cases h)]
       exact wpAny_pure hQ))
def Itl (K : PySem.W.Frag) (a : Addr) : It :=
 ⟨fun i H => ∃ xs x, SqL K H a xs ∧ xs[i]? = some x, fun i H x H' => H' = H ∧ ∀ xs, SqL K H a xs → xs[i]? = some x, fun i H => ∃ xs, SqL K H a xs ∧ xs.length ≤ i⟩
def Itt (K : PySem.W.Frag) (a : Addr) : It :=
 ⟨fun i H => ∃ xs x, SqT K H a xs ∧ xs[i]? = some x, fun i H x H' => H' = H ∧ ∀ xs, SqT K H a xs → xs[i]? = some x, fun i H => ∃ xs, SqT K H a xs ∧ xs.length ≤ i⟩
def Itr (lo : Int) (n : Nat) : It := ⟨fun i _ => i < n, fun i H x H' => H' = H ∧ x = .int (lo + i), fun i _ => n ≤ i⟩
theorem zlF {P : Program} {w : World} {K : PySem.W.Frag} {tg : Expr} (a it : Addr) : Turn P w K tg (Itl K a) [it] it (fun i h => h.IsListIter it a i) where
 mem := by simp
 obj := fun i h st b hb => by
  have e : b = it := by simpa using hb
  subst e
  obtain ⟨o, e, c, d⟩ := st
  exact ⟨o, e, fun v z => by rw [d] at z; cases z⟩
 keep := fun i h h' st k => st.at fun o e => k it (by simp) o e
 item := by
  intro X hP hw hK hc i pins s σ H E I hf st hg
  subst hP hw hK
  obtain ⟨xs, x, hq, hx⟩ := hg
  obtain ⟨its, rv, p, hz⟩ := I.list hq
  obtain ⟨u, hu, ru⟩ := rv.get hx
  obtain ⟨f0, f1, f2, f3, f4, f5⟩ := hf it (by simp)
  refine wpAny_pyNext_list_item st p.isList (x := u) (by simpa using hu) fun h' st' sb => ?_
  have I1 : Inv X pins σ H { s with heap := h' } := I.turned (t' := s.toks) (fun b o hb e => (sb.2 b hb).trans e) f0 f1 f3 f4 f5
  obtain ⟨o, e, c, d⟩ := id st'
  exact ⟨u, rfl, zny (s := { s with heap := h' }) e c d (by decide) ⟨x, H, I1, ru, ⟨rfl, fun ys hy => by rw [I.list_inj hy hq]; exact hx⟩, st', fun b hb => (hf b hb).1⟩⟩
 done := by
  intro X hP hw hK hc i pins s σ H E I hf st hg
  subst hP hw hK
  obtain ⟨xs, hq, hx⟩ := hg
  obtain ⟨its, rv, p, hz⟩ := I.list hq
  obtain ⟨f0, f1, f2, f3, f4, f5⟩ := hf it (by simp)
  have hl := rv.length
  exact wpAny_pyNext_list_end (I.ok.hd hc) st p.isList (by simp; omega) fun h' eb => ⟨rfl, I.turned (t' := s.toks) (fun b o hb e => eb b o hb e) f0 f1 f3 f4 f5⟩
 self := fun _ _ _ _ _ st h => wpAny_pyIter_listiter st h
theorem zkJ {P : Program} {w : World} {K : PySem.W.Frag} {tg : Expr} (a it : Addr) : Turn P w K tg (Itt K a) [it] it (fun i h => h.IsTupleIter it a i) where
 mem := by simp
 obj := fun i h st b hb => by
  have e : b = it := by simpa using hb
  subst e
  obtain ⟨o, e, c, d⟩ := st
  exact ⟨o, e, fun v z => by rw [d] at z; cases z⟩
 keep := fun i h h' st k => st.at fun o e => k it (by simp) o e
 item := by
  intro X hP hw hK hc i pins s σ H E I hf st hg
  subst hP hw hK
  obtain ⟨xs, x, hq, hx⟩ := hg
  obtain ⟨its, rv, p, hz⟩ := I.tuple hq
  obtain ⟨u, hu, ru⟩ := rv.get hx
  obtain ⟨f0, f1, f2, f3, f4, f5⟩ := hf it (by simp)
  refine wpAny_pyNext_tuple_item st (show s.heap.IsTuple a its.toArray from p) (x := u) (by simpa using hu) fun h' st' sb => ?_
  have I1 : Inv X pins σ H { s with heap := h' } := I.turned (t' := s.toks) (fun b o hb e => (sb.2 b hb).trans e) f0 f1 f3 f4 f5
  obtain ⟨o, e, c, d⟩ := id st'
  exact ⟨u, rfl, zny (s := { s with heap := h' }) e c d (by decide) ⟨x, H, I1, ru, ⟨rfl, fun ys hy => by rw [I.tuple_inj hy hq]; exact hx⟩, st', fun b hb => (hf b hb).1⟩⟩
 done := by
  intro X hP hw hK hc i pins s σ H E I hf st hg
  subst hP hw hK
  obtain ⟨xs, hq, hx⟩ := hg
  obtain ⟨its, rv, p, hz⟩ := I.tuple hq
  obtain ⟨f0, f1, f2, f3, f4, f5⟩ := hf it (by simp)
  have hl := rv.length
  exact wpAny_pyNext_tuple_end (I.ok.hd hc) st (show s.heap.IsTuple a its.toArray from p) (by simp; omega) fun h' eb => ⟨rfl, I.turned (t' := s.toks) (fun b o hb e => eb b o hb e) f0 f1 f3 f4 f5⟩
 self := fun _ _ _ _ _ st h => wpAny_pyIter_tupleiter st h
theorem zkK {P : Program} {w : World} {K : PySem.W.Frag} {tg : Expr} (it : Addr) (lo : Int) (n : Nat) : Turn P w K tg (Itr lo n) [it] it (fun i h => IsRangeIter h it (lo + (i : Nat) * 1) ((n : Int) - (i : Nat)) 1) where
 mem := by simp
 obj := fun i h st b hb => by
  have e : b = it := by simpa using hb
  subst e
  exact ⟨_, st, fun v z => by
   have z' : Data.fields _ = Data.cell v := z
   cases z'⟩
 keep := fun i h h' st k => k it (by simp) _ st
 item := by
  intro X hP hw hK hc i pins s σ H E I hf st hg
  subst hP hw hK
  obtain ⟨f0, f1, f2, f3, f4, f5⟩ := hf it (by simp)
  have W := Walks.range (prog := X.prog) (w := X.w) (I.ok.hd hc) it lo 1 n
  refine W.item i s _ _ hg st fun v h' tk hv st' kk => ?_
  obtain ⟨t, rfl⟩ := hv
  have I1 : Inv X pins σ H { s with heap := h', toks := tk } := I.turned (fun b o hb e => kk b o (by simpa using hb) e) f0 f1 f3 f4 f5
  refine ⟨_, rfl, zny (s := { s with heap := h', toks := tk }) (n := "range_iterator") st' rfl rfl (by decide) ⟨.int (lo + i), H, I1, ⟨t, ?_⟩, ⟨rfl, rfl⟩, st', fun b hb => (hf b hb).1⟩⟩
  rw [Int.mul_one]
 done := by
  intro X hP hw hK hc i pins s σ H E I hf st hg
  subst hP hw hK
  obtain ⟨f0, f1, f2, f3, f4, f5⟩ := hf it (by simp)
  exact wpAny_pyNext_range_end (I.ok.hd hc) st (by have : n ≤ i := hg; omega) fun h' eb => ⟨rfl, I.turned (t' := s.toks) (fun b o hb e => eb b o hb e) f0 f1 f3 f4 f5⟩
 self := fun _ _ _ _ _ st h => wpAny_pyIter_rangeiter st h
end L2
namespace L2
open PySem PySem.Spec PyProof.Rows
section
variable {X : Cx} {tg : Expr}
theorem znz {pins : List (Addr × Obj)} {σ : St} {H : Hp} {s : Shared} {R : It → Hp → Prop} {E : Value → Shared → Prop} {lo hi : Int} {t u v : Tok} {tk : Nat} (I : Inv X pins σ H s) (h1 : -(2 ^ 62) ≤ lo) (h2 : lo < 2 ^ 62) (h3 : -(2 ^ 62) ≤ hi) (h4 : hi < 2 ^ 62)
  (q : R (Itr lo (hi - lo).toNat) H) : wpAny (model X.prog X.w) X.A (pyIter (.ref s.heap.objs.size)) (PIE X pins σ tg R) E { s with heap := s.heap.push { cls := .type "range", data := .fields #[.int lo t, .int hi u, .int 1 v] }, toks := tk } := by
 refine wpAny_pyIter_range (IsRange.new ..) (small_one h1 h2 h3 h4) ?_
 have I1 : Inv X pins σ H { s with heap := s.heap.push { cls := .type "range", data := .fields #[.int lo t, .int hi u, .int 1 v] }, toks := tk } := I.kept fun b o e => Heap.get?_push_of_some _ e
 refine ⟨(s.heap.push { cls := .type "range", data := .fields #[.int lo t, .int hi u, .int 1 v] }).objs.size, [(s.heap.push { cls := .type "range", data := .fields #[.int lo t, .int hi u, .int 1 v] }).objs.size], _, _, H, rfl,
  I1.kept (t' := tk) fun b o e => Heap.get?_push_of_some _ e, zkK _ lo (hi - lo).toNat, ?_, fun b hb => ?_, q⟩
 ·have e1 : lo + ((0 : Nat) : Int) * 1 = lo := by simp
  have e2 : (((hi - lo).toNat : Nat) : Int) - ((0 : Nat) : Int) = Builtin.Range.rangeSize lo hi 1 := by rw [rangeSize_one]; split <;> omega
  show IsRangeIter _ _ (lo + ((0 : Nat) : Int) * 1) ((((hi - lo).toNat : Nat) : Int) - ((0 : Nat) : Int)) 1
  rw [e1, e2]
  exact Heap.get?_push_size _ rfl
 ·have e : b = (s.heap.push { cls := .type "range", data := .fields #[.int lo t, .int hi u, .int 1 v] }).objs.size := by simpa using hb
  subst e
  exact I1.fpOk (Nat.le_refl _) (I1.hok.fresh (Nat.le_refl _))
def ztV (ta : TA) : TI := fun σ H R => ta σ H fun vs H1 => ∃ j : Int, vs = [.int j] ∧ -(2 ^ 62) ≤ j ∧ j < 2 ^ 62 ∧ R (Itr 0 j.toNat) H1
theorem zlG {a : Expr} {ta : TA} {p pos : Pos} (hg : Gl X "range") (hm : X.mg "range" = none) (ha : PA X [a] ta) (hs : starEach [a] X.env = [(false, eval a X.env)] := by rfl) : PI X tg (.Call (.Name "range" p) [a] [] pos) (ztV ta) := by
 intro pins s σ H R I h
 refine Call_ (zgk I hg hm boot_range (PyProof.Rows.callWith_type1 (thn (ha pos pins s σ H _ I h) fun us s1 ⟨vs, H1, I1, r1, q1⟩ => ?_) hs rfl))
 obtain ⟨j, e, q1, q2, q⟩ := q1
 subst e
 cases r1 with
 | cons r rr =>
  cases rr
  obtain ⟨t, rfl⟩ := r
  exact call_range_1 (znz I1 (by omega) (by omega) q1 q2 (by simpa using q))
def tFor (wi : TI) (g : TG) (tb : TS) : TS := fun D σ H => wi σ H fun J H1 => ∃ W : Nat → Nat → St → Hp → Prop, (∃ m, W 0 m σ H1) ∧ ∀ i m σ H, W i m σ H →
 (J.stop i H ∧ D.nx σ H) ∨ (J.go i H ∧ ∃ N : St → Hp → Prop, (∀ σ' H', N σ' H' → ∃ m', m' < m ∧ W (i + 1) m' σ' H') ∧ ∀ x H', J.yld i H x H' → g x σ H' fun σ2 H2 => tb { D with nx := N, ct := N, bk := D.nx } σ2 H2)
def zhi (fp : List Addr) (h : Heap) : List (Addr × Obj) := fp.filterMap fun b => (h.get? b).map fun o => (b, o)
theorem zdo {fp : List Addr} {h : Heap} {b : Addr} {o : Obj} (hb : b ∈ fp) (e : h.get? b = some o) : (b, o) ∈ zhi fp h := List.mem_filterMap.mpr ⟨b, hb, by rw [e]; rfl⟩
theorem zlH {fp : List Addr} {h : Heap} {p : Addr × Obj} (hp : p ∈ zhi fp h) : p.1 ∈ fp ∧ h.get? p.1 = some p.2 := by
 obtain ⟨b, hb, e⟩ := List.mem_filterMap.mp hp
 cases q : h.get? b with
 | none => rw [q] at e; cases e
 | some o =>
  rw [q] at e
  have e' : (b, o) = p := Option.some.inj e
  subst e'
  exact ⟨hb, q⟩
theorem Inv.pinned {pins : List (Addr × Obj)} {σ : St} {H : Hp} {s : Shared} {fp : List Addr} (I : Inv X pins σ H s) (hf : ∀ b ∈ fp, FpOk X pins H b) (ho : ∀ b ∈ fp, ∃ o, s.heap.get? b = some o ∧ ∀ v, o.data ≠ .cell v) : Inv X (pins ++ zhi fp s.heap) σ H s :=
 I.pins_of fun p hp => (List.mem_append.mp hp).elim (fun z => I.pin p (List.mem_append_right _ z)) fun z => by
  obtain ⟨hb, e⟩ := zlH z
  obtain ⟨f0, f1, f2, _⟩ := hf p.1 hb
  obtain ⟨o, e', d⟩ := ho p.1 hb
  rw [e] at e'; cases e'
  exact ⟨e, f0, f1, f2, d⟩
theorem Inv.unpinned {pins pl : List (Addr × Obj)} {σ : St} {H : Hp} {s : Shared} (I : Inv X (pins ++ pl) σ H s) : Inv X pins σ H s := I.pins_of fun p hp => I.pin p (List.mem_append_right _ (List.mem_append_left _ hp))
theorem zoL {iter : Expr} {body : List Stmt} {wi : TI} {g : TG} {tb : TS} {pos : Pos} (hp : PassesOwn (model X.prog X.w) X.A X.env X.xe) (hc : X.calm = true) (hi : PI X tg iter wi) (hg : PG X tg g) (hb : PSs X body tb)
  (hs : ∀ x, foldedSetIterable iter X.env x = pure x := by intro _; rfl) : PS X (.For tg iter body [] pos) (tFor wi g tb) := by
 intro pins s σ H D I h
 refine wpAny_For (thn (hi pins s σ H _ I h) fun v s1 h1 => thn h1 fun itv s2 h2 => ?_) hs
 obtain ⟨it, fp, tn, J, H2, e, I2, T, st2, f2, W, ⟨m0, w0⟩, turn⟩ := h2
 subst e
 -- what stays true of the iterator's objects through the loop
 have stat : ∀ {H' : Hp}, (∀ b ∈ fp, H' b = none) → ∀ b ∈ fp, FpOk X pins H' b := fun hn b hb => ⟨hn b hb, (f2 b hb).2⟩
 refine codeAny_forLoop_any (fun n s' => ∃ i σ' H', Inv X pins σ' H' s' ∧ tn i s'.heap ∧ (∀ b ∈ fp, H' b = none) ∧ W i n σ' H') ?_ m0 ⟨0, σ, H2, I2, st2, fun b hb => (f2 b hb).1, w0⟩
 rintro n s3 ⟨i, σ3, H3, I3, st3, fr3, w3⟩
 rcases turn i n σ3 H3 w3 with ⟨stop, qn⟩ | ⟨go, N, hN, step⟩
 ·refine wpAny_passesOwn hp (thn (T.done X rfl rfl rfl hc i pins s3 σ3 H3 X.xe I3 (stat fr3) st3 stop) fun r s4 ⟨hr, I4⟩ => ?_)
  subst hr
  exact wpAny_execs_nil ⟨σ3, H3, I4, qn⟩
 ·refine wpAny_passesOwn hp (thn (T.item X rfl rfl rfl hc i pins s3 σ3 H3 X.xe I3 (stat fr3) st3 go) fun r s4 ⟨u, hr, h4⟩ => ?_)
  subst hr
  refine wpAny_passesOwn hp (thn h4 fun _ s5 ⟨x, H5, I5, r5, y5, st5, fr5⟩ => ?_)
  have I5' := I5.pinned (stat fr5) (T.obj _ _ st5)
  refine wpAny_passesOwn hp (thn (hg _ s5 σ3 H5 x u _ I5' r5 (step x H5 y5)) fun _ s6 ⟨σ6, H6, I6, q6⟩ => ?_)
  refine wpAny_passesOwn hp (thn (hb _ s6 σ6 H6 _ I6 q6) fun f s7 q7 => ?_)
  have again : ∀ {σ7 : St} {H7 : Hp}, Inv X (pins ++ zhi fp s5.heap) σ7 H7 s7 → N σ7 H7 → ∃ m, m < n ∧ ∃ i σ' H', Inv X pins σ' H' s7 ∧ tn i s7.heap ∧ (∀ b ∈ fp, H' b = none) ∧ W i m σ' H' := fun {σ7 H7} I7 n7 => by
   obtain ⟨m', hm, w7⟩ := hN σ7 H7 n7
   refine ⟨m', hm, i + 1, σ7, H7, I7.unpinned, T.keep _ _ _ st5 fun b hb o e => (I7.pin (b, o) (List.mem_append_right _ (List.mem_append_right _ (zdo hb e)))).1, fun b hb => ?_, w7⟩
   obtain ⟨o, e, d⟩ := T.obj _ _ st5 b hb
   exact (I7.pin (b, o) (List.mem_append_right _ (List.mem_append_right _ (zdo hb e)))).2.1
  cases f with
  | next => obtain ⟨σ7, H7, I7, n7⟩ := q7; exact again I7 n7
  | cont => obtain ⟨σ7, H7, I7, n7⟩ := q7; exact again I7 n7
  | brk => obtain ⟨σ7, H7, I7, q7⟩ := q7; exact ⟨σ7, H7, I7.unpinned, q7⟩
  | ret v => obtain ⟨x7, σ7, H7, I7, r7, q7⟩ := q7; exact ⟨x7, σ7, H7, I7.unpinned, r7, q7⟩
end
end L2
namespace L2
open PySem PySem.Spec PyProof.Rows
abbrev R2 := V → V → Hp → VK → Prop
def OpR (X : Cx) (f : Value → Value → Sem Value) (r : R2) : Prop :=
 ∀ (pins : List (Addr × Obj)) (s : Shared) (σ : St) (H : Hp) (x y : V) (v u : Value) (Q : VK), Inv X pins σ H s → RelV x v → RelV y u → r x y H Q →
  wpAny (model X.prog X.w) X.A (f v u) (EP X pins σ Q) X.xe s
def UnR (X : Cx) (f : Value → Sem Value) (r : V → Hp → VK → Prop) : Prop :=
 ∀ (pins : List (Addr × Obj)) (s : Shared) (σ : St) (H : Hp) (x : V) (v : Value) (Q : VK), Inv X pins σ H s → RelV x v → r x H Q →
  wpAny (model X.prog X.w) X.A (f v) (EP X pins σ Q) X.xe s
def zcf (X : Cx) (f : Value) (r : List V → Hp → VK → Prop) : Prop :=
 ∀ (pins : List (Addr × Obj)) (s : Shared) (σ : St) (H : Hp) (xs : List V) (us : List Value) (Q : VK), Inv X pins σ H s → Vals xs us → r xs H Q →
  wpAny (model X.prog X.w) X.A (call f us) (EP X pins σ Q) X.xe s
def TruR (X : Cx) (r : V → Hp → (Bool → Hp → Prop) → Prop) : Prop :=
 ∀ (pins : List (Addr × Obj)) (s : Shared) (σ : St) (H : Hp) (x : V) (v : Value) (Q : Bool → Hp → Prop), Inv X pins σ H s → RelV x v → r x H Q →
  wpAny (model X.prog X.w) X.A (truthy v) (TP X pins σ Q) X.xe s
def tOp (r : R2) (ta tb : TE) : TE := fun σ H Q => ta σ H fun x H1 => tb σ H1 fun y H2 => r x y H2 Q
def tUn (r : V → Hp → VK → Prop) (ta : TE) : TE := fun σ H Q => ta σ H fun x H1 => r x H1 Q
def rI (C : Int → Int → Prop) (g : Int → Int → V) : R2 := fun x y H Q => ∃ i j, x = .int i ∧ y = .int j ∧ C i j ∧ Q (g i j) H
def rI0 (g : Int → Int → V) : R2 := fun x y H Q => ∃ i j, x = .int i ∧ y = .int j ∧ Q (g i j) H
def rU (g : Int → V) : V → Hp → VK → Prop := fun x H Q => ∃ i, x = .int i ∧ Q (g i) H
section
variable {X : Cx} {a b c : Expr} {ta tb tc : TE} {pos : Pos}
theorem binT (ha : PE X a ta) (hb : PE X b tb) {pins : List (Addr × Obj)} {s : Shared} {σ : St} {H : Hp} {R : V → V → Hp → Prop} (I : Inv X pins σ H s)
  (h : ta σ H fun x H1 => tb σ H1 fun y H2 => R x y H2) {Q : Value → Shared → Prop} {f : Value → Value → Sem Value}
  (hf : ∀ v u s2 x y H2, Inv X pins σ H2 s2 → RelV x v → RelV y u → R x y H2 → wpAny (model X.prog X.w) X.A (f v u) Q X.xe s2) :
  wpAny (model X.prog X.w) X.A (eval a X.env) (fun v s₁ => wpAny (model X.prog X.w) X.A (eval b X.env) (fun u s₂ => wpAny (model X.prog X.w) X.A (f v u) Q X.xe s₂) X.xe s₁) X.xe s := by
 refine thn (ha pins s σ H _ I h) fun v s1 ⟨x, H1, I1, r1, q1⟩ => ?_
 refine thn (hb pins s1 σ H1 _ I1 q1) fun u s2 ⟨y, H2, I2, r2, q2⟩ => ?_
 exact hf v u s2 x y H2 I2 r1 r2 q2
theorem ztW {op : Operator} {r : R2} (ho : OpR X (binaryOp op) r) (ha : PE X a ta) (hb : PE X b tb) : PE X (.BinOp a op b pos) (tOp r ta tb) := by
 intro pins s σ H Q I h
 exact wpAny_BinOp (binT ha hb I h fun v u s2 x y H2 I2 rx ry q => ho pins s2 σ H2 x y v u Q I2 rx ry q)
theorem ztX {op : UnaryOp} {r : V → Hp → VK → Prop} (ho : UnR X (unaryOp op) r) (ha : PE X a ta) : PE X (.UnaryOp op a pos) (tUn r ta) := by
 intro pins s σ H Q I h
 exact UnaryOp_ (thn (ha pins s σ H _ I h) fun v s1 ⟨x, H1, I1, r1, q1⟩ => ho pins s1 σ H1 x v Q I1 r1 q1)
theorem opI {f : Value → Value → Sem Value} {C : Int → Int → Prop} {g : Int → Int → Int}
  (rule : ∀ (i j : Int) (t u : Tok) (s : Shared) (Q : Value → Shared → Prop) (E : Value → Shared → Prop), C i j → Q (.int (g i j) s.toks) { s with toks := s.toks + 1 } → wpAny (model X.prog X.w) X.A (f (.int i t) (.int j u)) Q E s) :
  OpR X f (rI C fun i j => .int (g i j)) := by
 intro pins s σ H x y v u Q I rx ry h
 obtain ⟨i, j, rfl, rfl, hc, q⟩ := h
 obtain ⟨t, rfl⟩ := rx
 obtain ⟨t', rfl⟩ := ry
 exact rule i j t t' s _ _ hc ⟨.int (g i j), H, I.tok _, ⟨_, rfl⟩, q⟩
theorem opI0 {f : Value → Value → Sem Value} {g : Int → Int → Int}
  (rule : ∀ (i j : Int) (t u : Tok) (s : Shared) (Q : Value → Shared → Prop) (E : Value → Shared → Prop), Q (.int (g i j) s.toks) { s with toks := s.toks + 1 } → wpAny (model X.prog X.w) X.A (f (.int i t) (.int j u)) Q E s) :
  OpR X f (rI0 fun i j => .int (g i j)) := by
 intro pins s σ H x y v u Q I rx ry h
 obtain ⟨i, j, rfl, rfl, q⟩ := h
 obtain ⟨t, rfl⟩ := rx
 obtain ⟨t', rfl⟩ := ry
 exact rule i j t t' s _ _ ⟨.int (g i j), H, I.tok _, ⟨_, rfl⟩, q⟩
theorem opB0 {f : Value → Value → Sem Value} {g : Int → Int → Bool}
  (rule : ∀ (i j : Int) (t u : Tok) (s : Shared) (Q : Value → Shared → Prop) (E : Value → Shared → Prop), Q (.bool (g i j)) s → wpAny (model X.prog X.w) X.A (f (.int i t) (.int j u)) Q E s) :
  OpR X f (rI0 fun i j => .bl (g i j)) := by
 intro pins s σ H x y v u Q I rx ry h
 obtain ⟨i, j, rfl, rfl, q⟩ := h
 obtain ⟨t, rfl⟩ := rx
 obtain ⟨t', rfl⟩ := ry
 exact rule i j t t' s _ _ ⟨.bl (g i j), H, I, rfl, q⟩
def CPow (i j : Int) : Prop := 0 ≤ j ∧ j ≤ 1000000 ∧ i.natAbs < 2 ^ 64
def CMul (i j : Int) : Prop := (-(2 ^ 64) < i ∧ i < 2 ^ 64) ∨ (-(2 ^ 64) < j ∧ j < 2 ^ 64)
theorem CMul.ok {i j : Int} (h : CMul i j) : IntMulOk i j := by
 rcases h with ⟨h1, h2⟩ | ⟨h1, h2⟩
 ·exact .of_left (intBits_le_64 h1 h2)
 ·exact .of_right (intBits_le_64 h1 h2)
theorem zrP : OpR X (binaryOp .Add) (rI0 fun i j => .int (i + j)) := opI0 fun _ _ _ _ _ _ _ q => add_int q
theorem zrQ : OpR X (binaryOp .Sub) (rI0 fun i j => .int (i - j)) := opI0 fun _ _ _ _ _ _ _ q => sub_int q
theorem zrR : OpR X (binaryOp .Mult) (rI CMul fun i j => .int (i * j)) := opI fun _ _ _ _ _ _ _ hc q => mul_int q hc.ok
theorem zrS : OpR X (binaryOp .Mod) (rI (fun _ j => 0 < j) fun i j => .int (i % j)) := opI fun i j _ _ _ _ _ hc q => by
 have h1 : (0 : Int) < j := hc
 exact mod_int' (by omega) (by rw [Int.fmod_eq_emod_of_nonneg i (by omega)]; exact q)
theorem zrT : OpR X (binaryOp .Pow) (rI CPow fun i j => .int (i ^ j.toNat)) := opI fun _ _ _ _ _ _ _ hc q => pow_int_small hc.1 hc.2.1 hc.2.2 q
theorem unI {f : Value → Sem Value} {g : Int → Int}
  (rule : ∀ (i : Int) (t : Tok) (s : Shared) (Q : Value → Shared → Prop) (E : Value → Shared → Prop), Q (.int (g i) s.toks) { s with toks := s.toks + 1 } → wpAny (model X.prog X.w) X.A (f (.int i t)) Q E s) :
  UnR X f (rU fun i => .int (g i)) := by
 intro pins s σ H x v Q I rx h
 obtain ⟨i, rfl, q⟩ := h
 obtain ⟨t, rfl⟩ := rx
 exact rule i t s _ _ ⟨.int (g i), H, I.tok _, ⟨_, rfl⟩, q⟩
theorem zrU : UnR X (unaryOp .USub) (rU fun i => .int (-i)) := unI fun _ _ _ _ _ q => neg_int q
end
def scal : V → V → Bool
 | .non, .non => true | .non, .int _ => true | .int _, .non => true | .non, .bl _ => true | .bl _, .non => true | .non, .str _ => true | .str _, .non => true
 | .int _, .int _ => true | .bl _, .bl _ => true | .str _, .str _ => true | .byt _, .byt _ => true
 | .int _, .str _ => true | .str _, .int _ => true | .bl _, .str _ => true | .str _, .bl _ => true
 | _, _ => false
def rEq : R2 := fun x y H Q => scal x y = true ∧ Q (.bl (decide (x = y))) H
def rNe : R2 := fun x y H Q => scal x y = true ∧ Q (.bl (!decide (x = y))) H
theorem zlI {i j : Int} : decide (V.int i = V.int j) = (i == j) := by
 rw [Bool.eq_iff_iff]
 simp
theorem zoM {i j : Bool} : decide (V.bl i = V.bl j) = (i == j) := by
 rw [Bool.eq_iff_iff]
 simp
theorem zlJ {i j : Str} : decide (V.str i = V.str j) = (i == j) := by
 rw [Bool.eq_iff_iff]
 simp
theorem zlK {i j : Array UInt8} : decide (V.byt i = V.byt j) = (i.toList == j.toList) := by
 rw [Bool.eq_iff_iff]
 cases i
 cases j
 simp
section
variable {X : Cx} {a b c : Expr} {ta tb tc : TE} {pos : Pos}
theorem zaQ {pins : List (Addr × Obj)} {σ : St} {H : Hp} {s : Shared} {Q : VK} {k k' : Bool} (I : Inv X pins σ H s) (q : Q (.bl k) H) (e : k = k') : EP X pins σ Q (.bool k') s := by
 subst e
 exact ⟨.bl k, H, I, rfl, q⟩
theorem zpB : OpR X (compareOp .Eq) rEq := by
 intro pins s σ H x y v u Q I rx ry h
 obtain ⟨hs, q⟩ := h
 cases x with
 | non =>
  cases rx
  cases y with
  | non => cases ry; exact PySem.EqNone.eq_none_none (zaQ I q (by simp))
  | bl j => cases ry; exact PySem.EqNone.eq_none_bool (zaQ I q (by simp))
  | int j => obtain ⟨t', rfl⟩ := ry; exact PySem.EqNone.eq_none_int (zaQ I q (by simp))
  | str j => obtain ⟨t', rfl⟩ := ry; exact PySem.EqNone.eq_none_str (zaQ I q (by simp))
  | _ => exact absurd (show false = true from hs) Bool.false_ne_true
 | bl i =>
  cases rx
  cases y with
  | non => cases ry; exact PySem.EqNone.eq_bool_none (zaQ I q (by simp))
  | bl j => cases ry; exact eq_bool (zaQ I q zoM)
  | str j => obtain ⟨t', rfl⟩ := ry; exact PySem.EqMixed.eq_bool_str (zaQ I q (by simp))
  | _ => exact absurd (show false = true from hs) Bool.false_ne_true
 | int i =>
  obtain ⟨t, rfl⟩ := rx
  cases y with
  | non => cases ry; exact PySem.EqNone.eq_int_none (zaQ I q (by simp))
  | int j => obtain ⟨t', rfl⟩ := ry; exact eq_int (zaQ I q zlI)
  | str j => obtain ⟨t', rfl⟩ := ry; exact PySem.EqMixed.eq_int_str (zaQ I q (by simp))
  | _ => exact absurd (show false = true from hs) Bool.false_ne_true
 | str i =>
  obtain ⟨t, rfl⟩ := rx
  cases y with
  | non => cases ry; exact PySem.EqNone.eq_str_none (zaQ I q (by simp))
  | bl j => cases ry; exact PySem.EqMixed.eq_str_bool (zaQ I q (by simp))
  | int j => obtain ⟨t', rfl⟩ := ry; exact PySem.EqMixed.eq_str_int (zaQ I q (by simp))
  | str j => obtain ⟨t', rfl⟩ := ry; exact eq_str (zaQ I q zlJ)
  | _ => exact absurd (show false = true from hs) Bool.false_ne_true
 | byt i =>
  obtain ⟨t, rfl⟩ := rx
  cases y with
  | byt j => obtain ⟨t', rfl⟩ := ry; exact PySem.W.eq_bytes (zaQ I q zlK)
  | _ => exact absurd (show false = true from hs) Bool.false_ne_true
 | _ => cases y <;> exact absurd (show false = true from hs) Bool.false_ne_true
theorem zpC : OpR X (compareOp .NotEq) rNe := by
 intro pins s σ H x y v u Q I rx ry h
 obtain ⟨hs, q⟩ := h
 cases x with
 | non =>
  cases rx
  cases y with
  | non => cases ry; exact PySem.EqNone.ne_none_none (zaQ I q (by simp))
  | bl j => cases ry; exact PySem.EqNone.ne_none_bool (zaQ I q (by simp))
  | int j => obtain ⟨t', rfl⟩ := ry; exact PySem.EqNone.ne_none_int (zaQ I q (by simp))
  | str j => obtain ⟨t', rfl⟩ := ry; exact PySem.EqNone.ne_none_str (zaQ I q (by simp))
  | _ => exact absurd (show false = true from hs) Bool.false_ne_true
 | bl i =>
  cases rx
  cases y with
  | non => cases ry; exact PySem.EqNone.ne_bool_none (zaQ I q (by simp))
  | bl j => cases ry; exact ne_bool (zaQ I q (congrArg not zoM))
  | str j => obtain ⟨t', rfl⟩ := ry; exact PySem.EqMixed.ne_bool_str (zaQ I q (by simp))
  | _ => exact absurd (show false = true from hs) Bool.false_ne_true
 | int i =>
  obtain ⟨t, rfl⟩ := rx
  cases y with
  | non => cases ry; exact PySem.EqNone.ne_int_none (zaQ I q (by simp))
  | int j => obtain ⟨t', rfl⟩ := ry; exact ne_int (zaQ I q (congrArg not zlI))
  | str j => obtain ⟨t', rfl⟩ := ry; exact PySem.EqMixed.ne_int_str (zaQ I q (by simp))
  | _ => exact absurd (show false = true from hs) Bool.false_ne_true
 | str i =>
  obtain ⟨t, rfl⟩ := rx
  cases y with
  | non => cases ry; exact PySem.EqNone.ne_str_none (zaQ I q (by simp))
  | bl j => cases ry; exact PySem.EqMixed.ne_str_bool (zaQ I q (by simp))
  | int j => obtain ⟨t', rfl⟩ := ry; exact PySem.EqMixed.ne_str_int (zaQ I q (by simp))
  | str j => obtain ⟨t', rfl⟩ := ry; exact ne_str (zaQ I q (congrArg not zlJ))
  | _ => exact absurd (show false = true from hs) Bool.false_ne_true
 | byt i =>
  obtain ⟨t, rfl⟩ := rx
  cases y with
  | byt j => obtain ⟨t', rfl⟩ := ry; exact PySem.W.ne_bytes (zaQ I q (congrArg not zlK))
  | _ => exact absurd (show false = true from hs) Bool.false_ne_true
 | _ => cases y <;> exact absurd (show false = true from hs) Bool.false_ne_true
theorem ztY : OpR X (compareOp .Lt) (rI0 fun i j => .bl (decide (i < j))) := opB0 fun _ _ _ _ _ _ _ q => lt_int q
theorem ztZ : OpR X (compareOp .Gt) (rI0 fun i j => .bl (decide (j < i))) := opB0 fun _ _ _ _ _ _ _ q => gt_int q
theorem zlL : OpR X (compareOp .Lt) (fun x y H Q => ∃ i j, x = .str i ∧ y = .str j ∧ Q (.bl (decide (i.cps.toList < j.cps.toList))) H) := by
 intro pins s σ H x y v u Q I rx ry h
 obtain ⟨i, j, rfl, rfl, q⟩ := h
 obtain ⟨t, rfl⟩ := rx
 obtain ⟨t', rfl⟩ := ry
 exact lt_str (zaQ I q rfl)
theorem zlM : OpR X (compareOp .In) (fun x y H Q => ∃ i j, x = .str i ∧ y = .str j ∧ Q (.bl (!(Builtin.Str.occurrences j i 0 j.length 1).isEmpty)) H) := by
 intro pins s σ H x y v u Q I rx ry h
 obtain ⟨i, j, rfl, rfl, q⟩ := h
 obtain ⟨t, rfl⟩ := rx
 obtain ⟨t', rfl⟩ := ry
 exact in_str (zaQ I q rfl)
theorem zrV : OpR X (compareOp .Is) (fun x y H Q => y = .non ∧ Q (.bl (decide (x = .non))) H) := by
 intro pins s σ H x y v u Q I rx ry h
 obtain ⟨rfl, q⟩ := h
 cases ry
 refine is_none_gen (zaQ I q ?_)
 cases x <;> first
  | (cases rx; rfl)
  | (obtain ⟨t, rfl⟩ := rx; rfl)
theorem zpD : OpR X (compareOp .IsNot) (fun x y H Q => y = .non ∧ Q (.bl (!decide (x = .non))) H) := by
 intro pins s σ H x y v u Q I rx ry h
 obtain ⟨rfl, q⟩ := h
 cases ry
 refine isnot_none_gen (zaQ I q ?_)
 cases x <;> first
  | (cases rx; rfl)
  | (obtain ⟨t, rfl⟩ := rx; rfl)
theorem zhj : OpR X (compareOp .NotIn) (fun x y H Q => ∃ i j, x = .str i ∧ y = .str j ∧ Q (.bl (!(!(Builtin.Str.occurrences j i 0 j.length 1).isEmpty))) H) := by
 intro pins s σ H x y v u Q I rx ry h
 obtain ⟨i, j, rfl, rfl, q⟩ := h
 obtain ⟨t, rfl⟩ := rx
 obtain ⟨t', rfl⟩ := ry
 exact notIn_str (zaQ I q rfl)
theorem zan (b : Expr) {op : CmpOp} (h : op ≠ .In := by decide) (h2 : op ≠ .NotIn := by decide) : behindInMarks op b = false := by
 have e1 : (op == CmpOp.In) = false := by cases op <;> first | rfl | exact absurd rfl h
 have e2 : (op == CmpOp.NotIn) = false := by cases op <;> first | rfl | exact absurd rfl h2
 cases b <;> simp [behindInMarks, e1, e2]
theorem zpE {op : CmpOp} {r : R2} (ho : OpR X (compareOp op) r) (ha : PE X a ta) (hb : PE X b tb) (hm : behindInMarks op b = false) : PE X (.Compare a [op] [b] pos) (tOp r ta tb) := by
 intro pins s σ H Q I h
 exact wpAny_Compare1 (binT ha hb I h fun v u s2 x y H2 I2 rx ry q => ho pins s2 σ H2 x y v u Q I2 rx ry q) hm
def zt0 (t : TE) : TT := fun σ H Q => t σ H fun x H' => ∃ k, x = .bl k ∧ Q k H'
theorem zpF {op : CmpOp} {r : R2} (ho : OpR X (compareOp op) r) (ha : PE X a ta) (hb : PE X b tb) (hm : behindInMarks op b = false) : PT X (.Compare a [op] [b] pos) (zt0 (tOp r ta tb)) := by
 intro pins s σ H Q I h
 refine wpAny_isTrue_Compare1 (thn (ha pins s σ H _ I h) fun v s1 ⟨x, H1, I1, r1, q1⟩ => thn (hb pins s1 σ H1 _ I1 q1) fun u s2 ⟨y, H2, I2, r2, q2⟩ =>
  thn (ho pins s2 σ H2 x y v u _ I2 r1 r2 q2) fun c s3 ⟨z, H3, I3, r3, k, e, q3⟩ => ?_) hm
 subst e
 cases r3
 exact wpAny_truthy_bool ⟨H3, I3, q3⟩
def TruV (K : PySem.W.Frag) (x : V) (H : Hp) (k : Bool) : Prop :=
 match x with
 | .non => k = false
 | .bl b => k = b
 | .int i => k = (i != 0)
 | .str y => y.length ≤ sizeLine ∧ k = ((y.length : Int) != 0)
 | .byt y => y.size ≤ sizeLine ∧ k = ((y.size : Int) != 0)
 | .ref p => (∃ xs, SqL K H p xs ∧ k = !xs.isEmpty) ∨ (∃ xs, SqT K H p xs ∧ k = !xs.isEmpty) ∨ ∃ kvs, H p = some (.dK kvs) ∧ k = !kvs.isEmpty
 | _ => False
theorem zkL {κ : Type} {kvs : List (κ × V)} {vs : List (κ × Value)} (r : KV kvs vs) : (!vs.isEmpty) = !kvs.isEmpty := by
 cases r <;> rfl
theorem zgl {xs : List V} {its : List Value} (r : Vals xs its) : (!its.toArray.isEmpty) = !xs.isEmpty := by
 cases r <;> simp
theorem zfj : (sizeLine : Nat) < 2 ^ 63 := by rw [sizeLine_eq]; decide
theorem zrW : TruR X (fun x H Q => ∃ k, TruV X.K x H k ∧ Q k H) := by
 intro pins s σ H x v Q I rx h
 obtain ⟨k, e, q⟩ := h
 have hl := zfj
 have hs : sizeLine = 16777216 := sizeLine_eq
 cases x with
 | non =>
  cases rx
  have e' : k = false := e
  subst e'
  exact truthy_none ⟨H, I, q⟩
 | bl b =>
  cases rx
  have e' : k = b := e
  subst e'
  exact wpAny_truthy_bool ⟨H, I, q⟩
 | int i =>
  obtain ⟨t, rfl⟩ := rx
  have e' : k = (i != 0) := e
  subst e'
  exact PySem.P.truthy_int ⟨H, I, q⟩
 | str y =>
  obtain ⟨t, rfl⟩ := rx
  obtain ⟨hy, e'⟩ : y.length ≤ sizeLine ∧ k = ((y.length : Int) != 0) := e
  subst e'
  exact PySem.P.truthy_str (by omega) ⟨H, I.tok _, q⟩
 | byt y =>
  obtain ⟨t, rfl⟩ := rx
  obtain ⟨hy, e'⟩ : y.size ≤ sizeLine ∧ k = ((y.size : Int) != 0) := e
  subst e'
  exact PySem.W.truthy_bytes (by omega) ⟨H, I.tok _, q⟩
 | ref p =>
  cases rx
  have e' : (∃ xs, SqL X.K H p xs ∧ k = !xs.isEmpty) ∨ (∃ xs, SqT X.K H p xs ∧ k = !xs.isEmpty) ∨ ∃ kvs, H p = some (.dK kvs) ∧ k = !kvs.isEmpty := e
  rcases e' with ⟨xs, hx, e'⟩ | ⟨xs, hx, e'⟩ | ⟨kvs, hx, e'⟩
  ·subst e'
   obtain ⟨its, r, pl, hz⟩ := I.list hx
   have hlen := r.length
   exact wpAny_truthy_list pl.isList (by simp only [List.size_toArray]; omega) ⟨H, I.tok _, by rw [zgl r]; exact q⟩
  ·subst e'
   obtain ⟨its, r, pl, hz⟩ := I.tuple hx
   have hlen := r.length
   exact truthy_tuple pl (by simp only [List.size_toArray]; omega) ⟨H, I.tok _, by rw [zgl r]; exact q⟩
  ·subst e'
   obtain ⟨hz, hS, vs, r, m⟩ : kvs.length ≤ sizeLine ∧ (p == sysModules) = false ∧ ∃ vs, KV kvs vs ∧ s.heap.DictOf (zaz X.prog X.w) p vs := I.hok p _ hx
   have hlen : kvs.length = vs.length := Paired.length r
   exact wpAny_truthy_dict hS m (by omega) ⟨H, I.tok _, by rw [zkL r]; exact q⟩
 | _ => exact (show False from e).elim
theorem znA (ha : PE X a ta) (he : ∀ whole, isTrue a X.env whole = (do let v ← whole; standAt a.pos; holding [v] (truthy v))) :
  PT X a (fun σ H Q => ta σ H fun x H' => ∃ k, TruV X.K x H' k ∧ Q k H') := by
 intro pins s σ H Q I h
 exact isTrue_plain (thn (ha pins s σ H _ I h) fun v s1 ⟨x, H1, I1, r1, q1⟩ => zrW pins s1 σ H1 x v Q I1 r1 q1) (he _)
theorem zkM : OpR X (binaryOp .Add) (fun x y H Q => ∃ i j, x = .str i ∧ y = .str j ∧ i.length + j.length ≤ sizeLine ∧ Q (.str (i ++ j)) H) := by
 intro pins s σ H x y v u Q I rx ry h
 obtain ⟨i, j, rfl, rfl, hz, q⟩ := h
 obtain ⟨t, rfl⟩ := rx
 obtain ⟨t', rfl⟩ := ry
 exact add_str (fun t' tk => ⟨.str (i ++ j), H, I.tok _, ⟨_, rfl⟩, q⟩) hz
theorem zgD {x : V} {us : List Value} (r : Vals [x] us) : ∃ u, us = [u] ∧ RelV x u := by
 cases r with
 | cons r1 r2 => cases r2; exact ⟨_, rfl, r1⟩
theorem zpG {x y : V} {us : List Value} (r : Vals [x, y] us) : ∃ u w', us = [u, w'] ∧ RelV x u ∧ RelV y w' := by
 cases r with
 | cons r1 r2 =>
  cases r2 with
  | cons r3 r4 => cases r4; exact ⟨_, _, rfl, r1, r3⟩
end
end L2
namespace L2
open PySem PySem.Spec PyProof.Rows
structure ObjM (h : Heap) (x dx C : Addr) (mA : Str → Option Value) : Prop where
 obj : h.get? x = some (PySem.W.instObj C dx)
 ns : h.Ns1 dx mA
 ne : dx ≠ x
theorem zlN {h : Heap} {dx : Addr} {mA : Str → Option Value} (n : h.Ns1 dx mA) : ∃ od, h.get? dx = some od ∧ ∀ name, PySem.W.lookIn name od = some (mA name) := by
 obtain ⟨o, es, ep, ho, hd, hk, _, hm⟩ := n
 refine ⟨o, ho, fun name => ?_⟩
 have e := hm name
 unfold nsFind findBy at e
 rw [← Array.find?_toList] at e
 unfold PySem.W.lookIn
 rw [hd]
 dsimp only
 split
 ·rename_i y q
  rw [q] at e
  exact congrArg some e
 ·rename_i q
  rw [q] at e
  have a : es.toList.any (·.refKey) = false := by
   rw [List.any_eq_false]
   intro y hy
   obtain ⟨z, t, hkey⟩ := hk y (Array.mem_toList_iff.mp hy)
   simp [DictEntry.refKey, hkey]
  have a' : ¬ es.toList.any (·.refKey) = true := by rw [a]; exact Bool.false_ne_true
  rw [if_neg a']
  exact congrArg some e
theorem ObjM.look {h : Heap} {x dx C : Addr} {mA : Str → Option Value} (I : ObjM h x dx C mA) : ∃ od, PySem.W.InstAt h x (PySem.W.instObj C dx) C (some od) ∧ ∀ name, PySem.W.lookIn name od = some (mA name) :=
 let ⟨od, ho, hl⟩ := zlN I.ns
 ⟨od, ⟨I.obj, rfl, rfl, ho⟩, hl⟩
section
variable {prog : Program} {w : World} {A : Around} {E : Value → Shared → Prop} {s : Shared} {K : PySem.W.Frag} {x dx C f : Addr} {mA : Str → Option Value} {name : Str} {v : Value}
end
theorem RelO.some_of {v : V} {o : Option Value} (r : RelO (some v) o) : ∃ u, o = some u ∧ RelV v u := by
 cases o with
 | none => exact (show False from r).elim
 | some u => exact ⟨u, rfl, r⟩
section
variable {P : Program} {w : World} {H H' : Hp} {h h' : Heap} {a C dx : Addr} {fs fs' : List (Str × V)}
theorem zpH (hok : HOk P w H h) (e : H a = some (.ins C dx fs)) : ∃ mA, ObjM h a dx C mA ∧ (∀ f, RelO (fs.lookup f) (mA f)) ∧ PySem.Within mA (fs.map (·.1)) ∧ fs.length ≤ 1000 ∧ H dx = some (.own a) := by
 obtain ⟨d, z, ne, ob, mA, n, r, q⟩ := (show zbw P w H h a (.ins C dx fs) from hok a _ e)
 exact ⟨mA, ⟨ob, n, ne⟩, r, q, z, d⟩
end
structure Cls (K : PySem.W.Frag) (C : Addr) : Prop where
 pg : PySem.W.plainGet K C Str.empty = true
 hd : PySem.W.hasDictIn K C = true
 po : PySem.W.plainOver K C = true
 sa : PySem.W.findIn K (.ref C) "__setattr__" = some (some (.builtin "object.__setattr__"))
theorem Cls.get {K : PySem.W.Frag} {C : Addr} (c : Cls K C) (f : Str) : PySem.W.plainGet K C f = true := c.pg
section
variable {X : Cx} {pins : List (Addr × Obj)} {σ : St} {H : Hp} {s : Shared} {a C dx : Addr} {fs : List (Str × V)} {f : Str} {v : V} {A : Around} {E : Value → Shared → Prop}
end
section
variable {X : Cx} {o e value : Expr} {f : Str} {pos pos' tpos : Pos} {ta tv : TE}
end
section
variable {X : Cx} {pins : List (Addr × Obj)} {σ : St} {H : Hp} {s : Shared} {A : Around} {E : Value → Shared → Prop} {Q : Value → Shared → Prop} {c : Value} {b : Bool}
inductive TyOf (K : PySem.W.Frag) (H : Hp) : V → Value → Prop where
 | non : TyOf K H .non (.type "NoneType")
 | bl (x : Bool) : TyOf K H (.bl x) (.type "bool")
 | int (i : Int) : TyOf K H (.int i) (.type "int")
 | str (x : Str) : TyOf K H (.str x) (.type "str")
 | flt (x : UInt64) : TyOf K H (.flt x) (.type "float")
 | lst {a : Addr} {xs : List V} (e : H a = some (.lst xs)) : TyOf K H (.ref a) (.type "list")
 | frz {a : Addr} {o : Obj} {xs : List V} (e : H a = some (.frz o (.lst xs))) : TyOf K H (.ref a) (.type "list")
 | tup {a : Addr} {xs : List V} (e : H a = some (.tup xs)) : TyOf K H (.ref a) (.type "tuple")
 | dK {a : Addr} {kvs : List (Key × V)} (e : H a = some (.dK kvs)) : TyOf K H (.ref a) (.type "dict")
 | dT {a : Addr} {kvs : List (List Key × V)} (e : H a = some (.dT kvs)) : TyOf K H (.ref a) (.type "dict")
 | ins {a C dx : Addr} {fs : List (Str × V)} (e : H a = some (.ins C dx fs)) (cl : Cls K C) (ha : PySem.W.findIn K (.ref C) "__class__" = some (some (.builtin "object.__class__")))
   (hn : PySem.W.specialIn K (.builtin "object.__class__") "__get__" = some (some (.builtin "getset_descriptor.__get__"))) (htk : PySem.W.takesIn K (.builtin "object.__class__") = some true)
   (hm : PySem.W.mroIn K C (.type "object") = some true) : TyOf K H (.ref a) (.ref C)
theorem zlO {x : V} {u t : Value} (I : Inv X pins σ H s) (rx : RelV x u) (ty : TyOf X.K H x t) (e : PySem.W.kitOne X.K t c = some b) (h : ∀ tk, Q (.bool b) { s with toks := tk }) :
  wpAny (model X.prog X.w) A (call (.builtin "isinstance") [u, c]) Q E s := by
 cases ty with
 | non => cases (show u = Value.none from rx); exact PySem.W.kia_one PySem.W.kitx_none I.kIn True.intro e (fun z => nomatch z) h
 | bl y => cases (show u = Value.bool y from rx); exact PySem.W.kia_one PySem.W.kitx_bool I.kIn True.intro e (fun z => nomatch z) h
 | int i => obtain ⟨t, q⟩ := (show ∃ t, u = Value.int i t from rx); cases q; exact PySem.W.kia_one PySem.W.kitx_int I.kIn True.intro e (fun z => nomatch z) h
 | str y => obtain ⟨t, q⟩ := (show ∃ t, u = Value.str y t from rx); cases q; exact PySem.W.kia_one PySem.W.kitx_str I.kIn True.intro e (fun z => nomatch z) h
 | flt y => obtain ⟨t, q⟩ := (show ∃ t, u = Value.float y t from rx); cases q; exact PySem.W.kia_one PySem.W.kitx_float I.kIn True.intro e (fun z => nomatch z) h
 | @lst a xs ea =>
  cases (show u = Value.ref a from rx)
  obtain ⟨_, _, n, _, h1⟩ := (show zbw X.prog X.w H s.heap a (.lst xs) from I.hok a _ ea)
  exact PySem.W.kia_one PySem.W.kitx_list I.kIn ⟨_, h1, rfl⟩ e (fun z => nomatch z) h
 | @frz a ob xs ea =>
  cases (show u = Value.ref a from rx)
  obtain ⟨_, _, _, n, _, h1⟩ := (show zbw X.prog X.w H s.heap a (.frz ob (.lst xs)) from I.hok a _ ea)
  exact PySem.W.kia_one PySem.W.kitx_list I.kIn ⟨_, h1, rfl⟩ e (fun z => nomatch z) h
 | @tup a xs ea =>
  cases (show u = Value.ref a from rx)
  obtain ⟨_, _, _, p⟩ := (show zbw X.prog X.w H s.heap a (.tup xs) from I.hok a _ ea)
  obtain ⟨o, h1, h2, _⟩ := p
  exact PySem.W.kia_one PySem.W.kitx_tuple I.kIn ⟨o, h1, h2⟩ e (fun z => nomatch z) h
 | @dK a kvs ea =>
  cases (show u = Value.ref a from rx)
  obtain ⟨_, _, vs, _, p⟩ := (show zbw X.prog X.w H s.heap a (.dK kvs) from I.hok a _ ea)
  obtain ⟨o, es, ep, h1, h2, _⟩ := p
  exact PySem.W.kia_one PySem.W.kitx_dict I.kIn ⟨o, h1, h2.1⟩ e (fun z => nomatch z) h
 | @dT a kvs ea =>
  cases (show u = Value.ref a from rx)
  obtain ⟨_, _, xs, _, o, es, ep, h1, h2, _⟩ := (show zbw X.prog X.w H s.heap a (.dT kvs) from I.hok a _ ea)
  exact PySem.W.kia_one PySem.W.kitx_dict I.kIn ⟨o, h1, h2.1⟩ e (fun z => nomatch z) h
 | @ins a C dx fs ea cl ha hn htk hm =>
  cases (show u = Value.ref a from rx)
  obtain ⟨mA, O, _⟩ := zpH I.hok ea
  obtain ⟨od, J, _⟩ := O.look
  exact PySem.W.kia_one (PySem.W.kitx_own (cl.get _) cl.hd ha hn htk hm) I.kIn J e (fun z => nomatch z) h
end
end L2
namespace L2
open PySem PySem.Spec PyProof.Rows
structure Room (k : Nat) (A : Around) : Prop where
 hd : A.handled = none
 dp : A.depth + 3 * k + 5 < recursionLimit
 un : A.units + 16 * k + 200 < cLine
theorem Room.mono {j k : Nat} {A : Around} (r : Room k A) (h : j ≤ k) : Room j A := ⟨r.hd, by have := r.dp; omega, by have := r.un; omega⟩
theorem Room.deeper {k : Nat} {A : Around} (r : Room (k + 1) A) (env : Env) : Room k (A.deeper env) :=
 ⟨r.hd, by have := r.dp; show A.depth + 1 + 3 * k + 5 < _; omega, by have := r.un; show A.units + 3 + 16 * k + 200 < _; omega⟩
theorem Room.depth {k : Nat} {A : Around} (r : Room k A) : A.depth < recursionLimit := by have := r.dp; omega
theorem Room.units {k : Nat} {A : Around} (r : Room k A) : A.units + 64 < cLine := by have := r.un; omega
def tNil : TA := fun _ H Q => Q [] H
def zt1 (ta : TE) (tr : TA) : TA := fun σ H Q => ta σ H fun x H1 => tr σ H1 fun xs H2 => Q (x :: xs) H2
section
variable {X : Cx} {e : Expr} {es : List Expr} {te : TE} {t : TA} {pos : Pos}
theorem zoN : PA X [] tNil := fun _ _ _ _ H Q I h => Calls.spliced_nil ⟨[], H, I, .nil, h⟩
theorem zlP (ha : PE X e te) (hr : PA X es t) (hs : starEach (e :: es) X.env = (false, eval e X.env) :: starEach es X.env := by rfl) : PA X (e :: es) (zt1 te t) := by
 intro pos pins s σ H Q I h
 rw [hs]
 show wpAny _ _ (spliced ((false, eval e X.env) :: backTo pos (starEach es X.env))) _ _ s
 refine Calls.spliced_cons (thn (ha pins s σ H _ I h) fun u s1 ⟨x, H1, I1, r1, q1⟩ => ?_)
 exact thn (hr pos pins s1 σ H1 _ I1 q1) fun us s2 ⟨xs, H2, I2, r2, q2⟩ => ⟨x :: xs, H2, I2, .cons r1 r2, q2⟩
def tTup (t : TA) : TE := fun σ H Q => t σ H fun xs H1 => xs.length ≤ sizeLine ∧ ∀ p, H1 p = none → Q (.ref p) (upd H1 p (.tup xs))
def tLst (t : TA) : TE := fun σ H Q => t σ H fun xs H1 => xs.length ≤ sizeLine ∧ ∀ p, H1 p = none → Q (.ref p) (upd H1 p (.lst xs))
theorem zrX {x1} (h : PA X es t) : PE X (.Tuple es x1 pos) (tTup t) := by
 intro pins s σ H Q I hq
 refine wpAny_Tuple_spliced (thn (h pos pins s σ H _ I hq) fun us s1 ⟨xs, H1, I1, r, z, q⟩ => ⟨by rw [← r.length]; exact z, ?_⟩)
 have hf : H1 s1.heap.objs.size = none := I1.hok.fresh (Nat.le_refl _)
 refine ⟨.ref s1.heap.objs.size, upd H1 s1.heap.objs.size (.tup xs), I1.laid (t' := s1.toks) (fun b u e => Heap.get?_push_of_some _ e) (Nat.le_refl _) ?_, rfl, q _ hf⟩
 exact ⟨z, us, r, ⟨_, Heap.get?_push_size _ rfl, rfl, _, rfl⟩⟩
theorem zoO (h : PA X es t) : PE X (.List es pos) (tLst t) := by
 intro pins s σ H Q I hq
 refine wpAny_List_spliced (thn (h pos pins s σ H _ I hq) fun us s1 ⟨xs, H1, I1, r, z, q⟩ => ⟨by rw [← r.length]; exact z, ?_⟩)
 have hf : H1 s1.heap.objs.size = none := I1.hok.fresh (Nat.le_refl _)
 refine ⟨.ref s1.heap.objs.size, upd H1 s1.heap.objs.size (.lst xs), I1.laid (t' := s1.toks) (fun b u e => Heap.get?_push_of_some _ e) (Nat.le_refl _) ?_, rfl, q _ hf⟩
 exact ⟨z, us, 0, r, Heap.get?_push_size _ rfl⟩
end
abbrev Sp := List V → Hp → VK → XK → Prop
abbrev CXT := List Env → Hp → Shared → XK → Value → Shared → Prop
structure Env0 (P : Program) (w : World) (K : PySem.W.Frag) (mg : Str → Option Value) (base : Heap) (A : Around) (outer : List Env) (s : Shared) (H : Hp) : Prop where
 frames : A.frames = some outer
 mod : Mod K mg base
 bs : ∀ b o, base.get? b = some o → s.heap.get? b = some o ∧ H b = none
 bsz : base.objs.size ≤ s.heap.objs.size
 funs : s.heap.FunFrames base outer
 frf : ∀ b ∈ frs outer, H b = none
 hok : HOk P w H s.heap
 bare : AllBare s.gens
def CE (outer : List Env) (P : Program) (w : World) (H : Hp) (s : Shared) (Q : VK) (u : Value) (s' : Shared) : Prop :=
 ∃ v H', s'.os = s.os ∧ AllBare s'.gens ∧ Un (frs outer) [] H H' s.heap s'.heap ∧ HOk P w H' s'.heap ∧ RelV v u ∧ Q v H'
def CR (CX : CXT) (outer : List Env) (P : Program) (w : World) (H : Hp) (s : Shared) (Q : VK) (E : XK) (r : Result) (s' : Shared) : Prop :=
 match r with
 | .ok (.ret u) => CE outer P w H s Q u s'
 | .ok _ => False
 | .error e => CX outer H s E e s'
structure FnOk (P : Program) (w : World) (K : PySem.W.Frag) (mg : Str → Option Value) (base : Heap) (CX : CXT) (k : Nat) (f : Addr) (fd : FuncData) (ps : List Str) (sp : Sp) : Prop where
 len : ∀ vs H Q E, sp vs H Q E → vs.length = ps.length
 run : ∀ (A : Around) (outer : List Env) (s : Shared) (H : Hp) (args : Args) (us : List Value) (vs : List V) (Q : VK) (E : XK), Room k A → Env0 P w K mg base A outer s H → BindsTo s fd args (ps.zip us) → Vals vs us → sp vs H Q E →
  codeAny (model P w) A (.call (.ref f) args) (CR CX outer P w H s Q E) s
section
variable {X : Cx} {pins : List (Addr × Obj)} {σ : St} {H : Hp} {s s' : Shared}
theorem Inv.env0 (I : Inv X pins σ H s) : Env0 X.prog X.w X.K X.mg X.base X.A X.stack s H :=
 ⟨I.ok.frames, I.ok.mod, I.bs, Nat.le_trans I.ok.bsz I.sz, I.stack, I.stkFree, I.hok, I.bare⟩
theorem Inv.after {Q : VK} {u : Value} (I : Inv X pins σ H s) (h : CE X.stack X.prog X.w H s Q u s') : EP X pins σ Q u s' := by
 obtain ⟨v, H', os, bare, un, hok, r, q⟩ := h
 obtain ⟨hh, g, d, t, os'⟩ := s'
 obtain rfl : os' = s.os := os
 exact ⟨v, H', I.call (h' := hh) (g' := g) (d' := d) (t' := t) (ch := []) un hok bare (fun b z => absurd z (by simp)), r, q⟩
end
def zrY (sp : Sp) (dvs : List V) (E : XK) (t : TA) : TE := fun σ H Q => t σ H fun vs H1 => sp (vs ++ dvs) H1 Q E
def zf7 (K : PySem.W.Frag) (fd : FuncData) (ps : List Str) (ds : List Value) : Prop :=
 ∀ (s : Shared) (us : List Value), K.In s.heap → (us ++ ds).length = ps.length → BindsTo s fd ⟨us, []⟩ (ps.zip (us ++ ds))
theorem zf7.all {K : PySem.W.Frag} {fd : FuncData} {ps : List Str} (h : ∀ us : List Value, us.length = ps.length → bindArgs fd ⟨us, []⟩ = pure (ps.zip us)) : zf7 K fd ps [] := fun s us _ hl => by
 rw [List.append_nil] at hl ⊢
 exact .of_eq (h us hl)
def zhk (CX : CXT) (X : Cx) (E : XK) : Prop := ∀ (pins : List (Addr × Obj)) (σ : St) (H : Hp) (s : Shared) (e : Value) (s' : Shared), Inv X pins σ H s → CX X.stack H s E e s' → X.xe e s'
section
variable {X : Cx} {CX : CXT} {k : Nat} {f C : Addr} {fd : FuncData} {ps : List Str} {sp : Sp} {dvs : List V} {ds : List Value} {E : XK} {x m : Str} {p pos apos : Pos} {e o : Expr} {es : List Expr} {ta : TE} {t : TA}
theorem zrZ {pins : List (Addr × Obj)} {σ : St} {H : Hp} {s : Shared} {Q : VK} {us : List Value} {vs : List V} (F : FnOk X.prog X.w X.K X.mg X.base CX k f fd ps sp) (hr : Room k X.A) (hb : zf7 X.K fd ps ds) (hd : Vals dvs ds) (hx : zhk CX X E)
  (I : Inv X pins σ H s) (r : Vals vs us) (h : sp (vs ++ dvs) H Q E) : wpAny (model X.prog X.w) X.A (call (.ref f) us) (EP X pins σ Q) X.xe s := by
 have r2 : Vals (vs ++ dvs) (us ++ ds) := r.append hd
 have hl : (us ++ ds).length = ps.length := by rw [← r2.length]; exact F.len _ _ _ _ h
 refine wpAny_call (codeAny_mono (F.run X.A X.stack s H ⟨us, []⟩ (us ++ ds) (vs ++ dvs) Q E hr I.env0 (hb s us I.kIn hl) r2 h) fun r s' hq => ?_)
 cases r with
 | error e => exact hx pins σ H s e s' I hq
 | ok fl =>
  cases fl with
  | ret u => exact I.after hq
  | next => exact False.elim hq
  | brk => exact False.elim hq
  | cont => exact False.elim hq
theorem zlQ (F : FnOk X.prog X.w X.K X.mg X.base CX k f fd ps sp) (hr : Room k X.A) (hg : Gl X x) (hm : X.mg x = some (.ref f)) (hk : PySem.W.keepIn X.K (.ref f) = true) (hb : zf7 X.K fd ps ds) (hd : Vals dvs ds) (hx : zhk CX X E)
  (ha : PA X (e :: es) t) (hdb : (x == ("__debug__" : Str)) = false := by decide) (he : starEach (e :: es) X.env = (false, eval e X.env) :: starEach es X.env := by rfl) (hpl : (backTo pos (starEach es X.env)).any (·.1) = false := by rfl) :
  PE X (.Call (.Name x p) (e :: es) [] pos) (zrY sp dvs E t) := by
 intro pins s σ H Q I h
 refine wpAny_Call_Name_kw (zfi I hg hm ?_ hdb)
 refine PySem.W.callWith_K (h₀ := X.base) I.ok.mod.kin hk (thn (ha pos pins s σ H _ I h) fun us s1 ⟨vs, H1, I1, r, q⟩ => ⟨I1.kIn, ?_⟩) he hpl
 exact zrZ F hr hb hd hx I1 r q
end
section
variable {X : Cx} {CX : CXT} {k : Nat} {f C : Addr} {fd : FuncData} {ps ks : List Str} {sp : Sp} {E : XK} {x m : Str} {p pos apos kpos : Pos} {e o : Expr} {es : List Expr} {kws : List Keyword} {te ta : TE} {t tk : TA} {nm : Option Str}
variable {g : List Value → List Value → List Value} {gV : List V → List V → List V}
end
structure zaR (N P : List Str) (sc : Scope) : Prop where
 kind : sc.kind = .function
 co : sc.isCoroutine = false
 gen : sc.isGenerator = false
 nd : N.Nodup
 pre : N.take P.length = P
 par : ∀ x ∈ P, sc.names.lookup x = some .local ∨ sc.names.lookup x = some .cell
 nofree : ∀ y ∈ sc.names, y.2 ≠ .free
theorem zhl {kindOf : Str → Option NameKind} {x : Str} : ∀ {binds : List (Str × Value)} {m : Str → Option Value}, (∀ v, (x, v) ∉ binds) → bindL kindOf binds m x = m x
 | [], _, _ => rfl
 | (n, v) :: r, m, h => by
  unfold bindL
  rw [zhl fun w hw => h w (List.mem_cons_of_mem _ hw)]
  split
  ·have : x ≠ n := by rintro rfl; exact h v List.mem_cons_self
   simp [this]
  ·rfl
theorem zhm {kindOf : Str → Option NameKind} {x : Str} : ∀ {binds : List (Str × Value)} {m : Str → Option Value}, (∀ v, (x, v) ∉ binds) → bindC kindOf binds m x = m x
 | [], _, _ => rfl
 | (n, v) :: r, m, h => by
  unfold bindC
  rw [zhm fun w hw => h w (List.mem_cons_of_mem _ hw)]
  split
  ·rfl
  ·have : x ≠ n := by rintro rfl; exact h v List.mem_cons_self
   simp [this]
theorem zhn {kindOf : Str → Option NameKind} {x : Str} {v : Value} : ∀ {P : List Str} {vs : List Value} {i : Nat} {m : Str → Option Value}, P.Nodup → P[i]? = some x → vs[i]? = some v → kindOf x = some .local →
  bindL kindOf (P.zip vs) m x = some v
 | [], _, _, _, _, h, _, _ => by simp at h
 | _ :: _, [], _, _, _, _, h, _ => by simp at h
 | p :: P, w :: vs, 0, m, nd, h1, h2, hk => by
  simp at h1 h2; subst h1; subst h2
  show bindL kindOf ((p, w) :: P.zip vs) m p = _
  unfold bindL
  rw [zhl fun v hv => (List.nodup_cons.mp nd).1 (List.of_mem_zip hv).1, if_pos hk]
  simp
 | p :: P, w :: vs, i + 1, m, nd, h1, h2, hk => by
  show bindL kindOf ((p, w) :: P.zip vs) m x = _
  unfold bindL
  exact zhn (i := i) (List.nodup_cons.mp nd).2 (by simpa using h1) (by simpa using h2) hk
theorem zho {kindOf : Str → Option NameKind} {x : Str} {v : Value} : ∀ {P : List Str} {vs : List Value} {i : Nat} {m : Str → Option Value}, P.Nodup → P[i]? = some x → vs[i]? = some v → kindOf x ≠ some .local →
  bindC kindOf (P.zip vs) m x = some v
 | [], _, _, _, _, h, _, _ => by simp at h
 | _ :: _, [], _, _, _, _, h, _ => by simp at h
 | p :: P, w :: vs, 0, m, nd, h1, h2, hk => by
  simp at h1 h2; subst h1; subst h2
  show bindC kindOf ((p, w) :: P.zip vs) m p = _
  unfold bindC
  rw [zhm fun v hv => (List.nodup_cons.mp nd).1 (List.of_mem_zip hv).1, if_neg hk]
  simp
 | p :: P, w :: vs, i + 1, m, nd, h1, h2, hk => by
  show bindC kindOf ((p, w) :: P.zip vs) m x = _
  unfold bindC
  exact zho (i := i) (List.nodup_cons.mp nd).2 (by simpa using h1) (by simpa using h2) hk
def start (N : List Str) (vs : List V) : St := vs.map some ++ List.replicate (N.length - vs.length) none
def cxOf (CX : CXT) (P : Program) (w : World) (K : PySem.W.Frag) (mg : Str → Option Value) (base : Heap) (N : List Str) (qual : Str) (scope : Scope) (f : Addr) (cd : Value) (A : Around) (outer : List Env) (s : Shared) (H : Hp) (E : XK) : Cx where
 prog := P
 w := w
 K := K
 mg := mg
 base := base
 A := A.deeper (envOfC qual scope s.heap.objs.size f cd)
 N := N
 s₀ := s
 H₀ := H
 env := envOfC qual scope s.heap.objs.size f cd
 outer := outer
 stack := envOfC qual scope s.heap.objs.size f cd :: outer
 ex := []
 calm := true
 fn := fun _ => true
 pn := []
 xe := fun e s' => wpAny (model P w) (A.deeper (envOfC qual scope s.heap.objs.size f cd)) (leaving (envOfC qual scope s.heap.objs.size f cd) e) (fun _ s'' => CX outer H s E e s'') (fun e' s'' => CX outer H s E e' s'') s'
theorem zjR {sc : Scope} {n : Nat} {x : Str} (h : sc.names.lookup x = some .cell) : ∃ c, (cellsFrom n sc.names []).lookup x = some c := by
 have q := PySem.W.cellsFrom_some sc.names n [] (.inl h)
 exact Option.isSome_iff_exists.mp q
theorem zhp {CX : CXT} {P : Program} {w : World} {K : PySem.W.Frag} {mg : Str → Option Value} {base : Heap} {N ps : List Str} {qual : Str} {scope : Scope} {f : Addr} {cd : Value} {A : Around} {outer : List Env} {s s1 : Shared} {H : Hp} {E : XK} {us : List Value} {vs : List V}
  (S : zaR N ps scope) (hd : A.handled = none) (e0 : Env0 P w K mg base A outer s H) (hl : vs.length = ps.length) (r : Vals vs us)
  (x : InCallC s s.heap.objs.size (bindL (envOfC qual scope s.heap.objs.size f cd).kindOf (ps.zip us) fun _ => none) (cellsFrom (s.heap.objs.size + 1) scope.names []) (bindC (envOfC qual scope s.heap.objs.size f cd).kindOf (ps.zip us) fun _ => none) s1) :
  Inv (cxOf CX P w K mg base N qual scope f cd A outer s H E) [] (start N vs) H s1 := by
 have hpl : ps.length ≤ N.length := by have := congrArg List.length S.pre; rw [List.length_take] at this; omega
 obtain ⟨h1, tk, rfl, hk⟩ := x.done
 have noA : ∀ b : Addr, b ∉ (cxOf CX P w K mg base N qual scope f cd A outer s H E).ex := fun b z => absurd (show b ∈ ([] : List Addr) from z) (by simp)
 refine ⟨⟨e0.mod, S.kind, rfl, rfl, Nat.le_refl _, fun y z c h1 h2 => ?_, fun y hy => ?_, fun y c _ h => ?_, fun _ => hd, Around.frames_deeper e0.frames, .inr ⟨rfl, rfl⟩, fun b z => absurd z (noA b), e0.bs, e0.bsz, fun b _ _ => noA b, fun b z => absurd z (noA b), e0.funs, e0.frf⟩,
  rfl, e0.bare, Un.kept hk, ⟨_, x.toInCall.ns, fun i y v h1 h2 h3 => ?_⟩, fun y c h => ⟨_, x.cell y c h⟩, e0.hok.fresh (Nat.le_refl _), fun y c h => ?_, fun p hp => absurd (show p ∈ ([] : List (Addr × Obj)) from hp) (by simp), e0.hok.kept hk, ?_⟩
 ·exact name_of_addr x.apart (PySem.mem_of_lookup h1) (PySem.mem_of_lookup h2)
 ·have hy : scope.names.lookup y = some .cell ∨ scope.names.lookup y = some .free := hy
  rcases hy with hy | hy
  ·exact zjR hy
  ·exact absurd rfl (S.nofree _ (PySem.mem_of_lookup hy))
 ·exact Nat.le_of_lt (x.above y c (PySem.mem_of_lookup h))
 ·have hi : i < vs.length := by
   unfold start at h2
   by_cases hi : i < vs.length
   ·exact hi
   ·rw [List.getElem?_append_right (by simpa using hi)] at h2
    rw [List.getElem?_replicate] at h2
    split at h2 <;> cases h2
  have ha : vs[i]? = some v := by
   unfold start at h2
   rw [List.getElem?_append_left (by simpa using hi), List.getElem?_map] at h2
   cases e : vs[i]? with
   | none => rw [e] at h2; cases h2
   | some a => rw [e] at h2; cases h2; rfl
  obtain ⟨u, hu, rv⟩ := r.get ha
  have hp : ps[i]? = some y := by
   rw [← S.pre, List.getElem?_take_of_lt (by omega)]; exact h1
  have ndP : ps.Nodup := by rw [← S.pre]; exact S.nd.sublist (List.take_sublist _ _)
  refine ⟨u, rv, ?_⟩
  rcases S.par y (List.mem_of_getElem? hp) with k | k
  ·exact .inl ⟨k, zhn ndP hp hu k⟩
  ·obtain ⟨c, e⟩ := zjR (n := s.heap.objs.size + 1) k
   refine .inr ⟨.inl k, c, e, ?_⟩
   have q := x.cell y c e
   rw [zho ndP hp hu (by show scope.names.lookup y ≠ _; rw [k]; decide)] at q
   exact q
 ·exact e0.hok.fresh (Nat.le_of_lt (x.above y c (PySem.mem_of_lookup h)))
 ·unfold start
  show _ = N.length
  rw [List.length_append, List.length_map, List.length_replicate]
  omega
theorem zr0 {CX : CXT} {P : Program} {w : World} {K : PySem.W.Frag} {mg : Str → Option Value} {base : Heap} {k : Nat} {f : Addr} {name qual : Str} {params : Arguments} {body : List Stmt} {scope : Scope} {dV kV doc pm cdv ct oc : Value} {an od : Option Addr}
  {osl : Array (Option Value)} {N ps : List Str} {sp : Sp} (lk : K.lookup f = some ⟨oc, od, .func (PySem.W.fnOf name qual params body scope dV kV doc pm an cdv ct), osl⟩) (hcd : PySem.W.codeIn K cdv qual = true) (S : zaR N ps scope)
  (len : ∀ vs H Q E, sp vs H Q E → vs.length = ps.length)
  (hbody : ∀ (A : Around) (outer : List Env) (s : Shared) (H : Hp) (vs : List V) (Q : VK) (E : XK), Room k (A.deeper (envOfC qual scope s.heap.objs.size f cdv)) → sp vs H Q E →
   ∃ t, PSs (cxOf CX P w K mg base N qual scope f cdv A outer s H E) body t ∧ t { nx := fun _ H' => Q .non H', rt := Q } (start N vs) H) :
  FnOk P w K mg base CX (k + 1) f (PySem.W.fnOf name qual params body scope dV kV doc pm an cdv ct) ps sp := by
 refine ⟨len, fun A outer s H args us vs Q E hr e0 hb r hsp => ?_⟩
 have hl := len _ _ _ _ hsp
 have KX : K.In s.heap := e0.mod.kin.keeps fun b o e => (e0.bs b o e).1
 have lim : s.heap.NoLimit := e0.mod.nolimit.keeps fun b o e => (e0.bs b o e).1
 have hkind : ∀ y ∈ ps.zip us, scope.names.lookup y.1 = some .local ∨ (scope.names.lookup y.1 = some .cell ∧ ((cellsFrom (s.heap.objs.size + 1) scope.names []).lookup y.1).isSome = true) := fun ⟨n, v⟩ hy => by
  rcases S.par n (List.of_mem_zip hy).1 with q | q
  ·exact .inl q
  ·exact .inr ⟨q, PySem.W.cellsFrom_some _ _ _ (.inl q)⟩
 refine codeAny_call_function hr.depth (KX _ _ lk) rfl S.co S.gen rfl (PySem.W.codeRec_of KX hcd) (hb _ _ _ _ ?_)
 refine wpAny_newFunctionEnv_cells S.kind hkind fun env he s1 x => ?_
 subst he
 refine ⟨lim.keeps x.toInCall.keep, codeAny_func ?_⟩
 obtain ⟨t, ht, hq⟩ := hbody A outer s H vs Q E (hr.deeper _) hsp
 have I : Inv (cxOf CX P w K mg base N qual scope f cdv A outer s H E) [] (start N vs) H s1 := zhp S hr.hd e0 hl r x
 refine wpAny_mono (ht [] s1 (start N vs) H _ I hq) (fun fl s' hs => ?_) fun e s' hs => hs
 have fin : ∀ {σ' : St} {H' : Hp} {v : V} {u : Value}, Inv (cxOf CX P w K mg base N qual scope f cdv A outer s H E) [] σ' H' s' → RelV v u → Q v H' → CE outer P w H s Q u s' :=
  fun {σ' H' v u} J rv q => ⟨v, H', J.os, J.bare, J.base, J.hok, rv, q⟩
 cases fl with
 | ret u =>
  obtain ⟨v, σ', H', J, rv, q⟩ := hs
  exact fin J rv q
 | next =>
  obtain ⟨σ', H', J, q⟩ := hs
  exact fin (v := V.non) (u := Value.none) J rfl q
 | brk =>
  obtain ⟨_, _, _, q⟩ := hs
  exact False.elim q
 | cont =>
  obtain ⟨_, _, _, q⟩ := hs
  exact False.elim q
end L2
namespace L2
open PySem PySem.Spec PyProof.Rows
section
variable {X : Cx} {x : Str} {p pos : Pos} {e : Expr} {es : List Expr} {t : TA} {id T : String} {r : List V → Hp → VK → Prop}
def tCB (r : List V → Hp → VK → Prop) (t : TA) : TE := fun σ H Q => t σ H fun vs H1 => r vs H1 Q
theorem znB (hc : zcf X (.builtin id) r) (hg : Gl X x) (hm : X.mg x = none) (hv : bootBuiltins x = some (.builtin id)) (ha : PA X (e :: es) t) (hn : x ≠ "__name__" := by decide) (hdb : (x == ("__debug__" : Str)) = false := by decide)
  (he : starEach (e :: es) X.env = (false, eval e X.env) :: starEach es X.env := by rfl) (hpl : (backTo pos (starEach es X.env)).any (·.1) = false := by rfl) : PE X (.Call (.Name x p) (e :: es) [] pos) (tCB r t) := by
 intro pins s σ H Q I h
 refine wpAny_Call_Name_kw (zgk I hg hm hv ?_ hn hdb)
 exact PyProof.Rows.callWith_builtin1 (thn (ha pos pins s σ H _ I h) fun us s1 ⟨vs, H1, I1, r1, q1⟩ => hc pins s1 σ H1 vs us Q I1 r1 q1) he hpl
theorem zlR (hc : zcf X (.type T) r) (hg : Gl X x) (hm : X.mg x = none) (hv : bootBuiltins x = some (.type T)) (ha : PA X (e :: es) t) (hn : x ≠ "__name__" := by decide) (hdb : (x == ("__debug__" : Str)) = false := by decide)
  (he : starEach (e :: es) X.env = (false, eval e X.env) :: starEach es X.env := by rfl) (hpl : (backTo pos (starEach es X.env)).any (·.1) = false := by rfl) : PE X (.Call (.Name x p) (e :: es) [] pos) (tCB r t) := by
 intro pins s σ H Q I h
 refine wpAny_Call_Name_kw (zgk I hg hm hv ?_ hn hdb)
 exact PyProof.Rows.callWith_type1 (thn (ha pos pins s σ H _ I h) fun us s1 ⟨vs, H1, I1, r1, q1⟩ => hc pins s1 σ H1 vs us Q I1 r1 q1) he hpl
end
end L2
namespace HT
open PySem PyProof.Rows
section
open PySem.SeqAt
open PySem.AutoSeq1 (wpAny_loadPart')
open PySem.MeetsSeq PySem.MeetsSeq2 PySem.MeetsSeq3
end
section
variable {prog : Program} {w : World} {A : Around} {E : Value → Shared → Prop} {s : Shared}
theorem cat_tup {t b : Addr} {vs ws : List Value} {Q : Value → Shared → Prop} (ht : IsTup s.heap t vs.toArray) (hb : IsTup s.heap b ws.toArray) (hv : vs ≠ [])
  (h1 : ws = [] → Q (.ref t) s) (h2 : ws ≠ [] → Q (.ref s.heap.objs.size) { s with heap := s.heap.push { cls := .type "tuple", data := .seq (vs ++ ws).toArray } })
  (hsz : vs.length + ws.length ≤ sizeLine) : wpAny (model prog w) A (binaryOp .Add (.ref t) (.ref b)) Q E s := by
 obtain ⟨⟨cls, dd, data, sl⟩, ho, hc, n, hd⟩ := id ht
 obtain ⟨⟨cls2, dd2, data2, sl2⟩, ho2, hc2, n2, hd2⟩ := id hb
 simp only at hc hd hc2 hd2
 subst hc hd hc2 hd2
 have e : vs.toArray ++ ws.toArray = (vs ++ ws).toArray := by simp
 by_cases hw : ws = []
 ·exact concat_meets ⟨_, ho, rfl⟩ ⟨_, ho2, rfl⟩ noFill_tuple_add seq_tuple_add PySem.F.slot_tuple_add PySem.F.entry_tuple_add (PySem.F.args_tuple_add_2 _ _)
   (tuple_addW1 t b vs.toArray ws.toArray n n2 dd dd2 sl sl2 (by simpa using hv) (by simp [hw])) ⟨ho, ho2, h1 hw⟩
 ·refine concat_meets ⟨_, ho, rfl⟩ ⟨_, ho2, rfl⟩ noFill_tuple_add seq_tuple_add PySem.F.slot_tuple_add PySem.F.entry_tuple_add (PySem.F.args_tuple_add_2 _ _)
   (tuple_addW2 t b vs.toArray ws.toArray n n2 dd dd2 sl sl2 (by simpa using hv) (by simpa using hw) (by rw [List.size_toArray, List.size_toArray]; exact hsz)) ⟨ho, ho2, ?_⟩
  rw [e]
  exact h2 hw
def sIx (n d : Nat) : Option Int → Nat
 | none => d
 | some v => if v < 0 then (v + (n : Int)).toNat else min v.toNat n
theorem sIx_nat (n d k : Nat) : sIx n d (some (k : Int)) = min k n := by
 show (if (k : Int) < 0 then ((k : Int) + (n : Int)).toNat else min (k : Int).toNat n) = min k n
 rw [if_neg (by omega), Int.toNat_natCast]
theorem zr1 (n d : Nat) (hd : d ≤ n) (o : Option Int) : sIx n d o ≤ n := by
 cases o with
 | none => exact hd
 | some v =>
  show (if v < 0 then (v + (n : Int)).toNat else min v.toNat n) ≤ n
  by_cases hv : v < 0
  ·rw [if_pos hv]; omega
  ·rw [if_neg hv]; exact Nat.min_le_right _ _
theorem zlS (v : Int) (n d : Nat) : (if v < 0 then max (v + (n : Int)) 0 else min v (n : Int)) = ((sIx n d (some v) : Nat) : Int) := by
 show (if v < 0 then max (v + (n : Int)) 0 else min v (n : Int)) = (((if v < 0 then (v + (n : Int)).toNat else min v.toNat n) : Nat) : Int)
 by_cases hv : v < 0
 ·simp only [if_pos hv]; omega
 ·simp only [if_neg hv]; omega
theorem zkN (lo hi : Option Int) (n : Nat) : Builtin.Slice.sliceAdjust lo hi 1 (n : Int) = (((sIx n 0 lo : Nat) : Int), ((sIx n n hi : Nat) : Int)) := by
 have h1 : ¬ ((1 : Int) < 0) := by omega
 unfold Builtin.Slice.sliceAdjust
 simp only [h1, if_false]
 refine Prod.ext ?_ ?_
 ·cases lo with
  | none => rfl
  | some v => exact zlS v n 0
 ·cases hi with
  | none => rfl
  | some v => exact zlS v n n
theorem zkO (i j : Nat) : Builtin.Slice.slicePlaces (i : Int) (j : Int) 1 = j - i := by
 unfold Builtin.Slice.slicePlaces
 have h1 : (1 : Int) > 0 := by omega
 simp only [h1, if_true, Int.ediv_one]
 split <;> omega
theorem zgm {v : Value} {o : Option Int} {Q : Option Int → Shared → Prop} (p : IsPart v o) (h : Q o s) : wpAny (model prog w) A (Builtin.Slice.slicePartIndex v) Q E s := by
 cases p with
 | none => exact slicePart_none h
 | int i t => exact slicePart_int h
theorem zcT {sl : Addr} {vl vu : Value} {lo hi : Option Int} {n : Nat} {Q : Int × Int × Nat → Shared → Prop} (hs : s.heap.IsSliceOf sl vl vu .none) (pl : IsPart vl lo) (pu : IsPart vu hi)
  (h : Q (((sIx n 0 lo : Nat) : Int), 1, sIx n n hi - sIx n 0 lo) s) : wpAny (model prog w) A (Builtin.Slice.sliceApplied (.ref sl) (pure (n : Int))) Q E s := by
 obtain ⟨os, hos, hcs, hds⟩ := id hs
 unfold Builtin.Slice.sliceApplied Builtin.Slice.sliceFields
 refine wpAny_bind (wpAny_bind (wpAny_field hos hds (x := vl) rfl (wpAny_bind (wpAny_field hos hds (x := vu) rfl (wpAny_bind (wpAny_field hos hds (x := .none) rfl (wpAny_pure ?_)))))))
 refine wpAny_bind (slicePart_none ?_)
 show wpAny _ _ (if ((1 : Int) == 0) = true then _ else _) _ _ s
 rw [if_neg (by decide)]
 refine wpAny_bind (zgm pl (wpAny_bind (zgm pu (wpAny_bind (wpAny_pure ?_)))))
 show wpAny _ _ (match Builtin.Slice.sliceAdjust lo hi 1 (n : Int) with | (lo, hi) => pure (lo, (1 : Int), Builtin.Slice.slicePlaces lo hi 1)) _ _ s
 rw [zkN lo hi n]
 show wpAny _ _ (pure (((sIx n 0 lo : Nat) : Int), (1 : Int), Builtin.Slice.slicePlaces ((sIx n 0 lo : Nat) : Int) ((sIx n n hi : Nat) : Int) 1)) _ _ s
 rw [zkO]
 exact wpAny_pure h
theorem znC (xs : Array Value) (i k : Nat) : ((List.range k).filterMap fun (m : Nat) => xs[((i : Int) + (m : Int) * 1).toNat]?).toArray = ((xs.toList.drop i).take k).toArray := by
 have e : (fun (m : Nat) => xs[((i : Int) + (m : Int) * 1).toNat]?) = fun m => xs[i + m]? := by
  funext m
  have : ((i : Int) + (m : Int) * 1).toNat = i + m := by omega
  rw [this]
 rw [e]
 have := pick_run xs i k
 rw [List.filterMap_map] at this
 have e2 : ((fun x => xs[x]?) ∘ fun x => i + x) = fun m => xs[i + m]? := rfl
 rw [e2] at this
 rw [this]
theorem getItem_tuple_cut {t sl : Addr} {items : Array Value} {vl vu : Value} {lo hi : Option Int} {Q : Value → Shared → Prop} (ht : IsTup s.heap t items) (hs : s.heap.IsSliceOf sl vl vu .none) (pl : IsPart vl lo) (pu : IsPart vu hi)
  (hw : ¬ (sIx items.size 0 lo = 0 ∧ sIx items.size items.size hi = items.size))
  (h : Q (.ref s.heap.objs.size) { s with heap := s.heap.push { cls := .type "tuple", data := .seq ((items.toList.drop (sIx items.size 0 lo)).take (sIx items.size items.size hi - sIx items.size 0 lo)).toArray } })
  (hsz : items.size ≤ sizeLine) : wpAny (model prog w) A (getItem (.ref t) (.ref sl)) Q E s := by
 have htake : sizeOk (.seq ((items.toList.drop (sIx items.size 0 lo)).take (sIx items.size items.size hi - sIx items.size 0 lo)).toArray) := by
  show ((items.toList.drop (sIx items.size 0 lo)).take (sIx items.size items.size hi - sIx items.size 0 lo)).toArray.size ≤ sizeLine
  rw [List.size_toArray, List.length_take, List.length_drop, Array.length_toList]
  omega
 have hj : sIx items.size items.size hi ≤ items.size := zr1 _ _ (Nat.le_refl _) hi
 obtain ⟨os, hos, hcs, hds⟩ := id hs
 have hTs : s.TypeIs (.ref sl) "slice" := ⟨os, hos, hcs⟩
 unfold getItem
 try with_reducible refine wpAny_holding ?_
 first | refine wpAny_bind (wpAny_pure ?_) | skip
 refine wpAny_bind (wpAny_sequenceKey ht.typeIs (by decide) ?_)
 refine wpAny_bind (wpAny_callSpecial?_slot (name := Str.ofString "__getitem__") ht.typeIs PyProof.Rows.slot_tuple_getitem
  (wpAny_call_entry PyProof.Rows.slot_tuple_getitem ht.typeIs entry_tuple_getitem ?_ (args_tuple_getitem _ _)))
 show wpAny _ _ (Builtin.Tuple.tupleItemsOf (.ref t) >>= _) _ _ s
 refine wpAny_bind (tupleItemsOf_ ht ?_)
 refine wpAny_bind (wpAny_typeOf hTs ?_)
 rw [if_pos (by decide)]
 refine wpAny_bind (zcT hs pl pu ?_)
 have hno : ¬ ((((sIx items.size 0 lo : Nat) : Int) == 0 && (1 : Int) == 1 && (sIx items.size items.size hi - sIx items.size 0 lo) == items.size) = true) := by
  intro q
  rw [Bool.and_eq_true, Bool.and_eq_true] at q
  have q1 : ((sIx items.size 0 lo : Nat) : Int) = 0 := eq_of_beq q.1.1
  have q2 : sIx items.size items.size hi - sIx items.size 0 lo = items.size := eq_of_beq q.2
  exact hw ⟨by omega, by omega⟩
 show wpAny _ _ (if (((sIx items.size 0 lo : Nat) : Int) == 0 && (1 : Int) == 1 && (sIx items.size items.size hi - sIx items.size 0 lo) == items.size) = true then _ else _) _ _ s
 rw [if_neg hno, znC]
 first
  | exact wpAny_bind (m := Builtin.Tuple.tupleExact _) (wpAny_newObj_type (wpAny_pure ⟨_, rfl, wpAny_pure h⟩) htake)
  | exact wpAny_bind (m := Builtin.Tuple.tupleExact _) (wpAny_newObj_type (wpAny_bind (wpAny_pure (wpAny_pure ⟨_, rfl, wpAny_pure h⟩))) htake)
  | exact wpAny_bind (wpAny_bind (m := Builtin.Tuple.tupleExact _) (wpAny_newObj_type (wpAny_pure (wpAny_pure ⟨_, rfl, wpAny_pure h⟩)) htake))
  | exact wpAny_bind (wpAny_bind (m := Builtin.Tuple.tupleExact _) (wpAny_newObj_type (wpAny_pure ⟨_, rfl, wpAny_pure h⟩) htake))
end
end HT
namespace L2
open PySem PySem.Spec PyProof.Rows
abbrev TO := St → Hp → (Option Int → Hp → Prop) → Prop
def PO (X : Cx) (e : Option Expr) (t : TO) : Prop :=
 ∀ (pins : List (Addr × Obj)) (s : Shared) (σ : St) (H : Hp) (Q : Option Int → Hp → Prop), Inv X pins σ H s → t σ H Q →
  wpAny (model X.prog X.w) X.A (evalPart e X.env) (fun u s' => ∃ o H', Inv X pins σ H' s' ∧ IsPart u o ∧ Q o H') X.xe s
def zpI : TO := fun _ H Q => Q none H
def zt2 (t : TE) : TO := fun σ H Q => t σ H fun x H1 => ∃ i, x = .int i ∧ Q (some i) H1
section
variable {X : Cx} {e : Expr} {te : TE} {lo hi : Option Expr} {tl th : TO} {pos p2 : Pos}
theorem zpJ : PO X none zpI := by
 intro pins s σ H Q I h
 rw [evalPart_none]
 exact wpAny_pure ⟨none, H, I, .none, h⟩
theorem zpK (h : PE X e te) : PO X (some e) (zt2 te) := by
 intro pins s σ H Q I hw
 rw [evalPart_some]
 refine thn (h pins s σ H _ I hw) fun u s1 ⟨x, H1, I1, r1, q1⟩ => ?_
 obtain ⟨i, rfl, q⟩ := q1
 obtain ⟨t, rfl⟩ := r1
 exact ⟨some i, H1, I1, .int i t, q⟩
def SlR (X : Cx) (r : V → Option Int → Option Int → Hp → VK → Prop) : Prop :=
 ∀ (pins : List (Addr × Obj)) (s : Shared) (σ : St) (H : Hp) (x : V) (v vl vu : Value) (lo hi : Option Int) (sl : Addr) (Q : VK), Inv X pins σ H s → RelV x v → s.heap.IsSliceOf sl vl vu .none → IsPart vl lo → IsPart vu hi → r x lo hi H Q →
  ∃ T id, typeLookup (.type T) "__getitem__" = pure (some (.builtin id)) ∧ s.TypeIs v T ∧ wpAny (model X.prog X.w) X.A (getItem v (.ref sl)) (EP X pins σ Q) X.xe s
def tSl (r : V → Option Int → Option Int → Hp → VK → Prop) (te : TE) (tl th : TO) : TE := fun σ H Q => te σ H fun x H1 => tl σ H1 fun l H2 => th σ H2 fun u H3 => r x l u H3 Q
theorem zgE {r : V → Option Int → Option Int → Hp → VK → Prop} (hr : SlR X r) (he : PE X e te) (hl : PO X lo tl) (hu : PO X hi th) : PE X (.Subscript e (.Slice lo hi none p2) pos) (tSl r te tl th) := by
 intro pins s σ H Q I h
 refine Subscript_ (thn (he pins s σ H _ I h) fun v s1 ⟨x, H1, I1, r1, q1⟩ => ?_)
 refine wpAny_Slice (thn (hl pins s1 σ H1 _ I1 q1) fun vl s2 ⟨l, H2, I2, pl, q2⟩ => thn (hu pins s2 σ H2 _ I2 q2) fun vu s3 ⟨u, H3, I3, pu, q3⟩ => ?_)
 rw [evalPart_none]
 refine wpAny_pure ?_
 have I4 : Inv X pins σ H3 { s3 with heap := s3.heap.push { cls := .type "slice", data := .fields #[vl, vu, .none] } } := I3.kept (t' := s3.toks) fun b ob q => Heap.get?_push_of_some _ q
 obtain ⟨T, id, hT, ht, hg⟩ := hr pins { s3 with heap := s3.heap.push { cls := .type "slice", data := .fields #[vl, vu, .none] } } σ H3 x v vl vu l u s3.heap.objs.size Q I4 r1 (Heap.IsSliceOf.new ..) pl pu q3
 show wpAny (model X.prog X.w) X.A (subscriptTail e (.Slice lo hi none p2) v (.ref s3.heap.objs.size)) (EP X pins σ Q) X.xe { s3 with heap := s3.heap.push { cls := .type "slice", data := .fields #[vl, vu, .none] } }
 exact tail_any (ops := [.ref s3.heap.objs.size, v]) ht hT hg (by with_unfolding_all rfl)
def cutV (xs : List V) (lo hi : Option Int) : List V := (xs.drop (HT.sIx xs.length 0 lo)).take (HT.sIx xs.length xs.length hi - HT.sIx xs.length 0 lo)
theorem zfk (xs : List V) (lo hi : Option Int) : (cutV xs lo hi).length ≤ xs.length := by
 unfold cutV
 rw [List.length_take, List.length_drop]
 omega
def rSlT (K : PySem.W.Frag) : V → Option Int → Option Int → Hp → VK → Prop := fun x lo hi H Q => ∃ a xs, x = .ref a ∧ SqT K H a xs ∧
 ¬ (HT.sIx xs.length 0 lo = 0 ∧ HT.sIx xs.length xs.length hi = xs.length) ∧ ∀ p, H p = none → Q (.ref p) (upd H p (.tup (cutV xs lo hi)))
theorem zoP : SlR X (rSlT X.K) := by
 intro pins s σ H x v vl vu lo hi sl Q I rx hs pl pu h
 obtain ⟨a, xs, rfl, hx, hw, q⟩ := h
 cases rx
 obtain ⟨its, r, ht, hz⟩ := I.tuple hx
 have hlen : its.toArray.size = xs.length := by rw [List.size_toArray]; exact r.length.symm
 refine ⟨"tuple", _, PyProof.Rows.slot_tuple_getitem.lookup, ht.typeIs, ?_⟩
 refine HT.getItem_tuple_cut ht hs pl pu (by rw [hlen]; exact hw) ?_ (by rw [hlen]; exact hz)
 rw [hlen]
 refine ⟨.ref s.heap.objs.size, _, I.laid (t' := s.toks) (o := .tup (cutV xs lo hi)) (fun b ob q => Heap.get?_push_of_some _ q) (Nat.le_refl _) ?_, rfl, q _ (I.hok.fresh (Nat.le_refl _))⟩
 exact ⟨Nat.le_trans (zfk xs lo hi) hz, _, (r.drop (HT.sIx xs.length 0 lo)).take (HT.sIx xs.length xs.length hi - HT.sIx xs.length 0 lo), IsTup.new _ _⟩
def zt3 (K : PySem.W.Frag) : R2 := fun x y H Q => ∃ a b xs ys, x = .ref a ∧ y = .ref b ∧ SqT K H a xs ∧ SqT K H b ys ∧ xs ≠ [] ∧ xs.length + ys.length ≤ sizeLine ∧
 (ys = [] → Q (.ref a) H) ∧ (ys ≠ [] → ∀ p, H p = none → Q (.ref p) (upd H p (.tup (xs ++ ys))))
theorem Vals.nil_iff {xs : List V} {us : List Value} (r : Vals xs us) : us = [] ↔ xs = [] := by
 cases r with
 | nil => simp
 | cons _ _ => simp
theorem zpL : OpR X (binaryOp .Add) (zt3 X.K) := by
 intro pins s σ H x y v u Q I rx ry h
 obtain ⟨a, b, xs, ys, rfl, rfl, ha, hb, hx, hz, q1, q2⟩ := h
 cases rx
 cases ry
 obtain ⟨its, r1, p1, _⟩ := I.tuple ha
 obtain ⟨its2, r2, p2, _⟩ := I.tuple hb
 refine HT.cat_tup p1 p2 (fun z => hx (r1.nil_iff.mp z)) (fun z => ⟨.ref a, H, I, rfl, q1 (r2.nil_iff.mp z)⟩) (fun z => ?_) (by rw [← r1.length, ← r2.length]; exact hz)
 refine ⟨.ref s.heap.objs.size, _, I.laid (t' := s.toks) (o := .tup (xs ++ ys)) (fun b ob q => Heap.get?_push_of_some _ q) (Nat.le_refl _) ?_, rfl, q2 (fun w => z (r2.nil_iff.mpr w)) _ (I.hok.fresh (Nat.le_refl _))⟩
 exact ⟨by rw [List.length_append]; exact hz, _, r1.append r2, IsTup.new _ _⟩
end
end L2
namespace L2
open PySem PySem.Spec PyProof.Rows
def ixN (n : Nat) (i : Int) : Option Nat := if 0 ≤ i then (if i < n then some i.toNat else none) else if -(n : Int) ≤ i then some (i + n).toNat else none
def atI {α : Type} (xs : List α) (i : Int) : Option α := (ixN xs.length i).bind fun j => xs[j]?
theorem zlT {n : Nat} {i : Int} {j : Nat} (h : ixN n i = some j) : seqIndex? i n = some j ∧ j < n ∧ -(n : Int) ≤ i ∧ i < n := by
 unfold ixN at h
 by_cases h0 : 0 ≤ i
 ·rw [if_pos h0] at h
  by_cases h1 : i < n
  ·rw [if_pos h1] at h
   have e : i.toNat = j := Option.some.inj h
   exact ⟨by rw [seqIndex_of h0 h1, e], by omega, by omega, h1⟩
  ·rw [if_neg h1] at h; cases h
 ·rw [if_neg h0] at h
  by_cases h1 : -(n : Int) ≤ i
  ·rw [if_pos h1] at h
   have e : (i + n).toNat = j := Option.some.inj h
   exact ⟨by rw [seqIndex_neg (by omega) h1, e], by omega, h1, by omega⟩
  ·rw [if_neg h1] at h; cases h
theorem ziN {α : Type} {xs : List α} {i : Int} {v : α} (h : atI xs i = some v) : ∃ j, seqIndex? i xs.length = some j ∧ xs[j]? = some v ∧ j < xs.length ∧ -(xs.length : Int) ≤ i ∧ i < xs.length := by
 unfold atI at h
 cases e : ixN xs.length i with
 | none => rw [e] at h; cases h
 | some j =>
  rw [e] at h
  obtain ⟨h1, h2, h3, h4⟩ := zlT e
  exact ⟨j, h1, h, h2, h3, h4⟩
theorem zeo {α : Type} {xs : List α} {j : Nat} {v : α} (h : xs[j]? = some v) : atI xs (j : Int) = some v := by
 have hj : j < xs.length := (List.getElem?_eq_some_iff.mp h).1
 have e : ixN xs.length (j : Int) = some j := by
  unfold ixN
  rw [if_pos (by omega), if_pos (by omega)]; simp
 unfold atI; rw [e]; exact h
def ziO (b : Expr) : Prop := ∀ o i, subscripted b false o i = operate [o, i] (getItem o i)
def IxR (X : Cx) (r : R2) : Prop :=
 ∀ (value slice : Expr) (pins : List (Addr × Obj)) (s : Shared) (σ : St) (H : Hp) (x y : V) (v u : Value) (Q : VK), Inv X pins σ H s → RelV x v → RelV y u → r x y H Q →
  subscripted slice false v u = operate [v, u] (getItem v u) → wpAny (model X.prog X.w) X.A (subscriptTail value slice v u) (EP X pins σ Q) X.xe s
def MtR (X : Cx) (id : String) (r : V → List V → Hp → VK → Prop) : Prop :=
 ∀ (pins : List (Addr × Obj)) (s : Shared) (σ : St) (H : Hp) (x : V) (xs : List V) (v : Value) (us : List Value) (Q : VK), Inv X pins σ H s → RelV x v → Vals xs us → r x xs H Q →
  wpAny (model X.prog X.w) X.A (call (.builtin id) (v :: us)) (EP X pins σ Q) X.xe s
section
variable {X : Cx} {a b : Expr} {ta tb : TE} {pos : Pos}
theorem zr2 {r : R2} (hr : IxR X r) (ha : PE X a ta) (hb : PE X b tb) (hs : ziO b) : PE X (.Subscript a b pos) (tOp r ta tb) := by
 intro pins s σ H Q I h
 exact Subscript_ (binT ha hb I h fun v u s2 x y H2 I2 rx ry q => hr a b pins s2 σ H2 x y v u Q I2 rx ry q (hs _ _))
def rIxL (K : PySem.W.Frag) : R2 := fun x y H Q => ∃ p xs i v, x = .ref p ∧ y = .int i ∧ SqL K H p xs ∧ atI xs i = some v ∧ Q v H
def rIxT (K : PySem.W.Frag) : R2 := fun x y H Q => ∃ p xs i v, x = .ref p ∧ y = .int i ∧ SqT K H p xs ∧ atI xs i = some v ∧ Q v H
def rIxS : R2 := fun x y H Q => ∃ z i c, x = .str z ∧ y = .int i ∧ z.length ≤ sizeLine ∧ atI z.cps.toList i = some c ∧ Q (.str ⟨#[c]⟩) H
theorem ziP : IxR X (rIxL X.K) := by
 intro value slice pins s σ H x y v u Q I rx ry h hs
 obtain ⟨p, xs, i, z, rfl, rfl, hq, he, q⟩ := h
 cases rx
 obtain ⟨t, rfl⟩ := ry
 obtain ⟨its, r, pl, hz⟩ := I.list hq
 obtain ⟨j, h1, h2, h3, h4, h5⟩ := ziN he
 obtain ⟨w, ew, rw'⟩ := r.get h2
 have hl := r.length
 have hn := zfj
 have fin : EP X pins σ Q w s := ⟨z, H, I, rw', q⟩
 by_cases h0 : 0 ≤ i
 ·have hj : i.toNat = j := by
   rw [seqIndex_of h0 h5] at h1
   exact Option.some.inj h1
  exact item_listR pl.isList h0 (by omega) (by rw [hj]; simpa using ew) fin hs
 ·have hj : (i + (its.toArray.size : Int)).toNat = j := by
   rw [seqIndex_neg (by omega) h4] at h1
   rw [List.size_toArray, ← hl]
   exact Option.some.inj h1
  exact subscriptTail_builtinR (x := w) pl.isList.typeIs slot_list_getitem.lookup
   (wpAny_getItem_list_neg (Q := fun r s' => r = w ∧ EP X pins σ Q r s') pl.isList (by omega) (by rw [List.size_toArray] <;> omega) (by omega) (by rw [hj]; simpa using ew) ⟨rfl, fin⟩) hs
theorem zr3 : IxR X (rIxT X.K) := by
 intro value slice pins s σ H x y v u Q I rx ry h hs
 obtain ⟨p, xs, i, z, rfl, rfl, hq, he, q⟩ := h
 cases rx
 obtain ⟨t, rfl⟩ := ry
 obtain ⟨its, r, pl, hz⟩ := I.tuple hq
 obtain ⟨j, h1, h2, h3, h4, h5⟩ := ziN he
 obtain ⟨w, ew, rw'⟩ := r.get h2
 have hl := r.length
 have hn := zfj
 have fin : EP X pins σ Q w s := ⟨z, H, I, rw', q⟩
 exact subscriptTail_builtinR (x := w) pl.typeIs slot_tuple_getitem.lookup
  (getItem_tuple (j := j) (Q := fun r s' => r = w ∧ EP X pins σ Q r s') pl (by omega) (by omega) (by rw [List.size_toArray, ← hl]; exact h1) (by simpa using ew) ⟨rfl, fin⟩) hs
theorem zr4 : IxR X rIxS := by
 intro value slice pins s σ H x y v u Q I rx ry h hs
 obtain ⟨z, i, c, rfl, rfl, hz, he, q⟩ := h
 obtain ⟨t, rfl⟩ := rx
 obtain ⟨t', rfl⟩ := ry
 obtain ⟨j, h1, h2, h3, h4, h5⟩ := ziN he
 have hl : z.cps.toList.length = z.length := by simp [Str.length]
 rw [hl] at h1 h4 h5
 have hn := zfj
 exact tail_any (typeIs_str s z t) slot_str_getitem.lookup (getItem_str (c := c) (by
  have e1 : decide (i < -(2 ^ 63 : Int)) = false := decide_eq_false (by omega)
  have e2 : decide (i ≥ 2 ^ 63) = false := decide_eq_false (by omega)
  rw [e1, e2, Bool.or_false]) (by rw [h1]; simpa using h2) ⟨.str ⟨#[c]⟩, H, I.tok _, ⟨_, rfl⟩, q⟩) hs
theorem zkP (its : List Value) (n j : Nat) (u : Value) : Obj.mapSeq (·.setIfInBounds j u) { cls := .type "list", data := .seq its.toArray n } = { cls := .type "list", data := .seq (its.set j u).toArray n } := by
 simp [Obj.mapSeq]
theorem Inv.lst {pins : List (Addr × Obj)} {σ : St} {H : Hp} {s : Shared} {p : Addr} {xs : List V} (I : Inv X pins σ H s) (h : H p = some (.lst xs)) :
  ∃ (its : List Value) (n : Nat), Vals xs its ∧ s.heap.get? p = some { cls := .type "list", data := .seq its.toArray n } ∧ xs.length ≤ sizeLine := by
 obtain ⟨z, its, n, r, e⟩ := I.hok p _ h
 exact ⟨its, n, r, e, z⟩
theorem Inv.lstUpd {pins : List (Addr × Obj)} {σ : St} {H : Hp} {s : Shared} {p : Addr} {xs ys : List V} {its its' : List Value} {n n' : Nat} {f : Obj → Obj} (I : Inv X pins σ H s) (h : H p = some (.lst xs))
  (ho : s.heap.get? p = some { cls := .type "list", data := .seq its.toArray n }) (hf : f { cls := .type "list", data := .seq its.toArray n } = { cls := .type "list", data := .seq its'.toArray n' }) (r : Vals ys its') (hz : ys.length ≤ sizeLine) (t : Nat) :
  Inv X pins σ (upd H p (.lst ys)) { s with heap := s.heap.update p f, toks := t } := by
 have e : (s.heap.update p f).get? p = some { cls := .type "list", data := .seq its'.toArray n' } := by
  rw [Heap.get?_update_self f ho (by rw [hf] <;> rfl), hf]
 refine I.write (x := p) (e := p) (by rw [h]; trivial) (.inl rfl) (fun b u hb q => (Heap.get?_update_other _ _ (Ne.symm hb)).trans q) ⟨_, e⟩ ?_
 exact ⟨hz, its', n', r, e⟩
def zt4 : V → V → V → Hp → (Hp → Prop) → Prop := fun o i v H Q => ∃ p xs k j, o = .ref p ∧ i = .int k ∧ H p = some (.lst xs) ∧ ixN xs.length k = some j ∧ Q (upd H p (.lst (xs.set j v)))
theorem znD : PSet X zt4 := by
 intro pins s σ H o i v ov iv u Q I ro ri rv h
 obtain ⟨p, xs, k, j, rfl, rfl, hp, hj, q⟩ := h
 cases ro
 obtain ⟨t, rfl⟩ := ri
 obtain ⟨its, n, r, ho, hz⟩ := I.lst hp
 obtain ⟨h1, h2, h3, h4⟩ := zlT hj
 have hl := r.length
 have hn := zfj
 have I' : Inv X pins σ (upd H p (.lst (xs.set j v))) { s with heap := s.heap.update p (Obj.mapSeq (·.setIfInBounds j u)) } :=
  I.lstUpd hp ho (zkP its n j u) (r.set rv j) (by rw [List.length_set]; exact hz) s.toks
 by_cases h0 : 0 ≤ k
 ·have hk : k.toNat = j := by
   rw [seqIndex_of h0 h4] at h1
   exact Option.some.inj h1
  exact PySem.W.ki_setAt ho h0 (by omega) (by rw [List.size_toArray, ← hl]; exact h4) (by rw [hk]; exact ⟨_, I', q⟩)
 ·have hk : (k + (its.toArray.size : Int)).toNat = j := by
   rw [seqIndex_neg (by omega) h3] at h1
   rw [List.size_toArray, ← hl]
   exact Option.some.inj h1
  exact PySem.W.ki_setBack ho (by omega) (by rw [List.size_toArray, ← hl]; exact h3) (by omega) (by rw [hk]; exact ⟨_, I', q⟩)
theorem zhq (lo hi : Option Int) (n : Nat) : (sliceBounds lo hi none n).1 = ((HT.sIx n 0 lo : Nat) : Int) ∧ (sliceBounds lo hi none n).2.1 = ((HT.sIx n n hi : Nat) : Int) ∧ (sliceBounds lo hi none n).2.2 = 1 := by
 refine ⟨?_, ?_, rfl⟩
 ·cases lo with
  | none => simp [sliceBounds, HT.sIx]
  | some i =>
   simp only [sliceBounds, HT.sIx, Option.getD_none, show (1 : Int) > 0 by decide, if_true]
   by_cases h : i < 0
   ·simp only [h, if_true] <;> omega
   ·simp only [h, if_false] <;> omega
 ·cases hi with
  | none => simp [sliceBounds, HT.sIx]
  | some i =>
   simp only [sliceBounds, HT.sIx, Option.getD_none, show (1 : Int) > 0 by decide, if_true]
   by_cases h : i < 0
   ·simp only [h, if_true] <;> omega
   ·simp only [h, if_false] <;> omega
theorem zgF (its : List Value) (lo hi : Option Int) : slicePick its.toArray lo hi none = ((its.drop (HT.sIx its.length 0 lo)).take (HT.sIx its.length its.length hi - HT.sIx its.length 0 lo)).toArray := by
 obtain ⟨h1, h2, h3⟩ := zhq lo hi its.toArray.size
 unfold slicePick
 rw [h1, h2, h3]
 simp only [sliceRange_one, pick_run, List.size_toArray] <;> rfl
def rSlL (K : PySem.W.Frag) : V → Option Int → Option Int → Hp → VK → Prop := fun x lo hi H Q => ∃ a xs, x = .ref a ∧ SqL K H a xs ∧ ∀ p, H p = none → Q (.ref p) (upd H p (.lst (cutV xs lo hi)))
theorem ziQ : SlR X (rSlL X.K) := by
 intro pins s σ H x v vl vu lo hi sl Q I rx hs pl pu h
 obtain ⟨a, xs, rfl, hx, q⟩ := h
 cases rx
 obtain ⟨its, r, ht, hz⟩ := I.list hx
 have hlen := r.length
 refine ⟨"list", _, slot_list_getitem.lookup, ht.isList.typeIs, ?_⟩
 refine wpAny_getItem_list_slice ht.isList hs pl pu .none (by simp) ?_ (by rw [List.size_toArray] <;> omega)
 rw [zgF, ← hlen]
 refine ⟨.ref s.heap.objs.size, _, I.laid (t' := s.toks) (o := .lst (cutV xs lo hi)) (fun b ob q => Heap.get?_push_of_some _ q) (Nat.le_refl _) ?_, rfl, q _ (I.hok.fresh (Nat.le_refl _))⟩
 exact ⟨Nat.le_trans (zfk xs lo hi) hz, _, 0, (r.drop (HT.sIx xs.length 0 lo)).take (HT.sIx xs.length xs.length hi - HT.sIx xs.length 0 lo), Heap.get?_push_size _ rfl⟩
def zf8 : V → Bool
 | .non => true
 | .bl _ => true
 | .int _ => true
 | .str _ => true
 | _ => false
def eqV : V → V → Bool
 | .non, .non => true
 | .bl a, .bl b => a == b
 | .bl a, .int b => (if a then 1 else 0) == b
 | .int a, .bl b => a == (if b then 1 else 0)
 | .int a, .int b => a == b
 | .str a, .str b => a == b
 | _, _ => false
theorem zr5 {A : Around} {s : Shared} {y x : V} {u v : Value} (ry : RelV y u) (rx : RelV x v) (fy : zf8 y = true) (fx : zf8 x = true) : SeqAt.EqAt A s u v (eqV y x) := by
 cases y with
 | non =>
  cases ry
  cases x with
  | non => cases rx; exact SeqAt.EqAt.same _
  | bl b => cases rx; exact SeqAt.EqAt.none_bool b
  | int b => obtain ⟨t, rfl⟩ := rx; exact SeqAt.EqAt.none_int b t
  | str b => obtain ⟨t, rfl⟩ := rx; exact SeqAt.EqAt.none_str b t
  | _ => exact absurd (show false = true from fx) Bool.false_ne_true
 | bl a =>
  cases ry
  cases x with
  | non => cases rx; exact SeqAt.EqAt.bool_none a
  | bl b => cases rx; exact SeqAt.EqAt.bool_bool a b
  | int b => obtain ⟨t, rfl⟩ := rx; exact SeqAt.EqAt.bool_int a b t
  | str b => obtain ⟨t, rfl⟩ := rx; exact SeqAt.EqAt.bool_str a b t
  | _ => exact absurd (show false = true from fx) Bool.false_ne_true
 | int a =>
  obtain ⟨t', rfl⟩ := ry
  cases x with
  | non => cases rx; exact SeqAt.EqAt.int_none a t'
  | bl b => cases rx; exact SeqAt.EqAt.int_bool a t' b
  | int b => obtain ⟨t, rfl⟩ := rx; exact SeqAt.EqAt.int_int a t' b t
  | str b => obtain ⟨t, rfl⟩ := rx; exact SeqAt.EqAt.int_str a t' b t
  | _ => exact absurd (show false = true from fx) Bool.false_ne_true
 | str a =>
  obtain ⟨t', rfl⟩ := ry
  cases x with
  | non => cases rx; exact SeqAt.EqAt.str_none a t'
  | bl b => cases rx; exact SeqAt.EqAt.str_bool a t' b
  | int b => obtain ⟨t, rfl⟩ := rx; exact SeqAt.EqAt.str_int a t' b t
  | str b => obtain ⟨t, rfl⟩ := rx; exact SeqAt.EqAt.str_str a t' b t
  | _ => exact absurd (show false = true from fx) Bool.false_ne_true
 | _ => exact absurd (show false = true from fy) Bool.false_ne_true
def eqU (x : V) (u : Value) : Bool := match u with
 | .none => eqV .non x
 | .bool b => eqV (.bl b) x
 | .int i _ => eqV (.int i) x
 | .str z _ => eqV (.str z) x
 | _ => false
theorem zoQ {x y : V} {u : Value} (r : RelV y u) (f : zf8 y = true) : eqU x u = eqV y x := by
 cases y with
 | non => cases r; rfl
 | bl b => cases r; rfl
 | int i => obtain ⟨t, rfl⟩ := r; rfl
 | str z => obtain ⟨t, rfl⟩ := r; rfl
 | _ => exact absurd (show false = true from f) Bool.false_ne_true
theorem zfl {x : V} : ∀ {xs : List V} {us : List Value}, Vals xs us → xs.all zf8 = true → us.any (eqU x) = xs.any fun y => eqV y x
 | _, _, .nil, _ => rfl
 | y :: xs, u :: us, .cons r t, f => by
  rw [List.all_cons, Bool.and_eq_true] at f
  rw [List.any_cons, List.any_cons, zoQ r f.1, zfl t f.2]
theorem zdW {A : Around} {s : Shared} {x : V} {v : Value} (rx : RelV x v) (fx : zf8 x = true) : ∀ {xs : List V} {us : List Value}, Vals xs us → xs.all zf8 = true → ∀ u ∈ us, SeqAt.EqAt A s u v (eqU x u)
 | _, _, .nil, _ => fun u hu => by cases hu
 | y :: xs, u :: us, .cons r t, f => fun u' hu => by
  rw [List.all_cons, Bool.and_eq_true] at f
  rcases List.mem_cons.mp hu with rfl | hu
  ·rw [zoQ r f.1]; exact zr5 r rx f.1 fx
  ·exact zdW rx fx t f.2 u' hu
def inV (x : V) (xs : List V) : Bool := xs.any fun y => eqV y x
def rIn (K : PySem.W.Frag) (neg : Bool) : R2 := fun x y H Q => ∃ p xs, y = .ref p ∧ (SqL K H p xs ∨ SqT K H p xs) ∧ zf8 x = true ∧ xs.all zf8 = true ∧ Q (.bl (if neg then !inV x xs else inV x xs)) H
theorem zfm : OpR X (compareOp .In) (rIn X.K false) := by
 intro pins s σ H x y v u Q I rx ry h
 obtain ⟨p, xs, rfl, hq, fx, fs, q⟩ := h
 cases ry
 rcases hq with hq | hq
 ·obtain ⟨its, r, pl, hz⟩ := I.list hq
  refine SeqAt.in_listAt (eqU x) pl.isList (fun w hw => zdW rx fx r fs w (by simpa using hw)) ⟨.bl _, H, I, rfl, ?_⟩
  rw [show its.toArray.any (eqU x) = its.any (eqU x) by simp, zfl r fs]
  exact q
 ·obtain ⟨its, r, pl, hz⟩ := I.tuple hq
  refine SeqAt.in_tupleAt (eqU x) pl (fun w hw => zdW rx fx r fs w (by simpa using hw)) ⟨.bl _, H, I, rfl, ?_⟩
  rw [show its.toArray.any (eqU x) = its.any (eqU x) by simp, zfl r fs]
  exact q
theorem zc0 : OpR X (compareOp .NotIn) (rIn X.K true) := by
 intro pins s σ H x y v u Q I rx ry h
 obtain ⟨p, xs, rfl, hq, fx, fs, q⟩ := h
 cases ry
 rcases hq with hq | hq
 ·obtain ⟨its, r, pl, hz⟩ := I.list hq
  refine SeqAt.notIn_listAt (eqU x) pl.isList (fun w hw => zdW rx fx r fs w (by simpa using hw)) ⟨.bl _, H, I, rfl, ?_⟩
  rw [show its.toArray.any (eqU x) = its.any (eqU x) by simp, zfl r fs]
  exact q
 ·obtain ⟨its, r, pl, hz⟩ := I.tuple hq
  refine SeqAt.notIn_tupleAt (eqU x) pl (fun w hw => zdW rx fx r fs w (by simpa using hw)) ⟨.bl _, H, I, rfl, ?_⟩
  rw [show its.toArray.any (eqU x) = its.any (eqU x) by simp, zfl r fs]
  exact q
theorem zcp : zcf X (.builtin "len") (fun xs H Q => ∃ p ys, xs = [.ref p] ∧ (SqL X.K H p ys ∨ SqT X.K H p ys) ∧ Q (.int ys.length) H) := by
 intro pins s σ H xs us Q I r h
 obtain ⟨p, ys, rfl, hq, q⟩ := h
 obtain ⟨u, rfl, rx⟩ := zgD r
 cases rx
 have hn := zfj
 rcases hq with hq | hq
 ·obtain ⟨its, r', pl, hz⟩ := I.list hq
  have hlen := r'.length
  exact Calls.call_len_list pl.isList (by simp only [List.size_toArray] <;> omega) ⟨.int ys.length, H, I.tok _, ⟨s.toks + 1, by rw [List.size_toArray, hlen]⟩, q⟩
 ·obtain ⟨its, r', pl, hz⟩ := I.tuple hq
  have hlen := r'.length
  exact len_tuple pl (by simp only [List.size_toArray] <;> omega) ⟨.int ys.length, H, I.tok _, ⟨s.toks + 1, by rw [List.size_toArray, hlen]⟩, q⟩
theorem zhr : zcf X (.builtin "len") (fun xs H Q => ∃ z, xs = [.str z] ∧ z.length ≤ sizeLine ∧ Q (.int z.length) H) := by
 intro pins s σ H xs us Q I r h
 obtain ⟨z, rfl, hz, q⟩ := h
 obtain ⟨u, rfl, t, rfl⟩ := zgD r
 have hn := zfj
 exact len_str (by omega) ⟨.int z.length, H, I.tok _, ⟨_, rfl⟩, q⟩
theorem zcq : zcf X (.type "list") (fun xs H Q => ∃ p ys, xs = [.ref p] ∧ (SqL X.K H p ys ∨ SqT X.K H p ys) ∧ ∀ l, H l = none → Q (.ref l) (upd H l (.lst ys))) := by
 intro pins s σ H xs us Q I r h
 obtain ⟨p, ys, rfl, hq, q⟩ := h
 obtain ⟨u, rfl, rx⟩ := zgD r
 cases rx
 have fin : ∀ (its : List Value), Vals ys its → ys.length ≤ sizeLine → ∀ (h' : Heap) (c' : Nat), (∀ b o', s.heap.get? b = some o' → h'.get? b = some o') →
   h'.get? s.heap.objs.size = some { cls := .type "list", dict := none, data := .seq its.toArray c', slots := #[] } → EP X pins σ Q (.ref s.heap.objs.size) { s with heap := h' } := fun its r' hz h' c' kp e =>
  ⟨.ref s.heap.objs.size, _, I.laid (t' := s.toks) kp (Nat.le_refl _) (show zbw X.prog X.w _ h' _ (.lst ys) from ⟨hz, its, c', r', e⟩), rfl, q _ (I.hok.fresh (Nat.le_refl _))⟩
 rcases hq with hq | hq
 ·obtain ⟨its, r', pl, hz⟩ := I.list hq
  have hlen := r'.length
  obtain ⟨o, ho, hc, n, hd⟩ := pl.isList
  exact call_list_seq p (.inl rfl) ho hc hd (fun h' c' kp e => fin its r' hz h' c' kp e) (by simp only [List.size_toArray] <;> omega)
 ·obtain ⟨its, r', pl, hz⟩ := I.tuple hq
  have hlen := r'.length
  obtain ⟨o, ho, hc, n, hd⟩ := pl
  exact call_list_seq p (.inr rfl) ho hc hd (fun h' c' kp e => fin its r' hz h' c' kp e) (by simp only [List.size_toArray] <;> omega)
theorem zcL : zcf X (.type "tuple") (fun xs H Q => ∃ p ys, xs = [.ref p] ∧ ((SqL X.K H p ys ∧ ∀ l, H l = none → Q (.ref l) (upd H l (.tup ys))) ∨ (SqT X.K H p ys ∧ Q (.ref p) H))) := by
 intro pins s σ H xs us Q I r h
 obtain ⟨p, ys, rfl, h⟩ := h
 obtain ⟨u, rfl, rx⟩ := zgD r
 cases rx
 rcases h with ⟨hq, q⟩ | ⟨hq, q⟩
 ·obtain ⟨its, r', pl, hz⟩ := I.list hq
  have hlen := r'.length
  refine call_tuple_list pl.isList (fun h' kp => ?_) (by simp only [List.size_toArray] <;> omega)
  have I1 : Inv X pins σ H { s with heap := h' } := I.kept (t' := s.toks) kp
  have I2 : Inv X pins σ (upd H h'.objs.size (.tup ys)) { s with heap := h'.push { cls := .type "tuple", data := .seq its.toArray } } :=
   I1.laid (t' := s.toks) (fun b o e => Heap.get?_push_of_some _ e) (Nat.le_refl _) (show zbw X.prog X.w _ _ _ (.tup ys) from ⟨hz, its, r', IsTup.new _ _⟩)
  exact ⟨.ref h'.objs.size, _, I2, rfl, q _ (I1.hok.fresh (Nat.le_refl _))⟩
 ·obtain ⟨its, r', pl, hz⟩ := I.tuple hq
  exact call_tuple_same pl ⟨.ref p, H, I, rfl, q⟩
def tyV (K : PySem.W.Frag) (T : String) (x : V) (H : Hp) : Prop := match x with
 | .str _ => T = "str"
 | .int _ => T = "int"
 | .ref p => (T = "list" ∧ ∃ xs, SqL K H p xs) ∨ (T = "tuple" ∧ ∃ o, K.lookup p = some o ∧ o.cls = .type "tuple" ∧ o.dict = none) ∨
   (T = "dict" ∧ ((∃ kvs, H p = some (.dK kvs)) ∨ ∃ kvs, H p = some (.dT kvs))) ∨ (T = "set" ∧ ∃ S n, H p = some (.set S n))
 | _ => False
theorem zlU {pins : List (Addr × Obj)} {σ : St} {H : Hp} {s : Shared} {T : String} {x : V} {v : Value} (I : Inv X pins σ H s) (r : RelV x v) (ty : tyV X.K T x H) :
  s.TypeIs v T ∧ ∀ a, v = .ref a → ∃ ob, s.heap.get? a = some ob ∧ ob.dict = none := by
 cases x with
 | str z =>
  obtain ⟨t, rfl⟩ := r
  cases (show T = "str" from ty)
  exact ⟨typeIs_str s z t, fun _ e => nomatch e⟩
 | int i =>
  obtain ⟨t, rfl⟩ := r
  cases (show T = "int" from ty)
  exact ⟨typeIs_int s i t, fun _ e => nomatch e⟩
 | ref p =>
  cases r
  rcases ty with ⟨rfl, xs, hq⟩ | ⟨rfl, o, hk, hc, hd⟩ | ⟨rfl, hk⟩ | ⟨rfl, S, n, hk⟩
  ·obtain ⟨its, _, pl, _⟩ := I.list hq
   refine ⟨pl.isList.typeIs, fun a e => ?_⟩
   cases e
   obtain ⟨o, n, e, c, hd, _⟩ := pl
   exact ⟨o, e, hd⟩
  ·refine ⟨⟨o, I.kIn p o hk, hc⟩, fun a e => ?_⟩
   cases e
   exact ⟨o, I.kIn _ o hk, hd⟩
  ·have z : ∃ o, s.heap.get? p = some o ∧ o.ExactDict := by
    rcases hk with ⟨kvs, hk⟩ | ⟨kvs, hk⟩
    ·obtain ⟨_, _, _, _, o, _, _, e, ex, _⟩ := I.hok p _ hk
     exact ⟨o, e, ex⟩
    ·obtain ⟨_, _, _, _, o, _, _, e, ex, _⟩ := I.hok p _ hk
     exact ⟨o, e, ex⟩
   obtain ⟨o, e, ex⟩ := z
   refine ⟨⟨o, e, ex.1⟩, fun a e2 => ?_⟩
   cases e2
   exact ⟨o, e, ex.2.1⟩
  ·obtain ⟨o, _, _, _, e, ex, _⟩ := I.hok p _ hk
   refine ⟨⟨o, e, ex.1⟩, fun a e2 => ?_⟩
   cases e2
   exact ⟨o, e, ex.2.1⟩
 | _ => exact False.elim ty
def tBM0 (K : PySem.W.Frag) (T : String) (r : V → List V → Hp → VK → Prop) (to : TE) : TE := fun σ H Q => to σ H fun x H1 => tyV K T x H1 ∧ r x [] H1 Q
def tBM (K : PySem.W.Frag) (T : String) (r : V → List V → Hp → VK → Prop) (to : TE) (t : TA) : TE := fun σ H Q => to σ H fun x H1 => tyV K T x H1 ∧ t σ H1 fun xs H2 => r x xs H2 Q
variable {o e : Expr} {es : List Expr} {to : TE} {t : TA} {name : Str} {apos cpos : Pos} {T id : String} {r : V → List V → Hp → VK → Prop}
theorem zr6 (pa : PlainAttrs T) (slot : Slot T name id) (hty : typeOf (.builtin id) = pure (.type "method_descriptor")) (hm : MtR X id r) (ho : PE X o to)
  (hbase : attributeBase o name X.env (eval o X.env) = eval o X.env := by rfl) (hline : (apos.endLine == cpos.line) = true := by rfl) : PE X (.Call (.Attribute o name apos) [] [] cpos) (tBM0 X.K T r to) := by
 intro pins s σ H Q I h
 refine wpAny_Call_method0_late hbase hline (thn (ho pins s σ H _ I h) fun v s1 ⟨x, H1, I1, r1, ty, q1⟩ => ?_)
 obtain ⟨h1, h2⟩ := zlU I1 r1 ty
 exact ⟨T, id, pa, slot, hty, h1, h2, Calls.callWith_builtin rfl (PySem.evalArgs_none (hm pins s1 σ H1 x [] v [] Q I1 r1 .nil q1))⟩
theorem zr7 (pa : PlainAttrs T) (slot : Slot T name id) (hty : typeOf (.builtin id) = pure (.type "method_descriptor")) (hm : MtR X id r) (ho : PE X o to) (ha : PA X (e :: es) t)
  (hbase : attributeBase o name X.env (eval o X.env) = eval o X.env := by rfl)
  (hfew : ((backTo cpos (starEach (e :: es) X.env)).all (fun x => !x.1) && (backToKw cpos (keywordEach [] X.env)).all (fun x => x.1.isSome)
   && decide ((e :: es).length + ([] : List Keyword).length + (if ([] : List Keyword).isEmpty then 0 else 1) < 30)) = true := by rfl)
  (hline : (apos.endLine == cpos.line) = true := by rfl) (hs : starEach (e :: es) X.env = (false, eval e X.env) :: starEach es X.env := by rfl) (hplain : (backTo cpos (starEach es X.env)).any (·.1) = false := by rfl) :
  PE X (.Call (.Attribute o name apos) (e :: es) [] cpos) (tBM X.K T r to t) := by
 intro pins s σ H Q I h
 refine wpAny_Call_method_late hbase hfew hline rfl (thn (ho pins s σ H _ I h) fun v s1 ⟨x, H1, I1, r1, ty, q1⟩ => ?_)
 obtain ⟨h1, h2⟩ := zlU I1 r1 ty
 refine ⟨T, id, pa, slot, hty, h1, h2, ?_⟩
 have hA := ha cpos pins s1 σ H1 _ I1 q1
 rw [hs] at hA ⊢
 refine Calls.callWith_builtin (by show (false || (backTo cpos (starEach es X.env)).any (·.1)) = false; rw [hplain] <;> rfl) (Calls.evalArgs_plain ?_)
 exact thn hA fun us s2 ⟨vs, H2, I2, r2, q2⟩ => hm pins s2 σ H2 x vs v us Q I2 r1 r2 q2
end
end L2
namespace L2
open PySem PySem.Spec PyProof.Rows
def MtM (X : Cx) (id : String) (r : V → List V → Hp → VK → Prop) : Prop :=
 ∀ (pins : List (Addr × Obj)) (s : Shared) (σ : St) (H : Hp) (x : V) (xs : List V) (v : Value) (us : List Value) (Q : VK), Inv X pins σ H s → RelV x v → Vals xs us → r x xs H Q →
  wpAny (model X.prog X.w) X.A (call (.builtin id) (v :: us)) (EP X pins σ Q) X.xe s
theorem Vals.one : ∀ {x : V} {us : List Value}, Vals [x] us → ∃ u, us = [u] ∧ RelV x u
 | _, _, .cons r .nil => ⟨_, rfl, r⟩
theorem Vals.zero : ∀ {us : List Value}, Vals [] us → us = []
 | _, .nil => rfl
theorem Vals.dropLast {xs : List V} {us : List Value} (h : Vals xs us) : Vals xs.dropLast us.dropLast := by
 induction h with
 | nil => exact .nil
 | cons r t ih =>
  cases t with
  | nil => exact .nil
  | cons q t' => exact .cons r ih
theorem Vals.rep {xs : List V} {us : List Value} (h : Vals xs us) : ∀ k : Nat, Vals (List.replicate k xs).flatten (List.replicate k us).flatten
 | 0 => .nil
 | k + 1 => by
  rw [List.replicate_succ, List.replicate_succ, List.flatten_cons, List.flatten_cons]
  exact Vals.append h (Vals.rep h k)
theorem zkQ {α : Type} (l : List α) : l.eraseIdx (l.length - 1) = l.dropLast := by
 induction l with
 | nil => rfl
 | cons a r ih =>
  cases r with
  | nil => rfl
  | cons b r =>
   have e : (a :: b :: r).length - 1 = ((b :: r).length - 1) + 1 := by
    have h1 : (a :: b :: r).length = r.length + 2 := rfl
    have h2 : (b :: r).length = r.length + 1 := rfl
    omega
   rw [e, List.eraseIdx_cons_succ, ih]
   all_goals rfl
theorem zhs (its : List Value) : ∀ (k : Nat) (acc : List Value),
  List.foldl (fun x1 x2 => x1 ++ x2) acc.toArray (List.replicate k its.toArray) = (acc ++ (List.replicate k its).flatten).toArray
 | 0, acc => by simp
 | k + 1, acc => by
  have e : acc.toArray ++ its.toArray = (acc ++ its).toArray := by simp
  have e2 : (acc ++ its) ++ (List.replicate k its).flatten = acc ++ (List.replicate (k + 1) its).flatten := by
   rw [List.replicate_succ, List.flatten_cons, List.append_assoc]
  rw [← e2, ← zhs its k (acc ++ its), ← e, List.replicate_succ, List.foldl_cons]
section
variable {X : Cx} {pins : List (Addr × Obj)} {σ : St} {H : Hp} {s : Shared} {l b : Addr} {xs ys zs : List V}
theorem Inv.lset {its its' : List Value} {n : Nat} {f : Array Value → Array Value} {t' : Nat} (I : Inv X pins σ H s) (hH : H l = some (.lst xs))
  (e : s.heap.get? l = some { cls := .type "list", data := .seq its.toArray n }) (hf : f its.toArray = its'.toArray) (hv : Vals ys its') (hz : ys.length ≤ sizeLine) :
  Inv X pins σ (upd H l (.lst ys)) { s with heap := s.heap.update l (Obj.mapSeq f), toks := t' } := by
 have q := PySem.IsL.update e f
 rw [hf] at q
 refine I.write (x := l) (e := l) (by rw [hH]; exact trivial) (.inl rfl) (fun b' u hb hu => (Heap.get?_update_other s.heap (Obj.mapSeq f) (Ne.symm hb)).trans hu) ⟨_, q⟩ ?_
 exact ⟨hz, its', _, hv, q⟩
theorem Inv.lnew {its : List Value} {t' : Nat} (I : Inv X pins σ H s) (hv : Vals ys its) (hz : ys.length ≤ sizeLine) :
  Inv X pins σ (upd H s.heap.objs.size (.lst ys)) { s with heap := s.heap.push { cls := .type "list", data := .seq its.toArray }, toks := t' } :=
 I.laid (fun _ _ q => Heap.get?_push_of_some _ q) (Nat.le_refl _) ⟨hz, its, 0, hv, Heap.get?_push_size _ rfl⟩
theorem Inv.fresh (I : Inv X pins σ H s) : H s.heap.objs.size = none := I.hok.fresh (Nat.le_refl _)
theorem Inv.lstM (I : Inv X pins σ H s) (hH : H l = some (.lst xs)) : xs.length ≤ sizeLine ∧ ∃ (its : List Value) (n : Nat), Vals xs its ∧ xs.length = its.length ∧ s.heap.get? l = some { cls := .type "list", data := .seq its.toArray n } := by
 obtain ⟨z, its, n, r, e⟩ := I.hok l _ hH
 exact ⟨z, its, n, r, r.length, e⟩
theorem znE {n : Nat} (h : n ≤ sizeLine) : Builtin.List.listTooLong n = false := by
 unfold Builtin.List.listTooLong
 exact decide_eq_false (by omega)
end
section
variable {X : Cx}
def rAppend : V → List V → Hp → VK → Prop := fun x vs H Q => ∃ l xs y, x = .ref l ∧ vs = [y] ∧ H l = some (.lst xs) ∧ xs.length < sizeLine ∧ Q .non (upd H l (.lst (xs ++ [y])))
theorem zht : MtM X "list.append" rAppend := by
 intro pins s σ H x vs v us Q I rx rv h
 obtain ⟨l, xs, y, rfl, rfl, hH, hz, q⟩ := h
 cases rx
 obtain ⟨u, rfl, ru⟩ := rv.one
 obtain ⟨z, its, n, r, hl, e⟩ := I.lstM hH
 refine call_meets F.slot_list_append ⟨_, e, rfl⟩ F.entry_list_append (F.args_list_append_2 _ _) (PySem.list_append l its.toArray n u (by rw [List.size_toArray]; omega)) ⟨e, ?_⟩
 refine ⟨.non, _, I.lset (its' := its ++ [u]) hH e (by simp) (r.append (.cons ru .nil)) ?_, rfl, q⟩
 rw [List.length_append, List.length_singleton]
 omega
def rPop : V → List V → Hp → VK → Prop := fun x vs H Q => ∃ l xs y, x = .ref l ∧ vs = [] ∧ H l = some (.lst xs) ∧ xs[xs.length - 1]? = some y ∧ Q y (upd H l (.lst xs.dropLast))
theorem zr8 : MtM X "list.pop" rPop := by
 intro pins s σ H x vs v us Q I rx rv h
 obtain ⟨l, xs, y, rfl, rfl, hH, hy, q⟩ := h
 cases rx
 have hus := rv.zero
 subst hus
 obtain ⟨z, its, n, r, hl, e⟩ := I.lstM hH
 obtain ⟨u, hu, ru⟩ := r.get hy
 have hy' : its.toArray[its.toArray.size - 1]? = some u := by
  show its.toArray[its.length - 1]? = some u
  rw [← Array.getElem?_toList, ← hl]
  exact hu
 refine call_meets F.slot_list_pop ⟨_, e, rfl⟩ F.entry_list_pop (F.args_list_pop_1 _) (MeetsSeq.list_pop_last l its.toArray n u hy' (by rw [List.size_toArray]; omega)) ⟨e, ?_⟩
 refine ⟨y, _, I.lset (its' := its.dropLast) hH e ?_ r.dropLast ?_, ru, q⟩
 ·show its.toArray.eraseIdxIfInBounds (its.toArray.size - 1) = its.dropLast.toArray
  rw [List.size_toArray, List.eraseIdxIfInBounds_toArray, zkQ]
 ·rw [List.length_dropLast]
  omega
def rCat : R2 := fun x y H Q => ∃ l b xs zs, x = .ref l ∧ y = .ref b ∧ H l = some (.lst xs) ∧ H b = some (.lst zs) ∧ xs.length + zs.length ≤ sizeLine ∧ ∀ p, H p = none → Q (.ref p) (upd H p (.lst (xs ++ zs)))
theorem zjS : OpR X (binaryOp .Add) rCat := by
 intro pins s σ H x y v u Q I rx ry h
 obtain ⟨l, b, xs, zs, rfl, rfl, hH, hB, hz, q⟩ := h
 cases rx
 cases ry
 obtain ⟨z, its, n, r, hl, e⟩ := I.lstM hH
 obtain ⟨z2, its2, n2, r2, hl2, e2⟩ := I.lstM hB
 refine PySem.P.add_list e e2 ?_ (by rw [List.size_toArray, List.size_toArray]; omega)
 have ea : its.toArray ++ its2.toArray = (its ++ its2).toArray := by simp
 rw [ea]
 exact ⟨.ref _, _, I.lnew (t' := s.toks) (r.append r2) (by rw [List.length_append]; omega), rfl, q _ I.fresh⟩
def rRep : R2 := fun x y H Q => ∃ l k xs, x = .ref l ∧ y = .int k ∧ H l = some (.lst xs) ∧ -(2 ^ 63) ≤ k ∧ k < 2 ^ 63 ∧ xs.length * k.toNat ≤ sizeLine ∧
 ∀ p, H p = none → Q (.ref p) (upd H p (.lst (List.replicate k.toNat xs).flatten))
theorem zpM {α : Type} (xs : List α) (k : Nat) : (List.replicate k xs).flatten.length = k * xs.length := by
 induction k with
 | zero => simp
 | succ k ih => rw [List.replicate_succ, List.flatten_cons, List.length_append, ih, Nat.succ_mul, Nat.add_comm]
theorem zoR : OpR X (binaryOp .Mult) rRep := by
 intro pins s σ H x y v u Q I rx ry h
 obtain ⟨l, k, xs, rfl, rfl, hH, h1, h2, hz, q⟩ := h
 cases rx
 obtain ⟨t, rfl⟩ := ry
 obtain ⟨z, its, n, r, hl, e⟩ := I.lstM hH
 have hlen : its.toArray.size * k.toNat ≤ sizeLine := by rw [List.size_toArray, ← hl]; exact hz
 have hcap : ¬ its.toArray.size * k.toNat > (2 ^ 63 - 1) / 8 := by
  have : (sizeLine : Nat) ≤ (2 ^ 63 - 1) / 8 := by decide
  omega
 have hfit : ¬ (!Builtin.List.listFitsIndex k) = true := by
  rw [fitsIndex_both h1 h2]
  exact Bool.false_ne_true
 have hlong : ¬ Builtin.List.listTooLong (its.toArray.size * k.toNat) = true := by
  rw [znE hlen]
  exact Bool.false_ne_true
 have hnew : List.foldl (fun x1 x2 => x1 ++ x2) #[] (List.replicate (if its.toArray.isEmpty = true then 0 else k.toNat) its.toArray) = (List.replicate k.toNat its).flatten.toArray := by
  have f0 : ∀ m : Nat, List.foldl (fun x1 x2 => x1 ++ x2) #[] (List.replicate m its.toArray) = (List.replicate m its).flatten.toArray := fun m => by
   have := zhs its m []
   rw [List.nil_append] at this
   exact this
  rw [f0]
  cases its with
  | nil => simp
  | cons a r' => rw [if_neg (by simp)]
 refine wpAny_binaryOp_repeat_ref (T := "list") (U := "int") (by decide) ⟨_, e, rfl⟩ (fun s' => typeIs_int s' k t) noFill_list_mul F.fills_int_mul F.slot_int_rmul repeat_list F.slot_int_index.lookup
  (call_meets F.slot_int_rmul (typeIs_int s k t) F.entry_int_rmul (F.args_int_rmul_2 _ _) (int___rmul___int_list k t l its.toArray n)
   ⟨e, rfl, ⟨_, e, rfl⟩, call_meets F.slot_list_mul ⟨_, e, rfl⟩ F.entry_list_mul (F.args_list_mul_2 _ _) (AutoListH.list___mul___list_int_3 l its.toArray n k t hfit hcap hlong) ⟨e, ?_⟩⟩)
 rw [hnew]
 exact ⟨.ref _, _, I.lnew (t' := s.toks) (r.rep k.toNat) (by rw [zpM, Nat.mul_comm]; exact hz), rfl, q _ I.fresh⟩
end
section
variable {prog : Program} {w : World} {A : Around} {E : Value → Shared → Prop} {s : Shared}
end
section
variable {X : Cx}
end
end L2
namespace L2
open PySem PySem.Spec PyProof.Rows
section
variable {κ : Type} [DecidableEq κ]
def valV (kvs : List (κ × V)) (k : κ) : Option V := (kvs.find? fun kv => decide (kv.1 = k)).map (·.2)
def putK (kvs : List (κ × V)) (k : κ) (v : V) : List (κ × V) :=
 if (kvs.any fun kv => decide (kv.1 = k)) = true then kvs.map (fun kv => if kv.1 = k then (kv.1, v) else kv) else kvs ++ [(k, v)]
theorem zfc {p : κ × V} {r : List (κ × V)} {k : κ} (e : p.1 = k) : valV (p :: r) k = some p.2 := by simp [valV, List.find?_cons, e]
theorem zfd {p : κ × V} {r : List (κ × V)} {k : κ} (e : ¬ p.1 = k) : valV (p :: r) k = valV r k := by simp [valV, List.find?_cons, e]
theorem zjT (k : κ) : ∀ kvs : List (κ × V), (kvs.any fun kv => decide (kv.1 = k)) = (valV kvs k).isSome
 | [] => rfl
 | p :: r => by
  rw [List.any_cons]
  by_cases e : p.1 = k
  ·simp only [zfc e, decide_eq_true e, Bool.true_or, Option.isSome_some]
  ·rw [zfd e, decide_eq_false e, Bool.false_or]; exact zjT k r
theorem zfn (kvs : List (κ × V)) (k : κ) (v : V) : (putK kvs k v).length ≤ kvs.length + 1 := by
 unfold putK
 split
 ·rw [List.length_map]; omega
 ·rw [List.length_append, List.length_cons, List.length_nil]; omega
theorem RelO.isSome_eq {o : Option V} {u : Option Value} (r : RelO o u) : o.isSome = u.isSome := by
 cases o with
 | none => cases u with
  | none => rfl
  | some _ => exact (show False from r).elim
 | some _ => cases u with
  | none => exact (show False from r).elim
  | some _ => rfl
theorem KV.val {kvs : List (κ × V)} {vs : List (κ × Value)} (r : KV kvs vs) (k : κ) : RelO (valV kvs k) (valueAt vs k) := by
 unfold KV at r
 induction r with
 | nil => exact True.intro
 | @cons p q ps qs h t ih =>
  obtain ⟨h1, h2⟩ := h
  by_cases e : p.1 = k
  ·have e' : q.1 = k := h1.symm.trans e
   have b : valueAt (q :: qs) k = some q.2 := by simp [valueAt, List.find?_cons, e']
   rw [zfc e, b]; exact h2
  ·have e' : ¬ q.1 = k := fun z => e (h1.trans z)
   have b : valueAt (q :: qs) k = valueAt qs k := by simp [valueAt, List.find?_cons, e']
   rw [zfd e, b]; exact ih
theorem KV.any {kvs : List (κ × V)} {vs : List (κ × Value)} (r : KV kvs vs) (k : κ) : (kvs.any fun kv => decide (kv.1 = k)) = vs.any fun kv => decide (kv.1 = k) := by
 unfold KV at r
 induction r with
 | nil => rfl
 | cons h t ih => rw [List.any_cons, List.any_cons, ih, h.1]
theorem KV.repl {kvs : List (κ × V)} {vs : List (κ × Value)} (r : KV kvs vs) (k : κ) {y : V} {u : Value} (ry : RelV y u) :
  KV (kvs.map fun kv => if kv.1 = k then (kv.1, y) else kv) (vs.map fun kv => if kv.1 = k then (kv.1, u) else kv) := by
 unfold KV at r ⊢
 induction r with
 | nil => exact .nil
 | @cons p q ps qs h t ih =>
  rw [List.map_cons, List.map_cons]
  refine .cons ?_ ih
  obtain ⟨h1, h2⟩ := h
  by_cases e : p.1 = k
  ·rw [if_pos e, if_pos (h1.symm.trans e)]; exact ⟨h1, ry⟩
  ·rw [if_neg e, if_neg (fun z => e (h1.trans z))]; exact ⟨h1, h2⟩
theorem KV.put {kvs : List (κ × V)} {vs : List (κ × Value)} (r : KV kvs vs) (k : κ) {y : V} {u : Value} (ry : RelV y u) : KV (putK kvs k y) (stored vs k u) := by
 unfold putK stored
 rw [r.any k]
 by_cases e : (vs.any fun kv => decide (kv.1 = k)) = true
 ·rw [if_pos e, if_pos e]; exact r.repl k ry
 ·rw [if_neg e, if_neg e]; exact Paired.snoc r ⟨rfl, ry⟩
theorem KV.length {kvs : List (κ × V)} {vs : List (κ × Value)} (r : KV kvs vs) : kvs.length = vs.length := Paired.length r
end
theorem ziR {P : Program} {w : World} {k : Key} {u : Value} (r : RelV (kV k) u) : (zaz P w).is k u = true := by
 cases k with
 | inl i => obtain ⟨t, e⟩ := (show ∃ t, u = Value.int i t from r); subst e; exact ziL P w i t
 | inr x => obtain ⟨t, e⟩ := (show ∃ t, u = Value.str x t from r); subst e; exact ziM P w x t
theorem zhu {P : Program} {w : World} : ∀ {ks : List Key} {us : List Value}, Vals (ks.map kV) us → ItemsAre (zaz P w) ks us
 | [], _, r => by rw [List.map_nil] at r; cases r; exact .nil
 | k :: ks, _, r => by
  rw [List.map_cons] at r
  cases r with
  | cons h t => exact .cons (ziR h) (zhu t)
abbrev KT (H : Hp) : List (List Key × V) → List (List Key × Addr × Value) → Prop := Paired fun p q => p.1 = q.1 ∧ H q.2.1 = some (.tup (p.1.map kV)) ∧ RelV p.2 q.2.2
theorem KT.val {H : Hp} {kvs : List (List Key × V)} {xs : List (List Key × Addr × Value)} (r : KT H kvs xs) (k : List Key) : RelO (valV kvs k) ((atKey xs k).map (·.2)) := by
 induction r with
 | nil => exact True.intro
 | @cons p q ps qs h t ih =>
  obtain ⟨h1, _, h2⟩ := h
  by_cases e : p.1 = k
  ·have e' : q.1 = k := h1.symm.trans e
   have b : atKey (q :: qs) k = some q.2 := by simp [atKey, List.find?_cons, e']
   rw [zfc e, b]; exact h2
  ·have e' : ¬ q.1 = k := fun z => e (h1.trans z)
   have b : atKey (q :: qs) k = atKey qs k := by simp [atKey, List.find?_cons, e']
   rw [zfd e, b]; exact ih
theorem KT.repl {H : Hp} {kvs : List (List Key × V)} {xs : List (List Key × Addr × Value)} (r : KT H kvs xs) (k : List Key) {y : V} {u : Value} (ry : RelV y u) :
  KT H (kvs.map fun kv => if kv.1 = k then (kv.1, y) else kv) (xs.map (putAt k u)) := by
 induction r with
 | nil => exact .nil
 | @cons p q ps qs h t ih =>
  rw [List.map_cons, List.map_cons]
  refine .cons ?_ ih
  obtain ⟨h1, h2, h3⟩ := h
  unfold putAt
  by_cases e : p.1 = k
  ·rw [if_pos e, if_pos (h1.symm.trans e)]; exact ⟨h1, h2, ry⟩
  ·rw [if_neg e, if_neg (fun z => e (h1.trans z))]; exact ⟨h1, h2, h3⟩
theorem KT.put {H : Hp} {kvs : List (List Key × V)} {xs : List (List Key × Addr × Value)} (r : KT H kvs xs) (k : List Key) {b : Addr} {y : V} {u : Value} (hb : H b = some (.tup (k.map kV))) (ry : RelV y u) :
  KT H (putK kvs k y) (storedH xs k b u) := by
 have e : (kvs.any fun kv => decide (kv.1 = k)) = (atKey xs k).isSome := by
  rw [zjT, (r.val k).isSome_eq, Option.isSome_map]
 unfold putK storedH
 rw [e]
 by_cases q : (atKey xs k).isSome = true
 ·rw [if_pos q, if_pos q]; exact r.repl k ry
 ·rw [if_neg q, if_neg q]; exact Paired.snoc r ⟨rfl, hb, ry⟩
theorem KT.keeps {H H' : Hp} {kvs : List (List Key × V)} {xs : List (List Key × Addr × Value)} (r : KT H kvs xs) (ht : ∀ b ys, H b = some (.tup ys) → H' b = some (.tup ys)) : KT H' kvs xs :=
 Paired.mapP r fun _ _ z => ⟨z.1, ht _ _ z.2.1, z.2.2⟩
section
variable {P : Program} {w : World} {H : Hp} {h : Heap} {a : Addr}
theorem zr9 {u : HO} (ok : HOk P w H h) (e : Rd H a u) : zbw P w H h a u := e.ok ok
theorem zkR {kvs : List (Key × V)} (ok : HOk P w H h) (e : Rd H a (.dK kvs)) : kvs.length ≤ sizeLine ∧ (a == sysModules) = false ∧ ∃ vs, KV kvs vs ∧ h.DictOf (zaz P w) a vs :=
 show zbw P w H h a (.dK kvs) from zr9 ok e
theorem zt5 {kvs : List (Key × V)} (ok : HOk P w H h) (e : H a = some (.dK kvs)) : kvs.length ≤ sizeLine ∧ (a == sysModules) = false ∧ ∃ vs, KV kvs vs ∧ h.DictOf (zaz P w) a vs := zkR ok (.inl e)
theorem zgn {ks : List Key} (ok : HOk P w H h) (e : H a = some (.tup (ks.map kV))) : (tupleKind (zaz P w)).is h ks a := by
 obtain ⟨_, its, r, o, h1, h2, n, h3⟩ := (show zbw P w H h a (.tup (ks.map kV)) from ok a _ e)
 exact ⟨o, its.toArray, n, h1, h2, h3, by simpa using zhu r⟩
theorem zlV {kvs : List (List Key × V)} (ok : HOk P w H h) (e : Rd H a (.dT kvs)) : kvs.length ≤ sizeLine ∧ (a == sysModules) = false ∧
  ∃ xs, KT H kvs xs ∧ h.DictOfH (tupleKind (zaz P w)) a xs := by
 obtain ⟨z, y, xs, r, o, es, ep, h1, h2, h3, h4, h5⟩ := (show zbw P w H h a (.dT kvs) from zr9 ok e)
 refine ⟨z, y, xs, r, o, es, ep, h1, h2, h3, h4, fun x hx => ?_, h5⟩
 have all : ∀ {l : List (List Key × V)} {m : List (List Key × Addr × Value)}, KT H l m → ∀ x ∈ m, (tupleKind (zaz P w)).is h x.1 x.2.1 := by
  intro l m q
  induction q with
  | nil => intro x hx; exact nomatch hx
  | @cons p q ps qs hq t ih =>
   intro x hx
   rcases List.mem_cons.mp hx with e | hx
   ·subst e
    exact zgn ok (by rw [← hq.1]; exact hq.2.1)
   ·exact ih x hx
 exact all r x hx
theorem zt6 {kvs : List (List Key × V)} (ok : HOk P w H h) (e : H a = some (.dT kvs)) : kvs.length ≤ sizeLine ∧ (a == sysModules) = false ∧
  ∃ xs, KT H kvs xs ∧ h.DictOfH (tupleKind (zaz P w)) a xs := zlV ok (.inl e)
end
def DGet (H : Hp) (a : Addr) (y : V) (r : Option V) : Prop :=
 (∃ kvs k, Rd H a (.dK kvs) ∧ y = kV k ∧ r = valV kvs k) ∨ ∃ kvs k b, Rd H a (.dT kvs) ∧ y = .ref b ∧ H b = some (.tup (k.map kV)) ∧ r = valV kvs k
def DPut (H : Hp) (a : Addr) (y v : V) (H' : Hp) : Prop :=
 (∃ kvs k, H a = some (.dK kvs) ∧ y = kV k ∧ kvs.length < sizeLine ∧ H' = upd H a (.dK (putK kvs k v))) ∨
 ∃ kvs k b, H a = some (.dT kvs) ∧ y = .ref b ∧ H b = some (.tup (k.map kV)) ∧ kvs.length < sizeLine ∧ H' = upd H a (.dT (putK kvs k v))
theorem DGet.k {H : Hp} {a : Addr} {kvs : List (Key × V)} {k : Key} (e : H a = some (.dK kvs)) : DGet H a (kV k) (valV kvs k) := .inl ⟨kvs, k, .inl e, rfl, rfl⟩
theorem DGet.t {H : Hp} {a b : Addr} {kvs : List (List Key × V)} {k : List Key} (e : H a = some (.dT kvs)) (eb : H b = some (.tup (k.map kV))) : DGet H a (.ref b) (valV kvs k) := .inr ⟨kvs, k, b, .inl e, rfl, eb, rfl⟩
theorem DPut.k {H : Hp} {a : Addr} {kvs : List (Key × V)} {k : Key} {v : V} (e : H a = some (.dK kvs)) (hl : kvs.length < sizeLine) : DPut H a (kV k) v (upd H a (.dK (putK kvs k v))) := .inl ⟨kvs, k, e, rfl, hl, rfl⟩
theorem DPut.t {H : Hp} {a b : Addr} {kvs : List (List Key × V)} {k : List Key} {v : V} (e : H a = some (.dT kvs)) (eb : H b = some (.tup (k.map kV))) (hl : kvs.length < sizeLine) :
  DPut H a (.ref b) v (upd H a (.dT (putK kvs k v))) := .inr ⟨kvs, k, b, e, rfl, eb, hl, rfl⟩
section
variable {X : Cx} {pins : List (Addr × Obj)} {σ : St} {H : Hp} {s : Shared} {a : Addr} {y v : V} {u r : Value} {o : Option V} {A : Around} {E : Value → Shared → Prop}
theorem Inv.big (I : Inv X pins σ H s) : sysModules < s.heap.objs.size := by
 have h : mainGlobals < s.heap.objs.size := (I.mod.glob.keeps I.bk).lt
 exact Nat.lt_trans (by decide) h
theorem zlW {Q : Value → Shared → Prop} (hu : A.units + 1 < cLine) (I : Inv X pins σ H s) (g : DGet H a y (some v)) (ry : RelV y u) (h : ∀ w' s', Inv X pins σ H s' → RelV v w' → Q w' s') :
  wpAny (model X.prog X.w) A (getItem (.ref a) u) Q E s := by
 rcases g with ⟨kvs, k, e, ey, l⟩ | ⟨kvs, k, b, e, ey, eb, l⟩
 ·subst ey
  obtain ⟨z, hd, vs, rel, dd⟩ := zkR I.hok e
  obtain ⟨w', hw, rw'⟩ := RelO.some_of (v := v) (o := valueAt vs k) (by rw [l]; exact rel.val k)
  exact wpAny_getItem_of (ziR ry) dd.mapOf hw (h w' _ (I.tok _) rw')
 ·subst ey
  cases (show u = Value.ref b from ry)
  obtain ⟨z, hd, xs, rel, dd⟩ := zlV I.hok e
  obtain ⟨w', hw, rw'⟩ := RelO.some_of (v := v) (o := (atKey xs k).map (·.2)) (by rw [l]; exact rel.val k)
  obtain ⟨p, hp, hp2⟩ := Option.map_eq_some_iff.mp hw
  refine wpAny_getItem_heap (tupleKind_room_in1 hu) (zgn I.hok eb) dd hp ?_
  rw [hp2]
  exact h w' _ (I.tok _) rw'
theorem d_in {Q : Value → Shared → Prop} (hu : A.units + 1 < cLine) (I : Inv X pins σ H s) (g : DGet H a y o) (ry : RelV y u) (h : ∀ s', Inv X pins σ H s' → Q (.bool o.isSome) s') :
  wpAny (model X.prog X.w) A (compareOp .In u (.ref a)) Q E s := by
 rcases g with ⟨kvs, k, e, ey, l⟩ | ⟨kvs, k, b, e, ey, eb, l⟩
 ·subst ey
  obtain ⟨z, hd, vs, rel, dd⟩ := zkR I.hok e
  refine wpAny_in_of (ziR ry) hd dd.mapOf ?_
  rw [← (rel.val k).isSome_eq, ← l]
  exact h _ (I.tok _)
 ·subst ey
  cases (show u = Value.ref b from ry)
  obtain ⟨z, hd, xs, rel, dd⟩ := zlV I.hok e
  refine wpAny_in_heap (tupleKind_room_in1 hu) (zgn I.hok eb) hd dd ?_
  have q := (rel.val k).isSome_eq
  rw [Option.isSome_map] at q
  rw [← q, ← l]
  exact h _ (I.tok _)
theorem zlX {Q : Value → Shared → Prop} (hu : A.units + 1 < cLine) (I : Inv X pins σ H s) (g : DGet H a y o) (ry : RelV y u) (h : ∀ s', Inv X pins σ H s' → Q (.bool (!o.isSome)) s') :
  wpAny (model X.prog X.w) A (compareOp .NotIn u (.ref a)) Q E s := by
 rcases g with ⟨kvs, k, e, ey, l⟩ | ⟨kvs, k, b, e, ey, eb, l⟩
 ·subst ey
  obtain ⟨z, hd, vs, rel, dd⟩ := zkR I.hok e
  refine wpAny_notIn_of (ziR ry) hd dd.mapOf ?_
  rw [← (rel.val k).isSome_eq, ← l]
  exact h _ (I.tok _)
 ·subst ey
  cases (show u = Value.ref b from ry)
  obtain ⟨z, hd, xs, rel, dd⟩ := zlV I.hok e
  refine wpAny_notIn_heap (tupleKind_room_in1 hu) (zgn I.hok eb) hd dd ?_
  have q := (rel.val k).isSome_eq
  rw [Option.isSome_map] at q
  rw [← q, ← l]
  exact h _ (I.tok _)
theorem ziS {h' : Heap} {t' : Nat} {ob : HO} (I : Inv X pins σ H s) (mu : Mut (H a)) (hs : Heap.SameBut a s.heap h') (he : ∃ q, h'.get? a = some q) (new : zbw X.prog X.w (upd H a ob) h' a ob) :
  Inv X pins σ (upd H a ob) { s with heap := h', toks := t' } :=
 I.write (x := a) (e := a) mu (.inl rfl) (fun b q hb z => (hs.2 b hb).trans z) he new
theorem zsa {P : Program} {w : World} {H' : Hp} {h' : Heap} {kvs : List (Key × V)} {vs : List (Key × Value)} (z : kvs.length ≤ sizeLine) (hd : (a == sysModules) = false) (rel : KV kvs vs) (dd : h'.DictOf (zaz P w) a vs) :
  zbw P w H' h' a (.dK kvs) := ⟨z, hd, vs, rel, dd⟩
theorem zlY {H' : Hp} {Q : Unit → Shared → Prop} (hu : A.units + 1 < cLine) (I : Inv X pins σ H s) (g : DPut H a y v H') (ry : RelV y u) (rv : RelV v r) (h : ∀ s', Inv X pins σ H' s' → Q () s') :
  wpAny (model X.prog X.w) A (setItem (.ref a) u r) Q E s := by
 rcases g with ⟨kvs, k, e, ey, l, eH⟩ | ⟨kvs, k, b, e, ey, eb, l, eH⟩
 ·subst ey eH
  obtain ⟨z, hd, vs, rel, dd⟩ := zt5 I.hok e
  have hz : vs.length ≤ sizeLine := by rw [← rel.length]; exact z
  have hl : (putK kvs k v).length ≤ sizeLine := by have := zfn kvs k v; omega
  refine wpAny_setItem_pairs (hsz := hz) (ziR ry) dd fun h' dd' hs => h _ ?_
  have he : ∃ q, h'.get? a = some q := let ⟨q, _, _, hq, _⟩ := dd'; ⟨q, hq⟩
  exact ziS I (by rw [e]; exact True.intro) hs he (zsa hl hd (rel.put k rv) dd')
 ·subst ey eH
  cases (show u = Value.ref b from ry)
  obtain ⟨z, hd, xs, rel, dd⟩ := zt6 I.hok e
  have hz : xs.length ≤ sizeLine := by rw [← Paired.length rel]; exact z
  have hl : (putK kvs k v).length ≤ sizeLine := by have := zfn kvs k v; omega
  refine wpAny_setItem_heap (hsz := hz) (tupleKind_room_in1 hu) (zgn I.hok eb) dd fun h' dd' hs => h _ ?_
  obtain ⟨q, es, ep, hq, h2, h3, h4, _, h5⟩ := dd'
  refine ziS I (by rw [e]; exact True.intro) hs ⟨q, hq⟩ ⟨hl, hd, _, (rel.put k eb rv).keeps fun c ys ec => ?_, q, es, ep, hq, h2, h3, h4, h5⟩
  rw [zaA (ztM ec e (fun z => nomatch z))]
  exact ec
end
section
variable {X : Cx} {pins : List (Addr × Obj)} {σ : St} {H : Hp} {s : Shared} {a : Addr} {kvs : List (Key × V)} {k : Key} {u : Value} {A : Around} {E : Value → Shared → Prop}
theorem zt7 {Q : Value → Shared → Prop} (I : Inv X pins σ H s) (e : Rd H a (.dK kvs)) (h : ∀ t s', Inv X pins σ H s' → Q (.int kvs.length t) s') : wpAny (model X.prog X.w) A (call (.builtin "len") [.ref a]) Q E s := by
 obtain ⟨z, hd, vs, rel, dd⟩ := zkR I.hok e
 refine call_len_dict hd dd (by rw [← rel.length]; rw [sizeLine_eq] at z; omega) ?_
 rw [← rel.length]
 exact h _ _ (I.tok _)
end
theorem ziT {X : Cx} {pins : List (Addr × Obj)} {σ : St} {H : Hp} {s : Shared} {a : Addr} {y : V} {o : Option V} (I : Inv X pins σ H s) (g : DGet H a y o) : s.TypeIs (.ref a) "dict" := by
 rcases g with ⟨kvs, k, e, _, _⟩ | ⟨kvs, k, b, e, _, _, _⟩
 ·obtain ⟨_, _, vs, _, dd⟩ := zkR I.hok e
  exact dd.typeIs
 ·obtain ⟨_, _, xs, _, dd⟩ := zlV I.hok e
  exact dd.typeIs
section
variable {X : Cx} {o i e value : Expr} {pos pos' tpos : Pos} {td ty tv : TE}
end
theorem znF {P : Program} {w : World} {H : Hp} (h : Heap) (hb : sysModules < h.objs.size) : zbw P w H (h.push { cls := .type "dict", data := .dict #[] }) h.objs.size (.dK []) :=
 ⟨Nat.zero_le _, beq_eq_false_iff_ne.mpr (Ne.symm (Nat.ne_of_lt hb)), [], .nil, Heap.DictOf.new h⟩
def zsb : TE := fun _ H Q => ∀ p, H p = none → Q (.ref p) (upd H p (.dK []))
section
variable {X : Cx} {pos : Pos}
theorem znG : PE X (.Dict [] [] pos) zsb := fun pins s σ H Q I h =>
 wpAny_Dict_empty ⟨.ref s.heap.objs.size, _, I.laid (a := s.heap.objs.size) (o := .dK []) (t' := s.toks) (fun _ _ q => Heap.get?_push_of_some _ q) (Nat.le_refl _) (znF s.heap I.big), rfl, h _ (I.hok.fresh (Nat.le_refl _))⟩
end
structure M1 (X : Cx) (o : Expr) (m : Str) (apos : Pos) (e : Expr) (cpos : Pos) : Prop where
 base : attributeBase o m X.env (eval o X.env) = eval o X.env
 few : ((backTo cpos (starEach [e] X.env)).all (fun x => !x.1) && (backToKw cpos (keywordEach [] X.env)).all (fun x => x.1.isSome)
  && decide (([e] : List Expr).length + ([] : List Keyword).length + (if ([] : List Keyword).isEmpty then 0 else 1) < 30)) = true
 line : (apos.endLine == cpos.line) = true
 trees : backTo cpos (starEach [e] X.env) = [(false, eval e X.env)]
section
variable {X : Cx} {pins : List (Addr × Obj)} {σ : St} {H : Hp} {s : Shared} {a : Addr} {y d : V} {u r : Value} {o : Option V} {A : Around} {E : Value → Shared → Prop}
end
section
variable {X : Cx} {o e f : Expr} {apos cpos : Pos} {td ty tx : TE}
end
section
variable {X : Cx} {pins : List (Addr × Obj)} {σ : St} {H : Hp} {s : Shared} {a : Addr} {kvs : List (Key × V)} {A : Around} {E : Value → Shared → Prop}
end
section
variable {X : Cx} {pins : List (Addr × Obj)} {σ : St} {H : Hp} {s : Shared} {a : Addr} {y : V} {u : Value} {A : Around} {E : Value → Shared → Prop}
end
end L2
namespace Att
open PySem PySem.W PySem.Calls PyProof.Rows
theorem zfo {P : Params} {h : Heap} : ∀ (ns : List Int) (vs : List Value), WellAll P h vs (ns.map WData.int) → IntsAre vs ns := by
 intro ns
 induction ns with
 | nil =>
  intro vs w
  rw [List.map_nil] at w
  cases w
  exact .nil
 | cons n ns ih =>
  intro vs w
  rw [List.map_cons] at w
  cases w with
  | cons a b =>
   cases a
   exact .cons _ _ (ih _ b)
theorem zlZ {l : OpenLaw} {n : Nat} (hn : l.most = some n) {P : Params} {h : Heap} {args : List WData} {vals : List Value}
  (hpre : l.row.toRowW.claim.pre args = true) (hwl : WellAll P h vals args) :
  ∃ a vs ns, vals = [Value.ref a] ∧ args = [WData.list (ns.map WData.int)] ∧ h.get? a = some { cls := .type "list", data := .seq vs.toArray } ∧ IntsAre vs ns ∧ ns.length ≤ n := by
 have hsh : WShape.hasAll [] args [.list .int] = true := (pre_splitW hpre).1
 have hc : l.pre.holds [] { args := args } = true := (pre_splitW hpre).2
 obtain ⟨d, r, rfl, h1, h2⟩ := hasAllW_cons hsh
 obtain rfl := hasAllW_nil h2
 obtain ⟨xs, rfl, h3⟩ := hasW_list h1
 obtain ⟨ns, rfl⟩ := items_int h3
 have hlen : ns.length ≤ n := by
  unfold OpenLaw.pre at hc
  have h4 : (WTm.not (.lt (.lit (.int (n : Int))) (.len (.arg 0)))).holds [] { args := [.list (ns.map .int)] } = true := by
   have h4 := (holds_andW hc).1
   rw [hn] at h4
   exact h4
  have h5 := condW_of h4 (w_not (w_lt w_lit (w_len_list (w_arg rfl))))
  rw [List.length_map] at h5
  refine Nat.le_of_not_lt fun q => ?_
  have q' : (n : Int) < ((ns.length : Nat) : Int) := by omega
  first
   | (rw [decide_eq_true q'] at h5; exact absurd h5 (by decide))
   | (simp at h5; omega)
 cases hwl with
 | cons w1 w2 =>
  cases w2
  cases w1 with
  | list ho hall => exact ⟨_, _, ns, rfl, rfl, ho, zfo ns _ hall, hlen⟩
theorem zl0 (l : OpenLaw) (args : List WData) : l.row.toRowW.claim.post args (.bool true) args = true :=
 postW_of (r := l.row.toRowW) (X := (true == true))
  (show WShape.has [] (.bool true) .bool = true by first | rfl | decide | simp [WShape.has, WShape.arms, WShape.armsAll])
  (show (WTm.eq .res (.lit (.bool true))).value [] { args := args, res := some (.bool true), after := args } = some (.bool (true == true)) from w_eq_bool (w_res rfl) w_lit) rfl
theorem attach_call {l : OpenLaw} {n : Nat} {q : Program} {loose : List Str} {XP : (Str → Option Value) → Heap → Prop} {YP : World → Heap → Prop} {d : DefRec}
  (hn : l.most = some n) (hdf : d.params.defaults = [])
  (call : ∀ (w : World) (s₀ s₁ : Shared) (mg mb : Str → Option Value) (fa : Addr) (o : Obj) (pm cd doc : Value) (a : Addr) (vs : List Value) (ns : List Int),
   Ground q loose [] XP w s₀ mg mb s₁.heap → YP w s₁.heap →
   s₁.heap.get? fa = some o → o.data = .func (docDef d.name d.params d.body d.scope pm cd doc) → s₁.heap.CodeRec cd d.name → mg d.name = some (.ref fa) →
   s₁.heap.get? a = some { cls := .type "list", data := .seq vs.toArray } → IntsAre vs ns → ns.length ≤ n → s₁.gens = #[] →
   codeAny (model l.prog w) callerA (.call (.ref fa) ⟨[.ref a], []⟩) (fun r s' => r = .ok (.ret (.bool true)) ∧ OldK s₁.heap s'.heap ∧ s'.os = s₁.os ∧ AllBare s'.gens) s₁) :
  WalkO q loose XP YP l.row.toRowW d [] (fun f vs => PySem.call f vs) := by
 intro w s₀ s₁ mg mb G Y fa o pm cd doc dV kV ho hd hcd hD hmg hg args vals as hpre hlay hrd hwl hlo
 obtain rfl : dV = .none := Dflts.none hD hdf
 obtain rfl : kV = .none := Dflts.noKw hD
 obtain ⟨a, vs, ns, rfl, rfl, hobj, hints, hlen⟩ := zlZ hn hpre hwl
 refine enter_call (codeAny_mono (call w s₀ s₁ mg mb fa o pm cd doc a vs ns G Y ho (fd_plain hd) hcd hmg hobj hints hlen hg) fun r s' hq => ?_)
 obtain ⟨rfl, h2, h3, h4⟩ := hq
 exact ⟨.inl ⟨.bool true, .bool true, [], rfl, fun _ => rfl, .bool true, zl0 l _, fun _ => ⟨List.Pairwise.nil, fun _ hm => (nomatch hm)⟩⟩, h2, h3, h4⟩
section
variable {prog : Program} {w : World} {A : Around} {E : Value → Shared → Prop} {s : Shared} {K : Frag}
end
end Att
namespace L2
open PySem PySem.Spec PyProof.Rows
theorem zhv : ∀ {vs : List Value} {ns : List Int}, IntsAre vs ns → Vals (ns.map V.int) vs
 | _, _, .nil => .nil
 | _, _, .cons n t h => .cons ⟨t, rfl⟩ (zhv h)
def Only (H : Hp) : Prop := ∀ b, H b = none ∨ ∃ o xs, H b = some (.frz o (.lst xs))
theorem znH {P : Program} {w : World} {K : PySem.W.Frag} {mg mb : Str → Option Value} {CX : CXT} {k : Nat} {fa a : Addr} {fd : FuncData} {x : Str} {sp : Sp} {s₁ : Shared} {vs : List Value} {ns : List Int}
  (KX : K.In s₁.heap) (hns : s₁.heap.Ns mainGlobals mg) (hb : s₁.heap.Ns builtinsNs mb) (hbb : ∀ x : Str, x ≠ "__name__" → mb x = bootBuiltins x) (hlim : s₁.heap.NoLimit) (hg : s₁.gens = #[])
  (ha : s₁.heap.get? a = some { cls := .type "list", data := .seq vs.toArray }) (hi : IntsAre vs ns) (hl : ns.length ≤ sizeLine) (hr : Room k callerA)
  (F : ∀ base : Heap, K.In base → base.Ns mainGlobals mg → FnOk P w K mg base CX k fa fd [x] sp) (hbind : ∀ (s : Shared) (u : Value), BindsTo s fd ⟨[u], []⟩ [(x, u)])
  (hsp : ∀ H : Hp, Only H → SqL K H a (ns.map V.int) → sp [.ref a] H (fun v _ => v = .bl true) fun _ _ _ => False)
  (hCX : ∀ H e s', CX [] H s₁ (fun _ _ _ => False) e s' → False) :
  codeAny (model P w) callerA (.call (.ref fa) ⟨[.ref a], []⟩) (fun r s' => r = .ok (.ret (.bool true)) ∧ OldK s₁.heap s'.heap ∧ s'.os = s₁.os ∧ AllBare s'.gens) s₁ := by
 have rv := zhv hi
 have lenV := hi.length
 -- from an abstract heap in which nothing but the script may be tracked
 have core : ∀ H : Hp, Only H → SqL K H a (ns.map V.int) → HOk P w H s₁.heap → (∀ b, H b ≠ none → b = a) → (H a ≠ none → K.lookup a = none) →
   codeAny (model P w) callerA (.call (.ref fa) ⟨[.ref a], []⟩) (fun r s' => r = .ok (.ret (.bool true)) ∧ OldK s₁.heap s'.heap ∧ s'.os = s₁.os ∧ AllBare s'.gens) s₁ := by
  intro H hO hS hok hA hK
  have base_of : ∀ {b : Addr} {o : Obj}, s₁.heap.get? b = some o → H b = none → (hidT s₁.heap H).get? b = some o := fun e n => znt e n
  have noA : ∀ {b : Addr} {o : Obj} {es : Array DictEntry} {ep : Nat}, s₁.heap.get? b = some o → o.data = .dict es ep → H b = none := fun {b o es ep} e d => by
   cases q : H b with
   | none => rfl
   | some u =>
    have e' : b = a := hA b (by rw [q]; simp)
    subst e'
    rw [ha] at e; cases e
    have d' : Data.seq vs.toArray _ = Data.dict es ep := d
    cases d'
  have nsK : ∀ {b : Addr} {m : Str → Option Value}, s₁.heap.Ns b m → (hidT s₁.heap H).Ns b m := fun {b m} ⟨o, es, ep, e, d, r⟩ => ⟨o, es, ep, base_of e (noA e d), d, r⟩
  have hKb : K.In (hidT s₁.heap H) := fun b o e => base_of (KX b o e) (by
   cases q : H b with
   | none => rfl
   | some u =>
    have e' : b = a := hA b (by rw [q]; simp)
    subst e'
    rw [hK (by rw [q]; simp)] at e; cases e)
  have hM : Mod K mg (hidT s₁.heap H) := ⟨hKb, nsK hns, ⟨mb, nsK hb, hbb⟩, let ⟨mc, h1, h2⟩ := hlim; ⟨mc, nsK h1, h2⟩⟩
  have e0 : Env0 P w K mg (hidT s₁.heap H) callerA [] s₁ H := ⟨rfl, hM, fun b o e => zpv e, Nat.le_of_eq (zlB _ _), trivial, fun b hb => absurd (show b ∈ ([] : List Addr) from hb) (by simp), hok, .of_eq hg⟩
  refine codeAny_mono ((F _ hKb (nsK hns)).run callerA [] s₁ H ⟨[.ref a], []⟩ [.ref a] [.ref a] _ _ hr e0 (hbind s₁ (.ref a)) (.cons rfl .nil) (hsp H hO hS)) fun r s' h => ?_
  cases r with
  | error e => exact (hCX H e s' h).elim
  | ok fl =>
   cases fl with
   | next => exact False.elim h
   | brk => exact False.elim h
   | cont => exact False.elim h
   | ret u =>
    obtain ⟨v, H', os, bare, un, hok', r', q⟩ := h
    have q' : v = .bl true := q
    subst q'
    obtain rfl : u = Value.bool true := r'
    refine ⟨rfl, OldK.of_keep fun b o e => ?_, os, bare⟩
    cases q : H b with
    | none => exact un.keep b o e q (by intro z; exact absurd (show b ∈ ([] : List Addr) from z) (by simp)) (by simp)
    | some u =>
     rcases hO b with z | ⟨ob, xs, z⟩
     ·rw [q] at z; cases z
     ·have z2 := un.frzs b ob _ z
      obtain ⟨e1, _⟩ := hok b _ z
      obtain ⟨e2, _⟩ := hok' b _ z2
      rw [e] at e1; cases e1
      exact e2
 cases hk : K.lookup a with
 | some o =>
  -- the script is one of the module's own objects
  have e := KX a o hk
  rw [ha] at e
  cases e
  refine core (fun _ => none) (fun _ => .inl rfl) (.inr ⟨_, vs.toArray, _, hk, rfl, rfl, rfl, by rw [List.size_toArray, lenV]; exact hl, by simpa using rv⟩) (fun b u z => by have z' : (none : Option HO) = some u := z; cases z') (fun b z => absurd rfl z) fun z => absurd rfl z
 | none =>
  refine core (fun b => if b = a then some (.frz { cls := .type "list", data := .seq vs.toArray } (.lst (ns.map V.int))) else none) (fun b => ?_) (.inl (.inr ⟨{ cls := .type "list", data := .seq vs.toArray }, if_pos rfl⟩)) (fun b u z => ?_) (fun b z => ?_) fun _ => hk
  ·by_cases hb : b = a
   ·exact .inr ⟨_, _, if_pos hb⟩
   ·exact .inl (if_neg hb)
  ·by_cases hb : b = a
   ·have z' := (if_pos hb).symm.trans z
    cases z'
    subst hb
    exact ⟨ha, by rw [List.length_map]; exact hl, vs, _, rv, ha⟩
   ·have z' := (if_neg hb).symm.trans z
    cases z'
  ·by_cases hb : b = a
   ·exact hb
   ·exact absurd (if_neg hb) z
end L2
namespace L2
open PySem PySem.Spec PyProof.Rows
theorem zpN {l : PySem.W.OpenLaw} {n k : Nat} {q : Program} {loose : List Str} {XP : (Str → Option Value) → Heap → Prop} {YP : World → Heap → Prop} {d : DefRec} {K : Params → PySem.W.Frag} {CX : World → CXT} {sp : World → Sp} {x : Str}
  (hn : l.most = some n) (hn2 : n ≤ sizeLine) (hdf : d.params.defaults = []) (hr : Room k callerA)
  (hY : ∀ (w : World) (h : Heap), YP w h → (K w.params).In h)
  (F : ∀ (w : World) (mg : Str → Option Value) (fa : Addr) (h : Heap), (K w.params).In h → h.Ns mainGlobals mg → mg d.name = some (.ref fa) →
   ∃ fd : FuncData, (∀ (s : Shared) (u : Value), BindsTo s fd ⟨[u], []⟩ [(x, u)]) ∧
    ∀ base : Heap, (K w.params).In base → base.Ns mainGlobals mg → FnOk l.prog w (K w.params) mg base (CX w) k fa fd [x] (sp w))
  (hsp : ∀ (w : World) (H : Hp) (a : Addr) (ns : List Int), ns.length ≤ n → Only H → SqL (K w.params) H a (ns.map V.int) → sp w [.ref a] H (fun v _ => v = .bl true) fun _ _ _ => False)
  (hCX : ∀ (w : World) (H : Hp) (s : Shared) (e : Value) (s' : Shared), CX w [] H s (fun _ _ _ => False) e s' → False) :
  PySem.W.WalkO q loose XP YP l.row.toRowW d [] (fun f vs => PySem.call f vs) := by
 refine Att.attach_call hn hdf fun w s₀ s₁ mg mb fa o pm cd doc a vs ns G Y ho hd hcd hmg hobj hints hlen hg => ?_
 have KX := hY w _ Y
 obtain ⟨fd, hb, hF⟩ := F w mg fa _ KX G.T.g hmg
 exact znH KX G.T.g G.T.b G.T.builtins G.T.nolimit hg hobj hints (Nat.le_trans hlen hn2) hr hF hb (fun H hO hS => hsp w H a ns hlen hO hS) fun H e s' => hCX w H s₁ e s'
end L2
namespace L2
open PySem PySem.Spec PyProof.Rows
def zam (s : Stmt) : Arguments := match s with
 | .FunctionDef _ a _ _ _ _ _ _ _ _ => a
 | _ => { posonlyargs := [], args := [], vararg := none, kwonlyargs := [], kw_defaults := [], kwarg := none, defaults := [] }
def zaf (s : Stmt) : List Stmt := match s with
 | .FunctionDef _ _ b _ _ _ _ _ _ _ => b
 | _ => []
def zaa (s : Stmt) : Scope := match s with
 | .FunctionDef _ _ _ _ _ _ sc _ _ _ => sc
 | _ => { kind := .function, names := [], isGenerator := false, isCoroutine := false }
abbrev CX0 : CXT := fun _ _ _ _ _ _ => False
abbrev E0 : XK := fun _ _ _ => False
theorem zt8 {X : Cx} : zhk CX0 X E0 := fun _ _ _ _ _ _ _ h => h.elim
structure Fun (K : PySem.W.Frag) (x qual : Str) (st : Stmt) (f : Addr) (fd : FuncData) : Prop where
 ex : ∃ (oc : Value) (od : Option Addr) (kV doc pm : Value) (an : Option Addr) (cdv ct : Value) (osl : Array (Option Value)),
  fd = PySem.W.fnOf x qual (zam st) (zaf st) (zaa st) .none kV doc pm an cdv ct ∧ K.lookup f = some ⟨oc, od, .func fd, osl⟩ ∧ PySem.W.codeIn K cdv qual = true
 kp : PySem.W.keepIn K (.ref f) = true
section
variable {P : Program} {w : World} {K : PySem.W.Frag} {mg : Str → Option Value} {base : Heap}
theorem Fun.ok {x qual : Str} {st : Stmt} {f : Addr} {fd : FuncData} {N ps : List Str} {k : Nat} {sp : Sp} (F : Fun K x qual st f fd) (S : zaR N ps (zaa st)) (len : ∀ vs H Q E, sp vs H Q E → vs.length = ps.length)
  (hbody : ∀ (cdv : Value) (A : Around) (outer : List Env) (s : Shared) (H : Hp) (vs : List V) (Q : VK) (E : XK), Room k (A.deeper (envOfC qual (zaa st) s.heap.objs.size f cdv)) → sp vs H Q E →
   ∃ t, PSs (cxOf CX0 P w K mg base N qual (zaa st) f cdv A outer s H E).nox (zaf st) t ∧ t { nx := fun _ H' => Q .non H', rt := Q } (start N vs) H) : FnOk P w K mg base CX0 (k + 1) f fd ps sp := by
 obtain ⟨oc, od, kV, doc, pm, an, cdv, ct, osl, rfl, lk, hcd⟩ := F.ex
 refine zr0 lk hcd S len fun A outer s H vs Q E hr hsp => ?_
 obtain ⟨t, h, q⟩ := hbody cdv A outer s H vs Q E hr hsp
 exact ⟨t, h.nox, q⟩
theorem Fun.binds {x qual : Str} {st : Stmt} {f : Addr} {fd : FuncData} {ps : List Str} (F : Fun K x qual st f fd)
  (h : ∀ (kV doc pm : Value) (an : Option Addr) (cdv ct : Value) (us : List Value), us.length = ps.length → bindArgs (PySem.W.fnOf x qual (zam st) (zaf st) (zaa st) .none kV doc pm an cdv ct) ⟨us, []⟩ = pure (ps.zip us)) : zf7 K fd ps [] := by
 obtain ⟨oc, od, kV, doc, pm, an, cdv, ct, osl, rfl, lk, hcd⟩ := F.ex
 exact .all (h kV doc pm an cdv ct)
theorem zbN {x qual : Str} {st : Stmt} {f : Addr} {oc : Value} {od an : Option Addr} {osl : Array (Option Value)} {kV doc pm cdv ct : Value} (l : K.lookup f = some ⟨oc, od, .func (PySem.W.fnOf x qual (zam st) (zaf st) (zaa st) .none kV doc pm an cdv ct), osl⟩)
  (c : PySem.W.codeIn K cdv qual = true) (k : PySem.W.keepIn K (.ref f) = true) : Fun K x qual st f (PySem.W.fnOf x qual (zam st) (zaf st) (zaa st) .none kV doc pm an cdv ct) := ⟨⟨oc, od, kV, doc, pm, an, cdv, ct, osl, rfl, l, c⟩, k⟩
end
theorem zcM {A : Around} {k : Nat} (hr : Room k A) : A.units + 1 < cLine := Nat.lt_of_le_of_lt (Nat.add_le_add_left (by decide : 1 ≤ 64) _) hr.units
section
variable {X : Cx}
theorem zhw : zcf X (.builtin "len") (fun xs H Q => ∃ a kvs, xs = [V.ref a] ∧ H a = some (.dK kvs) ∧ Q (.int kvs.length) H) := by
 intro pins s σ H xs us Q I r h
 obtain ⟨a, kvs, rfl, ha, q⟩ := h
 obtain ⟨u, rfl, ru⟩ := zgD r
 cases ru
 exact zt7 I (.inl ha) fun t s' I' => ⟨.int kvs.length, H, I', ⟨t, rfl⟩, q⟩
end
theorem iteF {A B : Prop} (h : B) : if false = true then A else B := by
 rw [if_neg Bool.false_ne_true]
 exact h
theorem iteT {A B : Prop} (h : A) : if true = true then A else B := by
 rw [if_pos rfl]
 exact h
section
variable {κ : Type} [DecidableEq κ]
end
end L2
set_option maxHeartbeats 4000000
namespace L2
open PySem PySem.Spec PyProof.Rows
structure Blk where
 cl : List (Str × Addr)
 s : Shared
 H : Hp
 fp : List Addr
 C : Addr
def cxB (X : Cx) (sc : Scope) (N' : List Str) (B : Blk) : Cx where
 prog := X.prog
 w := X.w
 K := X.K
 mg := X.mg
 base := X.base
 A := X.A
 N := N'
 s₀ := B.s
 H₀ := B.H
 env := compEnvC sc B.cl B.C X.env
 outer := X.stack
 stack := X.stack
 ex := B.fp
 fn := fun _ => false
 calm := X.calm
 pn := []
 xe := fun _ _ => False
def zc1 (cells : List (Str × Addr)) : List (Str × NameKind) → List (Str × Addr) → List (Str × Addr)
 | [], acc => acc
 | (n, k) :: r, acc => if k = .free then zc1 cells r ((n, (cells.lookup n).getD 0) :: acc) else zc1 cells r acc
theorem zgo {scope : Scope} {env : Env} (h : ∀ y ∈ scope.names, y.2 = .free → ∃ c, env.cells.lookup y.1 = some c) : closureFor scope env = pure (zc1 env.cells scope.names []) := by
 have key : ∀ (names : List (Str × NameKind)) (acc : List (Str × Addr)), (∀ y ∈ names, y.2 = .free → ∃ c, env.cells.lookup y.1 = some c) →
   (forIn names acc fun (x : Str × NameKind) (cs : List (Str × Addr)) => (if (x.2 == NameKind.free) = true then (do let a ← cellOf env x.1; pure (ForInStep.yield ((x.1, a) :: cs))) else pure (ForInStep.yield cs) : Sem (ForInStep (List (Str × Addr))))) = (pure (zc1 env.cells names acc) : Sem _) := by
  intro names
  induction names with
  | nil => intro acc _; rfl
  | cons y r ih =>
   intro acc hy
   obtain ⟨n, k⟩ := y
   rw [List.forIn_cons]
   by_cases hk : k = .free
   ·subst hk
    obtain ⟨c, hc⟩ := hy (n, .free) List.mem_cons_self rfl
    have e1 : cellOf env n = (pure c : Sem Addr) := by
     unfold cellOf
     rw [show env.cells.lookup n = some c from hc]
    simp only [beq_self_eq_true, if_true, e1, pure_bind]
    rw [ih _ fun z hz => hy z (List.mem_cons_of_mem _ hz)]
    simp only [zc1, if_true]
    rw [show env.cells.lookup n = some c from hc]
    rfl
   ·have hb : (k == NameKind.free) = false := by simpa using hk
    simp only [hb, Bool.false_eq_true, if_false, pure_bind]
    rw [ih _ fun z hz => hy z (List.mem_cons_of_mem _ hz)]
    simp only [zc1, if_neg hk]
 have e : closureFor scope env = ((forIn scope.names [] fun (x : Str × NameKind) (cs : List (Str × Addr)) => (if (x.2 == NameKind.free) = true then (do let a ← cellOf env x.1; pure (ForInStep.yield ((x.1, a) :: cs))) else pure (ForInStep.yield cs) : Sem (ForInStep (List (Str × Addr))))) >>= fun cs => pure cs) := by
  unfold closureFor
  rfl
 rw [e, key _ _ h, pure_bind]
theorem zfp {cells : List (Str × Addr)} {x : Str} {c : Addr} : ∀ {names : List (Str × NameKind)} {acc : List (Str × Addr)}, (∀ y ∈ names, y.2 = .free → ∃ c, cells.lookup y.1 = some c) →
  (∀ x c, acc.lookup x = some c → cells.lookup x = some c) → (zc1 cells names acc).lookup x = some c → cells.lookup x = some c
 | [], acc, _, ha, e => ha x c e
 | (n, k) :: r, acc, hy, ha, e => by
  have hr : ∀ y ∈ r, y.2 = .free → ∃ c, cells.lookup y.1 = some c := fun z hz => hy z (List.mem_cons_of_mem _ hz)
  unfold zc1 at e
  by_cases hk : k = .free
  ·subst hk
   rw [if_pos rfl] at e
   obtain ⟨d, hd⟩ := hy (n, .free) List.mem_cons_self rfl
   have hd : cells.lookup n = some d := hd
   refine zfp hr (fun z b q => ?_) e
   rw [List.lookup_cons] at q
   by_cases hz : z = n
   ·subst hz
    rw [beq_self_eq_true, hd] at q
    rw [hd]; exact q
   ·have : (z == n) = false := beq_eq_false_iff_ne.mpr hz
    rw [this] at q
    exact ha z b q
  ·rw [if_neg hk] at e
   exact zfp hr ha e
theorem zdX {cells : List (Str × Addr)} {x : Str} : ∀ {names : List (Str × NameKind)} {acc : List (Str × Addr)}, ((x, NameKind.free) ∈ names ∨ ∃ c, acc.lookup x = some c) → ∃ c, (zc1 cells names acc).lookup x = some c
 | [], acc, h => by
  rcases h with h | h
  ·cases h
  ·exact h
 | (n, k) :: r, acc, h => by
  unfold zc1
  by_cases hk : k = .free
  ·subst hk
   rw [if_pos rfl]
   refine zdX ?_
   by_cases hx : x = n
   ·subst hx
    right
    rw [List.lookup_cons, beq_self_eq_true]
    exact ⟨_, rfl⟩
   ·have hb : (x == n) = false := beq_eq_false_iff_ne.mpr hx
    rcases h with h | ⟨c, h⟩
    ·rcases List.mem_cons.mp h with e | h
     ·cases e; exact absurd rfl hx
     ·exact .inl h
    ·right
     rw [List.lookup_cons, hb]
     exact ⟨c, h⟩
  ·rw [if_neg hk]
   refine zdX ?_
   rcases h with h | h
   ·rcases List.mem_cons.mp h with e | h
    ·cases e; exact absurd rfl hk
    ·exact .inl h
   ·exact .inr h
structure zfq (N' : List Str) (sc osc : Scope) : Prop where
 kind : sc.kind = .function
 nd : N'.Nodup
 nocell : ∀ y ∈ sc.names, y.2 ≠ .cell
 loc : ∀ y ∈ sc.names, y.2 = .local → sc.names.lookup y.1 = some .local
 free : ∀ y ∈ sc.names, y.2 = .free → osc.names.lookup y.1 = some .cell ∨ osc.names.lookup y.1 = some .free
def zep (N' : List Str) (sc osc : Scope) : Bool :=
 decide (sc.kind = .function) && decide N'.Nodup && sc.names.all (fun y => decide (y.2 ≠ .cell)) && sc.names.all (fun y => decide (y.2 = .local → sc.names.lookup y.1 = some .local)) &&
  sc.names.all (fun y => decide (y.2 = .free → osc.names.lookup y.1 = some .cell ∨ osc.names.lookup y.1 = some .free))
theorem zfq.of {N' : List Str} {sc osc : Scope} (h : zep N' sc osc = true) : zfq N' sc osc := by
 unfold zep at h
 simp only [Bool.and_eq_true] at h
 obtain ⟨⟨⟨⟨h1, h2⟩, h3⟩, h4⟩, h5⟩ := h
 exact ⟨of_decide_eq_true h1, of_decide_eq_true h2, fun y hy => of_decide_eq_true (List.all_eq_true.mp h3 y hy), fun y hy => of_decide_eq_true (List.all_eq_true.mp h4 y hy), fun y hy => of_decide_eq_true (List.all_eq_true.mp h5 y hy)⟩
def cmap (js : List (Option Nat)) (σ : St) : St := js.map fun o => o.bind fun j => (σ[j]?).join
def jsOk (N' N : List Str) (sc : Scope) : List (Option Nat) → List Str → Bool
 | [], [] => true
 | none :: js, _ :: r => jsOk N' N sc js r
 | some j :: js, x :: r => decide (N[j]? = some x) && decide (sc.names.lookup x = some .free) && jsOk N' N sc js r
 | _, _ => false
theorem zgG {N' N : List Str} {sc : Scope} : ∀ {js : List (Option Nat)} {r : List Str}, jsOk N' N sc js r = true → js.length = r.length
 | [], [], _ => rfl
 | none :: js, _ :: r, h => by
  have := zgG (js := js) (r := r) h
  simp [this]
 | some j :: js, x :: r, h => by
  unfold jsOk at h
  rw [Bool.and_eq_true] at h
  have := zgG (js := js) (r := r) h.2
  simp [this]
 | [], _ :: _, h => by simp [jsOk] at h
 | none :: _, [], h => by simp [jsOk] at h
 | some _ :: _, [], h => by simp [jsOk] at h
theorem zgH {N' N : List Str} {sc : Scope} : ∀ {js : List (Option Nat)} {r : List Str} {i j : Nat} {x : Str}, jsOk N' N sc js r = true → js[i]? = some (some j) → r[i]? = some x → N[j]? = some x ∧ sc.names.lookup x = some .free
 | [], [], i, j, x, _, e, _ => by simp at e
 | none :: js, _ :: r, 0, j, x, h, e, _ => by simp at e
 | none :: js, _ :: r, i + 1, j, x, h, e, e2 => zgH (js := js) (r := r) (i := i) h (by simpa using e) (by simpa using e2)
 | some k :: js, y :: r, 0, j, x, h, e, e2 => by
  unfold jsOk at h
  rw [Bool.and_eq_true, Bool.and_eq_true] at h
  simp at e e2
  subst e; subst e2
  exact ⟨of_decide_eq_true h.1.1, of_decide_eq_true h.1.2⟩
 | some k :: js, y :: r, i + 1, j, x, h, e, e2 => by
  unfold jsOk at h
  rw [Bool.and_eq_true, Bool.and_eq_true] at h
  exact zgH (js := js) (r := r) (i := i) h.2 (by simpa using e) (by simpa using e2)
 | [], _ :: _, _, _, _, h, _, _ => by simp [jsOk] at h
 | none :: _, [], _, _, _, h, _, _ => by simp [jsOk] at h
 | some _ :: _, [], _, _, _, h, _, _ => by simp [jsOk] at h
theorem zc2 {env : Env} {x : Str} : ∀ {names : List (Str × NameKind)}, (∀ y ∈ names, y.2 ≠ .cell) →
  (((names.map fun (n, k) => if (k == NameKind.free && env.scope.kind == .function && env.kindOf n == some .cell) then (n, NameKind.cell) else (n, k)).lookup x = some .cell ∨
    (names.map fun (n, k) => if (k == NameKind.free && env.scope.kind == .function && env.kindOf n == some .cell) then (n, NameKind.cell) else (n, k)).lookup x = some .free) ↔ names.lookup x = some .free)
 | [], _ => by simp
 | (n, k) :: r, h => by
  have ih := @zc2 env x r fun y hy => h y (List.mem_cons_of_mem _ hy)
  have hk : k ≠ .cell := h (n, k) List.mem_cons_self
  rw [List.map_cons]
  dsimp only
  by_cases hx : (x == n) = true
  ·by_cases hc : (k == NameKind.free && env.scope.kind == .function && env.kindOf n == some .cell) = true
   ·rw [if_pos hc]
    simp only [List.lookup_cons, hx]
    have : k = .free := by
     rw [Bool.and_eq_true, Bool.and_eq_true] at hc
     exact beq_iff_eq.mp hc.1.1
    simp [this]
   ·rw [if_neg hc]
    simp only [List.lookup_cons, hx]
    constructor
    ·rintro (e | e)
     ·cases e; exact absurd rfl hk
     ·exact e
    ·intro e; exact .inr e
  ·have hx : (x == n) = false := by simpa using hx
   by_cases hc : (k == NameKind.free && env.scope.kind == .function && env.kindOf n == some .cell) = true
   ·rw [if_pos hc]
    simp only [List.lookup_cons, hx]
    exact ih
   ·rw [if_neg hc]
    simp only [List.lookup_cons, hx]
    exact ih
theorem zdH {x : Str} {k : NameKind} : ∀ {names : List (Str × NameKind)}, names.lookup x = some k → (x, k) ∈ names := fun h => PySem.mem_of_lookup h
section
variable {X : Cx} {sc : Scope} {N' : List Str} {js : List (Option Nat)} {pins : List (Addr × Obj)} {σ : St} {H H1 : Hp} {s : Shared} {fp : List Addr} {C : Addr}
theorem zgI (S : zfq N' sc X.env.scope) (I : Inv X pins σ H s) : ∀ y ∈ sc.names, y.2 = .free → ∃ c, X.env.cells.lookup y.1 = some c := fun y hy hk =>
 I.ok.has y.1 (S.free y hy hk)
theorem zpO (S : zfq N' sc X.env.scope) (hj : jsOk N' X.N sc js N' = true) (I : Inv X pins σ H s) (hf : ∀ b ∈ fp, FpOk X pins H b) (ho : ∀ b ∈ fp, ∃ o, s.heap.get? b = some o)
  {h1 : Heap} {tk : Nat} {m : Str → Option Value} (hC : s.heap.objs.size ≤ C) (keep : ∀ b o, s.heap.get? b = some o → h1.get? b = some o) (un : Un (frs X.stack) fp H H1 s.heap h1) (hok : HOk X.prog X.w H1 h1) (hn : h1.Ns C m) (hfree : H1 C = none) :
  Inv (cxB X sc N' ⟨zc1 X.env.cells sc.names [], s, H, fp, C⟩) [] (cmap js σ) H1 { s with heap := h1, toks := tk } := by
 have cs := zgI S I
 have sub : ∀ x c, (zc1 X.env.cells sc.names []).lookup x = some c → X.env.cells.lookup x = some c := fun x c e => zfp cs (fun _ _ z => by simp at z) e
 refine ⟨⟨I.ok.mod, S.kind, I.ok.glob, I.ok.blt, hC, fun x y c e1 e2 => I.ok.inj x y c (sub x c e1) (sub y c e2), fun x hx => ?_, fun _ _ h _ => absurd (show false = true from h) Bool.false_ne_true, I.ok.hd, I.ok.frames, .inl rfl, fun b hb => ?_, I.bs, Nat.le_trans I.ok.bsz I.sz, fun b o e hb => ?_, fun b hb hb' => ?_, I.stack, I.stkFree⟩,
  rfl, I.bare, un, ⟨m, hn, fun i x v e1 e2 e3 => ?_⟩, fun x c e => ?_, hfree, fun x c e => ?_, fun p hp => absurd (show p ∈ ([] : List (Addr × Obj)) from hp) (by simp), hok, ?_⟩
 ·have q : sc.names.lookup x = some .free := (zc2 (env := X.env) S.nocell).mp hx
  exact zdX (.inl (zdH q))
 ·obtain ⟨o, e⟩ := ho b hb
  exact ⟨Nat.ne_of_lt (Nat.lt_of_lt_of_le (Heap.lt_size e) hC), fun x c q => (hf b hb).2.2.2.2.1 x c (sub x c q)⟩
 ·rcases (hf b hb).2.2.2.1 with z | z
  ·exact I.ok.noex b o e z
  ·exact absurd (Nat.lt_of_lt_of_le (Heap.lt_size e) (Nat.le_trans I.ok.bsz z)) (Nat.lt_irrefl _)
 ·rcases List.mem_cons.mp (I.stkSub b hb') with z | z
  ·exact (hf b hb).2.1 z
  ·exact (hf b hb).2.2.1 z
 ·-- the names that are handed in
  have e1 : N'[i]? = some x := e1
  unfold cmap at e2
  rw [List.getElem?_map] at e2
  cases hji : js[i]? with
  | none => rw [hji] at e2; cases e2
  | some o =>
   rw [hji] at e2
   cases o with
   | none => cases e2
   | some j =>
    obtain ⟨a1, a2⟩ := zgH hj hji e1
    have e2 : (σ[j]?).join = some v := by simpa using e2
    have e2' : σ[j]? = some (some v) := by
     cases q : σ[j]? with
     | none => rw [q] at e2; cases e2
     | some z => rw [q] at e2; simpa using e2
    obtain ⟨m0, hn0, hl0⟩ := I.loc
    have kx := S.free _ (zdH a2) rfl
    obtain ⟨u, r, l⟩ := hl0 j x v a1 e2' (kx.elim (fun z => .inr (.inl z)) fun z => .inr (.inr z))
    refine ⟨u, r, .inr ⟨(zc2 (env := X.env) S.nocell).mpr a2, ?_⟩⟩
    rcases l with ⟨k, _⟩ | ⟨_, c, ec, hc⟩
    ·have k : X.env.scope.names.lookup x = some .local := k
     rcases kx with z | z
     ·rw [k] at z; cases z
     ·rw [k] at z; cases z
    ·obtain ⟨c', ec'⟩ := zdX (cells := X.env.cells) (acc := []) (.inl (zdH a2))
     have : c' = c := Option.some.inj ((sub x c' ec').symm.trans ec)
     subst this
     obtain ⟨oc, hoc, hd⟩ := hc
     exact ⟨c', ec', oc, keep _ _ hoc, hd⟩
 ·obtain ⟨v, oc, hoc, hd⟩ := I.cell x c (sub x c e)
  exact ⟨v, oc, keep _ _ hoc, hd⟩
 ·obtain ⟨v, oc, hoc, hd⟩ := I.cell x c (sub x c e)
  have nfp : c ∉ fp := fun z => (hf c z).2.2.2.2.1 x c (sub x c e) rfl
  exact un.free c oc hoc (I.freeC x c (sub x c e)) nfp
 ·show (cmap js σ).length = N'.length
  unfold cmap
  rw [List.length_map]
  exact zgG hj
end
section
variable {prog : Program} {w : World} {A : Around} {R : Result → Shared → Prop} {s : Shared}
theorem zhx {elt target iter : Expr} {ifs : List Expr} {scope : Scope} {pos : Pos} {it acc : Value} {env : Env} (I : Nat → Shared → Prop)
  (turn : ∀ n s, I n s → wpAny (model prog w) A (pyNext it) (fun r s₁ => match r with
   | none => R (.ok .next) s₁
   | some v => wpAny (model prog w) A (letOwnedTupleGo target it v) (fun _ s₀ => wpAny (model prog w) A (assign target env v) (fun _ s₂ =>
     wpAny (model prog w) A (forIn ifs true fun c r => if r = true then do let ok ← isTrue c env (eval c env); pure (ForInStep.yield ok) else pure (ForInStep.yield r)) (fun ok s₃ =>
      if ok = true then wpAny (model prog w) A (eval elt env) (fun x s₄ =>
       wpAny (model prog w) A (call (.builtin "list.append") [acc, x]) (fun _ s₅ => ∃ m, m < n ∧ I m s₅) (fun _ _ => False) s₄) (fun _ _ => False) s₃
      else ∃ m, m < n ∧ I m s₃) (fun _ _ => False) s₂) (fun _ _ => False) s₀) (fun _ _ => False) s₁) (fun _ _ => False) s)
  (n : Nat) (h : I n s) :
  codeAny (model prog w) A (.compLoop (.ListComp elt [⟨target, iter, ifs, 0⟩] scope pos) 0 it acc env) R s := by
 refine codeAny_loop rfl I (fun n s hI => ?_) n h
 show wpAny _ A ((compTurn (.ListComp elt [⟨target, iter, ifs, 0⟩] scope pos) 0 it acc env).onRaise (fun x => do noteFrame x env; theTreesLotGoes x)) _ _ s
 refine wpAny_noted ?_
 rw [compTurn_list]
 refine wpAny_bind (wpAny_standAt (wpAny_bind (wpAny_mono (turn n s hI) (fun r s₁ h₁ => ?_) fun _ _ h' => h'.elim)))
 cases r with
 | none => exact wpAny_pure h₁
 | some v =>
  refine wpAny_bind (wpAny_mono h₁ (fun _ s₀ h₀ => ?_) fun _ _ h' => h'.elim)
  refine wpAny_bind (wpAny_mono h₀ (fun _ s₂ h₂ => wpAny_bind (wpAny_mono h₂ (fun ok s₃ h₃ => ?_) fun _ _ h' => h'.elim)) fun _ _ h' => h'.elim)
  cases ok with
  | false => exact wpAny_pure ⟨rfl, h₃⟩
  | true =>
   exact wpAny_bind (wpAny_bind (wpAny_mono h₃ (fun x s₄ h₄ => wpAny_bind (wpAny_mono h₄ (fun _ s₅ h₅ => wpAny_pure (wpAny_pure ⟨rfl, h₅⟩)) fun _ _ h' => h'.elim)) fun _ _ h' => h'.elim))
end
def PIfs (X : Cx) (ifs : List Expr) (t : TT) : Prop :=
 ∀ (pins : List (Addr × Obj)) (s : Shared) (σ : St) (H : Hp) (Q : Bool → Hp → Prop), Inv X pins σ H s → t σ H Q →
  wpAny (model X.prog X.w) X.A (forIn ifs true fun c r => if r = true then do let ok ← isTrue c X.env (eval c X.env); pure (ForInStep.yield ok) else pure (ForInStep.yield r)) (TP X pins σ Q) X.xe s
def zt9 : TT := fun _ H Q => Q true H
theorem znI {X : Cx} : PIfs X [] zt9 := fun _ _ _ H _ I h => wpAny_tests_nil ⟨H, I, h⟩
theorem znJ {X : Cx} {c : Expr} {t : TT} (h : PT X c t) : PIfs X [c] t := fun pins s σ H Q I hw => wpAny_tests_one (h pins s σ H Q I hw)
def zpP (J : It) (g : TG) (tt : TT) (te : TE) (p : Addr) (σ₀ : St) (H1 : Hp) (Q : VK) : Prop :=
 ∃ W : Nat → Nat → St → List V → Hp → Prop, (∃ m, W 0 m σ₀ [] (upd H1 p (.lst []))) ∧ ∀ i m σ' acc H, W i m σ' acc H →
  (J.stop i H ∧ Q (.ref p) H) ∨ (J.go i H ∧ ∃ N : St → List V → Hp → Prop, (∀ σ2 acc' H', N σ2 acc' H' → ∃ m', m' < m ∧ W (i + 1) m' σ2 acc' H') ∧ ∀ x H', J.yld i H x H' → g x σ' H' fun σ2 H2 => tt σ2 H2 fun b H3 =>
   if b = true then te σ2 H3 fun y H4 => H4 p = some (.lst acc) ∧ acc.length < sizeLine ∧ N σ2 (acc ++ [y]) (upd H4 p (.lst (acc ++ [y])))
   else N σ2 acc H3)
def zpQ (wi : TI) (g : Blk → TG) (tt : Blk → TT) (te : Blk → TE) (js : List (Option Nat)) : TE := fun σ H Q => wi σ H fun J H1 => ∀ p, H1 p = none → ∀ B : Blk, zpP J (g B) (tt B) (te B) p (cmap js σ) H1 Q
section
variable {X : Cx} {sc : Scope} {N' : List Str} {js : List (Option Nat)} {tg iter elt : Expr} {ifs : List Expr} {pos : Pos} {wi : TI} {g : Blk → TG} {tt : Blk → TT} {te : Blk → TE}
theorem zhy (S : zfq N' sc X.env.scope) (hj : jsOk N' X.N sc js N' = true) (hc : X.calm = true)
  (hg : ∀ B, PG (cxB X sc N' B) tg (g B)) (ht : ∀ B, PIfs (cxB X sc N' B) ifs (tt B)) (he : ∀ B, PE (cxB X sc N' B) elt (te B))
  {pins : List (Addr × Obj)} {s : Shared} {σ : St} {J : It} {H : Hp} {it : Addr} {fp : List Addr} {tn : Nat → Heap → Prop} (I : Inv X pins σ H s) (T : Turn X.prog X.w X.K tg J fp it tn) (st : tn 0 s.heap) (hf : ∀ b ∈ fp, FpOk X pins H b)
  {Q : VK} (hw : ∀ p, H p = none → ∀ B : Blk, zpP J (g B) (tt B) (te B) p (cmap js σ) H Q) {E : Value → Shared → Prop} {RR : Value → Addr → Result → Shared → Prop}
  (hRR : ∀ p C H' s' m, Inv X pins σ H' s' → FpOk X pins H' C → s'.heap.Ns C m → Q (.ref p) H' → RR (.ref p) C (.ok .next) s') :
  wpAny (model X.prog X.w) X.A (newList []) (fun acc s₃ => wpAny (model X.prog X.w) X.A (newFunctionEnv sc X.env.globals (zc1 X.env.cells sc.names []) [] X.env.qual none .none (some X.env)) (fun cenv s₄ =>
   codeAny (model X.prog X.w) X.A (.compStart (.ListComp elt [⟨tg, iter, ifs, 0⟩] sc pos) 0 (.ref it) acc { cenv with scope := relabel sc X.env }) (RR acc cenv.locals) s₄) E s₃) E s := by
 refine wpAny_newObj_type (wpAny_newFunctionEnv S.nocell (by intro y hy; simp at hy) (fun h₁ hns₁ hsb₁ => ?_) S.kind)
 dsimp only at hns₁ hsb₁ ⊢
 generalize hH2 : s.heap.push { cls := .type "list", dict := none, data := .seq ([] : List Value).toArray } = H2 at hns₁ hsb₁ ⊢
 have hC : H2.objs.size = s.heap.objs.size + 1 := by rw [← hH2, Heap.size_push]
 have hDC : s.heap.objs.size ≠ H2.objs.size := by rw [hC]; exact Nat.ne_of_lt (Nat.lt_succ_self _)
 have hCle : s.heap.objs.size ≤ H2.objs.size := by rw [hC]; exact Nat.le_succ _
 have below : ∀ b, b < s.heap.objs.size → b ≠ H2.objs.size := fun b hb => by rw [hC]; exact Nat.ne_of_lt (Nat.lt_succ_of_lt hb)
 have old : ∀ b o, s.heap.get? b = some o → h₁.get? b = some o := fun b o e => hsb₁.extBut b o (below b (Heap.lt_size e)) (Heap.get?_push_of_some _ (hH2 ▸ Heap.get?_push_of_some _ e))
 have hacc : h₁.get? s.heap.objs.size = some { cls := .type "list", dict := none, data := .seq ([] : List Value).toArray } := hsb₁.extBut _ _ hDC (Heap.get?_push_of_some _ (hH2 ▸ Heap.get?_push_size _ rfl))
 have hp0 : H s.heap.objs.size = none := I.hok.fresh (Nat.le_refl _)
 have newO : zbw X.prog X.w (upd H s.heap.objs.size (.lst [])) h₁ s.heap.objs.size (.lst []) := ⟨Nat.zero_le _, [], _, .nil, hacc⟩
 have hok1 : HOk X.prog X.w (upd H s.heap.objs.size (.lst [])) h₁ := I.hok.laid old (Nat.le_refl _) newO
 have un1 : Un (frs X.stack) fp H (upd H s.heap.objs.size (.lst [])) s.heap h₁ := Un.laid old (Nat.le_refl _) hp0
 have fC : (upd H s.heap.objs.size (.lst [])) H2.objs.size = none := by rw [zaA (Ne.symm hDC)]; exact I.hok.fresh hCle
 have IB := zpO (tk := s.toks + ([] : List (Str × Value)).length) S hj I hf (fun b hb => let ⟨o, e, _⟩ := T.obj 0 _ st b hb; ⟨o, e⟩) hCle old un1 hok1 hns₁ fC
 obtain ⟨W, ⟨m0, w0⟩, turn⟩ := hw _ hp0 ⟨zc1 X.env.cells sc.names [], s, H, fp, H2.objs.size⟩
 have st1 : tn 0 h₁ := T.keep _ _ _ st fun b _ o e => old b o e
 have loop : ∀ s₃ : Shared, s₃ = { s with heap := h₁, toks := s.toks + ([] : List (Str × Value)).length } →
   codeAny (model X.prog X.w) X.A (.compLoop (.ListComp elt [⟨tg, iter, ifs, 0⟩] sc pos) 0 (.ref it) (.ref s.heap.objs.size) (compEnvC sc (zc1 X.env.cells sc.names []) H2.objs.size X.env))
    (RR (.ref s.heap.objs.size) H2.objs.size) s₃ := by
  rintro s₃ rfl
  generalize hB : (⟨zc1 X.env.cells sc.names [], s, H, fp, H2.objs.size⟩ : Blk) = B at turn w0 IB
  have eB : compEnvC sc (zc1 X.env.cells sc.names []) H2.objs.size X.env = (cxB X sc N' B).env := by subst hB; rfl
  have exB : (cxB X sc N' B).ex = fp := by subst hB; rfl
  rw [eB]
  have stat : ∀ {σ' : St} {H' : Hp} {s' : Shared}, Inv (cxB X sc N' B) [] σ' H' s' → (∀ b ∈ fp, H' b = none) → ∀ b ∈ fp, FpOk (cxB X sc N' B) [] H' b := fun {σ' H' s'} J' hn b hb => by
   refine ⟨hn b hb, (J'.ok.exf b (by rw [exB]; exact hb)).1, J'.ok.exfs b (by rw [exB]; exact hb), .inl (by rw [exB]; exact hb), (J'.ok.exf b (by rw [exB]; exact hb)).2, fun p hp => absurd (show p ∈ ([] : List (Addr × Obj)) from hp) (by simp)⟩
  have fp0 : ∀ b ∈ fp, (upd H s.heap.objs.size (.lst [])) b = none := fun b hb => by
   obtain ⟨o, e, _⟩ := T.obj 0 _ st b hb
   rw [zaA (Nat.ne_of_lt (Heap.lt_size e))]
   exact (hf b hb).1
  refine zhx (fun n s' => ∃ i σ' acc H', Inv (cxB X sc N' B) [] σ' H' s' ∧ tn i s'.heap ∧ (∀ b ∈ fp, H' b = none) ∧ W i n σ' acc H') ?_ m0 ⟨0, _, [], _, IB, st1, fp0, w0⟩
  rintro n s3 ⟨i, σ3, acc, H3, I3, st3, fr3, w3⟩
  rcases turn i n σ3 acc H3 w3 with ⟨stop, qn⟩ | ⟨go, N, hN, step⟩
  ·refine thn (T.done (cxB X sc N' B) rfl rfl rfl hc i [] s3 σ3 H3 (fun _ _ => False) I3 (stat I3 fr3) st3 stop) fun r s4 ⟨hr, I4⟩ => ?_
   subst hr
   obtain ⟨m4, hn4, _⟩ := I4.loc
   have u4 : Un (frs X.stack) fp H H3 s.heap s4.heap := by have := I4.base; subst hB; exact this
   have o4 : s4.os = s.os := by have := I4.os; subst hB; exact this
   have c4 : (cxB X sc N' B).env.locals = H2.objs.size := by subst hB; rfl
   have hIX : Inv X pins σ H3 s4 := I.call' (ch := fp) o4 u4 I4.hok I4.bare fun b hb => ⟨(hf b hb).2.2.2.1, (hf b hb).2.1, (hf b hb).2.2.2.2.1, (hf b hb).2.2.2.2.2⟩
   exact hRR _ _ H3 s4 m4 hIX (I.fpOk hCle (by rw [← c4]; exact I4.free)) (by rw [← c4]; exact hn4) qn
  ·refine thn (T.item (cxB X sc N' B) rfl rfl rfl hc i [] s3 σ3 H3 (fun _ _ => False) I3 (stat I3 fr3) st3 go) fun r s4 ⟨u, hr, h4⟩ => ?_
   subst hr
   refine thn h4 fun _ s5 ⟨x, H5, I5, r5, y5, st5, fr5⟩ => ?_
   have I5' := I5.pinned (stat I5 fr5) (T.obj _ _ st5)
   refine thn (hg B _ s5 σ3 H5 x u _ I5' r5 (step x H5 y5)) fun _ s6 ⟨σ6, H6, I6, q6⟩ => ?_
   refine thn (ht B _ s6 σ6 H6 _ I6 q6) fun ok s7 ⟨H7, I7, q7⟩ => ?_
   have again : ∀ {H8 : Hp} {s8 : Shared} {acc' : List V}, Inv (cxB X sc N' B) ([] ++ zhi fp s5.heap) σ6 H8 s8 → (∃ m', m' < n ∧ W (i + 1) m' σ6 acc' H8) → ∃ m, m < n ∧ ∃ i σ' acc H', Inv (cxB X sc N' B) [] σ' H' s8 ∧ tn i s8.heap ∧ (∀ b ∈ fp, H' b = none) ∧ W i m σ' acc H' :=
    fun {H8 s8 acc'} I8 ⟨m', hm, w8⟩ => by
     refine ⟨m', hm, i + 1, σ6, acc', H8, I8.unpinned, T.keep _ _ _ st5 fun b hb o e => (I8.pin (b, o) (List.mem_append_right _ (List.mem_append_right _ (zdo hb e)))).1, fun b hb => ?_, w8⟩
     obtain ⟨o, e, d⟩ := T.obj _ _ st5 b hb
     exact (I8.pin (b, o) (List.mem_append_right _ (List.mem_append_right _ (zdo hb e)))).2.1
   cases ok with
   | false =>
    rw [if_neg Bool.false_ne_true] at q7
    rw [if_neg Bool.false_ne_true]
    exact again I7 (hN _ _ _ q7)
   | true =>
    rw [if_pos rfl] at q7
    rw [if_pos rfl]
    refine thn (he B _ s7 σ6 H7 _ I7 q7) fun y s8 ⟨z, H8, I8, r8, hp8, hl8, q8⟩ => ?_
    exact thn (zht _ s8 σ6 H8 (.ref s.heap.objs.size) [z] (.ref s.heap.objs.size) [y] (fun _ H9 => N σ6 (acc ++ [z]) H9) I8 rfl (.cons r8 .nil) ⟨_, acc, z, rfl, rfl, hp8, hl8, q8⟩) fun _ s9 ⟨_, H9, I9, _, q9⟩ => again I9 (hN _ _ _ q9)
 exact codeAny_compStart_list (loop _ rfl) (T.self _ 0 _ _ _ st1 (loop _ rfl))
theorem zpR (N' : List Str) (js : List (Option Nat)) (hi : PI X tg iter wi)
  (hg : ∀ B, PG (cxB X sc N' B) tg (g B)) (ht : ∀ B, PIfs (cxB X sc N' B) ifs (tt B)) (he : ∀ B, PE (cxB X sc N' B) elt (te B))
  (S0 : zep N' sc X.env.scope = true := by kernel_rfl) (hj : jsOk N' X.N sc js N' = true := by kernel_rfl) (hc : X.calm = true := by rfl) (hs : ∀ x, foldedSetIterable iter X.env x = pure x := by intro _; rfl) : PE X (.ListComp elt [⟨tg, iter, ifs, 0⟩] sc pos) (zpQ wi g tt te js) := by
 intro pins s σ H Q I h
 have S := zfq.of S0
 rw [eval_ListComp]
 refine wpAny_comprehension_free (use := none) rfl hs (zgo (zgI S I)) S.kind S.loc (thn (hi pins s σ H _ I h) fun xv s₁ h₁ => thn h₁ fun itv s₂ h₂ => ?_)
 obtain ⟨it, fp, tn, J, H2, e, I2, T, st2, f2, hw⟩ := h₂
 subst e
 refine zhy (RR := fun acc C => compPost (model X.prog X.w) X.A X.xe none (EP X pins σ Q) acc C) S hj hc hg ht he I2 T st2 f2 hw ?_
 intro p C H' s' m I' fC hn q
 refine ⟨m, hn, fun h' hs' => ⟨.ref p, H', ?_, rfl, q⟩⟩
 exact I'.turned (t' := s'.toks) (fun b o hb e => (hs'.2 b hb).trans e) fC.1 fC.2.1 fC.2.2.2.1 fC.2.2.2.2.1 fC.2.2.2.2.2
theorem zkS {i : Nat} {x : Str} {px spos : Pos} (hN : X.N.Nodup) (hi0 : X.N[i]? = some x) (hx : Loc X.env.scope x) (N' : List Str) (js : List (Option Nat)) (hi : PI X tg iter wi)
  (hg : ∀ B, PG (cxB X sc N' B) tg (g B)) (ht : ∀ B, PIfs (cxB X sc N' B) ifs (tt B)) (he : ∀ B, PE (cxB X sc N' B) elt (te B))
  (S0 : zep N' sc X.env.scope = true := by kernel_rfl) (hj : jsOk N' X.N sc js N' = true := by kernel_rfl) (hc : X.calm = true := by rfl) (hsw : swapsWith (.ListComp elt [⟨tg, iter, ifs, 0⟩] sc pos) (some (.Name x px)) spos.line X.env = pure true := by rfl)
  (hf : X.fn x = true ∨ X.env.scope.names.lookup x = some .local := by first | exact .inl rfl | exact .inr rfl | assumption)
  (hs : ∀ x, foldedSetIterable iter X.env x = pure x := by intro _; rfl) : PS X (.Assign [.Name x px] (.ListComp elt [⟨tg, iter, ifs, 0⟩] sc pos) spos) (tAsg (zpQ wi g tt te js) (znv i)) := by
 intro pins s σ H D I h
 have S := zfq.of S0
 rw [exec_Assign_Name_used _ _ _ _ hsw]
 refine wpAny_bind (wpAny_standAt (wpAny_bind ?_))
 show wpAny _ X.A (do let _ ← comprehension (.ListComp elt [⟨tg, iter, ifs, 0⟩] sc pos) sc X.env _ (newList []) false (eval iter X.env) (some (assign (.Name x px) X.env))) _ _ s
 refine wpAny_bind (wpAny_mono (wpAny_comprehension_free (use := some (assign (.Name x px) X.env)) (Q := fun _ s' => SP X pins D .next s') rfl hs (zgo (zgI S I)) S.kind S.loc
  (thn (hi pins s σ H _ I h) fun xv s₁ h₁ => thn h₁ fun itv s₂ h₂ => ?_)) (fun _ s' hq => wpAny_pure (wpAny_pure hq)) fun _ _ e => e)
 obtain ⟨it, fp, tn, J, H2, e, I2, T, st2, f2, hw⟩ := h₂
 subst e
 refine zhy (RR := fun acc C => compPost (model X.prog X.w) X.A X.xe (some (assign (.Name x px) X.env)) (fun _ s' => SP X pins D .next s') acc C) S hj hc hg ht he I2 T st2 f2 hw ?_
 intro p C H' s' m I' fC hn q
 show wpAny _ X.A (assign (.Name x px) X.env (.ref p)) _ _ _
 refine wpAny_assign_Name (zhh I' hN hi0 hx (v := .ref p) rfl (fun s'' I'' ⟨a, sb, ha⟩ => ?_) hf)
 have hCa : C ≠ a := by
  rcases ha with e | e
  ·rw [e]; exact fC.2.1
  ·exact fun z => fC.2.2.2.2.1 x a e z.symm
 refine ⟨m, hn.sameBut sb hCa, fun h' hs' => ⟨_, H', ?_, q⟩⟩
 exact I''.turned (t' := s''.toks) (fun b o hb e => (hs'.2 b hb).trans e) fC.1 fC.2.1 fC.2.2.2.1 fC.2.2.2.2.1 fC.2.2.2.2.2
end
section
variable {g : TG} {tt : TT} {te : TE} {p : Addr} {σ₀ : St} {H1 : Hp} {Q : VK}
theorem zpS {J : It} (n : Nat) (Pv : Nat → St → List V → Hp → Prop) (h0 : Pv 0 σ₀ [] (upd H1 p (.lst []))) (hd : ∀ σ acc H, Pv n σ acc H → J.stop n H ∧ Q (.ref p) H)
  (hs : ∀ i σ acc H, i < n → Pv i σ acc H → J.go i H ∧ ∀ x H', J.yld i H x H' → g x σ H' fun σ2 H2 => tt σ2 H2 fun b H3 =>
   if b = true then te σ2 H3 fun y H4 => H4 p = some (.lst acc) ∧ acc.length < sizeLine ∧ Pv (i + 1) σ2 (acc ++ [y]) (upd H4 p (.lst (acc ++ [y]))) else Pv (i + 1) σ2 acc H3) : zpP J g tt te p σ₀ H1 Q := by
 refine ⟨fun i m σ acc H => m = n - i ∧ i ≤ n ∧ Pv i σ acc H, ⟨n, by simp, Nat.zero_le _, h0⟩, ?_⟩
 rintro i m σ acc H ⟨rfl, hi, q⟩
 by_cases hlt : i < n
 ·obtain ⟨hg, hy⟩ := hs i σ acc H hlt q
  exact .inr ⟨hg, Pv (i + 1), fun σ2 acc' H' q' => ⟨n - (i + 1), by omega, rfl, hlt, q'⟩, hy⟩
 ·have e : i = n := by omega
  subst e
  exact .inl (hd σ acc H q)
end
end L2
namespace L2
open PySem PySem.Spec PyProof.Rows
section
variable {X : Cx}
theorem zgp {i : Int} (h : i.natAbs < 2 ^ 4096) : Builtin.Int.intBits i ≤ 2 ^ 20 := by
 unfold Builtin.Int.intBits
 split
 ·exact Nat.zero_le _
 ·rename_i h0
  have hn : i.natAbs ≠ 0 := by
   intro z
   have : i = 0 := Int.natAbs_eq_zero.mp z
   rw [this] at h0
   exact h0 rfl
  have : i.natAbs.log2 < 4096 := (Nat.log2_lt hn).mpr h
  have e : (2 : Nat) ^ 20 = 1048576 := by decide
  omega
def CBig (i j : Int) : Prop := i.natAbs < 2 ^ 4096 ∧ j.natAbs < 2 ^ 4096
theorem zpT : OpR X (binaryOp .Mult) (rI CBig fun i j => .int (i * j)) := opI fun _ _ _ _ _ _ _ hc q => mul_int q (IntMulOk.of_bits (zgp hc.1) (zgp hc.2))
def zl1 (i j : Int) : Prop := 0 < j ∧ j < 2 ^ 4096
theorem znK : OpR X (binaryOp .FloorDiv) (rI zl1 fun i j => .int (i / j)) := opI fun i j _ _ _ _ _ hc q => by
 refine floordiv_int (by have := hc.1; omega) ?_ (.inl (PyProof.noPylong_of_log2 ?_))
 ·rw [Int.fdiv_eq_ediv_of_nonneg _ (Int.le_of_lt hc.1)]; exact q
 ·have h0 : j.natAbs ≠ 0 := by have := hc.1; omega
  have h1 : j.natAbs < 2 ^ 4096 := by
   have a := hc.1
   have b := hc.2
   omega
  have := (Nat.log2_lt h0).mpr h1
  omega
theorem zpU : OpR X (binaryOp .Mult) (fun x y H Q => ∃ z n, x = .str z ∧ y = .int n ∧ z.length ≤ 16 ∧ -(2 ^ 63) ≤ n ∧ n ≤ 1048576 ∧ Q (.str (Txt.mul z n)) H) := by
 intro pins s σ H x y v u Q I rx ry h
 obtain ⟨z, n, rfl, rfl, h1, h2, h3, q⟩ := h
 obtain ⟨t, rfl⟩ := rx
 obtain ⟨t', rfl⟩ := ry
 exact SB.mul (mulOk_of 16 1048576 h1 h3 h2 (by decide) (by decide)) fun t' k => ⟨.str _, H, I.tok _, ⟨_, rfl⟩, q⟩
theorem zhz : MtR X "str.partition" (fun x vs H Q => ∃ z y, x = .str z ∧ vs = [.str y] ∧ (y.length == 0) = false ∧ z.length ≤ sizeLine ∧
  ∀ p, H p = none → Q (.ref p) (upd H p (.tup [.str (Txt.partition z y).1, .str (Txt.partition z y).2.1, .str (Txt.partition z y).2.2]))) := by
 intro pins s σ H x xs v us Q I rx rv h
 obtain ⟨z, y, rfl, rfl, hy, hz, q⟩ := h
 obtain ⟨t, rfl⟩ := rx
 obtain ⟨u, rfl, ru⟩ := rv.one
 obtain ⟨t', rfl⟩ := ru
 refine call_meets F.slot_str_partition (typeIs_str _ _ _) F.entry_str_partition (F.args_str_partition_2 _ _) (meets_str_partition z y t t' hy hz) ?_
 have q' := q s.heap.objs.size (I.hok.fresh (Nat.le_refl _))
 have fin : ∀ (a b c : Str) (ta tb tc : Tok) (tk : Nat), Q (.ref s.heap.objs.size) (upd H s.heap.objs.size (.tup [.str a, .str b, .str c])) →
   EP X pins σ Q (.ref s.heap.objs.size) { s with toks := tk, heap := s.heap.push { cls := .type "tuple", data := .seq [.str a ta, .str b tb, .str c tc].toArray } } := fun a b c ta tb tc tk qq =>
  ⟨.ref s.heap.objs.size, _, I.laid (o := .tup [.str a, .str b, .str c]) (t' := tk) (fun b o e => Heap.get?_push_of_some _ e) (Nat.le_refl _)
   ⟨by show 3 ≤ sizeLine; decide, [.str a ta, .str b tb, .str c tc], .cons ⟨_, rfl⟩ (.cons ⟨_, rfl⟩ (.cons ⟨_, rfl⟩ .nil)), ⟨_, Heap.get?_push_size _ rfl, rfl, _, rfl⟩⟩, rfl, qq⟩
 unfold Txt.partition at q'
 revert q'
 cases Builtin.Str.occurrences z y 0 z.length 1 with
 | nil => intro q'; exact fin _ _ _ _ _ _ _ q'
 | cons i r => intro q'; exact fin _ _ _ _ _ _ _ q'
theorem zl2 {bs : List Bool} : (List.range bs.length).all (fun i => bs.getD i false) = bs.all id := by
 induction bs with
 | nil => rfl
 | cons b r ih =>
  rw [List.length_cons, List.range_succ_eq_map, List.all_cons, List.all_map, List.all_cons]
  have : ((fun i => (b :: r).getD i false) ∘ Nat.succ) = fun i => r.getD i false := by
   funext i; simp [List.getD]
  rw [this, ih]
  simp
theorem zjU (hc : X.calm = true) : zcf X (.builtin "all") (fun xs H Q => ∃ (p : Addr) (bs : List Bool), xs = [.ref p] ∧ SqL X.K H p (bs.map V.bl) ∧ Q (.bl (bs.all id)) H) := by
 intro pins s σ H xs us Q I r h
 obtain ⟨p, bs, rfl, hq, q⟩ := h
 obtain ⟨u, rfl, ru⟩ := zgD r
 cases ru
 obtain ⟨its, rv, pl, hz⟩ := I.list hq
 have hlt : p < s.heap.objs.size := by obtain ⟨_, e, _⟩ := pl.isList; exact Heap.lt_size e
 refine call_all_walk (wpAny_pyIter_list pl.isList ?_)
 have hA : X.A.in1.handled = none := I.ok.hd hc
 refine ⟨s.heap.objs.size, [s.heap.objs.size, p], [s.heap.objs.size], its.toArray.size, (fun i v => its.toArray[i]? = some v), _, (fun i => bs.getD i false), rfl, Walks.list hA s.heap.objs.size p (Nat.ne_of_lt hlt) its.toArray,
  ⟨⟨_, Heap.get?_push_size _ rfl, rfl, rfl⟩, pl.isList.push _⟩, ?_, fun h' tk hk => ?_⟩
 ·intro i v s' Q' E' hv hQ'
  have hv' : its[i]? = some v := by simpa using hv
  have hi : i < its.length := (List.getElem?_eq_some_iff.mp hv').1
  have hl := rv.length
  rw [List.length_map] at hl
  have hb : bs[i]? = some (bs.getD i false) := by
   have hi' : i < bs.length := by omega
   simp [List.getD, List.getElem?_eq_getElem hi']
  obtain ⟨u, hu, ru⟩ := rv.get (i := i) (x := .bl (bs.getD i false)) (by rw [List.getElem?_map, hb]; rfl)
  rw [hv'] at hu; cases hu
  cases (show v = Value.bool (bs.getD i false) from ru)
  exact wpAny_pure hQ'
 ·have hl := rv.length
  rw [List.length_map] at hl
  have e : (List.range its.toArray.size).all (fun i => bs.getD i false) = bs.all id := by
   rw [List.size_toArray, ← hl, zl2]
  rw [e]
  refine ⟨.bl (bs.all id), H, ?_, rfl, q⟩
  exact I.kept (t' := tk) fun b o eb => hk b o (fun z => by
   have : b = s.heap.objs.size := by simpa using z
   exact absurd (Heap.lt_size eb) (by rw [this]; exact Nat.lt_irrefl _)) (Heap.get?_push_of_some _ eb)
theorem ziU : zcf X (.builtin "isinstance") (fun xs H Q => ∃ x T t b, xs = [x, .ty T] ∧ TyOf X.K H x t ∧ PySem.W.kitOne X.K t (.type T) = some b ∧ Q (.bl b) H) := by
 intro pins s σ H xs us Q I r h
 obtain ⟨x, T, t, b, rfl, ty, e, q⟩ := h
 obtain ⟨u, w', rfl, ru, rw'⟩ := zpG r
 cases (show w' = Value.type T from rw')
 exact zlO I ru ty e fun tk => ⟨.bl b, H, I.tok _, rfl, q⟩
def Its (z : Str) : It := ⟨fun i _ => i < z.cps.size, fun i H x H' => H' = H ∧ ∃ c, z.cps.toList[i]? = some c ∧ x = .str ⟨#[c]⟩, fun i _ => z.cps.size ≤ i⟩
theorem zjV {P : Program} {w : World} {K : PySem.W.Frag} {x : Str} {px : Pos} (z : Str) (it : Addr) (ty : String) (tk0 : Tok)
  (nx : ∀ (A : Around) (s : Shared) (i c : Nat) (Q : Option Value → Shared → Prop) (E : Value → Shared → Prop), s.heap.IsStrIter it ty z tk0 i → z.cps[i]? = some c →
   (∀ h', h'.IsStrIter it ty z tk0 (i + 1) → Heap.SameBut it s.heap h' → Q (some (.str ⟨#[c]⟩ s.toks)) { s with heap := h', toks := s.toks + 1 }) → wpAny (model P w) A (pyNext (.ref it)) Q E s)
  (en : ∀ (A : Around) (s : Shared) (i : Nat) (Q : Option Value → Shared → Prop) (E : Value → Shared → Prop), A.handled = none → s.heap.IsStrIter it ty z tk0 i → z.cps[i]? = none →
   (∀ h', Heap.ExtBut it s.heap h' → Q none { s with heap := h' }) → wpAny (model P w) A (pyNext (.ref it)) Q E s)
  (slf : ∀ (A : Around) (i : Nat) (s : Shared) (Q : Value → Shared → Prop) (E : Value → Shared → Prop), s.heap.IsStrIter it ty z tk0 i → Q (.ref it) s → wpAny (model P w) A (pyIter (.ref it)) Q E s) :
  Turn P w K (.Name x px) (Its z) [it] it (fun i h => h.IsStrIter it ty z tk0 i) where
 mem := by simp
 obj := fun i h st b hb => by
  have e : b = it := by simpa using hb
  subst e
  obtain ⟨o, ho, _, hd⟩ := st
  exact ⟨o, ho, fun v q => by rw [hd] at q; cases q⟩
 keep := fun i h h' st k => by
  obtain ⟨o, ho, r⟩ := st
  exact ⟨o, k it (by simp) o ho, r⟩
 item := by
  intro X hP hw hK hc i pins s σ H E I hf st hg
  subst hP hw hK
  obtain ⟨f0, f1, f2, f3, f4, f5⟩ := hf it (by simp)
  have hi : z.cps[i]? = some z.cps[i] := Array.getElem?_eq_getElem hg
  refine nx X.A s i _ _ _ st hi fun h' st' sb => ?_
  have I1 : Inv X pins σ H { s with heap := h', toks := s.toks + 1 } := I.turned (fun b o hb e => (sb.2 b hb).trans e) f0 f1 f3 f4 f5
  exact ⟨_, rfl, wpAny_pure ⟨.str ⟨#[z.cps[i]]⟩, H, I1, ⟨_, rfl⟩, ⟨rfl, z.cps[i], by rw [Array.getElem?_toList]; exact hi, rfl⟩, st', fun b hb => (hf b hb).1⟩⟩
 done := by
  intro X hP hw hK hc i pins s σ H E I hf st hg
  subst hP hw hK
  obtain ⟨f0, f1, f2, f3, f4, f5⟩ := hf it (by simp)
  have hg' : z.cps.size ≤ i := hg
  exact en X.A s i _ _ (I.ok.hd hc) st (Array.getElem?_eq_none hg') fun h' eb => ⟨rfl, I.turned (t' := s.toks) (fun b o hb e => eb b o hb e) f0 f1 f3 f4 f5⟩
 self := slf
theorem zhA {prog : Program} {w : World} {A : Around} {E : Value → Shared → Prop} {it l : Addr} {items : Array Value} (hne : l ≠ it) : ∀ (n i : Nat) (s : Shared) (Q : List Value → Shared → Prop), s.heap.IsListIter it l i → s.heap.IsList l items → i + n ≤ items.size →
  (∀ h', h'.IsListIter it l (i + n) → Heap.SameBut it s.heap h' → Q ((items.toList.drop i).take n) { s with heap := h' }) → wpAny (model prog w) A (draw (.ref it) n) Q E s
 | 0, i, s, Q, hit, _, _, hQ => by
  show wpAny _ _ (pure []) Q E s
  exact wpAny_pure (by simpa using hQ s.heap hit (Heap.SameBut.refl ..))
 | n + 1, i, s, Q, hit, ht, hle, hQ => by
  have hlt : i < items.size := by omega
  show wpAny _ _ (pyNext (.ref it) >>= _) Q E s
  refine wpAny_bind (wpAny_pyNext_list_item hit ht (x := items[i]) (by simp [hlt]) fun h₁ hit₁ hs₁ => ?_)
  refine wpAny_bind (wpAny_holding (zhA hne n (i + 1) _ _ hit₁ (ht.extBut hs₁.extBut hne) (by omega) fun h₂ hit₂ hs₂ => wpAny_pure ?_))
  have hd : items.toList.drop i = items[i] :: items.toList.drop (i + 1) := by simp [List.drop_eq_getElem_cons, hlt]
  have := hQ h₂ (by rw [show i + (n + 1) = i + 1 + n by omega]; exact hit₂) (hs₁.trans hs₂)
  rw [hd, List.take_succ_cons] at this
  exact this
theorem ziV {prog : Program} {w : World} {A : Around} {E : Value → Shared → Prop} {s : Shared} {t : Addr} {items : Array Value} {targets : List (Bool × (Value → Sem Unit))} {Q : Unit → Shared → Prop} (hh : A.handled = none) (ht : s.heap.IsList t items)
  (hn : targets.length = items.size) (hstar : targets.findIdx? (·.1) = none)
  (h : ∀ h', Heap.ExtBut s.heap.objs.size s.heap h' → wpAny (model prog w) A (assignInOrder (targets.map (·.2)) items.toList) Q E { s with heap := h' }) :
  wpAny (model prog w) A (unpack (.ref t) targets) Q E s := by
 have hlt : t ≠ s.heap.objs.size := by obtain ⟨o, ho, _⟩ := ht; exact Nat.ne_of_lt (Heap.lt_size ho)
 unfold unpack
 rw [hn, hstar]
 refine wpAny_bind (wpAny_holding ?_)
 unfold unpackItems
 refine wpAny_bind ?_
 unfold notIterableAtAll
 refine wpAny_bind (wpAny_specialOf ht.typeIs F.slot_list_iter.lookup ?_)
 refine wpAny_pure ?_
 simp only [Bool.false_eq_true, if_false]
 refine wpAny_bind (wpAny_holding (wpAny_pyIter_list ht ?_))
 refine wpAny_bind (wpAny_holding (zhA hlt items.size 0 _ _ ⟨_, Heap.get?_push_size _ rfl, rfl, rfl⟩ (ht.push _) (by omega) fun h₁ hit₁ hs₁ => ?_))
 have hall : List.take items.size (List.drop 0 items.toList) = items.toList := by
  rw [List.drop_zero]; exact List.take_of_length_le (by simp)
 rw [hall]
 rw [if_neg (by simp)]
 have ht₁ : h₁.IsList t items := (ht.push _).extBut hs₁.extBut hlt
 refine wpAny_bind (wpAny_holding (wpAny_pyNext_list_end hh hit₁ ht₁ (by simp) fun h₂ he₂ => ?_))
 simp only [Option.isSome_none, Bool.false_eq_true, if_false]
 refine wpAny_pure (h h₂ fun b o hb e => he₂ b o hb (hs₁.extBut b o hb (Heap.get?_push_of_some _ e)))
def gLst (K : PySem.W.Frag) (n : Nat) (t : TGs) : TG := fun v σ H Q => ∃ a xs, v = .ref a ∧ SqL K H a xs ∧ xs.length = n ∧ t xs σ H Q
theorem zoS {es : List Expr} {k : Nat} {pos : Pos} {t : TGs} {n : Nat} (hc : X.calm = true) (h : PGs X es t)
  (hn : (assignEach es X.env).length = n := by rfl) (hst : (assignEach es X.env).findIdx? (·.1) = none := by rfl) : PG X (.Tuple es k pos) (gLst X.K n t) := by
 intro pins s σ H v u Q I r hw
 obtain ⟨a, xs, e1, hq, hl, hw⟩ := hw
 subst e1
 cases r
 obtain ⟨its, rv, ht, hz⟩ := I.list hq
 rw [PyProof.Rows.assign_Tuple]
 refine wpAny_bind (wpAny_standAt (ziV (I.ok.hd hc) ht.isList (by simp [hn, ← hl, rv.length]) hst fun h' hx => ?_))
 have I1 : Inv X pins σ H { s with heap := h' } := I.kept (t' := s.toks) fun b o e => hx b o (Nat.ne_of_lt (Heap.lt_size e)) e
 exact h pins _ σ H xs _ Q I1 (by simpa using rv) hw
end
end L2
namespace Rg
open PySem PySem.Spec PyProof.Rows L2
abbrev zsc : Str := "ABCDEFGHIJKLMNOPQRSTUVWXYZ"
abbrev FIGS : Str := "0123456789"
abbrev zua : Str := "abcdefghijklmnopqrstuvwxyz"
def cs (z : Str) : List Nat := z.cps.toList
def zgJ (z g : Str) : Bool := (!decide (V.str z = V.str "")) && (cs z).all fun c => decide (c ∈ cs g)
def zdI (z : Str) : Bool := (decide (V.str (Txt.partition z "_").2.1 = V.str "") || zgJ (Txt.partition z "_").2.2 FIGS) && zgJ (Txt.partition z "_").1 zsc
theorem zfr {x y : Str} (h : cs x = cs y) : x = y := by
 obtain ⟨x⟩ := x; obtain ⟨y⟩ := y
 exact congrArg Str.mk (Array.toList_inj.mp h)
theorem zaS (x : Str) : (cs x).length = x.length := by unfold cs Str.length; simp
theorem zbO (x y : Str) : cs (x ++ y) = cs x ++ cs y := by
 show (x.cps ++ y.cps).toList = _
 rw [Array.toList_append]; rfl
theorem zl3 (z : Str) (i j : Nat) : cs (Builtin.Str.strSub z i j) = ((cs z).drop i).take (j - i) := by
 show (z.cps.extract i j).toList = _
 rw [Array.toList_extract]; rfl
theorem zoT {i : Nat} {m n : Nat} (h : i < 2 ^ m) (hm : m ≤ n) : i < 2 ^ n := Nat.lt_of_lt_of_le h (Nat.pow_le_pow_right (by decide) hm)
end Rg
namespace L2
open PySem PySem.Spec PyProof.Rows
mutual
inductive RT (H : Hp) : V → PyData → Prop
 | non : RT H .non .none
 | bl (b : Bool) : RT H (.bl b) (.bool b)
 | int (i : Int) : RT H (.int i) (.int i)
 | str (x : Str) : RT H (.str x) (.str x)
 | tup {a : Addr} {xs : List V} {ds : List PyData} : H a = some (.tup xs) → RTs H xs ds → RT H (.ref a) (.tuple ds)
inductive RTs (H : Hp) : List V → List PyData → Prop
 | nil : RTs H [] []
 | cons {v : V} {vs : List V} {d : PyData} {ds : List PyData} : RT H v d → RTs H vs ds → RTs H (v :: vs) (d :: ds)
end
section
variable {P : Program} {w : World} {H : Hp} {h : Heap}
end
def RD (K : PySem.W.Frag) (H : Hp) (v : V) (d : PyData) : Prop := RT H v d ∨ ∃ a xs ds, v = .ref a ∧ d = .list ds ∧ SqL K H a xs ∧ RTs H xs ds
theorem RD.l {K : PySem.W.Frag} {H : Hp} {a : Addr} {xs : List V} {ds : List PyData} (h : SqL K H a xs) (r : RTs H xs ds) : RD K H (.ref a) (.list ds) := .inr ⟨a, xs, ds, rfl, rfl, h, r⟩
section
variable {X : Cx}
def Flt (d : PyData) : Prop := d.canLay0 = true ∧ d.depth ≤ 60
theorem zl4 : ∀ {xs : List V} {us : List Value}, xs.length = us.length → (∀ (j : Nat) (u : Value), us[j]? = some u → ∃ x, xs[j]? = some x ∧ RelV x u) → Vals xs us
 | [], [], _, _ => .nil
 | [], _ :: _, h, _ => by simp at h
 | _ :: _, [], h, _ => by simp at h
 | x :: xs, u :: us, h, k => by
  obtain ⟨y, e, r⟩ := k 0 u rfl
  simp at e
  subst e
  exact .cons r (zl4 (by simpa using h) fun j v hv => by
   obtain ⟨y, e, r⟩ := k (j + 1) v (by simpa using hv)
   exact ⟨y, by simpa using e, r⟩)
theorem zoU : ∀ {kvs : List (Key × V)} {vs : List (Key × Value)} {j : Nat} {k : Key} {x : Value}, KV kvs vs → vs[j]? = some (k, x) → ∃ v, kvs[j]? = some (k, v)
 | _, _, _, _, _, .nil, e => by simp at e
 | _, _, 0, _, _, .cons (a := p) r _, e => by
  simp at e
  subst e
  exact ⟨p.2, by obtain ⟨a, b⟩ := p; cases r.1; rfl⟩
 | _, _, j + 1, k, x, .cons _ t, e => by
  obtain ⟨v, q⟩ := zoU (j := j) (k := k) (x := x) t (by simpa using e)
  exact ⟨v, by simpa using q⟩
theorem zsd {k : Key} {v : Value} (h : ziK k v = true) : RelV (kV k) v := by
 rcases zbc h with ⟨i, t, rfl, rfl⟩ | ⟨x, t, rfl, rfl⟩
 ·exact ⟨t, rfl⟩
 ·exact ⟨t, rfl⟩
theorem zdt (hc : X.calm = true) : zcf X (.type "list") (fun xs H Q => ∃ d kvs, xs = [.ref d] ∧ H d = some (.dK kvs) ∧ ∀ l, H l = none → Q (.ref l) (upd H l (.lst (kvs.map fun kv => kV kv.1)))) := by
 intro pins s σ H xs us Q I r h
 obtain ⟨d, kvs, rfl, hd, q⟩ := h
 obtain ⟨u, rfl, ru⟩ := zgD r
 cases ru
 obtain ⟨hz, hne, vs, rkv, hD⟩ := (show zbw X.prog X.w H s.heap d (.dK kvs) from I.hok d _ hd)
 obtain ⟨ep, hat⟩ := hD.dictAt
 have hl := rkv.length
 refine PySem.W.kdl_call (PySem.W.kdl_dict (knd := zaz X.prog X.w) (kvs := vs) (ep := ep) hne) (I.ok.hd hc) hat (by rw [← hl]; exact hz) fun h' tk acc' c' hk hS hacc => ?_
 refine ⟨.ref s.heap.objs.size, _, I.laid (o := .lst (kvs.map fun kv => kV kv.1)) (t' := tk) hk (Nat.le_refl _) ⟨by rw [List.length_map]; exact hz, acc'.toList, c', ?_, by rw [Array.toArray_toList]; exact hS⟩, rfl, q _ (I.hok.fresh (Nat.le_refl _))⟩
 refine zl4 (by have h1 := hacc.1; have h2 : acc'.toList.length = acc'.size := Array.length_toList; have h3 : (kvs.map fun kv => kV kv.1).length = kvs.length := List.length_map ..; omega) fun j v hv => ?_
 obtain ⟨k, x, hx, hk'⟩ := hacc.2 j v (by rw [← Array.getElem?_toList]; exact hv)
 obtain ⟨y, hy⟩ := zoU rkv hx
 exact ⟨kV k, by rw [List.getElem?_map, hy]; rfl, zsd hk'⟩
theorem ad0 {n : Nat} (i : Nat) (h : i ≠ 0) : n + i ≠ n := by omega
theorem adge {n : Nat} (i : Nat) : n ≤ n + i := by omega
end
end L2
namespace L2
open PySem PySem.Spec PyProof.Rows
section
variable {X : Cx}
def Ite (K : PySem.W.Frag) (a : Addr) (xs : List V) : It :=
 ⟨fun i H => SqL K H a xs ∧ i < xs.length,
   fun i H x H' => ∃ p u, xs[i]? = some u ∧ H p = none ∧ x = .ref p ∧ H' = upd H p (.tup [.int (i : Nat), u]),
   fun i H => SqL K H a xs ∧ xs.length ≤ i⟩
theorem Inv.laidT {pins : List (Addr × Obj)} {σ : St} {H : Hp} {s : Shared} {fp : List Addr} {h'' : Heap} {tk : Nat} {xs : List V} {its : List Value} (I : Inv X pins σ H s) (hf : ∀ b ∈ fp, FpOk X pins H b)
  (keep2 : ∀ q o, q ∉ fp → s.heap.get? q = some o → h''.get? q = some o) (hz : xs.length ≤ sizeLine) (rv : Vals xs its) (hp2 : h''.get? s.heap.objs.size = some { cls := .type "tuple", data := .seq its.toArray }) :
  Inv X pins σ (upd H s.heap.objs.size (.tup xs)) { s with heap := h'', toks := tk } := by
 have hfr : H s.heap.objs.size = none := I.hok.fresh (Nat.le_refl _)
 have nfp : ∀ q ∈ fp, H q = none := fun q hq => (hf q hq).1
 refine I.step (g' := s.gens) (d' := s.drawn) (t' := tk) (ch := fp) (fun q hq => ⟨(hf q hq).2.2.2.1, (hf q hq).2.1, (hf q hq).2.2.2.2.1, (hf q hq).2.2.2.2.2⟩)
  (fun q o _ _ hc e _ => keep2 q o hc e) (fun q o _ _ hc e _ => ⟨o.slots, keep2 q o hc e⟩) (fun q o _ e n => by rw [zaA (Nat.ne_of_lt (Heap.lt_size e))]; exact n)
  (fun q o hc e => ⟨o, keep2 q o hc e⟩) (fun q zs e => by rw [zaA (zal e hfr)]; exact e) (fun q o zs e => by rw [zaA (zal e hfr)]; exact e) (fun q ps e => ⟨#[], by rw [zaA (zal e hfr), e]; simp⟩) (fun m hm => ?_) ?_ I.bare
 ·obtain ⟨o, es, ep, ho, r⟩ := hm
  exact ⟨o, es, ep, keep2 _ o (fun z => absurd rfl (hf _ z).2.1) ho, r⟩
 ·intro q o e
  by_cases hq : q = s.heap.objs.size
  ·subst hq
   rw [za0] at e; cases e
   exact ⟨hz, its, rv, ⟨_, hp2, rfl, _, rfl⟩⟩
  ·rw [zaA hq] at e
   refine (I.hok q o e).stay (fun t w' ht qq => keep2 t w' (fun z => ?_) qq) (fun t qq => by rw [zaA (zal qq hfr)]; exact qq) fun t zs qq => by rw [zaA (zal qq hfr)]; exact qq
   have n0 := nfp t z
   rcases ht with rfl | ht
   ·rw [n0] at e; cases e
   ·rw [n0] at ht; cases ht
theorem Inv.turnedT {pins : List (Addr × Obj)} {σ : St} {H : Hp} {s : Shared} {fp : List Addr} {h'' : Heap} {tk : Nat} (I : Inv X pins σ H s) (hf : ∀ b ∈ fp, FpOk X pins H b)
  (keep2 : ∀ q o, q ∉ fp → s.heap.get? q = some o → h''.get? q = some o) : Inv X pins σ H { s with heap := h'', toks := tk } := by
 have nfp : ∀ q ∈ fp, H q = none := fun q hq => (hf q hq).1
 refine I.step (g' := s.gens) (d' := s.drawn) (t' := tk) (ch := fp) (fun q hq => ⟨(hf q hq).2.2.2.1, (hf q hq).2.1, (hf q hq).2.2.2.2.1, (hf q hq).2.2.2.2.2⟩)
   (fun q o _ _ hc e _ => keep2 q o hc e) (fun q o _ _ hc e _ => ⟨o.slots, keep2 q o hc e⟩) (fun q o _ e n => n)
   (fun q o hc e => ⟨o, keep2 q o hc e⟩) (fun q zs e => e) (fun q o zs e => e) (fun q ps e => ⟨#[], by rw [e]; simp⟩) (fun m hm => ?_) ?_ I.bare
 ·obtain ⟨o, es, ep, ho, r⟩ := hm
  exact ⟨o, es, ep, keep2 _ o (fun z => absurd rfl (hf _ z).2.1) ho, r⟩
 ·intro q o e
  refine (I.hok q o e).stay (fun t w' ht qq => keep2 t w' (fun z => ?_) qq) (fun t qq => qq) fun t zs qq => qq
  have n0 := nfp t z
  rcases ht with rfl | ht
  ·rw [n0] at e; cases e
  ·rw [n0] at ht; cases ht
theorem zl5 {P : Program} {w : World} {K : PySem.W.Frag} {es : List Expr} {kx : Nat} {px : Pos} (a e it : Addr) (xs : List V) (hne : e ≠ it) :
  Turn P w K (.Tuple es kx px) (Ite K a xs) [e, it] e (fun i h => (∃ old, IsEnum h e it (i : Nat) old) ∧ h.IsListIter it a i) where
 mem := by simp
 obj := fun i h st c hc => by
  obtain ⟨⟨old, h1⟩, ⟨o4, h4, _, h4d⟩⟩ := st
  simp only [List.mem_cons, List.mem_nil_iff, or_false] at hc
  rcases hc with rfl | rfl
  ·exact ⟨_, h1, fun v q => by cases q⟩
  ·exact ⟨_, h4, fun v q => by rw [h4d] at q; cases q⟩
 keep := fun i h h' st k => by
  obtain ⟨⟨old, h1⟩, ⟨o4, h4, r4⟩⟩ := st
  exact ⟨⟨old, k e (by simp) _ h1⟩, ⟨o4, k it (by simp) _ h4, r4⟩⟩
 item := by
  intro X hP hw hK hc i pins s σ H E I hf st hg
  subst hP hw hK
  obtain ⟨⟨old, h1⟩, h4⟩ := st
  obtain ⟨hqa, hi⟩ := hg
  obtain ⟨its, rv, pl, hz⟩ := I.list hqa
  obtain ⟨u, hu, ru⟩ := rv.get (List.getElem?_eq_getElem hi)
  refine wpAny_pyNext_enum_item h1 h4 pl.isList (x := u) (by simpa using hu) hne fun h' a1 a2 a3 a4 hk => ?_
  refine ⟨_, rfl, wpAny_letOwnedTupleGo_enum a1 fun h'' e' sb => ?_⟩
  have hfr : H s.heap.objs.size = none := I.hok.fresh (Nat.le_refl _)
  have lte : e < s.heap.objs.size := Heap.lt_size h1
  have lti : it < s.heap.objs.size := by obtain ⟨_, q, _⟩ := h4; exact Heap.lt_size q
  have keep2 : ∀ q o, q ∉ [e, it] → s.heap.get? q = some o → h''.get? q = some o := fun q o hq eq => by
   simp only [List.mem_cons, List.mem_nil_iff, or_false, not_or] at hq
   exact (sb.2 q hq.1).trans (hk q o hq.1 hq.2 eq)
  have hp2 : h''.get? s.heap.objs.size = some { cls := .type "tuple", data := .seq [.int (i : Nat) s.toks, u].toArray } := (sb.2 _ (Nat.ne_of_gt lte)).trans a3
  have I1 : Inv X pins σ (upd H s.heap.objs.size (.tup [.int (i : Nat), xs[i]])) { s with heap := h'', toks := s.toks + 1 } := I.laidT (its := [.int (i : Nat) s.toks, u]) hf keep2 (by show 2 ≤ sizeLine; decide) (.cons ⟨_, rfl⟩ (.cons ru .nil)) hp2
  refine ⟨.ref s.heap.objs.size, _, I1, rfl, ⟨s.heap.objs.size, xs[i], List.getElem?_eq_getElem hi, hfr, rfl, rfl⟩, ⟨⟨u, by rw [Int.natCast_add]; exact e'⟩, a2.extBut sb.extBut hne.symm⟩, fun q hq => ?_⟩
  rw [zaA]
  ·exact (hf q hq).1
  ·intro eq
   subst eq
   simp only [List.mem_cons, List.mem_nil_iff, or_false] at hq
   rcases hq with q | q
   ·exact Nat.ne_of_gt lte q
   ·exact Nat.ne_of_gt lti q
 done := by
  intro X hP hw hK hc i pins s σ H E I hf st hg
  subst hP hw hK
  obtain ⟨⟨old, h1⟩, h4⟩ := st
  obtain ⟨hqa, hij⟩ := hg
  obtain ⟨its, rv, pl, hz⟩ := I.list hqa
  have l1 := rv.length
  refine wpAny_pyNext_enum_end (I.ok.hd hc) h1 h4 pl.isList (by simp; omega) fun h' hk => ⟨rfl, ?_⟩
  exact I.turnedT (tk := s.toks) hf fun q o hq eq => hk q o (fun z => hq (by simp [z])) eq
 self := fun _ _ _ _ _ st h => by
  obtain ⟨⟨old, h1⟩, _⟩ := st
  exact wpAny_pyIter_enum h1 h
def zub (K : PySem.W.Frag) (ta : TA) : TI := fun σ H R => ta σ H fun vs H1 => ∃ a xs, vs = [.ref a] ∧ SqL K H1 a xs ∧ R (Ite K a xs) H1
theorem zpV {a : Expr} {ta : TA} {p pos : Pos} {es : List Expr} {kx : Nat} {px : Pos} (hg : Gl X "enumerate") (hm : X.mg "enumerate" = none) (ha : PA X [a] ta) (hs : starEach [a] X.env = [(false, eval a X.env)] := by rfl) :
  PI X (.Tuple es kx px) (.Call (.Name "enumerate" p) [a] [] pos) (zub X.K ta) := by
 intro pins s σ H R I h
 refine Call_ (zgk I hg hm boot_enumerate (PyProof.Rows.callWith_type1 (thn (ha pos pins s σ H _ I h) fun us s1 ⟨vs, H1, I1, r1, q1⟩ => ?_) hs rfl))
 obtain ⟨a, xs, rfl, hqa, q⟩ := q1
 obtain ⟨u, rfl, ru⟩ := zgD r1
 cases ru
 obtain ⟨its, rv1, pl, hz⟩ := I1.list hqa
 refine call_enumerate_list pl.isList fun h' g1 g2 g3 k => ?_
 refine wpAny_pyIter_enum g1 ?_
 refine ⟨s1.heap.objs.size + 1, [s1.heap.objs.size + 1, s1.heap.objs.size], _, _, H1, rfl, I1.kept (t' := s1.toks) k, zl5 a _ _ xs (ad0 1 (by decide)), ⟨⟨_, g1⟩, g2⟩, fun q hq => ?_, q⟩
 have hge : s1.heap.objs.size ≤ q := by
  simp only [List.mem_cons, List.mem_nil_iff, or_false] at hq
  rcases hq with e | e
  ·rw [e]; exact adge 1
  ·rw [e]; exact Nat.le_refl _
 exact I1.fpOk hge (I1.hok.fresh hge)
end
end L2
namespace L2
open PySem PySem.Spec PyProof.Rows
section
variable {prog : Program} {w : World} {A : Around} {E : Value → Shared → Prop} {s : Shared}
inductive zdJ (prog : Program) (w : World) (hh : Heap) (A0 : Around) : List Value → List Int → Nat → Prop
 | nil : zdJ prog w hh A0 [] [] 0
 | cons {v : Value} {vs : List Value} {i : Int} {is : List Int} {d n : Nat} (h : ∀ (E : Value → Shared → Prop) (s : Shared) (Q : Int → Shared → Prop), s.heap = hh → Q i { s with toks := s.toks + d } → wpAny (model prog w) A0 (pyHash v) Q E s) (t : zdJ prog w hh A0 vs is n) : zdJ prog w hh A0 (v :: vs) (i :: is) (d + n)
theorem zpW {a : Addr} {o : Obj} {items : Array Value} {n m : Nat} {is : List Int} {Q : Int → Shared → Prop} (hu : A.units < cLine) (ho : s.heap.get? a = some o) (hcl : o.cls = .type "tuple") (hd : o.data = .seq items n) (hi : zdJ prog w s.heap A.in1 items.toList is m)
  (h : Q (reduceHash (Builtin.Tuple.tupleHashOf is)) { s with toks := s.toks + (m + 1) }) : wpAny (model prog w) A (pyHash (.ref a)) Q E s := by
 have hT : s.TypeIs (.ref a) "tuple" := ⟨o, ho, hcl⟩
 unfold pyHash
 first | unfold pyHashByItsType | skip
 first | refine wpAny_bind (wpAny_cRoomFor_or (.inr hu) ?_) | skip
 refine wpAny_bind (wpAny_specialOf hT PySem.F.slot_tuple_hash.lookup ?_)
 rw [if_neg (by rw [beq_builtin_none]; exact Bool.false_ne_true)]
 refine wpAny_bind (wpAny_specialOf hT PySem.F.slot_tuple_hash.lookup ?_)
 refine wpAny_bind (wpAny_callSpecialIfBoundUnlessNone?_slot hT PySem.F.slot_tuple_hash (wpAny_call_entry PySem.F.slot_tuple_hash hT PySem.F.entry_tuple_hash ?_ (PySem.F.args_tuple_hash_1 _)))
 refine wpAny_bind (wpAny_pure ?_)
 refine wpAny_bind (wpAny_tupleItemsOf ho hd ?_)
 refine wpAny_bind ?_
 rw [← Array.forIn_toList]
 refine wpAny_forIn_list _
  (fun rest (b : Array Int) s' => ∃ done left k k', is = done ++ left ∧ zdJ prog w s.heap A.in1 rest left k' ∧ b.toList = done ∧ s' = { s with toks := s.toks + k } ∧ k + k' = m)
  _ ?_ ?_ _ _ ⟨[], is, 0, m, rfl, hi, rfl, rfl, by omega⟩
 ·rintro x rest b s' ⟨done, left, k, k', rfl, hl, hb, rfl, hk⟩
  cases hl with
  | @cons _ _ i left' d n' hx hl' =>
   refine wpAny_bind (hx _ _ _ rfl ?_)
   first
    | exact wpAny_pure ⟨done ++ [i], left', k + d, n', by simp, hl', by simp [hb], by simp [Nat.add_assoc], by omega⟩
    | exact wpAny_bind (wpAny_pure (wpAny_pure ⟨done ++ [i], left', k + d, n', by simp, hl', by simp [hb], by simp [Nat.add_assoc], by omega⟩))
 ·rintro b s' ⟨done, left, k, k', rfl, hl, hb, rfl, hk⟩
  cases hl
  rw [List.append_nil] at h
  dsimp only
  rw [hb]
  have ek : k = m := by omega
  subst ek
  refine wpAny_ret_mkInt ?_
  unfold reduceHash at h
  by_cases hr : (decide (-(2 : Int) ^ 63 ≤ Builtin.Tuple.tupleHashOf done) && decide (Builtin.Tuple.tupleHashOf done < 2 ^ 63)) = true
  ·rw [if_pos hr] at h
   show wpAny _ _ (if (decide (-(2 : Int) ^ 63 ≤ Builtin.Tuple.tupleHashOf done) && decide (Builtin.Tuple.tupleHashOf done < 2 ^ 63)) = true then _ else _) Q E _
   rw [if_pos hr]
   exact wpAny_pure (by simpa [Nat.add_assoc] using h)
  ·rw [if_neg hr] at h
   show wpAny _ _ (if (decide (-(2 : Int) ^ 63 ≤ Builtin.Tuple.tupleHashOf done) && decide (Builtin.Tuple.tupleHashOf done < 2 ^ 63)) = true then _ else _) Q E _
   rw [if_neg hr]
   exact wpAny_bind (wpAny_rule (wpAny_pure (by simpa [Nat.add_assoc] using h)))
inductive zgK (prog : Program) (w : World) (hh : Heap) (A0 : Around) : List Value → List Value → Bool → Prop
 | nil : zgK prog w hh A0 [] [] true
 | cons {u v : Value} {us vs : List Value} {b c : Bool} (h : ∀ (E : Value → Shared → Prop) (s : Shared) (Q : Bool → Shared → Prop), s.heap = hh → Q b s → wpAny (model prog w) A0 (eqBool u v) Q E s) (t : zgK prog w hh A0 us vs c) : zgK prog w hh A0 (u :: us) (v :: vs) (b && c)
theorem zgK.len {hh : Heap} {A0 : Around} {us vs : List Value} {b : Bool} (h : zgK prog w hh A0 us vs b) : us.length = vs.length := by
 induction h with
 | nil => rfl
 | cons _ _ ih => simp [ih]
theorem zuc {a b : Addr} {oa ob : Obj} {xs ys : Array Value} {na nb : Nat} {r : Bool} {Q : Bool → Shared → Prop} (hu : A.units < cLine) (hoa : s.heap.get? a = some oa) (hca : oa.cls = .type "tuple") (hda : oa.data = .seq xs na) (hob : s.heap.get? b = some ob) (hcb : ob.cls = .type "tuple") (hdb : ob.data = .seq ys nb)
  (hi : zgK prog w s.heap A.in1 xs.toList ys.toList r) (same : a = b → r = true) (h : Q r s) : wpAny (model prog w) A (eqBool (.ref a) (.ref b)) Q E s := by
 have hTa : s.TypeIs (.ref a) "tuple" := ⟨oa, hoa, hca⟩
 have hTb : s.TypeIs (.ref b) "tuple" := ⟨ob, hob, hcb⟩
 unfold eqBool
 try with_reducible refine wpAny_holding ?_
 show wpAny _ _ (if (Value.ref a == Value.ref b) = true then _ else _) Q E s
 by_cases hab : (Value.ref a == Value.ref b) = true
 ·rw [if_pos hab]
  have e : a = b := by have := eq_of_beq hab; injection this
  rw [same e] at h
  exact wpAny_bind (wpAny_rule (wpAny_pure h))
 ·rw [if_neg hab]
  refine wpAny_bind (wpAny_richCompare_same_room (op := .Eq) hTa hTb PySem.F.slot_tuple_eq (wpAny_call_entry PySem.F.slot_tuple_eq hTa PySem.F.entry_tuple_eq ?_ (PySem.F.args_tuple_eq_2 _ _)) hu)
  show wpAny _ _ (isInstance (.ref b) (.type "tuple") >>= _) _ _ s
  refine wpAny_bind (wpAny_isInstance hTb isSubtype_tuple_tuple ?_)
  simp only [Bool.not_true, Bool.false_eq_true, if_false]
  refine wpAny_bind (wpAny_tupleItemsOf hoa hda ?_)
  refine wpAny_bind (wpAny_tupleItemsOf hob hdb ?_)
  refine wpAny_bind ?_
  refine wpAny_forIn_list _
   (fun rest q s' => q.1 = none ∧ s' = s ∧ ∃ us vs c, rest = List.zip us vs ∧ zgK prog w s.heap A.in1 us vs c ∧ c = r)
   _ ?_ ?_ _ _ ⟨rfl, rfl, xs.toList, ys.toList, r, rfl, hi, rfl⟩
  ·rintro ⟨u, v⟩ rest q s' ⟨hq, rfl, us, vs, c, hz, he, rfl⟩
   cases he with
   | nil => simp at hz
   | @cons u' v' us' vs' b1 c1 hx he' =>
    simp only [List.zip_cons_cons, List.cons.injEq, Prod.mk.injEq] at hz
    obtain ⟨⟨rfl, rfl⟩, rfl⟩ := hz
    refine wpAny_bind (hx _ _ _ rfl ?_)
    cases b1 with
    | true =>
     simp only [Bool.not_true, Bool.false_eq_true, if_false]
     exact wpAny_pure ⟨rfl, rfl, us', vs', c1, rfl, he', by rw [Bool.true_and]⟩
    | false =>
     simp only [Bool.not_false, if_true]
     rw [Bool.false_and] at h
     exact wpAny_bind (wpAny_pure (wpAny_pure (wpAny_pure ⟨_, rfl, (fun e => nomatch e), wpAny_truthy_bool h⟩)))
  ·rintro ⟨q1, q2⟩ s' ⟨hq, rfl, us, vs, c, hz, he, rfl⟩
   simp only at hq
   subst hq
   refine wpAny_pure ?_
   have hsz : (xs.size == ys.size) = true := by
    have := hi.len
    simp at this
    simpa using this
   have hc : c = true := by
    cases he with
    | nil => rfl
    | cons _ _ => simp at hz
   subst hc
   refine ⟨_, rfl, (fun e => nomatch e), ?_⟩
   show wpAny _ _ (truthOfDropped (.bool (xs.size == ys.size))) Q E _
   rw [hsz]
   exact wpAny_truthy_bool h
theorem znL {K : Type} [DecidableEq K] {knd : KeyKind prog w K} {m : Nat} {ks : List K} {a : Addr} {Q : Bool → Shared → Prop} (hk : IsTupleKey knd s.heap ks a) (h : Q true s) : wpAny (model prog w) A (eqIsQuiet (m + 1) (.ref a)) Q E s := by
 have hT := hk.typeIs
 obtain ⟨o, items, n, ho, hcl, hd, hi⟩ := hk
 unfold eqIsQuiet
 refine wpAny_bind (wpAny_specialOf hT PySem.F.slot_tuple_eq.lookup ?_)
 try dsimp only
 refine wpAny_bind (wpAny_isInstance hT isSubtype_tuple_tuple ?_)
 rw [if_neg (by decide)]
 try dsimp only
 refine wpAny_bind (wpAny_seqItems ho hd (wpAny_bind ?_))
 show wpAny _ _ (forIn items _ _) _ _ _
 rw [← Array.forIn_toList]
 refine wpAny_forIn_list _ (fun rest q s' => q.1 = none ∧ s' = s ∧ ∀ v ∈ rest, carriedByValue v = true) _ ?_ ?_ _ _ ⟨rfl, rfl, hi.byValue⟩
 ·rintro v rest q s' ⟨hq, rfl, hall⟩
  rw [eqIsQuiet_byValue _ (hall v List.mem_cons_self)]
  refine wpAny_bind (wpAny_pure ?_)
  rw [if_neg (by decide)]
  exact wpAny_pure ⟨rfl, rfl, fun u hu' => hall u (List.mem_cons_of_mem _ hu')⟩
 ·rintro ⟨q1, q2⟩ s' ⟨hq, rfl, _⟩
  simp only at hq
  subst hq
  exact wpAny_pure h
end
abbrev NKey := Key × List Key
section
variable {prog : Program} {w : World}
def zjW (prog : Program) (w : World) (tl : List Int) (h : Heap) (x : NKey) (a : Addr) : Prop :=
 ∃ o items n v pa ts, h.get? a = some o ∧ o.cls = .type "tuple" ∧ o.data = .seq items n ∧ items.toList = v :: .ref pa :: ts ∧ (zaz prog w).is x.1 v = true ∧ IsTupleKey (zaz prog w) h x.2 pa ∧ ItemsAre (zaz prog w) (tl.map Sum.inl) ts
def zse (prog : Program) (w : World) (tl : List Int) (x : NKey) : Int := reduceHash (Builtin.Tuple.tupleHashOf ((zaz prog w).hash x.1 :: tupleKeyHash (zaz prog w) x.2 :: tl.map fun i => (zaz prog w).hash (Sum.inl i)))
theorem zhB {A : Around} {hh : Heap} : ∀ {tl : List Int} {ts : List Value}, ItemsAre (zaz prog w) (tl.map Sum.inl) ts → zdJ prog w hh A ts (tl.map fun i => (zaz prog w).hash (Sum.inl i)) tl.length
 | [], _, h => by cases h; exact .nil
 | i :: tl, _, h => by
  cases h with
  | @cons _ v _ vs h1 t =>
   have := zdJ.cons (A0 := A) (hh := hh) (d := 1) (fun E s Q _ q => (zaz prog w).pyHash h1 q) (zhB t)
   rw [List.length_cons, Nat.add_comm]
   exact this
theorem zl6 {A : Around} {hh : Heap} : ∀ {tl : List Int} {ts us : List Value}, ItemsAre (zaz prog w) (tl.map Sum.inl) ts → ItemsAre (zaz prog w) (tl.map Sum.inl) us → zgK prog w hh A ts us true
 | [], _, _, h, h' => by cases h; cases h'; exact .nil
 | i :: tl, _, _, h, h' => by
  cases h with
  | @cons _ v _ vs h1 t =>
   cases h' with
   | @cons _ v' _ vs' h1' t' => exact zgK.cons (b := true) (fun E s Q _ q => (zaz prog w).eqBool h1 h1' (by rw [decide_eq_true rfl]; exact q)) (zl6 t t')
theorem zjW.inj {tl : List Int} {h : Heap} {a : Addr} {x y : NKey} (hx : zjW prog w tl h x a) (hy : zjW prog w tl h y a) : x = y := by
 obtain ⟨o, items, n, v, pa, ts, e1, _, e3, e4, e5, e6, _⟩ := hx
 obtain ⟨o', items', n', v', pa', ts', f1, _, f3, f4, f5, f6, _⟩ := hy
 obtain rfl : o = o' := Option.some.inj (e1.symm.trans f1)
 rw [e3] at f3
 injection f3 with g1 _
 subst g1
 rw [e4] at f4
 simp only [List.cons.injEq, Value.ref.injEq] at f4
 obtain ⟨rfl, rfl, rfl⟩ := f4
 exact Prod.ext ((zaz prog w).inj _ _ _ e5 f5) (e6.inj f6)
def zbi (prog : Program) (w : World) (tl : List Int) : HeapKind prog w NKey where
 is := zjW prog w tl
 hash := zse prog w tl
 draws := fun x => (1 + ((x.2.length + 1) + tl.length)) + 1
 room := fun A => A.units + 1 < cLine
 inj := fun hx hy => hx.inj hy
 keeps := fun {h h' k a d o es ep} x ho hd hs => by
  obtain ⟨o', items, n, v, pa, ts, e1, e2, e3, e4, e5, e6, e7⟩ := x
  have hne : a ≠ d := by
   rintro rfl
   obtain rfl : o' = o := Option.some.inj (e1.symm.trans ho)
   rw [hd] at e3; exact nomatch e3
  exact ⟨o', items, n, v, pa, ts, (hs.2 a hne).trans e1, e2, e3, e4, e5, e6.keeps ho hd hs, e7⟩
 pyHash := fun {A E s k a Q} hu hk h => by
  obtain ⟨o, items, n, v, pa, ts, e1, e2, e3, e4, e5, e6, e7⟩ := hk
  have hu1 : A.in1.units < cLine := hu
  refine zpW (Nat.lt_of_succ_lt hu) e1 e2 e3 (m := 1 + ((k.2.length + 1) + tl.length)) (is := (zaz prog w).hash k.1 :: tupleKeyHash (zaz prog w) k.2 :: tl.map fun i => (zaz prog w).hash (Sum.inl i)) ?_ h
  rw [e4]
  refine .cons (d := 1) (fun E s' Q' _ q => (zaz prog w).pyHash e5 q) (.cons (d := k.2.length + 1) (fun E s' Q' es q => ?_) (zhB e7))
  exact wpAny_pyHash_tuple hu1 (by rw [es]; exact e6) q
 eqBool := fun {A E s x y a b Q} hu hx hy h => by
  have same : a = b → x = y := fun e => by subst e; exact hx.inj hy
  obtain ⟨o, items, n, v, pa, ts, e1, e2, e3, e4, e5, e6, e7⟩ := hx
  obtain ⟨o', items', n', v', pa', ts', f1, f2, f3, f4, f5, f6, f7⟩ := hy
  have hu1 : A.in1.units < cLine := hu
  have er : (decide (x.1 = y.1) && (decide (x.2 = y.2) && true)) = decide (x = y) := by
   rw [Bool.and_true, Bool.eq_iff_iff, Bool.and_eq_true, decide_eq_true_eq, decide_eq_true_eq, decide_eq_true_eq, Prod.ext_iff]
  refine zuc (Nat.lt_of_succ_lt hu) e1 e2 e3 f1 f2 f3 (r := decide (x.1 = y.1) && (decide (x.2 = y.2) && true)) ?_ (fun e => by rw [er, same e]; simp) (by rw [er]; exact h)
  rw [e4, f4]
  refine .cons (fun E s' Q' _ q => (zaz prog w).eqBool e5 f5 q) (.cons (fun E s' Q' es q => ?_) (zl6 e7 f7))
  exact wpAny_eqBool_tuple hu1 (by rw [es]; exact e6) (by rw [es]; exact f6) q
 quiet := fun {A E s k a Q} hk h => by
  obtain ⟨o, items, n, v, pa, ts, e1, e2, e3, e4, e5, e6, e7⟩ := hk
  have hT : s.TypeIs (.ref a) "tuple" := ⟨o, e1, e2⟩
  unfold eqIsQuiet
  refine wpAny_bind (wpAny_specialOf hT PySem.F.slot_tuple_eq.lookup ?_)
  try dsimp only
  refine wpAny_bind (wpAny_isInstance hT isSubtype_tuple_tuple ?_)
  rw [if_neg (by decide)]
  try dsimp only
  refine wpAny_bind (wpAny_seqItems e1 e3 (wpAny_bind ?_))
  show wpAny _ _ (forIn items _ _) _ _ _
  rw [← Array.forIn_toList]
  refine wpAny_forIn_list _ (fun rest q s' => q.1 = none ∧ s' = s ∧ ∀ u ∈ rest, carriedByValue u = true ∨ u = .ref pa) _ ?_ ?_ _ _ ⟨rfl, rfl, fun u hu => ?_⟩
  ·rintro u rest q s' ⟨hq, rfl, hall⟩
   have next : ∀ u' ∈ rest, carriedByValue u' = true ∨ u' = .ref pa := fun u' hu' => hall u' (List.mem_cons_of_mem _ hu')
   rcases hall u List.mem_cons_self with hv | rfl
   ·rw [eqIsQuiet_byValue _ hv]
    refine wpAny_bind (wpAny_pure ?_)
    rw [if_neg (by decide)]
    exact wpAny_pure ⟨rfl, rfl, next⟩
   ·refine wpAny_bind (znL e6 ?_)
    rw [if_neg (by decide)]
    exact wpAny_pure ⟨rfl, rfl, next⟩
  ·rintro ⟨q1, q2⟩ s' ⟨hq, rfl, _⟩
   simp only at hq
   subst hq
   exact wpAny_pure h
  ·rw [e4] at hu
   rcases List.mem_cons.mp hu with rfl | hu
   ·exact .inl ((zaz prog w).byValue _ _ e5)
   ·rcases List.mem_cons.mp hu with rfl | hu
    ·exact .inr rfl
    ·exact .inl (e7.byValue u hu)
end
end L2
namespace L2
open PySem PySem.Spec PySem.W PyProof.Rows
section
variable {prog : Program} {w : World} {A : Around} {E : Value → Shared → Prop} {s : Shared}
end
end L2
namespace PySem
namespace Rv
open PyProof.Rows L2 PySem.Spec
section
variable {prog : Program} {w : World} {A : Around} {E : Value → Shared → Prop} {s : Shared}
end
end Rv
end PySem
namespace PySem
namespace Rv
open PyProof.Rows L2 PySem.Spec
section
variable {prog : Program} {w : World} {A : Around} {E : Value → Shared → Prop} {s : Shared}
end
end Rv
end PySem
namespace PySem
namespace Rv
open PyProof.Rows L2 PySem.Spec
section
variable {prog : Program} {w : World} {A : Around} {E : Value → Shared → Prop} {s : Shared}
end
end Rv
end PySem
namespace L2
open PySem PySem.Spec PyProof.Rows
section
variable {X : Cx} {a : Expr} {ta : TA} {p p2 pos pos2 : Pos}
end
end L2
namespace PySem
namespace Zt
open PyProof.Rows L2 PySem.Spec
section
variable {prog : Program} {w : World} {A : Around} {E : Value → Shared → Prop} {s : Shared}
variable {z TI TO i1 i2 l1 l2 : Addr} {xs ys : Array Value} {S1 S2 : Nat → Heap → Prop}
end
end Zt
end PySem
namespace PySem
namespace Zt
open PyProof.Rows L2 PySem.Spec
section
variable {prog : Program} {w : World} {A : Around} {E : Value → Shared → Prop} {s : Shared} {z TI TO i1 i2 l1 l2 : Addr} {xs ys : Array Value} {S1 S2 : Nat → Heap → Prop}
end
end Zt
end PySem
namespace L2
open PySem PySem.Spec PyProof.Rows
section
variable {X : Cx}
end
end L2
namespace L2
open PySem PySem.Spec PyProof.Rows
section
variable {X : Cx}
end
end L2
namespace L2
open PySem PySem.Spec PyProof.Rows
section
variable {X : Cx}
end
end L2
namespace L2
open PySem PySem.Spec PyProof.Rows
abbrev NX (es : List (NKey × Addr × V)) (xs : List (NKey × Addr × Value)) : Prop := Paired (fun p q => p.1 = q.1 ∧ p.2.1 = q.2.1 ∧ RelV p.2.2 q.2.2) es xs
def zbW (P : Program) (w : World) (tl : List Int) (a : Addr) (es : List (NKey × Addr × V)) (h : Heap) : Prop :=
 ∃ o ents ep xs, h.get? a = some o ∧ o.ExactDict ∧ o.data = .dict ents ep ∧ ents.toList = xs.map (entryOfKey (zbi P w tl)) ∧ NX es xs ∧ (xs.map (·.1)).Nodup ∧ xs.length ≤ sizeLine ∧ (a == sysModules) = false
theorem zbW.stay {P : Program} {w : World} {tl : List Int} {a : Addr} {es : List (NKey × Addr × V)} {h1 h2 : Heap} (x : zbW P w tl a es h1) (k : ∀ o, h1.get? a = some o → h2.get? a = some o) : zbW P w tl a es h2 := by
 obtain ⟨o, ents, ep, xs, e, r⟩ := x
 exact ⟨o, ents, ep, xs, k o e, r⟩
theorem zbW.ok {P : Program} {w : World} {H : Hp} {tl : List Int} {a : Addr} {es : List (NKey × Addr × V)} {h : Heap} (x : zbW P w tl a es h) : zbw P w H h a (.ext (zbW P w tl a es)) :=
 ⟨x, let ⟨o, _, _, _, e, _⟩ := x; ⟨o, e⟩, fun h1 h2 y k => y.stay k⟩
def NAt (H : Hp) (tl : List Int) (x : NKey) (b : Addr) : Prop := ∃ pa, H b = some (.tup (kV x.1 :: .ref pa :: tl.map V.int)) ∧ H pa = some (.tup (x.2.map kV))
theorem zjX {P : Program} {w : World} : ∀ {tl : List Int} {us : List Value}, Vals (tl.map V.int) us → ItemsAre (zaz P w) (tl.map Sum.inl) us
 | [], _, h => by cases h; exact .nil
 | i :: tl, _, h => by
  cases h with
  | cons r t =>
   obtain ⟨tk, rfl⟩ := r
   exact .cons (ziR (k := Sum.inl i) ⟨tk, rfl⟩) (zjX t)
theorem NAt.is {P : Program} {w : World} {H : Hp} {h : Heap} {tl : List Int} {x : NKey} {b : Addr} (hok : HOk P w H h) (n : NAt H tl x b) : (zbi P w tl).is h x b := by
 obtain ⟨pa, e1, e2⟩ := n
 obtain ⟨_, its, r, o, h1, h2, m, h3⟩ := (show zbw P w H h b (.tup (kV x.1 :: .ref pa :: tl.map V.int)) from hok b _ e1)
 cases r with
 | @cons _ v _ vs r1 t1 =>
  cases t1 with
  | @cons _ v2 _ vs2 r2 t2 =>
   cases (show v2 = Value.ref pa from r2)
   exact ⟨o, _, m, v, pa, vs2, h1, h2, h3, by simp, ziR r1, zgn hok e2, zjX t2⟩
end L2
namespace L3
open PySem PySem.Spec PyProof.Rows L2
abbrev SV := L2.St
inductive W where
 | non | bl (b : Bool) | int (i : Int) | str (x : Str) | ty (n : String) | tup (ws : List W) | rl (ws : List W) | sc (ws : List W) | ref (a : Addr)
 | dk (kvs : List (Key × W)) | dt (kvs : List (List Key × W))
inductive MO where
 | lst (ws : List W) | dK (kvs : List (Key × W)) | dT (kvs : List (List Key × W)) | fix (vs : List V) | exc (cls : Value) | ins (C dx : Addr) (fs : List (Str × W)) | dn (P : Program) (w : World) (tl : List Int) (kvs : List (NKey × W)) | vw (d : Addr)
abbrev Mm := Addr → Option MO
def put (M : Mm) (a : Addr) (o : MO) : Mm := fun b => if b = a then some o else M b
def del (M : Mm) (a : Addr) : Mm := fun b => if b = a then none else M b
theorem zaj {M : Mm} {a : Addr} {o : MO} : put M a o a = some o := by unfold put; rw [if_pos rfl]
theorem za7 {M : Mm} {a b : Addr} {o : MO} (h : b ≠ a) : put M a o b = M b := by unfold put; rw [if_neg h]
theorem zeq {M : Mm} {a : Addr} {o u : MO} : put (put M a o) a u = put M a u := by
 funext b; unfold put; split <;> rfl
theorem zgL {M : Mm} {a : Addr} {o : MO} (h : M a = none) : del (put M a o) a = M := by
 funext b; unfold del put; split
 ·rename_i e; rw [e, h]
 ·rfl
theorem zdY {M : Mm} {a : Addr} : del M a a = none := by unfold del; rw [if_pos rfl]
theorem znM {M : Mm} {a b : Addr} {o u : MO} (h : a ≠ b) : put (put M a o) b u = put (put M b u) a o := by
 funext c
 unfold put
 by_cases h1 : c = b
 ·by_cases h2 : c = a
  ·exact absurd (h2.symm.trans h1) h
  ·rw [if_pos h1, if_neg h2, if_pos h1]
 ·by_cases h2 : c = a
  ·rw [if_neg h1, if_pos h2, if_pos h2]
  ·rw [if_neg h1, if_neg h2, if_neg h2, if_neg h1]
theorem znN {M : Mm} {a : Addr} {o : MO} (h : M a = some o) : put M a o = M := by
 funext b; unfold put; split
 ·rename_i e; rw [e, h]
 ·rfl
def Sub (M M' : Mm) : Prop := ∀ a o, M a = some o → M' a = some o
theorem Sub.refl (M : Mm) : Sub M M := fun _ _ h => h
theorem Sub.trans {M M1 M2 : Mm} (a : Sub M M1) (b : Sub M1 M2) : Sub M M2 := fun c o h => b c o (a c o h)
theorem Sub.new {M : Mm} {a : Addr} {o : MO} (h : M a = none) : Sub M (put M a o) := fun b u e => by
 rw [za7 (fun z => by rw [z, h] at e; cases e)]; exact e
theorem Sub.put {M M' : Mm} {a : Addr} {o : MO} (h : Sub M M') : Sub (put M a o) (put M' a o) := fun b u e => by
 unfold L3.put at e ⊢
 split at e
 ·rename_i z; rw [if_pos z]; exact e
 ·rename_i z; rw [if_neg z]; exact h b u e
theorem Sub.del {M : Mm} {a : Addr} : Sub (del M a) M := fun b u e => by
 unfold L3.del at e
 split at e
 ·cases e
 ·exact e
theorem Sub.non {M M' : Mm} (h : Sub M M') {a : Addr} (e : M' a = none) : M a = none := by
 cases q : M a with
 | none => rfl
 | some o => rw [h a o q] at e; cases e
theorem zpX {M : Mm} {a b : Addr} {o : MO} (h : M a = some o) (h' : M b = none) : a ≠ b := by
 intro e; subst e; rw [h] at h'; cases h'
def SqR (K : PySem.W.Frag) (H : Hp) (a : Addr) (xs : List V) : Prop :=
 (∃ o, H a = some (.frz o (.lst xs))) ∨
  ∃ (o : Obj) (its : Array Value) (n : Nat), K.lookup a = some o ∧ o.cls = .type "list" ∧ o.dict = none ∧ o.data = .seq its n ∧ its.size ≤ sizeLine ∧ Vals xs its.toList
theorem SqR.sq {K : PySem.W.Frag} {H : Hp} {a : Addr} {xs : List V} (h : SqR K H a xs) : SqL K H a xs := by
 rcases h with ⟨o, h⟩ | h
 ·exact .inl (.inr ⟨o, h⟩)
 ·exact .inr h
mutual
inductive AV (K : PySem.W.Frag) (H : Hp) (M : Mm) : V → W → Prop
 | non : AV K H M .non .non
 | bl (b : Bool) : AV K H M (.bl b) (.bl b)
 | int (i : Int) : AV K H M (.int i) (.int i)
 | str (x : Str) : AV K H M (.str x) (.str x)
 | ty (n : String) : AV K H M (.ty n) (.ty n)
 | tup {a : Addr} {xs : List V} {ws : List W} : H a = some (.tup xs) → AVs K H M xs ws → AV K H M (.ref a) (.tup ws)
 | sc {a : Addr} {xs : List V} {ws : List W} : SqR K H a xs → AVs K H M xs ws → AV K H M (.ref a) (.sc ws)
 | rl {a : Addr} {xs : List V} {ws : List W} : H a = some (.lst xs) → M a = none → AVs K H M xs ws → AV K H M (.ref a) (.rl ws)
 | ref (a : Addr) : AV K H M (.ref a) (.ref a)
 | dk {a : Addr} {ks : List (Key × V)} {kvs : List (Key × W)} : H a = some (.dK ks) → M a = none → ks.map Prod.fst = kvs.map Prod.fst → AVs K H M (ks.map Prod.snd) (kvs.map Prod.snd) → AV K H M (.ref a) (.dk kvs)
 | dt {a : Addr} {ks : List (List Key × V)} {kvs : List (List Key × W)} : H a = some (.dT ks) → M a = none → ks.map Prod.fst = kvs.map Prod.fst → AVs K H M (ks.map Prod.snd) (kvs.map Prod.snd) → AV K H M (.ref a) (.dt kvs)
inductive AVs (K : PySem.W.Frag) (H : Hp) (M : Mm) : List V → List W → Prop
 | nil : AVs K H M [] []
 | cons {v : V} {vs : List V} {w : W} {ws : List W} : AV K H M v w → AVs K H M vs ws → AVs K H M (v :: vs) (w :: ws)
end
abbrev PKV (K : PySem.W.Frag) (H : Hp) (M : Mm) (κ : Type) : List (κ × V) → List (κ × W) → Prop := Paired fun p q => p.1 = q.1 ∧ AV K H M p.2 q.2
theorem zgq {K : PySem.W.Frag} {H : Hp} {M : Mm} {κ : Type} : ∀ {ks : List (κ × V)} {kvs : List (κ × W)}, ks.map Prod.fst = kvs.map Prod.fst → AVs K H M (ks.map Prod.snd) (kvs.map Prod.snd) → PKV K H M κ ks kvs
 | [], [], _, _ => .nil
 | [], _ :: _, e, _ => by simp at e
 | _ :: _, [], e, _ => by simp at e
 | p :: ps, q :: qs, e, h => by
  rw [List.map_cons, List.map_cons] at e h
  rw [List.cons.injEq] at e
  cases h with
  | cons x r => exact .cons ⟨e.1, x⟩ (zgq e.2 r)
theorem PKV.keys {K : PySem.W.Frag} {H : Hp} {M : Mm} {κ : Type} {ks : List (κ × V)} {kvs : List (κ × W)} (h : PKV K H M κ ks kvs) : ks.map Prod.fst = kvs.map Prod.fst := by
 induction h with
 | nil => rfl
 | cons r _ ih => rw [List.map_cons, List.map_cons, ih, r.1]
theorem PKV.vals {K : PySem.W.Frag} {H : Hp} {M : Mm} {κ : Type} {ks : List (κ × V)} {kvs : List (κ × W)} (h : PKV K H M κ ks kvs) : AVs K H M (ks.map Prod.snd) (kvs.map Prod.snd) := by
 induction h with
 | nil => exact .nil
 | cons r _ ih => exact .cons r.2 ih
def AO (K : PySem.W.Frag) (H : Hp) (M : Mm) (a : Addr) : MO → Prop
 | .lst ws => ∃ vs, H a = some (.lst vs) ∧ AVs K H M vs ws
 | .dK kvs => ∃ ks, H a = some (.dK ks) ∧ PKV K H M Key ks kvs
 | .dT kvs => ∃ ks, H a = some (.dT ks) ∧ PKV K H M (List Key) ks kvs
 | .fix vs => H a = some (.lst vs)
 | .exc c => H a = some (.ext fun h => ∃ o, h.get? a = some o ∧ o.cls = c)
 | .ins C dx fs => ∃ gs, H a = some (.ins C dx gs) ∧ PKV K H M Str gs fs
 | .dn P w tl kvs => ∃ es, H a = some (.ext (zbW P w tl a es)) ∧ Paired (fun (e : NKey × Addr × V) (p : NKey × W) => e.1 = p.1 ∧ NAt H tl e.1 e.2.1 ∧ AV K H M e.2.2 p.2) es kvs
 | .vw d => H a = some (.ext fun h => h.IsValuesView a d)
def AM (K : PySem.W.Frag) (H : Hp) (M : Mm) : Prop := ∀ a o, M a = some o → AO K H M a o
structure Kp (H : Hp) (M : Mm) (H' : Hp) (M' : Mm) : Prop where
 fr : ∀ a o, M a = none → H a = some o → H' a = some o ∧ M' a = none
 dom : ∀ a o, M a = some o → ∃ u, H' a = some u
structure Go (H : Hp) (M : Mm) (H' : Hp) (M' : Mm) : Prop where
 ht : ∀ b xs, H b = some (.tup xs) → H' b = some (.tup xs)
 hf : ∀ b o u, H b = some (.frz o u) → H' b = some (.frz o u)
 hl : ∀ b o, M b = none → H b = some o → H' b = some o ∧ M' b = none
section
variable {K : PySem.W.Frag} {H H' H1 H2 : Hp} {M M' M1 M2 : Mm} {a : Addr}
theorem AO.has {o : MO} (h : AO K H M a o) : ∃ u, H a = some u := by
 cases o with
 | lst ws => obtain ⟨vs, e, _⟩ := h; exact ⟨_, e⟩
 | dK kvs => obtain ⟨ks, e, _⟩ := h; exact ⟨_, e⟩
 | dT kvs => obtain ⟨ks, e, _⟩ := h; exact ⟨_, e⟩
 | fix vs => exact ⟨_, h⟩
 | exc c => exact ⟨_, h⟩
 | ins C dx fs => obtain ⟨gs, e, _⟩ := h; exact ⟨_, e⟩
 | dn P w tl kvs => obtain ⟨gs, e, _⟩ := h; exact ⟨_, e⟩
 | vw d => exact ⟨_, h⟩
theorem AM.nonM (am : AM K H M) (h : H a = none) : M a = none := by
 cases q : M a with
 | none => rfl
 | some o => obtain ⟨u, e⟩ := (am a o q).has; rw [h] at e; cases e
theorem AM.noTup (am : AM K H M) {xs : List V} (h : H a = some (.tup xs)) : M a = none := by
 cases q : M a with
 | none => rfl
 | some o =>
  have := am a o q
  cases o with
  | lst ws => obtain ⟨vs, e, _⟩ := this; rw [h] at e; cases e
  | dK kvs => obtain ⟨ks, e, _⟩ := this; rw [h] at e; cases e
  | dT kvs => obtain ⟨ks, e, _⟩ := this; rw [h] at e; cases e
  | fix vs => have e : H a = some (.lst vs) := this; rw [h] at e; cases e
  | exc c => have e : H a = some (.ext fun h => ∃ o, h.get? a = some o ∧ o.cls = c) := this; rw [h] at e; cases e
  | ins C dx fs => obtain ⟨gs, e, _⟩ := this; rw [h] at e; cases e
  | dn P w tl kvs => obtain ⟨gs, e, _⟩ := this; rw [h] at e; cases e
  | vw d => have e : H a = some (.ext fun h => h.IsValuesView a d) := this; rw [h] at e; cases e
theorem AM.noFrz (am : AM K H M) {ob : Obj} {u : HO} (h : H a = some (.frz ob u)) : M a = none := by
 cases q : M a with
 | none => rfl
 | some o =>
  have := am a o q
  cases o with
  | lst ws => obtain ⟨vs, e, _⟩ := this; rw [h] at e; cases e
  | dK kvs => obtain ⟨ks, e, _⟩ := this; rw [h] at e; cases e
  | dT kvs => obtain ⟨ks, e, _⟩ := this; rw [h] at e; cases e
  | fix vs => have e : H a = some (.lst vs) := this; rw [h] at e; cases e
  | exc c => have e : H a = some (.ext fun h => ∃ o, h.get? a = some o ∧ o.cls = c) := this; rw [h] at e; cases e
  | ins C dx fs => obtain ⟨gs, e, _⟩ := this; rw [h] at e; cases e
  | dn P w tl kvs => obtain ⟨gs, e, _⟩ := this; rw [h] at e; cases e
  | vw d => have e : H a = some (.ext fun h => h.IsValuesView a d) := this; rw [h] at e; cases e
theorem Kp.refl (am : AM K H M) : Kp H M H M := ⟨fun a o h e => ⟨e, h⟩, fun a o h => (am a o h).has⟩
theorem Kp.trans (x : Kp H M H1 M1) (y : Kp H1 M1 H2 M2) : Kp H M H2 M2 where
 fr := fun a o h e => by
  obtain ⟨e1, n1⟩ := x.fr a o h e
  exact y.fr a o n1 e1
 dom := fun a o h => by
  obtain ⟨u, e⟩ := x.dom a o h
  cases q : M1 a with
  | none => exact ⟨u, (y.fr a u q e).1⟩
  | some o1 => exact y.dom a o1 q
theorem Kp.sub (x : Kp H M H1 M1) (h : Sub M2 M1) : Kp H M H1 M2 where
 fr := fun a o n e => ⟨(x.fr a o n e).1, h.non (x.fr a o n e).2⟩
 dom := x.dom
theorem Kp.go (am : AM K H M) (k : Kp H M H' M') : Go H M H' M' := ⟨fun b xs e => (k.fr b _ (am.noTup e) e).1, fun b o u e => (k.fr b _ (am.noFrz e) e).1, k.fr⟩
theorem Go.sub (h : Sub M' M) : Go H M H M' := ⟨fun _ _ e => e, fun _ _ _ e => e, fun b o n e => ⟨e, h.non n⟩⟩
mutual
theorem AV.go (g : Go H M H' M') : ∀ {v : V} {w : W}, AV K H M v w → AV K H' M' v w
 | _, _, .non => .non
 | _, _, .bl b => .bl b
 | _, _, .int i => .int i
 | _, _, .str x => .str x
 | _, _, .ty n => .ty n
 | _, _, .tup e r => .tup (g.ht _ _ e) (AVs.go g r)
 | _, _, .sc e r => .sc (e.elim (fun ⟨o, q⟩ => .inl ⟨o, g.hf _ _ _ q⟩) .inr) (AVs.go g r)
 | _, _, .rl e n r => .rl (g.hl _ _ n e).1 (g.hl _ _ n e).2 (AVs.go g r)
 | _, _, .ref a => .ref a
 | _, _, .dk e n ke r => .dk (g.hl _ _ n e).1 (g.hl _ _ n e).2 ke (AVs.go g r)
 | _, _, .dt e n ke r => .dt (g.hl _ _ n e).1 (g.hl _ _ n e).2 ke (AVs.go g r)
theorem AVs.go (g : Go H M H' M') : ∀ {vs : List V} {ws : List W}, AVs K H M vs ws → AVs K H' M' vs ws
 | _, _, .nil => .nil
 | _, _, .cons x r => .cons (AV.go g x) (AVs.go g r)
end
theorem PKV.go {κ : Type} {ks : List (κ × V)} {kvs : List (κ × W)} (g : Go H M H' M') (h : PKV K H M κ ks kvs) : PKV K H' M' κ ks kvs := Paired.mapP h fun p q z => ⟨z.1, z.2.go g⟩
theorem AO.go {o : MO} (g : Go H M H' M') (e : H' a = H a) (h : AO K H M a o) : AO K H' M' a o := by
 cases o with
 | lst ws => obtain ⟨vs, e1, r⟩ := h; exact ⟨vs, by rw [e]; exact e1, r.go g⟩
 | dK kvs => obtain ⟨vs, e1, r⟩ := h; exact ⟨vs, by rw [e]; exact e1, r.go g⟩
 | dT kvs => obtain ⟨vs, e1, r⟩ := h; exact ⟨vs, by rw [e]; exact e1, r.go g⟩
 | fix vs => exact e.trans h
 | exc c => exact e.trans h
 | ins C dx fs => obtain ⟨gs, e1, r⟩ := h; exact ⟨gs, by rw [e]; exact e1, r.go g⟩
 | dn P w tl kvs => obtain ⟨gs, e1, r⟩ := h; exact ⟨gs, by rw [e]; exact e1, Paired.mapP r fun p q z => ⟨z.1, let ⟨pa, n1, n2⟩ := z.2.1; ⟨pa, g.ht _ _ n1, g.ht _ _ n2⟩, z.2.2.go g⟩⟩
 | vw d => exact e.trans h
theorem AM.sub (am : AM K H M') (h : Sub M M') : AM K H M := fun a o e => (am a o (h a o e)).go (Go.sub h) rfl
theorem AV.sub (h : Sub M' M) {v : V} {w : W} (x : AV K H M v w) : AV K H M' v w := x.go (Go.sub h)
theorem AVs.sub (h : Sub M' M) {v : List V} {w : List W} (x : AVs K H M v w) : AVs K H M' v w := x.go (Go.sub h)
theorem AV.kp (am : AM K H M) (k : Kp H M H' M') {v : V} {w : W} (h : AV K H M v w) : AV K H' M' v w := h.go (k.go am)
theorem AVs.kp (am : AM K H M) (k : Kp H M H' M') {vs : List V} {ws : List W} (h : AVs K H M vs ws) : AVs K H' M' vs ws := h.go (k.go am)
theorem AVs.length : ∀ {vs : List V} {ws : List W}, AVs K H M vs ws → vs.length = ws.length
 | _, _, .nil => rfl
 | _, _, .cons _ r => by simp [AVs.length r]
theorem AVs.append : ∀ {vs us : List V} {ws zs : List W}, AVs K H M vs ws → AVs K H M us zs → AVs K H M (vs ++ us) (ws ++ zs)
 | _, _, _, _, .nil, s => s
 | _, _, _, _, .cons x r, s => .cons x (AVs.append r s)
theorem AVs.getW : ∀ {vs : List V} {ws : List W} {i : Nat} {w : W}, AVs K H M vs ws → ws[i]? = some w → ∃ v, vs[i]? = some v ∧ AV K H M v w
 | _, _, _, _, .nil, e => by simp at e
 | _, _, 0, _, .cons x _, e => by simp at e; subst e; exact ⟨_, rfl, x⟩
 | _, _, i + 1, w, .cons _ r, e => by
  obtain ⟨v, h1, h2⟩ := AVs.getW (i := i) (w := w) r (by simpa using e)
  exact ⟨v, by simpa using h1, h2⟩
theorem AVs.getV : ∀ {vs : List V} {ws : List W} {i : Nat} {v : V}, AVs K H M vs ws → vs[i]? = some v → ∃ w, ws[i]? = some w ∧ AV K H M v w
 | _, _, _, _, .nil, e => by simp at e
 | _, _, 0, _, .cons x _, e => by simp at e; subst e; exact ⟨_, rfl, x⟩
 | _, _, i + 1, v, .cons _ r, e => by
  obtain ⟨w, h1, h2⟩ := AVs.getV (i := i) (v := v) r (by simpa using e)
  exact ⟨w, by simpa using h1, h2⟩
theorem AVs.set {v : V} {w : W} (x : AV K H M v w) : ∀ {vs : List V} {ws : List W} (i : Nat), AVs K H M vs ws → AVs K H M (vs.set i v) (ws.set i w)
 | _, _, _, .nil => .nil
 | _, _, 0, .cons _ t => .cons x t
 | _, _, i + 1, .cons q t => .cons q (AVs.set x i t)
theorem AVs.take : ∀ {vs : List V} {ws : List W} (n : Nat), AVs K H M vs ws → AVs K H M (vs.take n) (ws.take n)
 | _, _, 0, _ => by simp; exact .nil
 | _, _, _ + 1, .nil => .nil
 | _, _, n + 1, .cons x t => .cons x (AVs.take n t)
theorem AVs.drop : ∀ {vs : List V} {ws : List W} (n : Nat), AVs K H M vs ws → AVs K H M (vs.drop n) (ws.drop n)
 | _, _, 0, h => h
 | _, _, _ + 1, .nil => .nil
 | _, _, n + 1, .cons _ t => AVs.drop n t
theorem AVs.dropLast {vs : List V} {ws : List W} (h : AVs K H M vs ws) : AVs K H M vs.dropLast ws.dropLast := by
 rw [List.dropLast_eq_take, List.dropLast_eq_take, h.length]; exact h.take _
theorem AVs.flatRep {vs : List V} {ws : List W} (h : AVs K H M vs ws) : ∀ n : Nat, AVs K H M (List.replicate n vs).flatten (List.replicate n ws).flatten
 | 0 => .nil
 | n + 1 => by
  rw [List.replicate_succ, List.replicate_succ, List.flatten_cons, List.flatten_cons]
  exact h.append (AVs.flatRep h n)
theorem AVs.int (is : List Int) : AVs K H M (is.map V.int) (is.map W.int) := by
 induction is with
 | nil => exact .nil
 | cons i r ih => exact .cons (.int i) ih
theorem zoV {p : Addr} {u : HO} (hp : H p = none) (hs : ∀ b, b ≠ p → M b = none → M' b = none) : Go H M (upd H p u) M' :=
 ⟨fun b xs e => by rw [zaA (zal e hp)]; exact e, fun b o x e => by rw [zaA (zal e hp)]; exact e, fun b o n e => ⟨by rw [zaA (zal e hp)]; exact e, hs b (zal e hp) n⟩⟩
theorem zoW {p : Addr} {o : MO} {u : HO} (hp : H p = none) : Go H M (upd H p u) (put M p o) := zoV hp fun b ne n => by rw [za7 ne]; exact n
theorem ziW {p : Addr} {u : HO} (hp : H p = none) : Go H M (upd H p u) M := zoV hp fun b ne n => n
theorem AM.laid {p : Addr} {o : MO} {u : HO} (am : AM K H M) (hp : H p = none) (h : AO K (upd H p u) (put M p o) p o) : AM K (upd H p u) (put M p o) ∧ Kp H M (upd H p u) (put M p o) := by
 refine ⟨fun a x e => ?_, fun a x h e => ⟨?_, ?_⟩, fun a x h => ?_⟩
 ·by_cases ha : a = p
  ·subst ha; rw [zaj] at e; cases e; exact h
  ·rw [za7 ha] at e
   exact (am a x e).go (zoW hp) (zaA ha)
 ·rw [zaA (zal e hp)]; exact e
 ·rw [za7 (zal e hp)]; exact h
 ·obtain ⟨y, e⟩ := (am a x h).has
  exact ⟨y, by rw [zaA (zal e hp)]; exact e⟩
theorem zsf {p : Addr} {o u : MO} : Go H (put M p o) H (put M p u) := ⟨fun _ _ e => e, fun _ _ _ e => e, fun b x n e => ⟨e, by
 have ne : b ≠ p := fun z => by rw [z, zaj] at n; cases n
 rw [za7 ne] at n ⊢; exact n⟩⟩
theorem AM.tup {p : Addr} {u : HO} (am : AM K H M) (hp : H p = none) : AM K (upd H p u) M ∧ Kp H M (upd H p u) M := by
 refine ⟨fun a x e => ?_, fun a x h e => ⟨?_, h⟩, fun a x h => ?_⟩
 ·have ne : a ≠ p := fun z => by rw [z, am.nonM hp] at e; cases e
  exact (am a x e).go (ziW hp) (zaA ne)
 ·rw [zaA (zal e hp)]; exact e
 ·obtain ⟨y, e⟩ := (am a x h).has
  exact ⟨y, by rw [zaA (zal e hp)]; exact e⟩
theorem znO {l : Addr} {o0 o : MO} {u : HO} (am : AM K H M) (hl : M l = some o0) : Go H M (upd H l u) (put M l o) :=
 ⟨fun b xs e => by rw [zaA (fun z => by rw [← z, am.noTup e] at hl; cases hl)]; exact e, fun b ob x e => by rw [zaA (fun z => by rw [← z, am.noFrz e] at hl; cases hl)]; exact e,
   fun b x n e => by
  have ne : b ≠ l := fun z => by rw [← z, n] at hl; cases hl
  rw [zaA ne, za7 ne]; exact ⟨e, n⟩⟩
theorem AM.write {l : Addr} {o0 o : MO} {u : HO} (am : AM K H M) (hl : M l = some o0) (h : AO K (upd H l u) (put M l o) l o) : AM K (upd H l u) (put M l o) ∧ Kp H M (upd H l u) (put M l o) := by
 refine ⟨fun a x e => ?_, fun a x h e => ?_, fun a x h => ?_⟩
 ·by_cases ha : a = l
  ·subst ha; rw [zaj] at e; cases e; exact h
  ·rw [za7 ha] at e
   exact (am a x e).go (znO am hl) (zaA ha)
 ·have : a ≠ l := fun z => by rw [z, hl] at h; cases h
  rw [zaA this, za7 this]; exact ⟨e, h⟩
 ·by_cases ha : a = l
  ·subst ha; exact ⟨u, za0⟩
  ·obtain ⟨y, e⟩ := (am a x h).has
   exact ⟨y, by rw [zaA ha]; exact e⟩
theorem AM.lst (am : AM K H M) {ws : List W} (h : M a = some (.lst ws)) : ∃ vs, H a = some (.lst vs) ∧ AVs K H M vs ws := am a _ h
theorem AVs.newT {p : Addr} {u : HO} {vs : List V} {ws : List W} (hp : H p = none) (h : AVs K H M vs ws) : AVs K (upd H p u) M vs ws := h.go (ziW hp)
theorem AVs.newL {p : Addr} {u : HO} {o : MO} {vs : List V} {ws : List W} (hp : H p = none) (h : AVs K H M vs ws) : AVs K (upd H p u) (put M p o) vs ws := h.go (zoW hp)
theorem AVs.wr {l : Addr} {o0 o : MO} {u : HO} {vs : List V} {ws : List W} (am : AM K H M) (hl : M l = some o0) (h : AVs K H M vs ws) : AVs K (upd H l u) (put M l o) vs ws := h.go (znO am hl)
theorem AV.wr {l : Addr} {o0 o : MO} {u : HO} {v : V} {w : W} (am : AM K H M) (hl : M l = some o0) (h : AV K H M v w) : AV K (upd H l u) (put M l o) v w := h.go (znO am hl)
end
abbrev S3 := List (Option W)
abbrev K3 := W → Mm → Prop
abbrev TE3 := S3 → Mm → K3 → Prop
abbrev TT3 := S3 → Mm → (Bool → Mm → Prop) → Prop
abbrev TA3 := S3 → Mm → (List W → Mm → Prop) → Prop
abbrev R3 := W → W → Mm → K3 → Prop
structure D3 where
 nx : S3 → Mm → Prop
 rt : K3
 bk : S3 → Mm → Prop := fun _ _ => False
 ct : S3 → Mm → Prop := fun _ _ => False
abbrev TS3 := D3 → S3 → Mm → Prop
def AS (K : PySem.W.Frag) (H : Hp) (M : Mm) : SV → S3 → Prop := Paired fun ov ow => ∀ w, ow = some w → ∃ v, ov = some v ∧ AV K H M v w
section
variable {K : PySem.W.Frag} {H H' : Hp} {M M' : Mm}
theorem AS.kp (am : AM K H M) (k : Kp H M H' M') {σ : SV} {τ : S3} (h : AS K H M σ τ) : AS K H' M' σ τ :=
 Paired.mapP h fun ov ow z w e => by obtain ⟨v, e1, r⟩ := z w e; exact ⟨v, e1, r.kp am k⟩
theorem AS.sub {M' : Mm} (g : Sub M' M) {σ : SV} {τ : S3} (h : AS K H M σ τ) : AS K H M' σ τ :=
 Paired.mapP h fun ov ow z w e => by obtain ⟨v, e1, r⟩ := z w e; exact ⟨v, e1, r.sub g⟩
theorem AS.get {w : W} : ∀ {σ : SV} {τ : S3} {i : Nat}, AS K H M σ τ → τ[i]? = some (some w) → ∃ v, σ[i]? = some (some v) ∧ AV K H M v w
 | _, _, _, .nil, e => by simp at e
 | _, _, 0, .cons r _, e => by
  simp at e
  obtain ⟨v, h1, h2⟩ := r w e
  exact ⟨v, by rw [h1]; rfl, h2⟩
 | _, _, i + 1, .cons _ t, e => by
  obtain ⟨v, h1, h2⟩ := AS.get (i := i) t (by simpa using e)
  exact ⟨v, by simpa using h1, h2⟩
theorem AS.set {v : V} {w : W} (r : AV K H M v w) : ∀ {σ : SV} {τ : S3} (i : Nat), AS K H M σ τ → AS K H M (σ.set i (some v)) (τ.set i (some w))
 | _, _, _, .nil => .nil
 | _, _, 0, .cons _ t => .cons (fun x e => ⟨v, rfl, by cases e; exact r⟩) t
 | _, _, i + 1, .cons q t => .cons q (AS.set r i t)
theorem AS.nones : ∀ n : Nat, AS K H M (List.replicate n none) (List.replicate n none)
 | 0 => .nil
 | n + 1 => .cons (fun _ e => nomatch e) (AS.nones n)
theorem AS.start {vs : List V} {ws : List W} (h : AVs K H M vs ws) (n : Nat) : AS K H M (vs.map some ++ List.replicate n none) (ws.map some ++ List.replicate n none) := by
 induction vs generalizing ws with
 | nil => cases h; exact AS.nones n
 | cons v vs ih =>
  cases h with
  | cons x r => exact .cons (fun w e => ⟨v, rfl, by cases e; exact x⟩) (ih r)
end
def Up (K : PySem.W.Frag) (H : Hp) (M : Mm) (R : K3) (Q : VK) : Prop := ∀ v H' w M', Kp H M H' M' → AM K H' M' → AV K H' M' v w → R w M' → Q v H'
def up (K : PySem.W.Frag) (t : TE3) : TE := fun σ H Q => ∃ τ M R, AS K H M σ τ ∧ AM K H M ∧ t τ M R ∧ Up K H M R Q
def upT (K : PySem.W.Frag) (t : TT3) : TT := fun σ H Q => ∃ (τ : S3) (M : Mm) (R : Bool → Mm → Prop), AS K H M σ τ ∧ AM K H M ∧ t τ M R ∧ ∀ b H' M', Kp H M H' M' → AM K H' M' → R b M' → Q b H'
def upA (K : PySem.W.Frag) (t : TA3) : TA := fun σ H Q => ∃ (τ : S3) (M : Mm) (R : List W → Mm → Prop), AS K H M σ τ ∧ AM K H M ∧ t τ M R ∧ ∀ vs H' ws M', Kp H M H' M' → AM K H' M' → AVs K H' M' vs ws → R ws M' → Q vs H'
def UpS (K : PySem.W.Frag) (H : Hp) (M : Mm) (R : S3 → Mm → Prop) (Q : SV → Hp → Prop) : Prop := ∀ σ' H' τ' M', Kp H M H' M' → AM K H' M' → AS K H' M' σ' τ' → R τ' M' → Q σ' H'
structure UpD (K : PySem.W.Frag) (H : Hp) (M : Mm) (D : D3) (E : Ends) : Prop where
 nx : UpS K H M D.nx E.nx
 rt : Up K H M D.rt E.rt
 bk : UpS K H M D.bk E.bk
 ct : UpS K H M D.ct E.ct
def upS (K : PySem.W.Frag) (t : TS3) : TS := fun E σ H => ∃ τ M D, AS K H M σ τ ∧ AM K H M ∧ t D τ M ∧ UpD K H M D E
section
variable {K : PySem.W.Frag} {H H1 : Hp} {M M1 : Mm}
theorem Up.kp {R : K3} {Q : VK} (h : Up K H M R Q) (k : Kp H M H1 M1) : Up K H1 M1 R Q := fun v H' w M' k' am av r => h v H' w M' (k.trans k') am av r
theorem UpS.kp {R : S3 → Mm → Prop} {Q : SV → Hp → Prop} (h : UpS K H M R Q) (k : Kp H M H1 M1) : UpS K H1 M1 R Q := fun v H' w M' k' am av r => h v H' w M' (k.trans k') am av r
theorem UpD.kp {D : D3} {E : Ends} (h : UpD K H M D E) (k : Kp H M H1 M1) : UpD K H1 M1 D E := ⟨h.nx.kp k, h.rt.kp k, h.bk.kp k, h.ct.kp k⟩
theorem Up.at {R : K3} {Q : VK} (h : Up K H M R Q) (am : AM K H M) {v : V} {w : W} (av : AV K H M v w) (r : R w M) : Q v H := h v H w M (Kp.refl am) am av r
end
def frz : W → Mm → K3 → Prop
 | .ref p, M, R => (∃ ws, M p = some (.lst ws) ∧ R (.rl ws) (del M p)) ∨ (∃ kvs, M p = some (.dK kvs) ∧ R (.dk kvs) (del M p)) ∨ (∃ kvs, M p = some (.dT kvs) ∧ R (.dt kvs) (del M p)) ∨ R (.ref p) M
 | w, M, R => R w M
theorem Up.frz {K : PySem.W.Frag} {H : Hp} {M : Mm} {R : K3} {Q : VK} (h : Up K H M R Q) : Up K H M (fun w M' => frz w M' R) Q := fun v H' w M' k am av r => by
 have av' := av
 cases av <;> first | exact h _ _ _ _ k am av' r | skip
 case ref p =>
  rcases r with ⟨ws, e, r⟩ | ⟨kvs, e, r⟩ | ⟨kvs, e, r⟩ | r
  ·obtain ⟨vs, f, q⟩ := am.lst e
   exact h _ _ _ _ (k.sub Sub.del) (am.sub Sub.del) (.rl f zdY (q.sub Sub.del)) r
  ·obtain ⟨ks, f, q⟩ := am _ _ e
   exact h _ _ _ _ (k.sub Sub.del) (am.sub Sub.del) (.dk f zdY q.keys (q.vals.sub Sub.del)) r
  ·obtain ⟨ks, f, q⟩ := am _ _ e
   exact h _ _ _ _ (k.sub Sub.del) (am.sub Sub.del) (.dt f zdY q.keys (q.vals.sub Sub.del)) r
  ·exact h _ _ _ _ k am (.ref p) r
theorem zl7 {M : Mm} {p : Addr} {ws : List W} {R : K3} (hp : M p = none) (r : R (.rl ws) M) : frz (.ref p) (put M p (.lst ws)) R := .inl ⟨ws, zaj, by rw [zgL hp]; exact r⟩
theorem znP {M : Mm} {p : Addr} {kvs : List (Key × W)} {R : K3} (hp : M p = none) (r : R (.dk kvs) M) : frz (.ref p) (put M p (.dK kvs)) R := .inr (.inl ⟨kvs, zaj, by rw [zgL hp]; exact r⟩)
def New (ws : List W) (M : Mm) (R : K3) : Prop := ∀ p, M p = none → R (.ref p) (put M p (.lst ws))
def NewK (kvs : List (Key × W)) (M : Mm) (R : K3) : Prop := ∀ p, M p = none → R (.ref p) (put M p (.dK kvs))
def NewT (kvs : List (List Key × W)) (M : Mm) (R : K3) : Prop := ∀ p, M p = none → R (.ref p) (put M p (.dT kvs))
theorem New.frz {M : Mm} {ws : List W} {R : K3} (r : R (.rl ws) M) : New ws M fun w M' => L3.frz w M' R := fun p hp => zl7 hp r
def vFrz (t : TE3) : TE3 := fun τ M R => t τ M fun w M' => frz w M' R
end L3
namespace L2
section
variable {X : Cx}
theorem PE.weak {e : PySem.Expr} {t t' : TE} (h : PE X e t) (k : ∀ σ H Q, t' σ H Q → t σ H Q) : PE X e t' := fun pins s σ H Q I q => h pins s σ H Q I (k σ H Q q)
theorem PT.weak {e : PySem.Expr} {t t' : TT} (h : PT X e t) (k : ∀ σ H Q, t' σ H Q → t σ H Q) : PT X e t' := fun pins s σ H Q I q => h pins s σ H Q I (k σ H Q q)
theorem PW.weak {e : PySem.Expr} {t t' : TT} (h : PW X e t) (k : ∀ σ H Q, t' σ H Q → t σ H Q) : PW X e t' := fun wh pins s σ H Q I q => h wh pins s σ H Q I (k σ H Q q)
theorem PA.weak {es : List PySem.Expr} {t t' : TA} (h : PA X es t) (k : ∀ σ H Q, t' σ H Q → t σ H Q) : PA X es t' := fun pos pins s σ H Q I q => h pos pins s σ H Q I (k σ H Q q)
theorem PS.weak {st : PySem.Stmt} {t t' : TS} (h : PS X st t) (k : ∀ D σ H, t' D σ H → t D σ H) : PS X st t' := fun pins s σ H D I q => h pins s σ H D I (k D σ H q)
theorem PSs.weak {st : List PySem.Stmt} {t t' : TS} (h : PSs X st t) (k : ∀ D σ H, t' D σ H → t D σ H) : PSs X st t' := fun pins s σ H D I q => h pins s σ H D I (k D σ H q)
theorem PO.weak {e : Option PySem.Expr} {t t' : TO} (h : PO X e t) (k : ∀ σ H Q, t' σ H Q → t σ H Q) : PO X e t' := fun pins s σ H Q I q => h pins s σ H Q I (k σ H Q q)
theorem PIfs.weak {es : List PySem.Expr} {t t' : TT} (h : PIfs X es t) (k : ∀ σ H Q, t' σ H Q → t σ H Q) : PIfs X es t' := fun pins s σ H Q I q => h pins s σ H Q I (k σ H Q q)
end
end L2
namespace L3
open PySem PySem.Spec PyProof.Rows L2
abbrev E3 (X : Cx) (e : Expr) (t : TE3) : Prop := PE X e (up X.K t)
abbrev T3 (X : Cx) (e : Expr) (t : TT3) : Prop := PT X e (upT X.K t)
abbrev W3 (X : Cx) (e : Expr) (t : TT3) : Prop := PW X e (upT X.K t)
abbrev A3 (X : Cx) (es : List Expr) (t : TA3) : Prop := PA X es (upA X.K t)
def upO (K : PySem.W.Frag) (r : R3) : R2 := fun x y H Q => ∃ wx wy M R, AM K H M ∧ AV K H M x wx ∧ AV K H M y wy ∧ r wx wy M R ∧ Up K H M R Q
def upU (K : PySem.W.Frag) (r : W → Mm → K3 → Prop) : V → Hp → VK → Prop := fun x H Q => ∃ wx M R, AM K H M ∧ AV K H M x wx ∧ r wx M R ∧ Up K H M R Q
def upC (K : PySem.W.Frag) (r : List W → Mm → K3 → Prop) : List V → Hp → VK → Prop := fun xs H Q => ∃ ws M R, AM K H M ∧ AVs K H M xs ws ∧ r ws M R ∧ Up K H M R Q
def upM (K : PySem.W.Frag) (r : W → List W → Mm → K3 → Prop) : V → List V → Hp → VK → Prop := fun x xs H Q => ∃ wx ws M R, AM K H M ∧ AV K H M x wx ∧ AVs K H M xs ws ∧ r wx ws M R ∧ Up K H M R Q
section
variable {X : Cx} {a b c : Expr} {ta tb tc : TE3} {pos : Pos}
def vVar (i : Nat) : TE3 := fun τ M R => ∃ w, τ[i]? = some (some w) ∧ R w M
def vC (w : W) : TE3 := fun _ M R => R w M
theorem v (i : Nat) {x : Str} {pos : Pos} (hN : X.N[i]? = some x := by rfl) (hv : Vis X.env.scope x := by first | exact Or.inl rfl | exact Or.inr (Or.inl rfl) | exact Or.inr (Or.inr rfl)) (hd : (x == ("__debug__" : Str)) = false := by decide)
  (hcd : (x == ("__classdict__" : Str)) = false := by decide) : E3 X (.Name x pos) (vVar i) := (zrA hN hv hd hcd).weak fun σ H Q ⟨τ, M, R, as, am, ⟨w, e, r⟩, k⟩ => by
 obtain ⟨v, e1, av⟩ := as.get e
 exact ⟨v, e1, k.at am av r⟩
theorem zag {i j pos} : E3 X (.Constant (.int i) j pos) (vC (.int i)) := zrB.weak fun σ H Q ⟨τ, M, R, as, am, r, k⟩ => k.at am (.int i) r
theorem v_bl {b j pos} : E3 X (.Constant (.bool b) j pos) (vC (.bl b)) := ztN.weak fun σ H Q ⟨τ, M, R, as, am, r, k⟩ => k.at am (.bl b) r
theorem zer {j pos} : E3 X (.Constant .none j pos) (vC .non) := zrC.weak fun σ H Q ⟨τ, M, R, as, am, r, k⟩ => k.at am .non r
theorem zbq {x j pos} : E3 X (.Constant (.str x) j pos) (vC (.str x)) := zrD.weak fun σ H Q ⟨τ, M, R, as, am, r, k⟩ => k.at am (.str x) r
theorem zl8 {x : Str} {y : V} {w : W} {u : Value} {pos : Pos} (hg : Gl X x) (hm : X.mg x = some u) (r : RelV y u) (hw : ∀ H M, AV X.K H M y w) (hd : (x == ("__debug__" : Str)) = false := by decide) : E3 X (.Name x pos) (vC w) :=
 (zpw hg hm r hd).weak fun σ H Q ⟨τ, M, R, as, am, r, k⟩ => k.at am (hw H M) r
theorem zgr {x : Str} {y : V} {w : W} {u : Value} {pos : Pos} (hg : Gl X x) (hm : X.mg x = none) (hv : bootBuiltins x = some u) (r : RelV y u) (hw : ∀ H M, AV X.K H M y w) (hn : x ≠ "__name__" := by decide) (hd : (x == ("__debug__" : Str)) = false := by decide) : E3 X (.Name x pos) (vC w) :=
 (zpx hg hm hv r hn hd).weak fun σ H Q ⟨τ, M, R, as, am, r, k⟩ => k.at am (hw H M) r
theorem zhC (ha : E3 X a ta) : E3 X a (vFrz ta) := ha.weak fun σ H Q ⟨τ, M, R, as, am, h, k⟩ => ⟨τ, M, _, as, am, h, k.frz⟩
def vOp (r : R3) (ta tb : TE3) : TE3 := fun τ M R => ta τ M fun x M1 => tb τ M1 fun y M2 => r x y M2 R
theorem zhD {K : PySem.W.Frag} {r : R3} {σ : SV} {H : Hp} {Q : VK} (h : up K (vOp r ta tb) σ H Q) : tOp (upO K r) (up K ta) (up K tb) σ H Q := by
 obtain ⟨τ, M, R, as, am, h, k⟩ := h
 refine ⟨τ, M, _, as, am, h, fun x H1 wx M1 k1 am1 ax h1 => ⟨τ, M1, _, as.kp am k1, am1, h1, fun y H2 wy M2 k2 am2 ay h2 => ?_⟩⟩
 exact ⟨wx, wy, M2, R, am2, ax.kp am1 k2, ay, h2, (k.kp k1).kp k2⟩
theorem v_op {op : Operator} {r : R3} (ho : OpR X (binaryOp op) (upO X.K r)) (ha : E3 X a ta) (hb : E3 X b tb) : E3 X (.BinOp a op b pos) (vOp r ta tb) := (ztW ho ha hb).weak fun _ _ _ h => zhD h
theorem ziX {op : CmpOp} {r : R3} (ho : OpR X (compareOp op) (upO X.K r)) (ha : E3 X a ta) (hb : E3 X b tb) (hm : behindInMarks op b = false) : E3 X (.Compare a [op] [b] pos) (vOp r ta tb) := (zpE ho ha hb hm).weak fun _ _ _ h => zhD h
def zaK (t : TE3) : TT3 := fun τ M Q => t τ M fun w M' => ∃ k, w = .bl k ∧ Q k M'
theorem AV.bl_inv {K : PySem.W.Frag} {H : Hp} {M : Mm} {v : V} {k : Bool} (h : AV K H M v (.bl k)) : v = .bl k := by cases h; rfl
theorem zaY {op : CmpOp} {r : R3} (ho : OpR X (compareOp op) (upO X.K r)) (ha : E3 X a ta) (hb : E3 X b tb) (hm : behindInMarks op b = false) : T3 X (.Compare a [op] [b] pos) (zaK (vOp r ta tb)) :=
 (zpF ho ha hb hm).weak fun σ H Q ⟨τ, M, R, as, am, h, k⟩ => zhD ⟨τ, M, _, as, am, h, fun v H' w M' k' am' av ⟨c, e, r⟩ => by
  subst e
  exact ⟨c, av.bl_inv, k c H' M' k' am' r⟩⟩
def vUn (r : W → Mm → K3 → Prop) (ta : TE3) : TE3 := fun τ M R => ta τ M fun x M1 => r x M1 R
theorem v_un {op : UnaryOp} {r : W → Mm → K3 → Prop} (ho : UnR X (unaryOp op) (upU X.K r)) (ha : E3 X a ta) : E3 X (.UnaryOp op a pos) (vUn r ta) :=
 (ztX ho ha).weak fun σ H Q ⟨τ, M, R, as, am, h, k⟩ => ⟨τ, M, _, as, am, h, fun x H1 wx M1 k1 am1 ax h1 => ⟨wx, M1, R, am1, ax, h1, k.kp k1⟩⟩
def vTru : W → Mm → (Bool → Mm → Prop) → Prop
 | .non, M, Q => Q false M
 | .bl b, M, Q => Q b M
 | .int i, M, Q => Q (i != 0) M
 | .str y, M, Q => y.length ≤ sizeLine ∧ Q ((y.length : Int) != 0) M
 | .tup ws, M, Q => Q (!ws.isEmpty) M
 | .rl ws, M, Q => Q (!ws.isEmpty) M
 | .sc ws, M, Q => Q (!ws.isEmpty) M
 | .dk kvs, M, Q => Q (!kvs.isEmpty) M
 | .ref p, M, Q => (∃ ws, M p = some (.lst ws) ∧ Q (!ws.isEmpty) M) ∨ ∃ kvs, M p = some (.dK kvs) ∧ Q (!kvs.isEmpty) M
 | _, _, _ => False
def zb1 (t : TE3) : TT3 := fun τ M Q => t τ M fun w M' => vTru w M' Q
theorem AVs.empty {K : PySem.W.Frag} {H : Hp} {M : Mm} {vs : List V} {ws : List W} (h : AVs K H M vs ws) : (!ws.isEmpty) = !vs.isEmpty := by cases h <;> rfl
theorem zdZ (ha : E3 X a ta) (he : ∀ whole, isTrue a X.env whole = (do let v ← whole; standAt a.pos; holding [v] (truthy v)) := by intro _; rfl) : T3 X a (zb1 ta) :=
 (znA ha he).weak fun σ H Q ⟨τ, M, R, as, am, h, k⟩ => ⟨τ, M, _, as, am, h, fun v H' w M' k' am' av r => by
  cases av with
  | non => exact ⟨false, rfl, k _ _ _ k' am' r⟩
  | bl b => exact ⟨b, rfl, k _ _ _ k' am' r⟩
  | int i => exact ⟨_, rfl, k _ _ _ k' am' r⟩
  | str y => exact ⟨_, ⟨r.1, rfl⟩, k _ _ _ k' am' r.2⟩
  | ty n => exact (show False from r).elim
  | tup e q => exact ⟨_, .inr (.inl ⟨_, SqT.of e, q.empty⟩), k _ _ _ k' am' r⟩
  | rl e n q => exact ⟨_, .inl ⟨_, SqL.of e, q.empty⟩, k _ _ _ k' am' r⟩
  | sc e q => exact ⟨_, .inl ⟨_, e.sq, q.empty⟩, k _ _ _ k' am' r⟩
  | @dk a ks kvs e n ke q => exact ⟨!kvs.isEmpty, .inr (.inr ⟨_, e, by have := zgq ke q; cases this <;> rfl⟩), k _ _ _ k' am' r⟩
  | dt e n ke q => exact (show False from r).elim
  | ref p =>
   rcases r with ⟨ws, e, r⟩ | ⟨kvs, e, r⟩
   ·obtain ⟨vs, e1, q⟩ := am'.lst e
    exact ⟨_, .inl ⟨_, SqL.of e1, q.empty⟩, k _ _ _ k' am' r⟩
   ·obtain ⟨ks, e1, q⟩ := am' _ _ e
    exact ⟨!kvs.isEmpty, .inr (.inr ⟨_, e1, by cases q <;> rfl⟩), k _ _ _ k' am' r⟩⟩
def vAnd (t u : TT3) : TT3 := fun τ M Q => t τ M fun c M1 => if c = true then u τ M1 Q else Q false M1
def vOr (t u : TT3) : TT3 := fun τ M Q => t τ M fun c M1 => if c = true then Q true M1 else u τ M1 Q
def vNot (t : TT3) : TT3 := fun τ M Q => t τ M fun c M1 => Q (!c) M1
variable {tA tB' : TT3} {rest : List Expr}
theorem zd0 (ha : T3 X a tA) : W3 X (.BoolOp .And [a] pos) tA := zpy ha
theorem zhE (ha : T3 X a tA) : W3 X (.BoolOp .Or [a] pos) tA := zrE ha
theorem zfs (ha : T3 X a tA) (hb : W3 X (.BoolOp .And (b :: rest) pos) tB') : W3 X (.BoolOp .And (a :: b :: rest) pos) (vAnd tA tB') :=
 (zrF ha hb).weak fun σ H Q ⟨τ, M, R, as, am, h, k⟩ => ⟨τ, M, _, as, am, h, fun c H1 M1 k1 am1 h1 => by
  cases c with
  | true => exact ⟨τ, M1, R, as.kp am k1, am1, h1, fun b H' M' k' am' r => k b H' M' (k1.trans k') am' r⟩
  | false => exact k false H1 M1 k1 am1 h1⟩
theorem t_or (ha : T3 X a tA) (hb : W3 X (.BoolOp .Or (b :: rest) pos) tB') : W3 X (.BoolOp .Or (a :: b :: rest) pos) (vOr tA tB') :=
 (ztO ha hb).weak fun σ H Q ⟨τ, M, R, as, am, h, k⟩ => ⟨τ, M, _, as, am, h, fun c H1 M1 k1 am1 h1 => by
  cases c with
  | true => exact k true H1 M1 k1 am1 h1
  | false => exact ⟨τ, M1, R, as.kp am k1, am1, h1, fun b H' M' k' am' r => k b H' M' (k1.trans k') am' r⟩⟩
theorem zpY (ha : T3 X a tA) : T3 X (.UnaryOp .Not a pos) (vNot tA) :=
 (zrG ha).weak fun σ H Q ⟨τ, M, R, as, am, h, k⟩ => ⟨τ, M, _, as, am, h, fun c H1 M1 k1 am1 h1 => k (!c) H1 M1 k1 am1 h1⟩
def zf9 (ta tb : TE3) : TE3 := fun τ M R => ta τ M fun x M1 => ∃ c, x = .bl c ∧ if c = true then tb τ M1 R else R (.bl false) M1
def vOrV (ta tb : TE3) : TE3 := fun τ M R => ta τ M fun x M1 => ∃ c, x = .bl c ∧ if c = true then R (.bl true) M1 else tb τ M1 R
def znQ (ta : TE3) : TE3 := fun τ M R => ta τ M fun x M1 => ∃ c, x = .bl c ∧ R (.bl (!c)) M1
theorem zhF {op} (h : E3 X a ta) : E3 X (.BoolOp op [a] pos) ta := zrH h
theorem ziY (ha : E3 X a ta) (hb : E3 X (.BoolOp .And (b :: rest) pos) tb) : E3 X (.BoolOp .And (a :: b :: rest) pos) (zf9 ta tb) :=
 (zrI ha hb).weak fun σ H Q ⟨τ, M, R, as, am, h, k⟩ => ⟨τ, M, _, as, am, h, fun x H1 wx M1 k1 am1 ax ⟨c, e, h1⟩ => by
  subst e
  refine ⟨c, ax.bl_inv, ?_⟩
  cases c with
  | true => exact ⟨τ, M1, R, as.kp am k1, am1, h1, k.kp k1⟩
  | false => exact (k.kp k1).at am1 (.bl false) h1⟩
theorem v_or (ha : E3 X a ta) (hb : E3 X (.BoolOp .Or (b :: rest) pos) tb) : E3 X (.BoolOp .Or (a :: b :: rest) pos) (vOrV ta tb) :=
 (ztR ha hb).weak fun σ H Q ⟨τ, M, R, as, am, h, k⟩ => ⟨τ, M, _, as, am, h, fun x H1 wx M1 k1 am1 ax ⟨c, e, h1⟩ => by
  subst e
  refine ⟨c, ax.bl_inv, ?_⟩
  cases c with
  | true => exact (k.kp k1).at am1 (.bl true) h1
  | false => exact ⟨τ, M1, R, as.kp am k1, am1, h1, k.kp k1⟩⟩
theorem zsg (ha : E3 X a ta) : E3 X (.UnaryOp .Not a pos) (znQ ta) :=
 (zrJ ha).weak fun σ H Q ⟨τ, M, R, as, am, h, k⟩ => ⟨τ, M, _, as, am, h, fun x H1 wx M1 k1 am1 ax ⟨c, e, h1⟩ => by
  subst e
  exact ⟨c, ax.bl_inv, (k.kp k1).at am1 (.bl _) h1⟩⟩
def vIf (t : TT3) (ta tb : TE3) : TE3 := fun τ M R => t τ M fun c M1 => if c = true then ta τ M1 R else tb τ M1 R
theorem v_if {c : Expr} (hc : T3 X c tA) (ha : E3 X a ta) (hb : E3 X b tb) : E3 X (.IfExp c a b pos) (vIf tA ta tb) :=
 (znu hc ha hb).weak fun σ H Q ⟨τ, M, R, as, am, h, k⟩ => ⟨τ, M, _, as, am, h, fun c H1 M1 k1 am1 h1 => by
  cases c with
  | true => exact ⟨τ, M1, R, as.kp am k1, am1, h1, k.kp k1⟩
  | false => exact ⟨τ, M1, R, as.kp am k1, am1, h1, k.kp k1⟩⟩
def aNil : TA3 := fun _ M R => R [] M
def zac (ta : TE3) (tr : TA3) : TA3 := fun τ M R => ta τ M fun x M1 => tr τ M1 fun xs M2 => R (x :: xs) M2
variable {e : Expr} {es : List Expr} {te : TE3} {t : TA3}
theorem zae : A3 X [] aNil := zoN.weak fun σ H Q ⟨τ, M, R, as, am, h, k⟩ => k [] H [] M (Kp.refl am) am .nil h
theorem zab (ha : E3 X e te) (hr : A3 X es t) (hs : starEach (e :: es) X.env = (false, eval e X.env) :: starEach es X.env := by rfl) : A3 X (e :: es) (zac te t) :=
 (zlP ha hr hs).weak fun σ H Q ⟨τ, M, R, as, am, h, k⟩ => ⟨τ, M, _, as, am, h, fun x H1 wx M1 k1 am1 ax h1 => ⟨τ, M1, _, as.kp am k1, am1, h1, fun xs H2 ws M2 k2 am2 axs h2 =>
  k (x :: xs) H2 (wx :: ws) M2 (k1.trans k2) am2 (.cons (ax.kp am1 k2) axs) h2⟩⟩
def vTup (t : TA3) : TE3 := fun τ M R => t τ M fun ws M1 => ws.length ≤ sizeLine ∧ R (.tup ws) M1
def vLst (t : TA3) : TE3 := fun τ M R => t τ M fun ws M1 => ws.length ≤ sizeLine ∧ New ws M1 R
theorem laidT {K : PySem.W.Frag} {H : Hp} {M : Mm} {R : K3} {Q : VK} {p : Addr} {xs : List V} {ws : List W} (am : AM K H M) (k : Up K H M R Q) (hp : H p = none) (ax : AVs K H M xs ws) (r : R (.tup ws) M) : Q (.ref p) (upd H p (.tup xs)) := by
 obtain ⟨am2, k2⟩ := am.tup (u := .tup xs) hp
 exact k _ _ _ _ k2 am2 (.tup za0 (ax.newT hp)) r
theorem zcX {K : PySem.W.Frag} {H : Hp} {M : Mm} {R : K3} {Q : VK} {p : Addr} {xs : List V} {ws : List W} (am : AM K H M) (k : Up K H M R Q) (hp : H p = none) (ax : AVs K H M xs ws) (r : ∀ p, M p = none → R (.ref p) (put M p (.lst ws))) : Q (.ref p) (upd H p (.lst xs)) := by
 obtain ⟨am2, k2⟩ := am.laid (o := .lst ws) (u := .lst xs) hp ⟨xs, za0, ax.newL hp⟩
 exact k _ _ _ _ k2 am2 (.ref p) (r p (am.nonM hp))
theorem zoX {K : PySem.W.Frag} {H : Hp} {M : Mm} {R : K3} {Q : VK} {l : Addr} {xs : List V} {ws ws0 : List W} {y : V} {w : W} (am : AM K H M) (k : Up K H M R Q) (hl : M l = some (.lst ws0)) (ax : AVs K H M xs ws) (ay : AV K H M y w) (r : R w (put M l (.lst ws))) : Q y (upd H l (.lst xs)) := by
 obtain ⟨am2, k2⟩ := am.write (o := .lst ws) (u := .lst xs) hl ⟨xs, za0, ax.wr am hl⟩
 exact k _ _ _ _ k2 am2 (ay.wr am hl) r
theorem zga {x1} (h : A3 X es t) : E3 X (.Tuple es x1 pos) (vTup t) :=
 (zrX h).weak fun σ H Q ⟨τ, M, R, as, am, h, k⟩ => ⟨τ, M, _, as, am, h, fun xs H1 ws M1 k1 am1 axs ⟨hl, r⟩ => ⟨by rw [axs.length]; exact hl, fun p hp => laidT am1 (k.kp k1) hp axs r⟩⟩
theorem zd1 (h : A3 X es t) : E3 X (.List es pos) (vLst t) :=
 (zoO h).weak fun σ H Q ⟨τ, M, R, as, am, h, k⟩ => ⟨τ, M, _, as, am, h, fun xs H1 ws M1 k1 am1 axs ⟨hl, r⟩ => ⟨by rw [axs.length]; exact hl, fun p hp => zcX am1 (k.kp k1) hp axs r⟩⟩
def vCB (r : List W → Mm → K3 → Prop) (t : TA3) : TE3 := fun τ M R => t τ M fun ws M1 => r ws M1 R
variable {x : Str} {p : Pos} {id T : String} {r : List W → Mm → K3 → Prop}
theorem zoY {K : PySem.W.Frag} {σ : SV} {H : Hp} {Q : VK} (h : up K (vCB r t) σ H Q) : tCB (upC K r) (upA K t) σ H Q := by
 obtain ⟨τ, M, R, as, am, h, k⟩ := h
 exact ⟨τ, M, _, as, am, h, fun xs H1 ws M1 k1 am1 axs h1 => ⟨ws, M1, R, am1, axs, h1, k.kp k1⟩⟩
theorem zav (hc : zcf X (.builtin id) (upC X.K r)) (hg : Gl X x) (hm : X.mg x = none) (hv : bootBuiltins x = some (.builtin id)) (ha : A3 X (e :: es) t) (hn : x ≠ "__name__" := by decide) (hdb : (x == ("__debug__" : Str)) = false := by decide)
  (hs : starEach (e :: es) X.env = (false, eval e X.env) :: starEach es X.env := by rfl) (hpl : (backTo pos (starEach es X.env)).any (·.1) = false := by rfl) : E3 X (.Call (.Name x p) (e :: es) [] pos) (vCB r t) := (znB hc hg hm hv ha hn hdb hs hpl).weak fun _ _ _ h => zoY h
theorem zb0 (hc : zcf X (.type T) (upC X.K r)) (hg : Gl X x) (hm : X.mg x = none) (hv : bootBuiltins x = some (.type T)) (ha : A3 X (e :: es) t) (hn : x ≠ "__name__" := by decide) (hdb : (x == ("__debug__" : Str)) = false := by decide)
  (hs : starEach (e :: es) X.env = (false, eval e X.env) :: starEach es X.env := by rfl) (hpl : (backTo pos (starEach es X.env)).any (·.1) = false := by rfl) : E3 X (.Call (.Name x p) (e :: es) [] pos) (vCB r t) := (zlR hc hg hm hv ha hn hdb hs hpl).weak fun _ _ _ h => zoY h
abbrev Sp3 := List W → Mm → K3 → Prop
def upSp (K : PySem.W.Frag) (sp : Sp3) : Sp := fun vs H Q _ => ∃ ws M R, AM K H M ∧ AVs K H M vs ws ∧ sp ws M R ∧ Up K H M R Q
variable {k : Nat} {f : Addr} {fd : FuncData} {ps : List Str} {sp : Sp3}
def zbC (sp : Sp3) (t : TA3) : TE3 := fun τ M R => t τ M fun ws M1 => sp ws M1 R
theorem znR {K : PySem.W.Frag} {σ : SV} {H : Hp} {Q : VK} (h : up K (zbC sp t) σ H Q) : zrY (upSp K sp) [] E0 (upA K t) σ H Q := by
 obtain ⟨τ, M, R, as, am, h, k⟩ := h
 exact ⟨τ, M, _, as, am, h, fun xs H1 ws M1 k1 am1 axs h1 => ⟨ws, M1, R, am1, by rw [List.append_nil]; exact axs, h1, k.kp k1⟩⟩
theorem zbd (F : FnOk X.prog X.w X.K X.mg X.base CX0 k f fd ps (upSp X.K sp)) (hr : Room k X.A) (hg : Gl X x) (hm : X.mg x = some (.ref f)) (hk : PySem.W.keepIn X.K (.ref f) = true) (hb : zf7 X.K fd ps [])
  (ha : A3 X (e :: es) t) (hdb : (x == ("__debug__" : Str)) = false := by decide) (he : starEach (e :: es) X.env = (false, eval e X.env) :: starEach es X.env := by rfl) (hpl : (backTo pos (starEach es X.env)).any (·.1) = false := by rfl) :
  E3 X (.Call (.Name x p) (e :: es) [] pos) (zbC sp t) := (zlQ F hr hg hm hk hb .nil zt8 ha hdb he hpl).weak fun _ _ _ h => znR h
def tyW (T : String) : W → Mm → Prop
 | .str _, _ => T = "str"
 | .int _, _ => T = "int"
 | .rl _, _ => T = "list"
 | .sc _, _ => T = "list"
 | .dk _, _ => T = "dict"
 | .dt _, _ => T = "dict"
 | .ref p, M => (T = "list" ∧ ∃ ws, M p = some (.lst ws)) ∨ (T = "dict" ∧ ((∃ kvs, M p = some (.dK kvs)) ∨ ∃ kvs, M p = some (.dT kvs)))
 | _, _ => False
theorem zjY {K : PySem.W.Frag} {H : Hp} {M : Mm} {v : V} {w : W} (am : AM K H M) (av : AV K H M v w) (h : tyW T w M) : tyV K T v H := by
 cases av with
 | str y => exact h
 | int i => exact h
 | rl e n q => exact .inl ⟨h, _, SqL.of e⟩
 | sc e q => exact .inl ⟨h, _, e.sq⟩
 | dk e n ke q => exact .inr (.inr (.inl ⟨h, .inl ⟨_, e⟩⟩))
 | dt e n ke q => exact .inr (.inr (.inl ⟨h, .inr ⟨_, e⟩⟩))
 | ref p =>
  rcases h with ⟨e, ws, h⟩ | ⟨e, h⟩
  ·obtain ⟨vs, e1, _⟩ := am.lst h
   exact .inl ⟨e, vs, SqL.of e1⟩
  ·refine .inr (.inr (.inl ⟨e, ?_⟩))
   rcases h with ⟨kvs, h⟩ | ⟨kvs, h⟩
   ·obtain ⟨ks, e1, _⟩ := am _ _ h; exact .inl ⟨ks, e1⟩
   ·obtain ⟨ks, e1, _⟩ := am _ _ h; exact .inr ⟨ks, e1⟩
 | non => exact h.elim
 | bl b => exact h.elim
 | ty n => exact h.elim
 | tup e q => exact h.elim
variable {o : Expr} {to : TE3} {name : Str} {apos cpos : Pos} {rm : W → List W → Mm → K3 → Prop}
def vBM0 (T : String) (r : W → List W → Mm → K3 → Prop) (to : TE3) : TE3 := fun τ M R => to τ M fun x M1 => tyW T x M1 ∧ r x [] M1 R
def vBM (T : String) (r : W → List W → Mm → K3 → Prop) (to : TE3) (t : TA3) : TE3 := fun τ M R => to τ M fun x M1 => tyW T x M1 ∧ t τ M1 fun xs M2 => r x xs M2 R
theorem zpZ (pa : PlainAttrs T) (slot : Slot T name id) (hty : typeOf (.builtin id) = pure (.type "method_descriptor")) (hm : MtR X id (upM X.K rm)) (ho : E3 X o to)
  (hbase : attributeBase o name X.env (eval o X.env) = eval o X.env := by rfl) (hline : (apos.endLine == cpos.line) = true := by rfl) : E3 X (.Call (.Attribute o name apos) [] [] cpos) (vBM0 T rm to) :=
 (zr6 pa slot hty hm ho hbase hline).weak fun σ H Q ⟨τ, M, R, as, am, h, k⟩ => ⟨τ, M, _, as, am, h, fun x H1 wx M1 k1 am1 ax ⟨ty, h1⟩ => ⟨zjY am1 ax ty, wx, [], M1, R, am1, ax, .nil, h1, k.kp k1⟩⟩
theorem v_bm (pa : PlainAttrs T) (slot : Slot T name id) (hty : typeOf (.builtin id) = pure (.type "method_descriptor")) (hm : MtR X id (upM X.K rm)) (ho : E3 X o to) (ha : A3 X (e :: es) t)
  (hbase : attributeBase o name X.env (eval o X.env) = eval o X.env := by rfl)
  (hfew : ((backTo cpos (starEach (e :: es) X.env)).all (fun x => !x.1) && (backToKw cpos (keywordEach [] X.env)).all (fun x => x.1.isSome)
   && decide ((e :: es).length + ([] : List Keyword).length + (if ([] : List Keyword).isEmpty then 0 else 1) < 30)) = true := by rfl)
  (hline : (apos.endLine == cpos.line) = true := by rfl) (hs : starEach (e :: es) X.env = (false, eval e X.env) :: starEach es X.env := by rfl) (hplain : (backTo cpos (starEach es X.env)).any (·.1) = false := by rfl) :
  E3 X (.Call (.Attribute o name apos) (e :: es) [] cpos) (vBM T rm to t) :=
 (zr7 pa slot hty hm ho ha hbase hfew hline hs hplain).weak fun σ H Q ⟨τ, M, R, as, am, h, k⟩ => ⟨τ, M, _, as, am, h, fun x H1 wx M1 k1 am1 ax ⟨ty, h1⟩ => ⟨zjY am1 ax ty, τ, M1, _, as.kp am k1, am1, h1, fun xs H2 ws M2 k2 am2 axs h2 =>
  ⟨wx, ws, M2, R, am2, ax.kp am1 k2, axs, h2, (k.kp k1).kp k2⟩⟩⟩
end
end L3
namespace L3
open PySem PySem.Spec PyProof.Rows L2
section
variable {X : Cx}
def rAdd : R3
 | .int i, .int j, M, R => R (.int (i + j)) M
 | .str i, .str j, M, R => i.length + j.length ≤ sizeLine ∧ R (.str (i ++ j)) M
 | .tup xs, .tup ys, M, R => xs ≠ [] ∧ xs.length + ys.length ≤ sizeLine ∧ R (.tup (xs ++ ys)) M
 | .ref a, .ref b, M, R => ∃ xs ys, M a = some (.lst xs) ∧ M b = some (.lst ys) ∧ xs.length + ys.length ≤ sizeLine ∧ New (xs ++ ys) M R
 | .rl xs, .ref b, M, R => ∃ ys, M b = some (.lst ys) ∧ xs.length + ys.length ≤ sizeLine ∧ New (xs ++ ys) M R
 | .ref a, .rl ys, M, R => ∃ xs, M a = some (.lst xs) ∧ xs.length + ys.length ≤ sizeLine ∧ New (xs ++ ys) M R
 | .rl xs, .rl ys, M, R => xs.length + ys.length ≤ sizeLine ∧ New (xs ++ ys) M R
 | _, _, _, _ => False
theorem zsh : OpR X (binaryOp .Add) (upO X.K rAdd) := by
 rintro pins s σ H x y v u Q I rx ry ⟨wx, wy, M, R, am, ax, ay, h, k⟩
 cases ax <;> cases ay <;> first | exact (show False from h).elim | skip
 case int.int i j => exact zrP pins s σ H _ _ v u Q I rx ry ⟨i, j, rfl, rfl, k.at am (.int _) h⟩
 case str.str i j => exact zkM pins s σ H _ _ v u Q I rx ry ⟨i, j, rfl, rfl, h.1, k.at am (.str _) h.2⟩
 case tup.tup a xs ws e q b ys zs e2 q2 =>
  refine zpL pins s σ H _ _ v u Q I rx ry ⟨a, b, xs, ys, rfl, rfl, SqT.of e, SqT.of e2, fun z => ?_, by rw [q.length, q2.length]; exact h.2.1, fun z => ?_, fun _ p hp => ?_⟩
  ·subst z; cases q; exact h.1 rfl
  ·subst z; cases q2
   have := h.2.2
   rw [List.append_nil] at this
   exact k.at am (.tup e q) this
  ·exact laidT am k hp (q.append q2) h.2.2
 case ref.ref a b =>
  obtain ⟨xs, ys, e1, e2, hl, r⟩ := h
  obtain ⟨vs, f1, q1⟩ := am.lst e1
  obtain ⟨us, f2, q2⟩ := am.lst e2
  exact zjS pins s σ H _ _ v u Q I rx ry ⟨a, b, vs, us, rfl, rfl, f1, f2, by rw [q1.length, q2.length]; exact hl, fun p hp => zcX am k hp (q1.append q2) r⟩
 case rl.ref a vs xs f1 _ q1 b =>
  obtain ⟨ys, e2, hl, r⟩ := h
  obtain ⟨us, f2, q2⟩ := am.lst e2
  exact zjS pins s σ H _ _ v u Q I rx ry ⟨a, b, vs, us, rfl, rfl, f1, f2, by rw [q1.length, q2.length]; exact hl, fun p hp => zcX am k hp (q1.append q2) r⟩
 case ref.rl a b us ys f2 _ q2 =>
  obtain ⟨xs, e1, hl, r⟩ := h
  obtain ⟨vs, f1, q1⟩ := am.lst e1
  exact zjS pins s σ H _ _ v u Q I rx ry ⟨a, b, vs, us, rfl, rfl, f1, f2, by rw [q1.length, q2.length]; exact hl, fun p hp => zcX am k hp (q1.append q2) r⟩
 case rl.rl a vs xs f1 _ q1 b us ys f2 _ q2 =>
  exact zjS pins s σ H _ _ v u Q I rx ry ⟨a, b, vs, us, rfl, rfl, f1, f2, by rw [q1.length, q2.length]; exact h.1, fun p hp => zcX am k hp (q1.append q2) h.2⟩
def rII (C : Int → Int → Prop) (g : Int → Int → W) : R3
 | .int i, .int j, M, R => C i j ∧ R (g i j) M
 | _, _, _, _ => False
theorem o_II {f : Value → Value → Sem Value} {C : Int → Int → Prop} {g : Int → Int → V} {g' : Int → Int → W} (h0 : OpR X f (rI C g)) (hg : ∀ H M i j, AV X.K H M (g i j) (g' i j)) : OpR X f (upO X.K (rII C g')) := by
 rintro pins s σ H x y v u Q I rx ry ⟨wx, wy, M, R, am, ax, ay, h, k⟩
 cases ax <;> cases ay <;> first | exact (show False from h).elim | skip
 case int.int i j => exact h0 pins s σ H _ _ v u Q I rx ry ⟨i, j, rfl, rfl, h.1, k.at am (hg H M i j) h.2⟩
def rII0 (g : Int → Int → W) : R3
 | .int i, .int j, M, R => R (g i j) M
 | _, _, _, _ => False
theorem zsi {f : Value → Value → Sem Value} {g : Int → Int → V} {g' : Int → Int → W} (h0 : OpR X f (rI0 g)) (hg : ∀ H M i j, AV X.K H M (g i j) (g' i j)) : OpR X f (upO X.K (rII0 g')) := by
 rintro pins s σ H x y v u Q I rx ry ⟨wx, wy, M, R, am, ax, ay, h, k⟩
 cases ax <;> cases ay <;> first | exact (show False from h).elim | skip
 case int.int i j => exact h0 pins s σ H _ _ v u Q I rx ry ⟨i, j, rfl, rfl, k.at am (hg H M i j) h⟩
abbrev rSub : R3 := rII0 fun i j => .int (i - j)
theorem znS : OpR X (binaryOp .Sub) (upO X.K rSub) := zsi zrQ fun _ _ _ _ => .int _
abbrev zd2 : R3 := rII zl1 fun i j => .int (i / j)
theorem zc3 : OpR X (binaryOp .FloorDiv) (upO X.K zd2) := o_II znK fun _ _ _ _ => .int _
abbrev rMod : R3 := rII (fun _ j => 0 < j) fun i j => .int (i % j)
theorem zcY : OpR X (binaryOp .Mod) (upO X.K rMod) := o_II zrS fun _ _ _ _ => .int _
abbrev rPow : R3 := rII CPow fun i j => .int (i ^ j.toNat)
theorem zsj : OpR X (binaryOp .Pow) (upO X.K rPow) := o_II zrT fun _ _ _ _ => .int _
def rMul : R3
 | .int i, .int j, M, R => (CMul i j ∨ CBig i j) ∧ R (.int (i * j)) M
 | .str z, .int n, M, R => z.length ≤ 16 ∧ -(2 ^ 63) ≤ n ∧ n ≤ 1048576 ∧ R (.str (Txt.mul z n)) M
 | .ref a, .int n, M, R => ∃ xs, M a = some (.lst xs) ∧ -(2 ^ 63) ≤ n ∧ n < 2 ^ 63 ∧ xs.length * n.toNat ≤ sizeLine ∧ New (List.replicate n.toNat xs).flatten M R
 | .rl xs, .int n, M, R => -(2 ^ 63) ≤ n ∧ n < 2 ^ 63 ∧ xs.length * n.toNat ≤ sizeLine ∧ New (List.replicate n.toNat xs).flatten M R
 | _, _, _, _ => False
theorem zud : OpR X (binaryOp .Mult) (upO X.K rMul) := by
 rintro pins s σ H x y v u Q I rx ry ⟨wx, wy, M, R, am, ax, ay, h, k⟩
 cases ax <;> cases ay <;> first | exact (show False from h).elim | skip
 case int.int i j =>
  rcases h with ⟨h | h, r⟩
  ·exact zrR pins s σ H _ _ v u Q I rx ry ⟨i, j, rfl, rfl, h, k.at am (.int _) r⟩
  ·exact zpT pins s σ H _ _ v u Q I rx ry ⟨i, j, rfl, rfl, h, k.at am (.int _) r⟩
 case str.int z n => exact zpU pins s σ H _ _ v u Q I rx ry ⟨z, n, rfl, rfl, h.1, h.2.1, h.2.2.1, k.at am (.str _) h.2.2.2⟩
 case ref.int a n =>
  obtain ⟨xs, e, h1, h2, h3, r⟩ := h
  obtain ⟨vs, f, q⟩ := am.lst e
  exact zoR pins s σ H _ _ v u Q I rx ry ⟨a, n, vs, rfl, rfl, f, h1, h2, by rw [q.length]; exact h3, fun p hp => zcX am k hp (q.flatRep _) r⟩
 case rl.int a vs xs f _ q n =>
  obtain ⟨h1, h2, h3, r⟩ := h
  exact zoR pins s σ H _ _ v u Q I rx ry ⟨a, n, vs, rfl, rfl, f, h1, h2, by rw [q.length]; exact h3, fun p hp => zcX am k hp (q.flatRep _) r⟩
def rNeg : W → Mm → K3 → Prop
 | .int i, M, R => R (.int (-i)) M
 | _, _, _ => False
theorem zgb : UnR X (unaryOp .USub) (upU X.K rNeg) := by
 rintro pins s σ H x v Q I rx ⟨wx, M, R, am, ax, h, k⟩
 cases ax <;> first | exact (show False from h).elim | skip
 case int i => exact zrU pins s σ H _ v Q I rx ⟨i, rfl, k.at am (.int _) h⟩
def zsk (i j : Str) : Bool := decide (i.cps.toList < j.cps.toList)
def rLt : R3
 | .int i, .int j, M, R => R (.bl (decide (i < j))) M
 | .str i, .str j, M, R => R (.bl (zsk i j)) M
 | _, _, _, _ => False
theorem o_lt : OpR X (compareOp .Lt) (upO X.K rLt) := by
 rintro pins s σ H x y v u Q I rx ry ⟨wx, wy, M, R, am, ax, ay, h, k⟩
 cases ax <;> cases ay <;> first | exact (show False from h).elim | skip
 case int.int i j => exact ztY pins s σ H _ _ v u Q I rx ry ⟨i, j, rfl, rfl, k.at am (.bl _) h⟩
 case str.str i j => exact zlL pins s σ H _ _ v u Q I rx ry ⟨i, j, rfl, rfl, k.at am (.bl _) h⟩
abbrev rGt : R3 := rII0 fun i j => .bl (decide (j < i))
theorem o_gt : OpR X (compareOp .Gt) (upO X.K rGt) := zsi ztZ fun _ _ _ _ => .bl _
def isNon : W → Bool
 | .non => true
 | _ => false
def rIs (neg : Bool) : R3
 | x, .non, M, R => R (.bl (if neg then !isNon x else isNon x)) M
 | _, _, _, _ => False
theorem AV.isNon {K : PySem.W.Frag} {H : Hp} {M : Mm} {v : V} {w : W} (h : AV K H M v w) : decide (v = .non) = L3.isNon w := by cases h <;> rfl
theorem o_is : OpR X (compareOp .Is) (upO X.K (rIs false)) := by
 rintro pins s σ H x y v u Q I rx ry ⟨wx, wy, M, R, am, ax, ay, h, k⟩
 cases ay <;> first | exact (show False from h).elim | skip
 exact zrV pins s σ H _ _ v u Q I rx ry ⟨rfl, by rw [ax.isNon]; exact k.at am (.bl _) h⟩
theorem zp0 : OpR X (compareOp .IsNot) (upO X.K (rIs true)) := by
 rintro pins s σ H x y v u Q I rx ry ⟨wx, wy, M, R, am, ax, ay, h, k⟩
 cases ay <;> first | exact (show False from h).elim | skip
 exact zpD pins s σ H _ _ v u Q I rx ry ⟨rfl, by rw [ax.isNon]; exact k.at am (.bl _) h⟩
mutual
inductive Snap (M : Mm) : W → PyData → Prop
 | non : Snap M .non .none
 | bl (b : Bool) : Snap M (.bl b) (.bool b)
 | int (i : Int) : Snap M (.int i) (.int i)
 | str (x : Str) : Snap M (.str x) (.str x)
 | tup {ws : List W} {ds : List PyData} : zdK M ws ds → Snap M (.tup ws) (.tuple ds)
 | rl {ws : List W} {ds : List PyData} : zdK M ws ds → Snap M (.rl ws) (.list ds)
 | ref {a : Addr} {ws : List W} {ds : List PyData} : M a = some (.lst ws) → zdK M ws ds → Snap M (.ref a) (.list ds)
inductive zdK (M : Mm) : List W → List PyData → Prop
 | nil : zdK M [] []
 | cons {w : W} {ws : List W} {d : PyData} {ds : List PyData} : Snap M w d → zdK M ws ds → zdK M (w :: ws) (d :: ds)
end
section
variable {pins : List (Addr × Obj)} {σ : SV} {H : Hp} {s : Shared} {M : Mm}
mutual
theorem Snap.reads (I : Inv X pins σ H s) (am : AM X.K H M) : ∀ {w : W} {d : PyData} {v : V} {u : Value}, Snap M w d → AV X.K H M v w → RelV v u → ∃ as, Reads s.heap u d as
 | _, _, _, _, .non, av, r => by cases av; cases r; exact ⟨_, .none⟩
 | _, _, _, _, .bl b, av, r => by cases av; cases r; exact ⟨_, .bool b⟩
 | _, _, _, _, .int i, av, r => by cases av; obtain ⟨t, rfl⟩ := r; exact ⟨_, .int i t⟩
 | _, _, _, _, .str x, av, r => by cases av; obtain ⟨t, rfl⟩ := r; exact ⟨_, .str x t⟩
 | _, _, _, _, .tup h, av, r => by
  cases av with
  | tup e q =>
   cases r
   obtain ⟨its, rv, ⟨o, e1, e2, n, e3⟩, _⟩ := I.tuple (SqT.of e)
   obtain ⟨as, z⟩ := zdK.reads I am h q rv
   exact ⟨_, .tuple e1 e2 e3 (by simpa using z)⟩
 | _, _, _, _, .rl h, av, r => by
  cases av with
  | rl e _ q =>
   cases r
   obtain ⟨its, rv, pl, _⟩ := I.list (SqL.of e)
   obtain ⟨o, e1, e2, n, e3⟩ := pl.isList
   obtain ⟨as, z⟩ := zdK.reads I am h q rv
   exact ⟨_, .list e1 e2 e3 (by simpa using z)⟩
 | _, _, _, _, .ref e h, av, r => by
  cases av with
  | ref a =>
   cases r
   obtain ⟨vs, e0, q⟩ := am.lst e
   obtain ⟨its, rv, pl, _⟩ := I.list (SqL.of e0)
   obtain ⟨o, e1, e2, n, e3⟩ := pl.isList
   obtain ⟨as, z⟩ := zdK.reads I am h q rv
   exact ⟨_, .list e1 e2 e3 (by simpa using z)⟩
theorem zdK.reads (I : Inv X pins σ H s) (am : AM X.K H M) : ∀ {ws : List W} {ds : List PyData} {vs : List V} {us : List Value}, zdK M ws ds → AVs X.K H M vs ws → Vals vs us → ∃ as, ReadsAll s.heap us ds as
 | _, _, _, _, .nil, av, r => by cases av; cases r; exact ⟨_, .nil⟩
 | _, _, _, _, .cons h t, av, r => by
  cases av with
  | cons a b =>
   cases r with
   | cons r1 r2 =>
    obtain ⟨x, q1⟩ := Snap.reads I am h a r1
    obtain ⟨y, q2⟩ := zdK.reads I am t b r2
    exact ⟨_, .cons q1 q2⟩
end
end
def rEqD (neg : Bool) : R3 := fun x y M R => ∃ da db, Snap M x da ∧ Snap M y db ∧ Flt da ∧ Flt db ∧ R (.bl (if neg then !PyData.eqv da db else PyData.eqv da db)) M
def rEq (neg : Bool) : R3
 | .int i, .int j, M, R => R (.bl (if neg then !decide (i = j) else decide (i = j))) M
 | .str i, .str j, M, R => R (.bl (if neg then !decide (i = j) else decide (i = j))) M
 | .bl i, .bl j, M, R => R (.bl (if neg then !decide (i = j) else decide (i = j))) M
 | x, y, M, R => rEqD neg x y M R
theorem dInt {i j : Int} : decide (V.int i = V.int j) = decide (i = j) := by rw [Bool.eq_iff_iff]; simp
theorem dStr {i j : Str} : decide (V.str i = V.str j) = decide (i = j) := by rw [Bool.eq_iff_iff]; simp
theorem dBl {i j : Bool} : decide (V.bl i = V.bl j) = decide (i = j) := by rw [Bool.eq_iff_iff]; simp
theorem o_eq (hu : X.A.units + 64 < cLine) : OpR X (compareOp .Eq) (upO X.K (rEq false)) := by
 rintro pins s σ H x y v u Q I rx ry ⟨wx, wy, M, R, am, ax, ay, h, k⟩
 have data : rEqD false wx wy M R → wpAny (model X.prog X.w) X.A (compareOp .Eq v u) (EP X pins σ Q) X.xe s := fun h => by
  obtain ⟨da, db, ha, hb, fa, fb, q⟩ := h
  obtain ⟨as, ra⟩ := ha.reads I am ax rx
  obtain ⟨bs, rb⟩ := hb.reads I am ay ry
  exact SeqAt.compareEq_reads ra rb fa.1 fb.1 (Nat.lt_of_le_of_lt (Nat.add_le_add_left (Nat.le_trans (Nat.min_le_left _ _) (Nat.le_trans fa.2 (by decide))) _) hu) ⟨.bl _, H, I, rfl, k.at am (.bl _) q⟩
 cases ax <;> cases ay <;> first | exact data h | skip
 case int.int i j => exact zpB pins s σ H _ _ v u Q I rx ry ⟨rfl, by rw [dInt]; exact k.at am (.bl _) h⟩
 case str.str i j => exact zpB pins s σ H _ _ v u Q I rx ry ⟨rfl, by rw [dStr]; exact k.at am (.bl _) h⟩
 case bl.bl i j => exact zpB pins s σ H _ _ v u Q I rx ry ⟨rfl, by rw [dBl]; exact k.at am (.bl _) h⟩
theorem o_ne (hu : X.A.units + 64 < cLine) : OpR X (compareOp .NotEq) (upO X.K (rEq true)) := by
 rintro pins s σ H x y v u Q I rx ry ⟨wx, wy, M, R, am, ax, ay, h, k⟩
 have data : rEqD true wx wy M R → wpAny (model X.prog X.w) X.A (compareOp .NotEq v u) (EP X pins σ Q) X.xe s := fun h => by
  obtain ⟨da, db, ha, hb, fa, fb, q⟩ := h
  obtain ⟨as, ra⟩ := ha.reads I am ax rx
  obtain ⟨bs, rb⟩ := hb.reads I am ay ry
  exact SeqAt.compareNe_reads ra rb fa.1 fb.1 (Nat.lt_of_le_of_lt (Nat.add_le_add_left (Nat.le_trans (Nat.min_le_left _ _) (Nat.le_trans fa.2 (by decide))) _) hu) ⟨.bl _, H, I, rfl, k.at am (.bl _) q⟩
 cases ax <;> cases ay <;> first | exact data h | skip
 case int.int i j => exact zpC pins s σ H _ _ v u Q I rx ry ⟨rfl, by rw [dInt]; exact k.at am (.bl _) h⟩
 case str.str i j => exact zpC pins s σ H _ _ v u Q I rx ry ⟨rfl, by rw [dStr]; exact k.at am (.bl _) h⟩
 case bl.bl i j => exact zpC pins s σ H _ _ v u Q I rx ry ⟨rfl, by rw [dBl]; exact k.at am (.bl _) h⟩
def wK : Key → W
 | .inl i => .int i
 | .inr x => .str x
def zbg {κ : Type} [DecidableEq κ] (kvs : List (κ × W)) (k : κ) : Option W := (kvs.find? fun kv => decide (kv.1 = k)).map (·.2)
def putW {κ : Type} [DecidableEq κ] (kvs : List (κ × W)) (k : κ) (v : W) : List (κ × W) :=
 if (kvs.any fun kv => decide (kv.1 = k)) = true then kvs.map (fun kv => if kv.1 = k then (kv.1, v) else kv) else kvs ++ [(k, v)]
theorem AV.key {K : PySem.W.Frag} {H : Hp} {M : Mm} {v : V} {k : Key} (h : AV K H M v (wK k)) : v = kV k := by
 cases k <;> (cases h; rfl)
theorem AVs.keys {K : PySem.W.Frag} {H : Hp} {M : Mm} : ∀ {vs : List V} {k : List Key}, AVs K H M vs (k.map wK) → vs = k.map kV
 | _, [], h => by cases h; rfl
 | _, a :: r, h => by
  cases h with
  | cons x y => rw [x.key, AVs.keys y]; rfl
section
variable {κ : Type} [DecidableEq κ] {K : PySem.W.Frag} {H : Hp} {M : Mm}
theorem zjZ {ks : List (κ × V)} {kvs : List (κ × W)} (h : PKV K H M κ ks kvs) (k : κ) : (zbg kvs k = none ∧ valV ks k = none) ∨ ∃ v w, zbg kvs k = some w ∧ valV ks k = some v ∧ AV K H M v w := by
 induction h with
 | nil => exact .inl ⟨rfl, rfl⟩
 | @cons p q ps qs r t ih =>
  by_cases e : p.1 = k
  ·refine .inr ⟨p.2, q.2, ?_, ?_, r.2⟩
   ·unfold zbg; rw [List.find?_cons, decide_eq_true (by rw [← r.1]; exact e)]; rfl
   ·exact zfc e
  ·have e2 : ¬ q.1 = k := by rw [← r.1]; exact e
   have l : zbg (q :: qs) k = zbg qs k := by unfold zbg; rw [List.find?_cons, decide_eq_false e2]
   rw [l, zfd e]
   exact ih
theorem zp1 {ks : List (κ × V)} {kvs : List (κ × W)} (h : PKV K H M κ ks kvs) (k : κ) : (ks.any fun kv => decide (kv.1 = k)) = (kvs.any fun kv => decide (kv.1 = k)) := by
 induction h with
 | nil => rfl
 | cons r t ih => rw [List.any_cons, List.any_cons, ih, r.1]
theorem zp2 {ks : List (κ × V)} {kvs : List (κ × W)} {v : V} {w : W} {k : κ} (av : AV K H M v w) (h : PKV K H M κ ks kvs) : PKV K H M κ (ks.map (fun kv => if kv.1 = k then (kv.1, v) else kv)) (kvs.map (fun kv => if kv.1 = k then (kv.1, w) else kv)) := by
 induction h with
 | nil => exact .nil
 | @cons p q ps qs r t ih =>
  rw [List.map_cons, List.map_cons]
  refine .cons ?_ ih
  by_cases e : p.1 = k
  ·rw [if_pos e, if_pos (by rw [← r.1]; exact e)]; exact ⟨r.1, av⟩
  ·rw [if_neg e, if_neg (by rw [← r.1]; exact e)]; exact r
theorem znT {ks : List (κ × V)} {kvs : List (κ × W)} {v : V} {w : W} {k : κ} (av : AV K H M v w) (h : PKV K H M κ ks kvs) : PKV K H M κ (ks ++ [(k, v)]) (kvs ++ [(k, w)]) := by
 induction h with
 | nil => exact .cons ⟨rfl, av⟩ .nil
 | cons r t ih => exact .cons r ih
theorem zl9 {ks : List (κ × V)} {kvs : List (κ × W)} {v : V} {w : W} (h : PKV K H M κ ks kvs) (k : κ) (av : AV K H M v w) : PKV K H M κ (putK ks k v) (putW kvs k w) := by
 unfold putK putW
 rw [zp1 h k]
 split
 ·exact zp2 av h
 ·exact znT av h
end
def dGet (M : Mm) : W → W → Option W → Prop
 | .ref a, y, o => (∃ kvs k, M a = some (.dK kvs) ∧ y = wK k ∧ o = zbg kvs k) ∨ ∃ kvs k, M a = some (.dT kvs) ∧ y = .tup (k.map wK) ∧ o = zbg kvs k
 | .dk kvs, y, o => ∃ k, y = wK k ∧ o = zbg kvs k
 | .dt kvs, y, o => ∃ k, y = .tup (k.map wK) ∧ o = zbg kvs k
 | _, _, _ => False
theorem zoZ {K : PySem.W.Frag} {H : Hp} {M : Mm} {a : Addr} {y : V} {k : Key} {ks : List (Key × V)} {kvs : List (Key × W)} (e1 : H a = some (.dK ks)) (q : PKV K H M Key ks kvs) (ay : AV K H M y (wK k)) : (zbg kvs k = none ∧ DGet H a y none) ∨ ∃ v w, zbg kvs k = some w ∧ DGet H a y (some v) ∧ AV K H M v w := by
 rw [ay.key]
 rcases zjZ q k with ⟨l1, l2⟩ | ⟨v, w, l1, l2, av⟩
 ·exact .inl ⟨l1, by rw [← l2]; exact DGet.k e1⟩
 ·exact .inr ⟨v, w, l1, by rw [← l2]; exact DGet.k e1, av⟩
theorem zo0 {K : PySem.W.Frag} {H : Hp} {M : Mm} {a : Addr} {y : V} {k : List Key} {ks : List (List Key × V)} {kvs : List (List Key × W)} (e1 : H a = some (.dT ks)) (q : PKV K H M (List Key) ks kvs) (ay : AV K H M y (.tup (k.map wK))) : (zbg kvs k = none ∧ DGet H a y none) ∨ ∃ v w, zbg kvs k = some w ∧ DGet H a y (some v) ∧ AV K H M v w := by
 cases ay with
 | tup eb qb =>
  have eb' := eb
  rw [qb.keys] at eb'
  rcases zjZ q k with ⟨l1, l2⟩ | ⟨v, w, l1, l2, av⟩
  ·exact .inl ⟨l1, by rw [← l2]; exact DGet.t e1 eb'⟩
  ·exact .inr ⟨v, w, l1, by rw [← l2]; exact DGet.t e1 eb', av⟩
theorem ziZ {K : PySem.W.Frag} {H : Hp} {M : Mm} {x y : V} {wx wy : W} {o : Option W} (am : AM K H M) (ax : AV K H M x wx) (ay : AV K H M y wy) (h : dGet M wx wy o) : ∃ a, x = .ref a ∧ ((o = none ∧ DGet H a y none) ∨ ∃ v w, o = some w ∧ DGet H a y (some v) ∧ AV K H M v w) := by
 cases ax <;> first | exact (show False from h).elim | skip
 case ref a =>
  rcases h with ⟨kvs, k, e, rfl, rfl⟩ | ⟨kvs, k, e, rfl, rfl⟩
  ·obtain ⟨ks, e1, q⟩ := am _ _ e
   exact ⟨a, rfl, zoZ e1 q ay⟩
  ·obtain ⟨ks, e1, q⟩ := am _ _ e
   exact ⟨a, rfl, zo0 e1 q ay⟩
 case dk a ks kvs e _ ke q =>
  obtain ⟨k, rfl, rfl⟩ := h
  exact ⟨a, rfl, zoZ e (zgq ke q) ay⟩
 case dt a ks kvs e _ ke q =>
  obtain ⟨k, rfl, rfl⟩ := h
  exact ⟨a, rfl, zo0 e (zgq ke q) ay⟩
def rIx : R3
 | .tup ws, .int i, M, R => ∃ w, atI ws i = some w ∧ R w M
 | .rl ws, .int i, M, R => ∃ w, atI ws i = some w ∧ R w M
 | .sc ws, .int i, M, R => ∃ w, atI ws i = some w ∧ R w M
 | .dk kvs, y, M, R => ∃ w, dGet M (.dk kvs) y (some w) ∧ R w M
 | .dt kvs, y, M, R => ∃ w, dGet M (.dt kvs) y (some w) ∧ R w M
 | .str z, .int i, M, R => z.length ≤ sizeLine ∧ ∃ c, atI z.cps.toList i = some c ∧ R (.str ⟨#[c]⟩) M
 | .ref a, .int i, M, R => (∃ ws w, M a = some (.lst ws) ∧ atI ws i = some w ∧ R w M) ∨ ∃ w, dGet M (.ref a) (.int i) (some w) ∧ R w M
 | .ref a, y, M, R => ∃ w, dGet M (.ref a) y (some w) ∧ R w M
 | _, _, _, _ => False
theorem zj0 {K : PySem.W.Frag} {H : Hp} {M : Mm} {vs : List V} {ws : List W} {i : Int} {w : W} (q : AVs K H M vs ws) (h : atI ws i = some w) : ∃ v, atI vs i = some v ∧ AV K H M v w := by
 unfold atI at h ⊢
 rw [q.length]
 cases e : ixN ws.length i with
 | none => rw [e] at h; cases h
 | some j =>
  rw [e] at h
  exact q.getW (i := j) h
theorem zp3 (hu : X.A.units + 1 < cLine) : IxR X (fun x y H Q => ∃ a v, x = .ref a ∧ DGet H a y (some v) ∧ Q v H) := by
 intro value slice pins s σ H x y v u Q I rx ry h hs
 obtain ⟨a, z, rfl, g, q⟩ := h
 cases rx
 exact tail_any (ziT I g) PySem.F.slot_dict_getitem.lookup (zlW hu I g ry fun w' s3 I3 rw' => ⟨z, H, I3, rw', q⟩) hs
theorem zue (hu : X.A.units + 1 < cLine) : IxR X (upO X.K rIx) := by
 rintro value slice pins s σ H x y v u Q I rx ry ⟨wx, wy, M, R, am, ax, ay, h, k⟩ hs
 have dict : (∃ w, dGet M wx wy (some w) ∧ R w M) → wpAny (model X.prog X.w) X.A (subscriptTail value slice v u) (EP X pins σ Q) X.xe s := fun ⟨w, g, r⟩ => by
  obtain ⟨a, e, g⟩ := ziZ am ax ay g
  rcases g with ⟨z, _⟩ | ⟨z, w', e', g', av⟩
  ·cases z
  ·cases e'
   exact zp3 hu value slice pins s σ H x y v u Q I rx ry ⟨a, z, e, g', k.at am av r⟩ hs
 cases ax <;> first | exact (show False from h).elim | skip
 case str z =>
  cases ay <;> first | exact (show False from h).elim | skip
  case int i =>
   obtain ⟨hz, c, e, r⟩ := h
   exact zr4 value slice pins s σ H _ _ v u Q I rx ry ⟨z, i, c, rfl, rfl, hz, e, k.at am (.str _) r⟩ hs
 case tup a xs ws e q =>
  cases ay <;> first | exact (show False from h).elim | skip
  case int i =>
   obtain ⟨w, e2, r⟩ := h
   obtain ⟨z, e3, av⟩ := zj0 q e2
   exact zr3 value slice pins s σ H _ _ v u Q I rx ry ⟨a, xs, i, z, rfl, rfl, SqT.of e, e3, k.at am av r⟩ hs
 case dk a ks kvs e n ke q => exact dict (by cases ay <;> exact h)
 case dt a ks kvs e n ke q => exact dict (by cases ay <;> exact h)
 case rl a xs ws e _ q =>
  cases ay <;> first | exact (show False from h).elim | skip
  case int i =>
   obtain ⟨w, e2, r⟩ := h
   obtain ⟨z, e3, av⟩ := zj0 q e2
   exact ziP value slice pins s σ H _ _ v u Q I rx ry ⟨a, xs, i, z, rfl, rfl, SqL.of e, e3, k.at am av r⟩ hs
 case sc a xs ws e q =>
  cases ay <;> first | exact (show False from h).elim | skip
  case int i =>
   obtain ⟨w, e2, r⟩ := h
   obtain ⟨z, e3, av⟩ := zj0 q e2
   exact ziP value slice pins s σ H _ _ v u Q I rx ry ⟨a, xs, i, z, rfl, rfl, e.sq, e3, k.at am av r⟩ hs
 case ref a =>
  cases ay <;> first | exact dict h | skip
  case int i =>
   rcases h with ⟨ws, w, e, e2, r⟩ | h
   ·obtain ⟨vs, f, q⟩ := am.lst e
    obtain ⟨z, e3, av⟩ := zj0 q e2
    exact ziP value slice pins s σ H _ _ v u Q I rx ry ⟨a, vs, i, z, rfl, rfl, SqL.of f, e3, k.at am av r⟩ hs
   ·exact dict h
variable {a b : Expr} {ta tb : TE3} {pos : Pos}
theorem v_ix (hu : X.A.units + 1 < cLine) (ha : E3 X a ta) (hb : E3 X b tb) (hs : ziO b := by exact fun _ _ => rfl) : E3 X (.Subscript a b pos) (vOp rIx ta tb) := (zr2 (zue hu) ha hb hs).weak fun _ _ _ h => zhD h
def cutW (ws : List W) (lo hi : Option Int) : List W := (ws.drop (HT.sIx ws.length 0 lo)).take (HT.sIx ws.length ws.length hi - HT.sIx ws.length 0 lo)
def rSl : W → Option Int → Option Int → Mm → K3 → Prop
 | .rl ws, lo, hi, M, R => New (cutW ws lo hi) M R
 | .sc ws, lo, hi, M, R => New (cutW ws lo hi) M R
 | .ref a, lo, hi, M, R => ∃ ws, M a = some (.lst ws) ∧ New (cutW ws lo hi) M R
 | .tup ws, lo, hi, M, R => ¬ (HT.sIx ws.length 0 lo = 0 ∧ HT.sIx ws.length ws.length hi = ws.length) ∧ R (.tup (cutW ws lo hi)) M
 | _, _, _, _, _ => False
theorem zhG {K : PySem.W.Frag} {H : Hp} {M : Mm} {vs : List V} {ws : List W} {lo hi : Option Int} (q : AVs K H M vs ws) : AVs K H M (cutV vs lo hi) (cutW ws lo hi) := by
 unfold cutV cutW
 rw [q.length]
 exact (q.drop _).take _
def upSl (K : PySem.W.Frag) (r : W → Option Int → Option Int → Mm → K3 → Prop) : V → Option Int → Option Int → Hp → VK → Prop := fun x lo hi H Q => ∃ wx M R, AM K H M ∧ AV K H M x wx ∧ r wx lo hi M R ∧ Up K H M R Q
theorem zsl : SlR X (upSl X.K rSl) := by
 rintro pins s σ H x v vl vu lo hi sl Q I rx hs pl pu ⟨wx, M, R, am, ax, h, k⟩
 cases ax <;> first | exact (show False from h).elim | skip
 case tup a xs ws e q => exact zoP pins s σ H _ v vl vu lo hi sl Q I rx hs pl pu ⟨a, xs, rfl, SqT.of e, by rw [q.length]; exact h.1, fun p hp => laidT am k hp (zhG q) h.2⟩
 case sc a xs ws e q => exact ziQ pins s σ H _ v vl vu lo hi sl Q I rx hs pl pu ⟨a, xs, rfl, e.sq, fun p hp => zcX am k hp (zhG q) h⟩
 case rl a xs ws e _ q => exact ziQ pins s σ H _ v vl vu lo hi sl Q I rx hs pl pu ⟨a, xs, rfl, SqL.of e, fun p hp => zcX am k hp (zhG q) h⟩
 case ref a =>
  obtain ⟨ws, e, r⟩ := h
  obtain ⟨vs, f, q⟩ := am.lst e
  exact ziQ pins s σ H _ v vl vu lo hi sl Q I rx hs pl pu ⟨a, vs, rfl, SqL.of f, fun p hp => zcX am k hp (zhG q) r⟩
abbrev TO3 := S3 → Mm → (Option Int → Mm → Prop) → Prop
def upOp (K : PySem.W.Frag) (t : TO3) : TO := fun σ H Q => ∃ (τ : S3) (M : Mm) (R : Option Int → Mm → Prop), AS K H M σ τ ∧ AM K H M ∧ t τ M R ∧ ∀ o H' M', Kp H M H' M' → AM K H' M' → R o M' → Q o H'
def sNo : TO3 := fun _ M Q => Q none M
def sPt (t : TE3) : TO3 := fun τ M Q => t τ M fun x M1 => ∃ i, x = .int i ∧ Q (some i) M1
theorem zd3 : PO X none (upOp X.K sNo) := zpJ.weak fun σ H Q ⟨τ, M, R, as, am, h, k⟩ => k none H M (Kp.refl am) am h
theorem zc4 (h : E3 X a ta) : PO X (some a) (upOp X.K (sPt ta)) := (zpK h).weak fun σ H Q ⟨τ, M, R, as, am, h, k⟩ => ⟨τ, M, _, as, am, h, fun x H1 wx M1 k1 am1 ax ⟨i, e, h1⟩ => by
 subst e; cases ax; exact ⟨i, rfl, k _ _ _ k1 am1 h1⟩⟩
def vSl (ta : TE3) (tl th : TO3) : TE3 := fun τ M R => ta τ M fun x M1 => tl τ M1 fun l M2 => th τ M2 fun u M3 => rSl x l u M3 R
theorem zp4 {lo hi : Option Expr} {tl th : TO3} {p2 : Pos} (he : E3 X a ta) (hl : PO X lo (upOp X.K tl)) (hu : PO X hi (upOp X.K th)) : E3 X (.Subscript a (.Slice lo hi none p2) pos) (vSl ta tl th) :=
 (zgE zsl he hl hu).weak fun σ H Q ⟨τ, M, R, as, am, h, k⟩ => ⟨τ, M, _, as, am, h, fun x H1 wx M1 k1 am1 ax h1 => ⟨τ, M1, _, as.kp am k1, am1, h1, fun l H2 M2 k2 am2 h2 => ⟨τ, M2, _, (as.kp am k1).kp am1 k2, am2, h2, fun u H3 M3 k3 am3 h3 =>
  ⟨wx, M3, R, am3, (ax.kp am1 k2).kp am2 k3, h3, ((k.kp k1).kp k2).kp k3⟩⟩⟩⟩
def zcg : W → Bool
 | .non => true
 | .bl _ => true
 | .int _ => true
 | .str _ => true
 | _ => false
def eqW : W → W → Bool
 | .non, .non => true
 | .bl a, .bl b => a == b
 | .bl a, .int b => (if a then 1 else 0) == b
 | .int a, .bl b => a == (if b then 1 else 0)
 | .int a, .int b => a == b
 | .str a, .str b => a == b
 | _, _ => false
def inW (x : W) (ws : List W) : Bool := ws.any fun y => eqW y x
theorem AV.flat {K : PySem.W.Frag} {H : Hp} {M : Mm} {v : V} {w : W} (h : AV K H M v w) (f : zcg w = true) : zf8 v = true := by cases h <;> first | rfl | exact f
theorem AV.eq {K : PySem.W.Frag} {H : Hp} {M : Mm} {v u : V} {w z : W} (h : AV K H M v w) (h2 : AV K H M u z) (f : zcg w = true) (f2 : zcg z = true) : eqV v u = eqW w z := by
 cases h <;> cases h2 <;> first | rfl | (exact absurd f Bool.false_ne_true) | (exact absurd f2 Bool.false_ne_true)
theorem AVs.inn {K : PySem.W.Frag} {H : Hp} {M : Mm} {u : V} {z : W} (hz : AV K H M u z) (fz : zcg z = true) : ∀ {vs : List V} {ws : List W}, AVs K H M vs ws → ws.all zcg = true → vs.all zf8 = true ∧ inV u vs = inW z ws
 | _, _, .nil, _ => ⟨rfl, rfl⟩
 | _, _, .cons x r, f => by
  rw [List.all_cons, Bool.and_eq_true] at f
  obtain ⟨h1, h2⟩ := AVs.inn hz fz r f.2
  refine ⟨by rw [List.all_cons, x.flat f.1, h1]; rfl, ?_⟩
  unfold inV inW at h2 ⊢
  rw [List.any_cons, List.any_cons, h2, x.eq hz f.1 fz]
def occ (i j : Str) : Bool := !(Builtin.Str.occurrences j i 0 j.length 1).isEmpty
def rIn (neg : Bool) : R3
 | .str i, .str j, M, R => R (.bl (if neg then !occ i j else occ i j)) M
 | x, .tup ws, M, R => zcg x = true ∧ ws.all zcg = true ∧ R (.bl (if neg then !inW x ws else inW x ws)) M
 | x, .rl ws, M, R => zcg x = true ∧ ws.all zcg = true ∧ R (.bl (if neg then !inW x ws else inW x ws)) M
 | x, .ref a, M, R => (∃ ws, M a = some (.lst ws) ∧ zcg x = true ∧ ws.all zcg = true ∧ R (.bl (if neg then !inW x ws else inW x ws)) M) ∨ ∃ o, dGet M (.ref a) x o ∧ R (.bl (if neg then !o.isSome else o.isSome)) M
 | x, .dk kvs, M, R => ∃ o, dGet M (.dk kvs) x o ∧ R (.bl (if neg then !o.isSome else o.isSome)) M
 | x, .dt kvs, M, R => ∃ o, dGet M (.dt kvs) x o ∧ R (.bl (if neg then !o.isSome else o.isSome)) M
 | _, _, _, _ => False
theorem o_in (hu : X.A.units + 1 < cLine) : OpR X (compareOp .In) (upO X.K (rIn false)) := by
 rintro pins s σ H x y v u Q I rx ry ⟨wx, wy, M, R, am, ax, ay, h, k⟩
 have dict : ∀ {y : V} {u : Value} {wy : W}, RelV y u → AV X.K H M y wy → ∀ o, dGet M wy wx o → R (.bl (o.isSome)) M → wpAny (model X.prog X.w) X.A (compareOp .In v u) (EP X pins σ Q) X.xe s := fun {y u wy} ry ay o g r => by
  obtain ⟨a, rfl, g⟩ := ziZ am ay ax g
  cases ry
  rcases g with ⟨rfl, g'⟩ | ⟨z, w, rfl, g', av⟩
  ·exact d_in hu I g' rx fun s3 I3 => ⟨.bl false, H, I3, rfl, k.at am (.bl _) r⟩
  ·exact d_in hu I g' rx fun s3 I3 => ⟨.bl true, H, I3, rfl, k.at am (.bl _) r⟩
 cases ay <;> first | (cases wx <;> exact (show False from h).elim) | skip
 case str j =>
  cases ax <;> first | exact (show False from h).elim | skip
  case str i => exact zlM pins s σ H _ _ v u Q I rx ry ⟨i, j, rfl, rfl, k.at am (.bl _) h⟩
 case tup a xs ws e q =>
  have h : zcg wx = true ∧ ws.all zcg = true ∧ R (.bl (inW wx ws)) M := by cases wx <;> exact h
  obtain ⟨h1, h2⟩ := AVs.inn ax h.1 q h.2.1
  exact zfm pins s σ H _ _ v u Q I rx ry ⟨a, xs, rfl, .inr (SqT.of e), ax.flat h.1, h1, by rw [h2]; exact k.at am (.bl _) h.2.2⟩
 case rl a xs ws e _ q =>
  have h : zcg wx = true ∧ ws.all zcg = true ∧ R (.bl (inW wx ws)) M := by cases wx <;> exact h
  obtain ⟨h1, h2⟩ := AVs.inn ax h.1 q h.2.1
  exact zfm pins s σ H _ _ v u Q I rx ry ⟨a, xs, rfl, .inl (SqL.of e), ax.flat h.1, h1, by rw [h2]; exact k.at am (.bl _) h.2.2⟩
 case dk a ks kvs e n ke q =>
  have h : ∃ o, dGet M (.dk kvs) wx o ∧ R (.bl (o.isSome)) M := by cases wx <;> exact h
  obtain ⟨o, g, r⟩ := h
  exact dict ry (.dk e n ke q) o g r
 case dt a ks kvs e n ke q =>
  have h : ∃ o, dGet M (.dt kvs) wx o ∧ R (.bl (o.isSome)) M := by cases wx <;> exact h
  obtain ⟨o, g, r⟩ := h
  exact dict ry (.dt e n ke q) o g r
 case ref a =>
  have h : (∃ ws, M a = some (.lst ws) ∧ zcg wx = true ∧ ws.all zcg = true ∧ R (.bl (inW wx ws)) M) ∨ ∃ o, dGet M (.ref a) wx o ∧ R (.bl o.isSome) M := by cases wx <;> exact h
  rcases h with ⟨ws, e, h⟩ | ⟨o, g, r⟩
  ·obtain ⟨vs, f, q⟩ := am.lst e
   obtain ⟨h1, h2⟩ := AVs.inn ax h.1 q h.2.1
   exact zfm pins s σ H _ _ v u Q I rx ry ⟨a, vs, rfl, .inl (SqL.of f), ax.flat h.1, h1, by rw [h2]; exact k.at am (.bl _) h.2.2⟩
  ·exact dict ry (.ref a) o g r
theorem zft (hu : X.A.units + 1 < cLine) : OpR X (compareOp .NotIn) (upO X.K (rIn true)) := by
 rintro pins s σ H x y v u Q I rx ry ⟨wx, wy, M, R, am, ax, ay, h, k⟩
 have dict : ∀ {y : V} {u : Value} {wy : W}, RelV y u → AV X.K H M y wy → ∀ o, dGet M wy wx o → R (.bl (!o.isSome)) M → wpAny (model X.prog X.w) X.A (compareOp .NotIn v u) (EP X pins σ Q) X.xe s := fun {y u wy} ry ay o g r => by
  obtain ⟨a, rfl, g⟩ := ziZ am ay ax g
  cases ry
  rcases g with ⟨rfl, g'⟩ | ⟨z, w, rfl, g', av⟩
  ·exact zlX hu I g' rx fun s3 I3 => ⟨.bl true, H, I3, rfl, k.at am (.bl _) r⟩
  ·exact zlX hu I g' rx fun s3 I3 => ⟨.bl false, H, I3, rfl, k.at am (.bl _) r⟩
 cases ay <;> first | (cases wx <;> exact (show False from h).elim) | skip
 case str j =>
  cases ax <;> first | exact (show False from h).elim | skip
  case str i => exact zhj pins s σ H _ _ v u Q I rx ry ⟨i, j, rfl, rfl, k.at am (.bl _) h⟩
 case tup a xs ws e q =>
  have h : zcg wx = true ∧ ws.all zcg = true ∧ R (.bl (!inW wx ws)) M := by cases wx <;> exact h
  obtain ⟨h1, h2⟩ := AVs.inn ax h.1 q h.2.1
  exact zc0 pins s σ H _ _ v u Q I rx ry ⟨a, xs, rfl, .inr (SqT.of e), ax.flat h.1, h1, by rw [h2]; exact k.at am (.bl _) h.2.2⟩
 case rl a xs ws e _ q =>
  have h : zcg wx = true ∧ ws.all zcg = true ∧ R (.bl (!inW wx ws)) M := by cases wx <;> exact h
  obtain ⟨h1, h2⟩ := AVs.inn ax h.1 q h.2.1
  exact zc0 pins s σ H _ _ v u Q I rx ry ⟨a, xs, rfl, .inl (SqL.of e), ax.flat h.1, h1, by rw [h2]; exact k.at am (.bl _) h.2.2⟩
 case dk a ks kvs e n ke q =>
  have h : ∃ o, dGet M (.dk kvs) wx o ∧ R (.bl (!o.isSome)) M := by cases wx <;> exact h
  obtain ⟨o, g, r⟩ := h
  exact dict ry (.dk e n ke q) o g r
 case dt a ks kvs e n ke q =>
  have h : ∃ o, dGet M (.dt kvs) wx o ∧ R (.bl (!o.isSome)) M := by cases wx <;> exact h
  obtain ⟨o, g, r⟩ := h
  exact dict ry (.dt e n ke q) o g r
 case ref a =>
  have h : (∃ ws, M a = some (.lst ws) ∧ zcg wx = true ∧ ws.all zcg = true ∧ R (.bl (!inW wx ws)) M) ∨ ∃ o, dGet M (.ref a) wx o ∧ R (.bl (!o.isSome)) M := by cases wx <;> exact h
  rcases h with ⟨ws, e, h⟩ | ⟨o, g, r⟩
  ·obtain ⟨vs, f, q⟩ := am.lst e
   obtain ⟨h1, h2⟩ := AVs.inn ax h.1 q h.2.1
   exact zc0 pins s σ H _ _ v u Q I rx ry ⟨a, vs, rfl, .inl (SqL.of f), ax.flat h.1, h1, by rw [h2]; exact k.at am (.bl _) h.2.2⟩
  ·exact dict ry (.ref a) o g r
def rLen : List W → Mm → K3 → Prop
 | [.tup ws], M, R => R (.int ws.length) M
 | [.rl ws], M, R => R (.int ws.length) M
 | [.sc ws], M, R => R (.int ws.length) M
 | [.dk kvs], M, R => R (.int kvs.length) M
 | [.str z], M, R => z.length ≤ sizeLine ∧ R (.int z.length) M
 | [.ref a], M, R => (∃ ws, M a = some (.lst ws) ∧ R (.int ws.length) M) ∨ ∃ kvs, M a = some (.dK kvs) ∧ R (.int kvs.length) M
 | _, _, _ => False
theorem AVs.one {K : PySem.W.Frag} {H : Hp} {M : Mm} {vs : List V} {w : W} (h : AVs K H M vs [w]) : ∃ v, vs = [v] ∧ AV K H M v w := by
 cases h with
 | cons x r => cases r; exact ⟨_, rfl, x⟩
theorem AVs.two {K : PySem.W.Frag} {H : Hp} {M : Mm} {vs : List V} {w z : W} (h : AVs K H M vs [w, z]) : ∃ v u, vs = [v, u] ∧ AV K H M v w ∧ AV K H M u z := by
 cases h with
 | cons x r => obtain ⟨u, rfl, y⟩ := r.one; exact ⟨_, _, rfl, x, y⟩
theorem zcm : zcf X (.builtin "len") (upC X.K rLen) := by
 rintro pins s σ H xs us Q I rs ⟨ws, M, R, am, axs, h, k⟩
 match ws, h with
 | [.tup ws], h =>
  obtain ⟨v, rfl, av⟩ := axs.one
  cases av with
  | tup e q => exact zcp pins s σ H _ us Q I rs ⟨_, _, rfl, .inr (SqT.of e), by rw [q.length]; exact k.at am (.int _) h⟩
 | [.rl ws], h =>
  obtain ⟨v, rfl, av⟩ := axs.one
  cases av with
  | rl e _ q => exact zcp pins s σ H _ us Q I rs ⟨_, _, rfl, .inl (SqL.of e), by rw [q.length]; exact k.at am (.int _) h⟩
 | [.sc ws], h =>
  obtain ⟨v, rfl, av⟩ := axs.one
  cases av with
  | sc e q => exact zcp pins s σ H _ us Q I rs ⟨_, _, rfl, .inl e.sq, by rw [q.length]; exact k.at am (.int _) h⟩
 | [.dk kvs], h =>
  obtain ⟨v, rfl, av⟩ := axs.one
  cases av with
  | dk e n ke q => exact zhw pins s σ H _ us Q I rs ⟨_, _, rfl, e, by rw [Paired.length (zgq ke q)]; exact k.at am (.int _) h⟩
 | [.str z], h =>
  obtain ⟨v, rfl, av⟩ := axs.one
  cases av
  exact zhr pins s σ H _ us Q I rs ⟨z, rfl, h.1, k.at am (.int _) h.2⟩
 | [.ref a], h =>
  obtain ⟨v, rfl, av⟩ := axs.one
  cases av
  rcases h with ⟨ws, e, r⟩ | ⟨kvs, e, r⟩
  ·obtain ⟨vs, f, q⟩ := am.lst e
   exact zcp pins s σ H _ us Q I rs ⟨_, _, rfl, .inl (SqL.of f), by rw [q.length]; exact k.at am (.int _) r⟩
  ·obtain ⟨ks, f, q⟩ := am _ _ e
   exact zhw pins s σ H _ us Q I rs ⟨a, ks, rfl, f, by rw [Paired.length q]; exact k.at am (.int _) r⟩
def zkT : List W → Mm → K3 → Prop
 | [.tup ws], M, R => New ws M R
 | [.rl ws], M, R => New ws M R
 | [.sc ws], M, R => New ws M R
 | [.dk kvs], M, R => New (kvs.map fun kv => wK kv.1) M R
 | [.ref a], M, R => (∃ ws, M a = some (.lst ws) ∧ New ws M R) ∨ ∃ kvs, M a = some (.dK kvs) ∧ New (kvs.map fun kv => wK kv.1) M R
 | _, _, _ => False
theorem zj1 {K : PySem.W.Frag} {H : Hp} {M : Mm} {ks : List (Key × V)} {kvs : List (Key × W)} (h : PKV K H M Key ks kvs) : AVs K H M (ks.map fun kv => kV kv.1) (kvs.map fun kv => wK kv.1) := by
 induction h with
 | nil => exact .nil
 | @cons p q ps qs r t ih =>
  refine .cons ?_ ih
  show AV K H M (kV p.1) (wK q.1)
  rw [r.1]
  cases q.1 with
  | inl i => exact .int i
  | inr x => exact .str x
theorem zsm (hc : X.calm = true) : zcf X (.type "list") (upC X.K zkT) := by
 rintro pins s σ H xs us Q I rs ⟨ws, M, R, am, axs, h, k⟩
 match ws, h with
 | [.tup ws], h =>
  obtain ⟨v, rfl, av⟩ := axs.one
  cases av with
  | tup e q => exact zcq pins s σ H _ us Q I rs ⟨_, _, rfl, .inr (SqT.of e), fun p hp => zcX am k hp q h⟩
 | [.rl ws], h =>
  obtain ⟨v, rfl, av⟩ := axs.one
  cases av with
  | rl e _ q => exact zcq pins s σ H _ us Q I rs ⟨_, _, rfl, .inl (SqL.of e), fun p hp => zcX am k hp q h⟩
 | [.sc ws], h =>
  obtain ⟨v, rfl, av⟩ := axs.one
  cases av with
  | sc e q => exact zcq pins s σ H _ us Q I rs ⟨_, _, rfl, .inl e.sq, fun p hp => zcX am k hp q h⟩
 | [.dk kvs], h =>
  obtain ⟨v, rfl, av⟩ := axs.one
  cases av with
  | dk e n ke q => exact zdt hc pins s σ H _ us Q I rs ⟨_, _, rfl, e, fun p hp => zcX am k hp (zj1 (zgq ke q)) h⟩
 | [.ref a], h =>
  obtain ⟨v, rfl, av⟩ := axs.one
  cases av
  rcases h with ⟨ws, e, r⟩ | ⟨kvs, e, r⟩
  ·obtain ⟨vs, f, q⟩ := am.lst e
   exact zcq pins s σ H _ us Q I rs ⟨_, _, rfl, .inl (SqL.of f), fun p hp => zcX am k hp q r⟩
  ·obtain ⟨ks, f, q⟩ := am _ _ e
   exact zdt hc pins s σ H _ us Q I rs ⟨a, ks, rfl, f, fun p hp => zcX am k hp (zj1 q) r⟩
def zc5 : List W → Mm → K3 → Prop
 | [.tup ws], M, R => R (.tup ws) M
 | [.rl ws], M, R => R (.tup ws) M
 | [.ref a], M, R => ∃ ws, M a = some (.lst ws) ∧ R (.tup ws) M
 | _, _, _ => False
theorem zdL : zcf X (.type "tuple") (upC X.K zc5) := by
 rintro pins s σ H xs us Q I rs ⟨ws, M, R, am, axs, h, k⟩
 match ws, h with
 | [.tup ws], h =>
  obtain ⟨v, rfl, av⟩ := axs.one
  cases av with
  | tup e q => exact zcL pins s σ H _ us Q I rs ⟨_, _, rfl, .inr ⟨SqT.of e, k.at am (.tup e q) h⟩⟩
 | [.rl ws], h =>
  obtain ⟨v, rfl, av⟩ := axs.one
  cases av with
  | rl e _ q => exact zcL pins s σ H _ us Q I rs ⟨_, _, rfl, .inl ⟨SqL.of e, fun p hp => laidT am k hp q h⟩⟩
 | [.ref a], h =>
  obtain ⟨v, rfl, av⟩ := axs.one
  cases av
  obtain ⟨ws, e, r⟩ := h
  obtain ⟨vs, f, q⟩ := am.lst e
  exact zcL pins s σ H _ us Q I rs ⟨_, _, rfl, .inl ⟨SqL.of f, fun p hp => laidT am k hp q r⟩⟩
def bools (bs : List Bool) : List W := bs.map W.bl
theorem AVs.bools {K : PySem.W.Frag} {H : Hp} {M : Mm} : ∀ {bs : List Bool} {vs : List V}, AVs K H M vs (L3.bools bs) → vs = bs.map V.bl
 | [], _, h => by cases h; rfl
 | b :: r, _, h => by
  cases h with
  | cons x y => cases x; rw [AVs.bools y]; rfl
def rAll : List W → Mm → K3 → Prop
 | [.ref a], M, R => ∃ bs, M a = some (.lst (bools bs)) ∧ R (.bl (bs.all id)) M
 | [.rl ws], M, R => ∃ bs, ws = bools bs ∧ R (.bl (bs.all id)) M
 | _, _, _ => False
theorem zsn (hc : X.calm = true) : zcf X (.builtin "all") (upC X.K rAll) := by
 rintro pins s σ H xs us Q I rs ⟨ws, M, R, am, axs, h, k⟩
 match ws, h with
 | [.ref a], h =>
  obtain ⟨v, rfl, av⟩ := axs.one
  cases av
  obtain ⟨bs, e, r⟩ := h
  obtain ⟨vs, f, q⟩ := am.lst e
  rw [q.bools] at f
  exact zjU hc pins s σ H _ us Q I rs ⟨a, bs, rfl, SqL.of f, k.at am (.bl _) r⟩
 | [.rl ws], h =>
  obtain ⟨v, rfl, av⟩ := axs.one
  obtain ⟨bs, rfl, r⟩ := h
  cases av with
  | rl f _ q =>
   rw [q.bools] at f
   exact zjU hc pins s σ H _ us Q I rs ⟨_, bs, rfl, SqL.of f, k.at am (.bl _) r⟩
def rApp : W → List W → Mm → K3 → Prop
 | .ref l, [y], M, R => ∃ ws, M l = some (.lst ws) ∧ ws.length < sizeLine ∧ R .non (put M l (.lst (ws ++ [y])))
 | _, _, _, _ => False
theorem za1 : MtR X "list.append" (upM X.K rApp) := by
 rintro pins s σ H x xs v us Q I rx rs ⟨wx, ws, M, R, am, ax, axs, h, k⟩
 match wx, ws, h with
 | .ref l, [y], h =>
  obtain ⟨z, rfl, az⟩ := axs.one
  cases ax
  obtain ⟨ws, e, hl, r⟩ := h
  obtain ⟨vs, f, q⟩ := am.lst e
  exact zht pins s σ H _ _ v us Q I rx rs ⟨l, vs, z, rfl, rfl, f, by rw [q.length]; exact hl, zoX am k e (q.append (.cons az .nil)) .non r⟩
def rPop : W → List W → Mm → K3 → Prop
 | .ref l, [], M, R => ∃ ws w, M l = some (.lst (ws ++ [w])) ∧ R w (put M l (.lst ws))
 | _, _, _, _ => False
theorem zp5 : MtR X "list.pop" (upM X.K rPop) := by
 rintro pins s σ H x xs v us Q I rx rs ⟨wx, ws, M, R, am, ax, axs, h, k⟩
 match wx, ws, h with
 | .ref l, [], h =>
  cases axs
  cases ax
  obtain ⟨ws, w, e, r⟩ := h
  obtain ⟨vs, f, q⟩ := am.lst e
  have hl := q.length
  rw [List.length_append, List.length_singleton] at hl
  obtain ⟨z, hz, az⟩ := q.getW (i := ws.length) (w := w) (by simp)
  refine zr8 pins s σ H _ _ v us Q I rx rs ⟨l, vs, z, rfl, rfl, f, by rw [hl]; exact hz, zoX am k e ?_ az r⟩
  have := q.dropLast
  rw [List.dropLast_concat] at this
  exact this
def zp6 : TE3 := fun _ M R => NewK [] M R
def zuf : TE3 := fun _ M R => NewT [] M R
theorem zp7 : E3 X (.Dict [] [] pos) zp6 := znG.weak fun σ H Q ⟨τ, M, R, as, am, h, k⟩ p hp => by
 obtain ⟨am2, k2⟩ := am.laid (o := .dK []) (u := .dK []) hp ⟨[], za0, .nil⟩
 exact k _ _ _ _ k2 am2 (.ref p) (h p (am.nonM hp))
end
end L3
namespace L3
open PySem PySem.Spec PyProof.Rows L2
abbrev P3 (X : Cx) (st : Stmt) (t : TS3) : Prop := PS X st (upS X.K t)
abbrev Ps3 (X : Cx) (st : List Stmt) (t : TS3) : Prop := PSs X st (upS X.K t)
abbrev TG3 := W → S3 → Mm → (S3 → Mm → Prop) → Prop
abbrev TGs3 := List W → S3 → Mm → (S3 → Mm → Prop) → Prop
def upG (K : PySem.W.Frag) (g : TG3) : TG := fun v σ H Q => ∃ w τ M R, AV K H M v w ∧ AS K H M σ τ ∧ AM K H M ∧ g w τ M R ∧ UpS K H M R Q
def upGs (K : PySem.W.Frag) (g : TGs3) : TGs := fun vs σ H Q => ∃ ws τ M R, AVs K H M vs ws ∧ AS K H M σ τ ∧ AM K H M ∧ g ws τ M R ∧ UpS K H M R Q
section
variable {X : Cx} {pos : Pos}
theorem _root_.L2.PG.weak {e : Expr} {t t' : TG} (h : PG X e t) (k : ∀ v σ H Q, t' v σ H Q → t v σ H Q) : PG X e t' := fun pins s σ H v u Q I r q => h pins s σ H v u Q I r (k v σ H Q q)
theorem _root_.L2.PGs.weak {e : List Expr} {t t' : TGs} (h : PGs X e t) (k : ∀ v σ H Q, t' v σ H Q → t v σ H Q) : PGs X e t' := fun pins s σ H v u Q I r q => h pins s σ H v u Q I r (k v σ H Q q)
theorem UpS.at {K : PySem.W.Frag} {H : Hp} {M : Mm} {R : S3 → Mm → Prop} {Q : SV → Hp → Prop} (h : UpS K H M R Q) (am : AM K H M) {σ : SV} {τ : S3} (as : AS K H M σ τ) (r : R τ M) : Q σ H := h σ H τ M (Kp.refl am) am as r
def zbD (i : Nat) : TG3 := fun w τ M R => R (τ.set i (some w)) M
theorem zbp {i : Nat} {x : Str} (hN : X.N.Nodup) (hi : X.N[i]? = some x) (hx : Loc X.env.scope x) (hf : X.fn x = true ∨ X.env.scope.names.lookup x = some .local := by first | exact .inl rfl | exact .inr rfl | assumption) : PG X (.Name x pos) (upG X.K (zbD i)) :=
 (zpz hN hi hx hf).weak fun v σ H Q ⟨w, τ, M, R, av, as, am, h, k⟩ => k.at am (as.set av i) h
def wNil : TGs3 := fun ws τ M R => ws = [] ∧ R τ M
def zkU (t : TG3) (u : TGs3) : TGs3 := fun ws τ M R => match ws with
 | w :: r => t w τ M fun τ' M' => u r τ' M' R
 | [] => False
theorem zso : PGs X [] (upGs X.K wNil) := zpA.weak fun vs σ H Q ⟨ws, τ, M, R, av, as, am, ⟨e, h⟩, k⟩ => by
 subst e; cases av; exact ⟨rfl, k.at am as h⟩
theorem zj2 {e : Expr} {es : List Expr} {t : TG3} {u : TGs3} (h1 : PG X e (upG X.K t)) (h2 : PGs X es (upGs X.K u))
  (hs : (assignEach (e :: es) X.env).map (·.2) = assign e X.env :: (assignEach es X.env).map (·.2) := by rfl) : PGs X (e :: es) (upGs X.K (zkU t u)) :=
 (znw h1 h2 hs).weak fun vs σ H Q ⟨ws, τ, M, R, av, as, am, h, k⟩ => by
  cases av with
  | nil => exact (show False from h).elim
  | cons x r => exact ⟨_, _, rfl, _, τ, M, _, x, as, am, h, fun σ' H' τ' M' k' am' as' h' => ⟨_, τ', M', R, r.kp am k', as', am', h', k.kp k'⟩⟩
def wTup (n : Nat) (g : TGs3) : TG3 := fun w τ M R => match w with
 | .tup ws => ws.length = n ∧ g ws τ M R
 | .rl ws => ws.length = n ∧ g ws τ M R
 | .ref a => ∃ ws, M a = some (.lst ws) ∧ ws.length = n ∧ g ws τ M R
 | _ => False
theorem zsp {es : List Expr} {k : Nat} {t : TGs3} {n : Nat} (hc : X.calm = true) (h : PGs X es (upGs X.K t))
  (hn : (assignEach es X.env).length = n := by rfl) (hst : (assignEach es X.env).findIdx? (·.1) = none := by rfl) : PG X (.Tuple es k pos) (upG X.K (wTup n t)) := by
 rintro pins s σ H v u Q I r ⟨w, τ, M, R, av, as, am, hw, kk⟩
 cases av <;> first | exact (show False from hw).elim | skip
 case tup a xs ws e q =>
  exact zrL hc h hn hst pins s σ H _ u Q I r ⟨a, xs, rfl, SqT.of e, by rw [q.length]; exact hw.1, _, τ, M, R, q, as, am, hw.2, kk⟩
 case rl a vs ws f _ q =>
  exact zoS hc h hn hst pins s σ H _ u Q I r ⟨a, vs, rfl, SqL.of f, by rw [q.length]; exact hw.1, _, τ, M, R, q, as, am, hw.2, kk⟩
 case ref a =>
  obtain ⟨ws, e, hl, hw⟩ := hw
  obtain ⟨vs, f, q⟩ := am.lst e
  exact zoS hc h hn hst pins s σ H _ u Q I r ⟨a, vs, rfl, SqL.of f, by rw [q.length]; exact hl, _, τ, M, R, q, as, am, hw, kk⟩
def vAsg (te : TE3) (g : TG3) : TS3 := fun D τ M => te τ M fun x M1 => g x τ M1 D.nx
theorem zp8 {K : PySem.W.Frag} {te : TE3} {g : TG3} {D : Ends} {σ : SV} {H : Hp} (h : upS K (vAsg te g) D σ H) : tAsg (up K te) (upG K g) D σ H := by
 obtain ⟨τ, M, D', as, am, h, k⟩ := h
 exact ⟨τ, M, _, as, am, h, fun x H1 wx M1 k1 am1 ax h1 => ⟨wx, τ, M1, D'.nx, ax, as.kp am k1, am1, h1, k.nx.kp k1⟩⟩
theorem zsq {tg e : Expr} {te : TE3} {g : TG3} (he : E3 X e te) (hg : PG X tg (upG X.K g)) (hs : swapsWithSole [tg] e pos.line X.env = pure false := by rfl) (hw : swappedStores [tg] e X.env = pure none := by rfl)
  (h1 : (assignEach [tg] X.env).map (·.2) = [assign tg X.env] := by rfl) : P3 X (.Assign [tg] e pos) (vAsg te g) := (zrN he hg hs hw h1).weak fun _ _ _ h => zp8 h
def vSet (i : Nat) (te : TE3) : TS3 := fun D τ M => te τ M fun x M1 => D.nx (τ.set i (some x)) M1
theorem zaO {i : Nat} {x : Str} {e : Expr} {te : TE3} {pos' : Pos} (hN : X.N.Nodup) (hi : X.N[i]? = some x) (hx : Loc X.env.scope x) (he : E3 X e te) (hs : swapsWith e (some (.Name x pos')) pos.line X.env = pure false := by rfl) (hf : X.fn x = true ∨ X.env.scope.names.lookup x = some .local := by first | exact .inl rfl | exact .inr rfl | assumption) :
  P3 X (.Assign [.Name x pos'] e pos) (vSet i te) := (zoK hN hi hx he hs hf).weak fun D σ H ⟨τ, M, D', as, am, h, k⟩ => ⟨τ, M, _, as, am, h, fun y H1 wy M1 k1 am1 ay h1 => k.nx _ _ _ _ k1 am1 ((as.kp am k1).set ay i) h1⟩
def zp9 (o i v : W) (M : Mm) (Q : Mm → Prop) : Prop := match o with
 | .ref a => (∃ ws k j, i = .int k ∧ M a = some (.lst ws) ∧ ixN ws.length k = some j ∧ Q (put M a (.lst (ws.set j v)))) ∨
   (∃ kvs k, i = wK k ∧ M a = some (.dK kvs) ∧ kvs.length < sizeLine ∧ Q (put M a (.dK (putW kvs k v)))) ∨
   ∃ kvs k, i = .tup (k.map wK) ∧ M a = some (.dT kvs) ∧ kvs.length < sizeLine ∧ Q (put M a (.dT (putW kvs k v)))
 | _ => False
def zug (K : PySem.W.Frag) : TSet := fun o i v H Q => ∃ wo wi wv M R, AV K H M o wo ∧ AV K H M i wi ∧ AV K H M v wv ∧ AM K H M ∧ zp9 wo wi wv M R ∧ ∀ H' M', Kp H M H' M' → AM K H' M' → R M' → Q H'
theorem zj3 (hu : X.A.units + 1 < cLine) : PSet X (fun o i v H Q => ∃ a H', o = .ref a ∧ DPut H a i v H' ∧ Q H') := by
 intro pins s σ H o i v ov iv u Q I ro ri rv h
 obtain ⟨a, H', rfl, d, q⟩ := h
 cases ro
 exact zlY hu I d ri rv fun s4 I4 => ⟨H', I4, q⟩
theorem zsr (hu : X.A.units + 1 < cLine) : PSet X (zug X.K) := by
 rintro pins s σ H o i v ov iv u Q I ro ri rv ⟨wo, wi, wv, M, R, ao, ai, av, am, h, k⟩
 cases ao <;> first | exact (show False from h).elim | skip
 case ref a =>
  rcases h with ⟨ws, n, j, rfl, e, hj, r⟩ | ⟨kvs, n, rfl, e, hl, r⟩ | ⟨kvs, n, rfl, e, hl, r⟩
  ·cases ai
   obtain ⟨vs, f, q⟩ := am.lst e
   obtain ⟨am2, k2⟩ := am.write (o := .lst (ws.set j wv)) (u := .lst (vs.set j v)) e ⟨_, za0, (AVs.set av j q).wr am e⟩
   exact znD pins s σ H _ _ v ov iv u Q I ro ri rv ⟨a, vs, n, j, rfl, rfl, f, by rw [q.length]; exact hj, k _ _ k2 am2 r⟩
  ·obtain ⟨ks, f, q⟩ := am _ _ e
   rw [ai.key] at ri
   have z : AO X.K (upd H a (.dK (putK ks n v))) (put M a (.dK (putW kvs n wv))) a (.dK (putW kvs n wv)) := ⟨_, za0, Paired.mapP (zl9 q n av) fun p q z => ⟨z.1, z.2.wr am e⟩⟩
   obtain ⟨am2, k2⟩ := am.write e z
   exact zj3 hu pins s σ H _ _ v ov iv u Q I ro ri rv ⟨a, _, rfl, DPut.k f (by rw [Paired.length q]; exact hl), k _ _ k2 am2 r⟩
  ·obtain ⟨ks, f, q⟩ := am _ _ e
   cases ai with
   | tup eb qb =>
    have eb' := eb
    rw [qb.keys] at eb'
    have z : AO X.K (upd H a (.dT (putK ks n v))) (put M a (.dT (putW kvs n wv))) a (.dT (putW kvs n wv)) := ⟨_, za0, Paired.mapP (zl9 q n av) fun p q z => ⟨z.1, z.2.wr am e⟩⟩
    obtain ⟨am2, k2⟩ := am.write e z
    exact zj3 hu pins s σ H _ _ v ov iv u Q I ro ri rv ⟨a, _, rfl, DPut.t f eb' (by rw [Paired.length q]; exact hl), k _ _ k2 am2 r⟩
def wSub (to ti : TE3) : TG3 := fun w τ M R => to τ M fun o M1 => ti τ M1 fun i M2 => zp9 o i w M2 fun M3 => R τ M3
theorem zuh {o i : Expr} {to ti : TE3} (hu : X.A.units + 1 < cLine) (ho : E3 X o to) (hi : E3 X i ti)
  (ha : ∀ v, assign (.Subscript o i pos) X.env v = (do
   let ov ← holding [v] (eval o X.env)
   let iv ← holding [v, ov] (eval i X.env)
   standAt pos
   holding [v, ov, iv] (setItem ov iv v)
   release [v, ov, iv] []) := by intro _; rfl) : PG X (.Subscript o i pos) (upG X.K (wSub to ti)) :=
 (zrM ho hi (zsr hu) ha).weak fun v σ H Q ⟨w, τ, M, R, av, as, am, h, k⟩ => ⟨τ, M, _, as, am, h, fun o H1 wo M1 k1 am1 ao h1 => ⟨τ, M1, _, as.kp am k1, am1, h1, fun i H2 wi M2 k2 am2 ai h2 =>
  ⟨wo, wi, w, M2, _, ao.kp am1 k2, ai, (av.kp am k1).kp am1 k2, am2, h2, fun H' M' k' am' r => k _ _ _ _ ((k1.trans k2).trans k') am' (((as.kp am k1).kp am1 k2).kp am2 k') r⟩⟩⟩
def zbG : TS3 := fun D τ M => D.nx τ M
def vSeq (t u : TS3) : TS3 := fun D τ M => t { D with nx := u D } τ M
variable {st : Stmt} {rest : List Stmt} {t u : TS3} {e : Expr} {te : TE3}
theorem zbE : Ps3 X [] zbG := zlC.weak fun D σ H ⟨τ, M, D', as, am, h, k⟩ => k.nx.at am as h
theorem zad (h1 : P3 X st t) (h2 : Ps3 X rest u) : Ps3 X (st :: rest) (vSeq t u) := (zjQ h1 h2).weak fun D σ H ⟨τ, M, D', as, am, h, k⟩ =>
 ⟨τ, M, _, as, am, h, ⟨fun σ' H' τ' M' k' am' as' h' => ⟨τ', M', D', as', am', h', k.kp k'⟩, k.rt, k.bk, k.ct⟩⟩
theorem zak (h1 : P3 X st t) : Ps3 X [st] t := zlD h1
def zcn (te : TE3) : TS3 := fun D τ M => te τ M fun _ M1 => D.nx τ M1
theorem zbP (he : E3 X e te) (hs : swapsWith e none pos.line X.env = pure false := by rfl) : P3 X (.Expr e pos) (zcn te) := (zlE he hs).weak fun D σ H ⟨τ, M, D', as, am, h, k⟩ =>
 ⟨τ, M, _, as, am, h, fun v H' w M' k' am' av r => k.nx _ _ _ _ k' am' (as.kp am k') r⟩
def vRet (te : TE3) : TS3 := fun D τ M => te τ M D.rt
theorem zbQ (he : E3 X e te) : P3 X (.Return (some e) pos) (vRet te) := (zoJ he).weak fun D σ H ⟨τ, M, D', as, am, h, k⟩ => ⟨τ, M, _, as, am, h, k.rt⟩
def vIfS (c : TT3) (t u : TS3) : TS3 := fun D τ M => c τ M fun b M1 => if b = true then t D τ M1 else u D τ M1
theorem s_if {c : Expr} {a b : List Stmt} {tc : TT3} (hc : T3 X c tc) (ha : Ps3 X a t) (hb : Ps3 X b u) : P3 X (.If c a b pos) (vIfS tc t u) := (zrK hc ha hb).weak fun D σ H ⟨τ, M, D', as, am, h, k⟩ =>
 ⟨τ, M, _, as, am, h, fun b H1 M1 k1 am1 h1 => by
  cases b with
  | true => exact ⟨τ, M1, D', as.kp am k1, am1, h1, k.kp k1⟩
  | false => exact ⟨τ, M1, D', as.kp am k1, am1, h1, k.kp k1⟩⟩
def zo1 (c : TT3) (tb : TS3) : TS3 := fun D τ M => ∃ Pv : Nat → S3 → Mm → Prop, (∃ m, Pv m τ M) ∧ ∀ m τ M, Pv m τ M →
 c τ M fun b M1 => if b = true then tb { D with nx := fun τ' M' => ∃ m' M'', m' < m ∧ Sub M'' M' ∧ Pv m' τ' M'', ct := fun τ' M' => ∃ m' M'', m' < m ∧ Sub M'' M' ∧ Pv m' τ' M'', bk := D.nx } τ M1 else D.nx τ M1
theorem zqa {c : Expr} {body : List Stmt} {tc : TT3} {tb : TS3} (hp : PassesOwn (model X.prog X.w) X.A X.env X.xe) (hc : T3 X c tc) (hb : Ps3 X body tb) : P3 X (.While c body [] pos) (zo1 tc tb) :=
 (znx hp hc hb).weak fun D σ H ⟨τ, M, D', as, am, ⟨Pv, ⟨m, h0⟩, h⟩, k⟩ => by
  refine ⟨fun m σ' H' => ∃ τ' M', Kp H M H' M' ∧ AM X.K H' M' ∧ AS X.K H' M' σ' τ' ∧ Pv m τ' M', ⟨m, τ, M, Kp.refl am, am, as, h0⟩, ?_⟩
  rintro m σ1 H1 ⟨τ1, M1, k1, am1, as1, p1⟩
  refine ⟨τ1, M1, _, as1, am1, h m τ1 M1 p1, fun b H2 M2 k2 am2 h2 => ?_⟩
  cases b with
  | false => exact k.nx _ _ _ _ (k1.trans k2) am2 (as1.kp am1 k2) h2
  | true =>
   have h2 : tb { D' with nx := fun τ' M' => ∃ m' M'', m' < m ∧ Sub M'' M' ∧ Pv m' τ' M'', ct := fun τ' M' => ∃ m' M'', m' < m ∧ Sub M'' M' ∧ Pv m' τ' M'', bk := D'.nx } τ1 M2 := h2
   refine ⟨fun σ' H' => ∃ m' τ' M', m' < m ∧ Kp H M H' M' ∧ AM X.K H' M' ∧ AS X.K H' M' σ' τ' ∧ Pv m' τ' M', fun σ' H' ⟨m', τ', M', q1, q2, q3, q4, q5⟩ => ⟨m', q1, τ', M', q2, q3, q4, q5⟩, τ1, M2, _, as1.kp am1 k2, am2, h2, ?_⟩
   have again : UpS X.K H2 M2 (fun τ' M' => ∃ m' M'', m' < m ∧ Sub M'' M' ∧ Pv m' τ' M'') (fun σ' H' => ∃ m' τ' M', m' < m ∧ Kp H M H' M' ∧ AM X.K H' M' ∧ AS X.K H' M' σ' τ' ∧ Pv m' τ' M') :=
    fun σ' H' τ' M' k' am' as' ⟨m', M'', q1, q2, q3⟩ => ⟨m', τ', M'', q1, ((k1.trans k2).trans k').sub q2, am'.sub q2, as'.sub q2, q3⟩
   exact ⟨again, (k.rt.kp k1).kp k2, (k.nx.kp k1).kp k2, again⟩
abbrev TI3 := S3 → Mm → (List W → (Mm → Prop) → Mm → Prop) → Prop
structure ItOk (K : PySem.W.Frag) (H0 : Hp) (M0 : Mm) (J : It) (ws : List W) (keep : Mm → Prop) : Prop where
 go : ∀ i H M, Kp H0 M0 H M → AM K H M → keep M → i < ws.length → J.go i H
 stop : ∀ H M, Kp H0 M0 H M → AM K H M → keep M → J.stop ws.length H
 yld : ∀ i H M x H', Kp H0 M0 H M → AM K H M → keep M → i < ws.length → J.yld i H x H' → ∃ w, ws[i]? = some w ∧ Kp H M H' M ∧ AM K H' M ∧ AV K H' M x w
def upI (K : PySem.W.Frag) (wi : TI3) : TI := fun σ H R' => ∃ (τ : S3) (M : Mm) (R : List W → (Mm → Prop) → Mm → Prop), AS K H M σ τ ∧ AM K H M ∧ wi τ M R ∧ ∀ J H' ws keep M', Kp H M H' M' → AM K H' M' → ItOk K H' M' J ws keep → R ws keep M' → R' J H'
theorem _root_.L2.PI.weak {tg iter : Expr} {t t' : TI} (h : PI X tg iter t) (k : ∀ σ H R, t' σ H R → t σ H R) : PI X tg iter t' := fun pins s σ H R I q => h pins s σ H R I (k σ H R q)
def zss (ws : List W) (keep : Mm → Prop) (g : TG3) (tb : TS3) (D : D3) (τ : S3) (M : Mm) : Prop :=
 ∃ Pv : Nat → S3 → Mm → Prop, Pv 0 τ M ∧ (∀ i τ M, i ≤ ws.length → Pv i τ M → keep M) ∧
  (∀ i w τ M, ws[i]? = some w → Pv i τ M → g w τ M fun τ2 M2 => tb { D with nx := fun τ' M' => ∃ M'', Sub M'' M' ∧ Pv (i + 1) τ' M'', ct := fun τ' M' => ∃ M'', Sub M'' M' ∧ Pv (i + 1) τ' M'', bk := D.nx } τ2 M2) ∧
  ∀ τ M, Pv ws.length τ M → D.nx τ M
def vFor (wi : TI3) (g : TG3) (tb : TS3) : TS3 := fun D τ M => wi τ M fun ws keep M1 => zss ws keep g tb D τ M1
theorem zes {tg iter : Expr} {body : List Stmt} {wi : TI3} {g : TG3} {tb : TS3} {pos : Pos} (hp : PassesOwn (model X.prog X.w) X.A X.env X.xe) (hc : X.calm = true) (hi : PI X tg iter (upI X.K wi)) (hg : PG X tg (upG X.K g)) (hb : Ps3 X body tb)
  (hs : ∀ x, foldedSetIterable iter X.env x = pure x := by intro _; rfl) : P3 X (.For tg iter body [] pos) (vFor wi g tb) :=
 (zoL hp hc hi hg hb hs).weak fun D σ H ⟨τ, M, D', as, am, h, k⟩ => by
  refine ⟨τ, M, _, as, am, h, fun J H1 ws keep M1 k1 am1 it ⟨Pv, h0, hk, hs, hd⟩ => ?_⟩
  refine ⟨fun i m σ' H' => m = ws.length - i ∧ i ≤ ws.length ∧ ∃ τ' M', Kp H1 M1 H' M' ∧ AM X.K H' M' ∧ AS X.K H' M' σ' τ' ∧ Pv i τ' M', ⟨_, rfl, Nat.zero_le _, τ, M1, Kp.refl am1, am1, as.kp am k1, h0⟩, ?_⟩
  rintro i m σ2 H2 ⟨rfl, hi, τ2, M2, k2, am2, as2, p2⟩
  by_cases hlt : i < ws.length
  ·refine .inr ⟨it.go i H2 M2 k2 am2 (hk i τ2 M2 hi p2) hlt, fun σ' H' => ∃ τ' M', Kp H1 M1 H' M' ∧ AM X.K H' M' ∧ AS X.K H' M' σ' τ' ∧ Pv (i + 1) τ' M', fun σ' H' q => ⟨ws.length - (i + 1), by omega, rfl, hlt, q⟩, fun x H3 y => ?_⟩
   obtain ⟨w, hw, k3, am3, ax⟩ := it.yld i H2 M2 x H3 k2 am2 (hk i τ2 M2 hi p2) hlt y
   refine ⟨w, τ2, M2, _, ax, as2.kp am2 k3, am3, hs i w τ2 M2 hw p2, fun σ4 H4 τ4 M4 k4 am4 as4 h4 => ⟨τ4, M4, _, as4, am4, h4, ?_⟩⟩
   have kk := ((k2.trans k3).trans k4)
   have again : UpS X.K H4 M4 (fun τ' M' => ∃ M'', Sub M'' M' ∧ Pv (i + 1) τ' M'') (fun σ' H' => ∃ τ' M', Kp H1 M1 H' M' ∧ AM X.K H' M' ∧ AS X.K H' M' σ' τ' ∧ Pv (i + 1) τ' M') :=
    fun σ' H' τ' M' k' am' as' ⟨M'', q2, q3⟩ => ⟨τ', M'', (kk.trans k').sub q2, am'.sub q2, as'.sub q2, q3⟩
   exact ⟨again, k.rt.kp (k1.trans kk), k.nx.kp (k1.trans kk), again⟩
  ·have e : i = ws.length := by omega
   subst e
   exact .inl ⟨it.stop H2 M2 k2 am2 (hk _ τ2 M2 hi p2), k.nx _ _ _ _ (k1.trans k2) am2 as2 (hd τ2 M2 p2)⟩
theorem for3 {ws : List W} {keep : Mm → Prop} {g : TG3} {tb : TS3} {D : D3} {τ : S3} {M : Mm} (Pv : Nat → S3 → Mm → Prop) (h0 : Pv 0 τ M) (hk : ∀ i τ M, i ≤ ws.length → Pv i τ M → keep M)
  (hs : ∀ i w τ M, ws[i]? = some w → Pv i τ M → g w τ M fun τ2 M2 => tb { D with nx := fun τ' M' => ∃ M'', Sub M'' M' ∧ Pv (i + 1) τ' M'', ct := fun τ' M' => ∃ M'', Sub M'' M' ∧ Pv (i + 1) τ' M'', bk := D.nx } τ2 M2)
  (hd : ∀ τ M, Pv ws.length τ M → D.nx τ M) : zss ws keep g tb D τ M := ⟨Pv, h0, hk, hs, hd⟩
variable {tg l a b : Expr} {tl ta tb' : TE3}
theorem zqb {K : PySem.W.Frag} {H0 : Hp} {M0 : Mm} {p : Addr} {ws : List W} : ItOk K H0 M0 (Itl K p) ws fun M => M p = some (.lst ws) where
 go := fun i H M _ am e hi => by
  obtain ⟨vs, f, q⟩ := am.lst e
  exact ⟨vs, vs[i]'(by rw [q.length]; exact hi), SqL.of f, by simp⟩
 stop := fun H M _ am e => by
  obtain ⟨vs, f, q⟩ := am.lst e
  exact ⟨vs, SqL.of f, by rw [q.length]; exact Nat.le_refl _⟩
 yld := fun i H M x H' _ am e hi y => by
  obtain ⟨rfl, y⟩ := y
  obtain ⟨vs, f, q⟩ := am.lst e
  obtain ⟨w, hw, av⟩ := q.getV (y vs (SqL.of f))
  exact ⟨w, hw, Kp.refl am, am, av⟩
theorem zst {K : PySem.W.Frag} {H0 : Hp} {M0 : Mm} {p : Addr} {vs : List V} {ws : List W} (am0 : AM K H0 M0) (st : ∀ H M, Kp H0 M0 H M → SqL K H p vs) (q0 : AVs K H0 M0 vs ws) : ItOk K H0 M0 (Itl K p) ws fun _ => True := by
 refine ⟨fun i H M k am _ hi => ⟨vs, vs[i]'(by rw [q0.length]; exact hi), st H M k, by simp⟩, fun H M k am _ => ⟨vs, st H M k, by rw [q0.length]; exact Nat.le_refl _⟩, fun i H M x H' k am _ hi y => ?_⟩
 obtain ⟨rfl, y⟩ := y
 obtain ⟨w, hw, av⟩ := (q0.kp am0 k).getV (y vs (st _ M k))
 exact ⟨w, hw, Kp.refl am, am, av⟩
theorem zui {K : PySem.W.Frag} {H0 : Hp} {M0 : Mm} {p : Addr} {vs : List V} {ws : List W} (am0 : AM K H0 M0) (e : SqR K H0 p vs) (q0 : AVs K H0 M0 vs ws) : ItOk K H0 M0 (Itl K p) ws fun _ => True :=
 zst am0 (fun H M k => by
  refine SqR.sq ?_
  rcases e with ⟨o, e⟩ | e
  ·exact .inl ⟨o, (k.fr _ _ (am0.noFrz e) e).1⟩
  ·exact .inr e) q0
theorem zuj {K : PySem.W.Frag} {H0 : Hp} {M0 : Mm} {p : Addr} {vs : List V} {ws : List W} (am0 : AM K H0 M0) (e : H0 p = some (.lst vs)) (n : M0 p = none) (q0 : AVs K H0 M0 vs ws) : ItOk K H0 M0 (Itl K p) ws fun _ => True :=
 zst am0 (fun H M k => SqL.of (k.fr _ _ n e).1) q0
theorem zsu {K : PySem.W.Frag} {H0 : Hp} {M0 : Mm} {p : Addr} {vs : List V} {ws : List W} (am0 : AM K H0 M0) (e : H0 p = some (.tup vs)) (q0 : AVs K H0 M0 vs ws) : ItOk K H0 M0 (Itt K p) ws fun _ => True := by
 have st : ∀ H M, Kp H0 M0 H M → SqT K H p vs := fun H M k => SqT.of (k.fr _ _ (am0.noTup e) e).1
 refine ⟨fun i H M k am _ hi => ⟨vs, vs[i]'(by rw [q0.length]; exact hi), st H M k, by simp⟩, fun H M k am _ => ⟨vs, st H M k, by rw [q0.length]; exact Nat.le_refl _⟩, fun i H M x H' k am _ hi y => ?_⟩
 obtain ⟨rfl, y⟩ := y
 obtain ⟨w, hw, av⟩ := (q0.kp am0 k).getV (y vs (st _ M k))
 exact ⟨w, hw, Kp.refl am, am, av⟩
theorem zsv {K : PySem.W.Frag} {H0 : Hp} {M0 : Mm} {lo : Int} {n : Nat} : ItOk K H0 M0 (Itr lo n) ((List.range n).map fun i => W.int (lo + (i : Nat))) fun _ => True where
 go := fun i H M _ am _ hi => by show i < n; simpa using hi
 stop := fun H M _ am _ => by show n ≤ _; simp
 yld := fun i H M x H' _ am _ hi y => by
  obtain ⟨rfl, rfl⟩ := y
  have hi : i < n := by simpa using hi
  exact ⟨.int (lo + i), by simp [hi], Kp.refl am, am, .int _⟩
theorem zsw {K : PySem.W.Frag} {H0 : Hp} {M0 : Mm} {z : Str} : ItOk K H0 M0 (Its z) (z.cps.toList.map fun c => W.str ⟨#[c]⟩) fun _ => True where
 go := fun i H M _ am _ hi => by show i < z.cps.size; simpa using hi
 stop := fun H M _ am _ => by show z.cps.size ≤ _; simp
 yld := fun i H M x H' _ am _ hi y => by
  obtain ⟨rfl, c, hc, rfl⟩ := y
  exact ⟨.str ⟨#[c]⟩, by rw [List.getElem?_map, hc]; rfl, Kp.refl am, am, .str _⟩
def ItR (X : Cx) (tg : Expr) (r : V → Hp → (It → Hp → Prop) → Prop) : Prop :=
 ∀ (pins : List (Addr × Obj)) (s : Shared) (σ : SV) (H : Hp) (x : V) (u : Value) (R : It → Hp → Prop), Inv X pins σ H s → RelV x u → r x H R → wpAny (model X.prog X.w) X.A (pyIter u) (PIE X pins σ tg R) X.xe s
theorem zi0 : ItR X tg (fun x H R => ∃ a, x = .ref a ∧ (∃ xs, SqL X.K H a xs) ∧ R (Itl X.K a) H) := by
 rintro pins s1 σ H1 x u R I1 r1 ⟨a, rfl, ⟨xs, hq⟩, q⟩
 cases r1
 obtain ⟨its, rv, p, hz⟩ := I1.list hq
 refine wpAny_pyIter_list p.isList ?_
 refine ⟨s1.heap.objs.size, [s1.heap.objs.size], _, _, H1, rfl, I1.kept (t' := s1.toks) fun b o e => Heap.get?_push_of_some _ e, zlF a _, ⟨_, Heap.get?_push_size _ rfl, rfl, rfl⟩, fun b hb => ?_, q⟩
 have e : b = s1.heap.objs.size := by simpa using hb
 subst e
 exact I1.fpOk (Nat.le_refl _) (I1.hok.fresh (Nat.le_refl _))
theorem zsx : ItR X tg (fun x H R => ∃ a, x = .ref a ∧ (∃ xs, SqT X.K H a xs) ∧ R (Itt X.K a) H) := by
 rintro pins s1 σ H1 x u R I1 r1 ⟨a, rfl, ⟨xs, hq⟩, q⟩
 cases r1
 obtain ⟨its, rv, p, hz⟩ := I1.tuple hq
 refine wpAny_pyIter_tuple (show s1.heap.IsTuple a its.toArray from p) ?_
 refine ⟨s1.heap.objs.size, [s1.heap.objs.size], _, _, H1, rfl, I1.kept (t' := s1.toks) fun b o e => Heap.get?_push_of_some _ e, zkJ a _, ⟨_, Heap.get?_push_size _ rfl, rfl, rfl⟩, fun b hb => ?_, q⟩
 have e : b = s1.heap.objs.size := by simpa using hb
 subst e
 exact I1.fpOk (Nat.le_refl _) (I1.hok.fresh (Nat.le_refl _))
theorem zsy {x : Str} {px : Pos} : ItR X (.Name x px) (fun x H R => ∃ z, x = .str z ∧ R (Its z) H) := by
 rintro pins s1 σ H1 x u R I1 r1 ⟨z, rfl, q⟩
 obtain ⟨t, rfl⟩ := r1
 have fp : ∀ b ∈ [s1.heap.objs.size], FpOk X pins H1 b := fun b hb => by
  have e : b = s1.heap.objs.size := by simpa using hb
  subst e
  exact I1.fpOk (Nat.le_refl _) (I1.hok.fresh (Nat.le_refl _))
 cases ha : z.cps.all (· < 128)
 ·refine wpAny_pyIter_wide ha ?_
  exact ⟨s1.heap.objs.size, [s1.heap.objs.size], _, _, H1, rfl, I1.kept (t' := s1.toks) fun b o e => Heap.get?_push_of_some _ e,
   zjV z _ "str_iterator" t (fun A s i c Q E a b d => wpAny_pyNext_wide_item a b d) (fun A s i Q E a b c d => wpAny_pyNext_wide_end a b c d) (fun A i s Q E a b => wpAny_pyIter_striter_wide a b), ⟨_, Heap.get?_push_size _ rfl, rfl, rfl⟩, fp, q⟩
 ·refine wpAny_pyIter_ascii ha ?_
  exact ⟨s1.heap.objs.size, [s1.heap.objs.size], _, _, H1, rfl, I1.kept (t' := s1.toks) fun b o e => Heap.get?_push_of_some _ e,
   zjV z _ "str_ascii_iterator" t (fun A s i c Q E a b d => wpAny_pyNext_ascii_item a b d) (fun A s i Q E a b c d => wpAny_pyNext_ascii_end a b c d) (fun A i s Q E a b => wpAny_pyIter_striter_ascii a b), ⟨_, Heap.get?_push_size _ rfl, rfl, rfl⟩, fp, q⟩
theorem _root_.L2.PI.of {r : V → Hp → (It → Hp → Prop) → Prop} {tl : TE} (hl : PE X l tl) (hr : ItR X tg r) : PI X tg l (fun σ H R => tl σ H fun x H1 => r x H1 R) := fun pins s σ H R I h =>
 thn (hl pins s σ H _ I h) fun u s1 ⟨x, H1, I1, r1, q1⟩ => hr pins s1 σ H1 x u R I1 r1 q1
def upIr (K : PySem.W.Frag) (r : W → Mm → (List W → (Mm → Prop) → Mm → Prop) → Prop) : V → Hp → (It → Hp → Prop) → Prop := fun x H R' => ∃ (wx : W) (M : Mm) (R : List W → (Mm → Prop) → Mm → Prop), AV K H M x wx ∧ AM K H M ∧ r wx M R ∧
 ∀ J H' ws keep M', Kp H M H' M' → AM K H' M' → ItOk K H' M' J ws keep → R ws keep M' → R' J H'
def rItN : W → Mm → (List W → (Mm → Prop) → Mm → Prop) → Prop
 | .tup ws, M1, R => R ws (fun _ => True) M1
 | .rl ws, M1, R => R ws (fun _ => True) M1
 | .sc ws, M1, R => R ws (fun _ => True) M1
 | .str z, M1, R => R (z.cps.toList.map fun c => W.str ⟨#[c]⟩) (fun _ => True) M1
 | .ref a, M1, R => ∃ ws, M1 a = some (.lst ws) ∧ R ws (fun M => M a = some (.lst ws)) M1
 | _, _, _ => False
theorem zqc {y : Str} {py : Pos} : ItR X (.Name y py) (upIr X.K rItN) := by
 rintro pins s σ H x u R' I r1 ⟨wx, M, R, ax, am, h, k⟩
 cases ax <;> first | exact (show False from h).elim | skip
 case str z => exact zsy pins s σ H _ u R' I r1 ⟨z, rfl, k _ _ _ _ _ (Kp.refl am) am zsw h⟩
 case tup a xs ws e q => exact zsx pins s σ H _ u R' I r1 ⟨a, rfl, ⟨xs, SqT.of e⟩, k _ _ _ _ _ (Kp.refl am) am (zsu am e q) h⟩
 case rl a xs ws e n q => exact zi0 pins s σ H _ u R' I r1 ⟨a, rfl, ⟨xs, SqL.of e⟩, k _ _ _ _ _ (Kp.refl am) am (zuj am e n q) h⟩
 case sc a xs ws e q => exact zi0 pins s σ H _ u R' I r1 ⟨a, rfl, ⟨xs, e.sq⟩, k _ _ _ _ _ (Kp.refl am) am (zui am e q) h⟩
 case ref a =>
  obtain ⟨ws, e, r⟩ := h
  obtain ⟨vs, f, q⟩ := am.lst e
  exact zi0 pins s σ H _ u R' I r1 ⟨a, rfl, ⟨vs, SqL.of f⟩, k _ _ _ _ _ (Kp.refl am) am zqb r⟩
def iIt (r : W → Mm → (List W → (Mm → Prop) → Mm → Prop) → Prop) (tl : TE3) : TI3 := fun τ M R => tl τ M fun w M1 => r w M1 R
theorem zsz {r : W → Mm → (List W → (Mm → Prop) → Mm → Prop) → Prop} (hl : E3 X l tl) (hr : ItR X tg (upIr X.K r)) : PI X tg l (upI X.K (iIt r tl)) := (PI.of hl hr).weak fun σ H R' ⟨τ, M, R, as, am, h, k⟩ =>
 ⟨τ, M, _, as, am, h, fun x H1 wx M1 k1 am1 ax h1 => ⟨wx, M1, R, ax, am1, h1, fun J H' ws keep M' k' am' it r => k J H' ws keep M' (k1.trans k') am' it r⟩⟩
theorem zcU {y : Str} {py : Pos} (hl : E3 X l tl) : PI X (.Name y py) l (upI X.K (iIt rItN tl)) := zsz hl zqc
def zc6 (lo : Int) (n : Nat) : List W := (List.range n).map fun i => W.int (lo + (i : Nat))
def iR1 (ta : TA3) : TI3 := fun τ M R => ta τ M fun ws M1 => ∃ j : Int, ws = [.int j] ∧ -(2 ^ 62) ≤ j ∧ j < 2 ^ 62 ∧ R (zc6 0 j.toNat) (fun _ => True) M1
def iR2 (ta : TA3) : TI3 := fun τ M R => ta τ M fun ws M1 => ∃ i j : Int, ws = [.int i, .int j] ∧ (-(2 ^ 62) ≤ i ∧ i < 2 ^ 62 ∧ -(2 ^ 62) ≤ j ∧ j < 2 ^ 62) ∧ R (zc6 i (j - i).toNat) (fun _ => True) M1
theorem zcr {tA : TA3} {p pos : Pos} (hg : Gl X "range") (hm : X.mg "range" = none) (ha : A3 X [a] tA) (hs : starEach [a] X.env = [(false, eval a X.env)] := by rfl) : PI X tg (.Call (.Name "range" p) [a] [] pos) (upI X.K (iR1 tA)) :=
 (zlG hg hm ha hs).weak fun σ H R' ⟨τ, M, R, as, am, h, k⟩ => ⟨τ, M, _, as, am, h, fun vs H1 ws M1 k1 am1 ax ⟨j, e, h1, h2, r⟩ => by
  subst e
  obtain ⟨v, rfl, av⟩ := ax.one
  cases av
  exact ⟨j, rfl, h1, h2, k _ _ _ _ _ k1 am1 zsv r⟩⟩
def zj4 (ws : List W) (keep : Mm → Prop) (g : TG3) (tt : TT3) (te : TE3) (τ₀ : S3) (M1 : Mm) (R : K3) : Prop :=
 ∀ p, M1 p = none → ∃ Pv : Nat → S3 → List W → Mm → Prop, Pv 0 τ₀ [] M1 ∧ (∀ vs i τ acc M, i ≤ ws.length → M p = none → Pv i τ acc M → keep (put M p (.fix vs))) ∧
  (∀ vs i w τ acc M, ws[i]? = some w → M p = none → Pv i τ acc M → g w τ (put M p (.fix vs)) fun τ2 M2 => tt τ2 M2 fun b M3 =>
   if b = true then te τ2 M3 fun y M4 => M4 p = some (.fix vs) ∧ acc.length < sizeLine ∧ ∃ M5, Sub M5 (del M4 p) ∧ Pv (i + 1) τ2 (acc ++ [y]) M5
   else M3 p = some (.fix vs) ∧ ∃ M5, Sub M5 (del M3 p) ∧ Pv (i + 1) τ2 acc M5) ∧
  ∀ τ acc M, M p = none → Pv ws.length τ acc M → R (.ref p) (put M p (.lst acc))
def znU (js : List (Option Nat)) (τ : S3) : S3 := js.map fun o => o.bind fun j => (τ[j]?).join
theorem AS.cmap {K : PySem.W.Frag} {H : Hp} {M : Mm} {σ : SV} {τ : S3} (h : AS K H M σ τ) : ∀ js : List (Option Nat), AS K H M (cmap js σ) (znU js τ)
 | [] => .nil
 | none :: r => .cons (fun _ e => nomatch e) (AS.cmap h r)
 | some j :: r => .cons (fun w e => by
   have e : (τ[j]?).join = some w := e
   cases q : τ[j]? with
   | none => rw [q] at e; cases e
   | some z =>
    rw [q] at e
    have e : z = some w := e
    subst e
    obtain ⟨v, h1, h2⟩ := h.get q
    exact ⟨v, by show (σ[j]?).join = some v; rw [h1]; rfl, h2⟩) (AS.cmap h r)
def zdM (wi : TI3) (g : TG3) (tt : TT3) (te : TE3) (js : List (Option Nat)) : TE3 := fun τ M R => wi τ M fun ws keep M1 => zj4 ws keep g tt te (znU js τ) M1 R
theorem zj5 {wi : TI3} {g : TG3} {tt : TT3} {te : TE3} {js : List (Option Nat)} {σ : SV} {H : Hp} {Q : VK} (h : up X.K (zdM wi g tt te js) σ H Q) : zpQ (upI X.K wi) (fun _ => upG X.K g) (fun _ => upT X.K tt) (fun _ => up X.K te) js σ H Q := by
 obtain ⟨τ, M, R, as, am, h, k⟩ := h
 refine ⟨τ, M, _, as, am, h, fun J H1 ws keep M1 k1 am1 it hall p hp B => ?_⟩
 obtain ⟨Pv, h0, hk, hs, hd⟩ := hall p (am1.nonM hp)
 obtain ⟨amp, kp⟩ := am1.laid (o := .fix []) (u := .lst []) hp za0
 have hMp := am1.nonM hp
 refine zpS ws.length (fun i σ' acc' H' => ∃ τ' acc M', M' p = none ∧ Kp H1 M1 H' (put M' p (.fix acc')) ∧ AM X.K H' (put M' p (.fix acc')) ∧ AS X.K H' (put M' p (.fix acc')) σ' τ' ∧ AVs X.K H' (put M' p (.fix acc')) acc' acc ∧ Pv i τ' acc M') ?_ ?_ ?_
 ·exact ⟨znU js τ, [], M1, hMp, kp, amp, ((as.kp am k1).kp am1 kp).cmap js, .nil, h0⟩
 ·rintro σ' acc' H' ⟨τ', acc, M', mp, k', am', as', av, pv⟩
  refine ⟨it.stop H' _ k' am' (hk _ _ _ _ _ (Nat.le_refl _) mp pv), ?_⟩
  have hp' : H' p = some (.lst acc') := am' p _ zaj
  refine k _ H' _ (put M' p (.lst acc)) (k1.trans ⟨fun a o n e => ?_, k'.dom⟩) (fun a o e => ?_) (.ref p) (hd τ' acc M' mp pv)
  ·obtain ⟨x, y⟩ := k'.fr a o n e
   exact ⟨x, by rw [za7 (zal e hp)] at y ⊢; exact y⟩
  ·by_cases ha : a = p
   ·subst ha; rw [zaj] at e; cases e; exact ⟨acc', hp', av.go zsf⟩
   ·rw [za7 ha] at e; exact (am' a o (by rw [za7 ha]; exact e)).go zsf rfl
 ·rintro i σ' acc' H' hi ⟨τ', acc, M', mp, k', am', as', av, pv⟩
  have hkp := hk acc' i τ' acc M' (Nat.le_of_lt hi) mp pv
  refine ⟨it.go i H' _ k' am' hkp hi, fun x H3 y => ?_⟩
  obtain ⟨w, hw, k3, am3, ax⟩ := it.yld i H' _ x H3 k' am' hkp hi y
  refine ⟨w, τ', _, _, ax, as'.kp am' k3, am3, hs acc' i w τ' acc M' hw mp pv, fun σ4 H4 τ4 M4 k4 am4 as4 h4 => ⟨τ4, M4, _, as4, am4, h4, fun b H5 M5 k5 am5 h5 => ?_⟩⟩
  have kk : Kp H' (put M' p (.fix acc')) H5 M5 := (k3.trans k4).trans k5
  cases b with
  | false =>
   obtain ⟨m5, M6, sb, pv6⟩ : M5 p = some (.fix acc') ∧ ∃ M6, Sub M6 (del M5 p) ∧ Pv (i + 1) τ4 acc M6 := h5
   have sb' : Sub (put M6 p (.fix acc')) M5 := by
    have := (sb.trans Sub.del).put (a := p) (o := .fix acc')
    rwa [znN m5] at this
   exact iteF ⟨τ4, acc, M6, sb.non zdY, (k'.trans kk).sub sb', am5.sub sb', (as4.kp am4 k5).sub sb', (av.kp am' kk).sub sb', pv6⟩
  | true =>
   have h5 : te τ4 M5 fun y M4 => M4 p = some (.fix acc') ∧ acc.length < sizeLine ∧ ∃ M5, Sub M5 (del M4 p) ∧ Pv (i + 1) τ4 (acc ++ [y]) M5 := h5
   refine iteT ⟨τ4, M5, _, as4.kp am4 k5, am5, h5, fun y H6 wy M6 k6 am6 ay ⟨m6, hl, M7, sb, pv7⟩ => ?_⟩
   have kk6 := kk.trans k6
   have hp6 : H6 p = some (.lst acc') := am6 p _ m6
   obtain ⟨am8, k8⟩ := am6.write (o := .fix (acc' ++ [y])) (u := .lst (acc' ++ [y])) m6 za0
   have sb' : Sub (put M7 p (.fix (acc' ++ [y]))) (put M6 p (.fix (acc' ++ [y]))) := (sb.trans Sub.del).put
   refine ⟨hp6, by rw [av.length]; exact hl, τ4, acc ++ [wy], M7, sb.non zdY, ((k'.trans kk6).trans k8).sub sb', am8.sub sb', (((as4.kp am4 k5).kp am5 k6).kp am6 k8).sub sb', ?_, pv7⟩
   exact (((av.kp am' kk6).append (.cons ay .nil)).kp am6 k8).sub sb'
variable {sc : Scope} {N' : List Str} {js : List (Option Nat)} {iter elt : Expr} {ifs : List Expr} {wi : TI3} {g : TG3} {tt : TT3}
def zhH : TT3 := fun _ M Q => Q true M
theorem zj6 : PIfs X [] (upT X.K zhH) := znI.weak fun σ H Q ⟨τ, M, R, as, am, h, k⟩ => k true H M (Kp.refl am) am h
theorem zj7 {c : Expr} {t : TT3} (h : T3 X c t) : PIfs X [c] (upT X.K t) := znJ h
theorem zgs (N' : List Str) (js : List (Option Nat)) (hi : PI X tg iter (upI X.K wi))
  (hg : ∀ B, PG (cxB X sc N' B) tg (upG X.K g)) (ht : ∀ B, PIfs (cxB X sc N' B) ifs (upT X.K tt)) (he : ∀ B, PE (cxB X sc N' B) elt (up X.K te))
  (S0 : zep N' sc X.env.scope = true := by kernel_rfl) (hj : jsOk N' X.N sc js N' = true := by kernel_rfl) (hc : X.calm = true := by rfl) (hs : ∀ x, foldedSetIterable iter X.env x = pure x := by intro _; rfl) :
  E3 X (.ListComp elt [⟨tg, iter, ifs, 0⟩] sc pos) (zdM wi g tt te js) := (zpR N' js hi hg ht he S0 hj hc hs).weak fun _ _ _ h => zj5 h
end
def zbe (N : List Str) (ws : List W) : S3 := ws.map some ++ List.replicate (N.length - ws.length) none
def zaP (R : K3) : D3 := { nx := fun _ M' => ∃ M'', Sub M'' M' ∧ R .non M'', rt := fun w M' => ∃ M'', Sub M'' M' ∧ R w M'' }
section
variable {P : Program} {w : World} {K : PySem.W.Frag} {mg : Str → Option Value} {base : Heap}
theorem ok3 {x qual : Str} {st : Stmt} {f : Addr} {fd : FuncData} {N ps : List Str} {k : Nat} {sp : Sp3} (F : Fun K x qual st f fd) (S : zaR N ps (zaa st)) (len : ∀ ws M R, sp ws M R → ws.length = ps.length)
  (hbody : ∀ (cdv : Value) (A : Around) (outer : List Env) (s : Shared) (H : Hp) (E : XK) (ws : List W) (M : Mm) (R : K3), Room k (A.deeper (envOfC qual (zaa st) s.heap.objs.size f cdv)) → sp ws M R →
   ∃ t, Ps3 (cxOf CX0 P w K mg base N qual (zaa st) f cdv A outer s H E).nox (zaf st) t ∧ t (zaP R) (zbe N ws) M) : FnOk P w K mg base CX0 (k + 1) f fd ps (upSp K sp) := by
 refine F.ok S (fun vs H Q E ⟨ws, M, R, am, av, h, _⟩ => by rw [av.length]; exact len ws M R h) fun cdv A outer s H vs Q E hr ⟨ws, M, R, am, av, h, kk⟩ => ?_
 obtain ⟨t, ht, h'⟩ := hbody cdv A outer s H E ws M R hr h
 refine ⟨_, ht, zbe N ws, M, zaP R, ?_, am, h', ⟨fun σ' H' τ' M' k' am' as' ⟨M'', sb, r⟩ => kk _ H' _ M'' (k'.sub sb) (am'.sub sb) .non r, fun v H' w M' k' am' av' ⟨M'', sb, r⟩ => kk v H' w M'' (k'.sub sb) (am'.sub sb) (av'.sub sb) r, fun _ _ _ _ _ _ _ z => z.elim, fun _ _ _ _ _ _ _ z => z.elim⟩⟩
 unfold L2.start zbe
 rw [av.length]
 exact AS.start av _
def zhI : Sp3 := fun ws M R => ∃ ns : List Int, ws = [.sc (ns.map W.int)] ∧ ns.length ≤ 63 ∧ (M = fun _ => none) ∧ ∀ M', R (.bl true) M'
theorem zsA {H : Hp} {a : Addr} {ns : List Int} (hl : ns.length ≤ 63) (ho : Only H) (hs : SqL K H a (ns.map V.int)) : upSp K zhI [.ref a] H (fun v _ => v = .bl true) fun _ _ _ => False := by
 have hr : SqR K H a (ns.map V.int) := by
  rcases hs with (e | ⟨o, e⟩) | e
  ·rcases ho a with z | ⟨o, xs, z⟩
   ·rw [z] at e; cases e
   ·rw [z] at e; cases e
  ·exact .inl ⟨o, e⟩
  ·exact .inr e
 exact ⟨[.sc (ns.map W.int)], fun _ => none, fun w _ => w = .bl true, fun a o e => (nomatch e), .cons (.sc hr (AVs.int ns)) .nil, ⟨ns, rfl, hl, rfl, fun _ => rfl⟩, fun v H' w M' _ _ av r => by subst r; exact av.bl_inv⟩
end
end L3
namespace L3
open PySem PySem.Spec PyProof.Rows L2
section
variable {X : Cx} {a b c : Expr} {ta tb tc : TE3} {pos : Pos}
def zsB : TS3 := fun _ _ _ => False
def zsC (M : Mm) : W → String → Prop
 | .non, T => T = "NoneType"
 | .bl _, T => T = "bool"
 | .int _, T => T = "int"
 | .str _, T => T = "str"
 | .tup _, T => T = "tuple"
 | .rl _, T => T = "list"
 | .dk _, T => T = "dict"
 | .ref a, T => (T = "list" ∧ ∃ ws, M a = some (.lst ws)) ∨ (T = "dict" ∧ ((∃ kvs, M a = some (.dK kvs)) ∨ ∃ kvs, M a = some (.dT kvs)))
 | _, _ => False
def subL : List (String × String × Bool) := [("int", "int", true), ("int", "bool", false), ("int", "str", false), ("int", "tuple", false), ("int", "list", false), ("bool", "bool", true), ("bool", "int", true), ("bool", "str", false), ("bool", "list", false), ("bool", "tuple", false), ("str", "str", true), ("str", "int", false), ("str", "tuple", false), ("str", "list", false), ("str", "bool", false), ("tuple", "tuple", true), ("tuple", "list", false), ("tuple", "str", false), ("tuple", "int", false), ("tuple", "bool", false), ("list", "list", true), ("list", "tuple", false), ("list", "str", false), ("list", "int", false), ("list", "bool", false), ("NoneType", "list", false), ("NoneType", "tuple", false), ("NoneType", "int", false), ("NoneType", "str", false), ("NoneType", "bool", false), ("dict", "dict", true), ("dict", "list", false)]
def subT (n T : String) : Option Bool := (subL.find? fun p => p.1 == n && p.2.1 == T).map fun p => p.2.2
def zo2 (K : PySem.W.Frag) : List (String × String × Bool) → Prop
 | [] => True
 | p :: l => PySem.W.kitOne K (.type p.1) (.type p.2.1) = some p.2.2 ∧ zo2 K l
theorem zma {K : PySem.W.Frag} : ∀ {l : List (String × String × Bool)}, zo2 K l → ∀ p ∈ l, PySem.W.kitOne K (.type p.1) (.type p.2.1) = some p.2.2
 | _ :: _, h, _, m => by
  cases m with
  | head => exact h.1
  | tail _ m => exact zma h.2 _ m
theorem zqd (K : PySem.W.Frag) : ∀ p ∈ subL, PySem.W.kitOne K (.type p.1) (.type p.2.1) = some p.2.2 := by
 refine zma ?_
 refine ⟨by kernel_rfl, by kernel_rfl, by kernel_rfl, by kernel_rfl, by kernel_rfl, by kernel_rfl, by kernel_rfl, by kernel_rfl, by kernel_rfl, by kernel_rfl, by kernel_rfl, by kernel_rfl, by kernel_rfl, by kernel_rfl, by kernel_rfl, by kernel_rfl, by kernel_rfl, by kernel_rfl, by kernel_rfl, by kernel_rfl, by kernel_rfl, by kernel_rfl, by kernel_rfl, by kernel_rfl, by kernel_rfl, by kernel_rfl, by kernel_rfl, by kernel_rfl, by kernel_rfl, by kernel_rfl, by kernel_rfl, by kernel_rfl, trivial⟩
theorem zqe (K : PySem.W.Frag) {n T : String} {b : Bool} (h : subT n T = some b) : PySem.W.kitOne K (.type n) (.type T) = some b := by
 obtain ⟨p, hp, e⟩ := Option.map_eq_some_iff.mp h
 have h1 := List.find?_some hp
 have h2 := zqd K p (List.mem_of_find?_eq_some hp)
 rw [Bool.and_eq_true, beq_iff_eq, beq_iff_eq] at h1
 rw [← h1.1, ← h1.2, h2, e]
def rIsi : List W → Mm → K3 → Prop
 | [w, .ty T], M, R => ∃ n b, zsC M w n ∧ subT n T = some b ∧ R (.bl b) M
 | _, _, _ => False
theorem zmb : zcf X (.builtin "isinstance") (upC X.K rIsi) := by
 rintro pins s σ H xs us Q I rs ⟨ws, M, R, am, axs, h, k⟩
 match ws, h with
 | [w, .ty T], h =>
  obtain ⟨v, u, rfl, av, au⟩ := axs.two
  cases au
  obtain ⟨n, b, hn, hs, r⟩ := h
  have ty : TyOf X.K H v (.type n) := by
   cases av <;> first | exact (show False from hn).elim | skip
   case non => cases (show n = _ from hn); exact .non
   case bl b => cases (show n = _ from hn); exact .bl b
   case int i => cases (show n = _ from hn); exact .int i
   case str x => cases (show n = _ from hn); exact .str x
   case tup e q => cases (show n = _ from hn); exact .tup e
   case rl e _ q => cases (show n = _ from hn); exact .lst e
   case dk e _ _ q => cases (show n = _ from hn); exact .dK e
   case ref a =>
    rcases hn with ⟨e, ws, h⟩ | ⟨e, h⟩
    ·subst e
     obtain ⟨vs, f, _⟩ := am.lst h
     exact .lst f
    ·subst e
     rcases h with ⟨kvs, h⟩ | ⟨kvs, h⟩
     ·obtain ⟨ks, f, _⟩ := am _ _ h; exact .dK f
     ·obtain ⟨ks, f, _⟩ := am _ _ h; exact .dT f
  exact ziU pins s σ H _ us Q I rs ⟨v, T, _, b, rfl, ty, zqe X.K hs, k.at am (.bl b) r⟩
def zqf : W → List W → Mm → K3 → Prop
 | .str z, [.str y], M, R => (y.length == 0) = false ∧ z.length ≤ sizeLine ∧ R (.tup [.str (Txt.partition z y).1, .str (Txt.partition z y).2.1, .str (Txt.partition z y).2.2]) M
 | _, _, _, _ => False
theorem zi1 : MtR X "str.partition" (upM X.K zqf) := by
 rintro pins s σ H x xs v us Q I rx rs ⟨wx, ws, M, R, am, ax, axs, h, k⟩
 match wx, ws, h with
 | .str z, [.str y], h =>
  obtain ⟨u, rfl, au⟩ := axs.one
  cases ax; cases au
  exact zhz pins s σ H _ _ v us Q I rx rs ⟨z, y, rfl, rfl, h.1, h.2.1, fun p hp => laidT am k hp (.cons (.str _) (.cons (.str _) (.cons (.str _) .nil))) h.2.2⟩
end
end L3
namespace L3
open PySem PySem.Spec PyProof.Rows L2
section
variable {X : Cx} {a b : Expr} {ta tb : TE3} {pos : Pos} {es : List Expr} {t : TA3}
theorem zuk {K : PySem.W.Frag} {H : Hp} {M : Mm} {R : K3} {Q : VK} {p : Addr} {xs : List V} {ws : List W} (am : AM K H M) (k : Up K H M R Q) (hp : H p = none) (ax : AVs K H M xs ws) (r : R (.rl ws) M) : Q (.ref p) (upd H p (.lst xs)) := by
 obtain ⟨am2, k2⟩ := am.tup (u := .lst xs) hp
 exact k _ _ _ _ k2 am2 (.rl za0 (am.nonM hp) (ax.newT hp)) r
def zi2 (t : TA3) : TE3 := fun τ M R => t τ M fun ws M1 => ws.length ≤ sizeLine ∧ R (.rl ws) M1
theorem zhJ (h : A3 X es t) : E3 X (.List es pos) (zi2 t) :=
 (zoO h).weak fun σ H Q ⟨τ, M, R, as, am, h, k⟩ => ⟨τ, M, _, as, am, h, fun xs H1 ws M1 k1 am1 axs ⟨hl, r⟩ => ⟨by rw [axs.length]; exact hl, fun p hp => zuk am1 (k.kp k1) hp axs r⟩⟩
theorem opw {f : Value → Value → Sem Value} {r r' : R3} (h : OpR X f (upO X.K r)) (k : ∀ x y M R, r' x y M R → r x y M fun w M' => frz w M' R) : OpR X f (upO X.K r') := fun pins s σ H x y v u Q I rx ry ⟨wx, wy, M, R, am, ax, ay, h', kk⟩ =>
 h pins s σ H x y v u Q I rx ry ⟨wx, wy, M, _, am, ax, ay, k _ _ _ _ h', kk.frz⟩
theorem clw {f : Value} {r r' : List W → Mm → K3 → Prop} (h : zcf X f (upC X.K r)) (k : ∀ x M R, r' x M R → r x M fun w M' => frz w M' R) : zcf X f (upC X.K r') := fun pins s σ H xs us Q I rs ⟨ws, M, R, am, ax, h', kk⟩ =>
 h pins s σ H xs us Q I rs ⟨ws, M, _, am, ax, k _ _ _ h', kk.frz⟩
def zbR : R3
 | .int i, .int j, M, R => R (.int (i + j)) M
 | .str i, .str j, M, R => i.length + j.length ≤ sizeLine ∧ R (.str (i ++ j)) M
 | .tup xs, .tup ys, M, R => xs ≠ [] ∧ xs.length + ys.length ≤ sizeLine ∧ R (.tup (xs ++ ys)) M
 | .ref a, .ref b, M, R => ∃ xs ys, M a = some (.lst xs) ∧ M b = some (.lst ys) ∧ xs.length + ys.length ≤ sizeLine ∧ R (.rl (xs ++ ys)) M
 | .rl xs, .ref b, M, R => ∃ ys, M b = some (.lst ys) ∧ xs.length + ys.length ≤ sizeLine ∧ R (.rl (xs ++ ys)) M
 | .ref a, .rl ys, M, R => ∃ xs, M a = some (.lst xs) ∧ xs.length + ys.length ≤ sizeLine ∧ R (.rl (xs ++ ys)) M
 | .rl xs, .rl ys, M, R => xs.length + ys.length ≤ sizeLine ∧ R (.rl (xs ++ ys)) M
 | _, _, _, _ => False
theorem zbF : OpR X (binaryOp .Add) (upO X.K zbR) := opw zsh fun x y M R h => by
 cases x <;> cases y <;> first | exact (show False from h).elim | skip
 case int.int i j => exact h
 case str.str i j => exact h
 case tup.tup i j => exact h
 case ref.ref i j => obtain ⟨xs, ys, h1, h2, h3, r⟩ := h; exact ⟨xs, ys, h1, h2, h3, New.frz r⟩
 case rl.ref i j => obtain ⟨ys, h2, h3, r⟩ := h; exact ⟨ys, h2, h3, New.frz r⟩
 case ref.rl i j => obtain ⟨ys, h2, h3, r⟩ := h; exact ⟨ys, h2, h3, New.frz r⟩
 case rl.rl i j => exact ⟨h.1, New.frz h.2⟩
def zhK : R3
 | .int i, .int j, M, R => (CMul i j ∨ CBig i j) ∧ R (.int (i * j)) M
 | .str z, .int n, M, R => z.length ≤ 16 ∧ -(2 ^ 63) ≤ n ∧ n ≤ 1048576 ∧ R (.str (Txt.mul z n)) M
 | .ref a, .int n, M, R => ∃ xs, M a = some (.lst xs) ∧ -(2 ^ 63) ≤ n ∧ n < 2 ^ 63 ∧ xs.length * n.toNat ≤ sizeLine ∧ R (.rl (List.replicate n.toNat xs).flatten) M
 | .rl xs, .int n, M, R => -(2 ^ 63) ≤ n ∧ n < 2 ^ 63 ∧ xs.length * n.toNat ≤ sizeLine ∧ R (.rl (List.replicate n.toNat xs).flatten) M
 | _, _, _, _ => False
theorem zmc : OpR X (binaryOp .Mult) (upO X.K zhK) := opw zud fun x y M R h => by
 cases x <;> cases y <;> first | exact (show False from h).elim | skip
 case int.int i j => exact h
 case str.int i j => exact h
 case ref.int i j => obtain ⟨xs, h1, h2, h3, h4, r⟩ := h; exact ⟨xs, h1, h2, h3, h4, New.frz r⟩
 case rl.int i j => obtain ⟨h2, h3, h4, r⟩ := h; exact ⟨h2, h3, h4, New.frz r⟩
def zd4 : List W → Mm → K3 → Prop
 | [.tup ws], M, R => R (.rl ws) M
 | [.rl ws], M, R => R (.rl ws) M
 | [.sc ws], M, R => R (.rl ws) M
 | [.dk kvs], M, R => R (.rl (kvs.map fun kv => wK kv.1)) M
 | [.ref a], M, R => (∃ ws, M a = some (.lst ws) ∧ R (.rl ws) M) ∨ ∃ kvs, M a = some (.dK kvs) ∧ R (.rl (kvs.map fun kv => wK kv.1)) M
 | _, _, _ => False
theorem zi3 (hc : X.calm = true) : zcf X (.type "list") (upC X.K zd4) := clw (zsm hc) fun x M R h => by
 match x, h with
 | [.tup ws], h => exact New.frz h
 | [.rl ws], h => exact New.frz h
 | [.sc ws], h => exact New.frz h
 | [.dk kvs], h => exact New.frz h
 | [.ref a], h =>
  rcases h with ⟨ws, e, r⟩ | ⟨kvs, e, r⟩
  ·exact .inl ⟨ws, e, New.frz r⟩
  ·exact .inr ⟨kvs, e, New.frz r⟩
def rSlF : W → Option Int → Option Int → Mm → K3 → Prop
 | .rl ws, lo, hi, M, R => R (.rl (cutW ws lo hi)) M
 | .sc ws, lo, hi, M, R => R (.rl (cutW ws lo hi)) M
 | .ref a, lo, hi, M, R => ∃ ws, M a = some (.lst ws) ∧ R (.rl (cutW ws lo hi)) M
 | .tup ws, lo, hi, M, R => ¬ (HT.sIx ws.length 0 lo = 0 ∧ HT.sIx ws.length ws.length hi = ws.length) ∧ R (.tup (cutW ws lo hi)) M
 | _, _, _, _, _ => False
theorem znV {x : W} {l u : Option Int} {M : Mm} {R : K3} (h : rSlF x l u M R) : rSl x l u M fun w M' => frz w M' R := by
 cases x <;> first | exact (show False from h).elim | skip
 case tup ws => exact h
 case rl ws => exact New.frz h
 case sc ws => exact New.frz h
 case ref a => obtain ⟨ws, e, r⟩ := h; exact ⟨ws, e, New.frz r⟩
def vSlF (ta : TE3) (tl th : TO3) : TE3 := fun τ M R => ta τ M fun x M1 => tl τ M1 fun l M2 => th τ M2 fun u M3 => rSlF x l u M3 R
theorem zd5 {lo hi : Option Expr} {tl th : TO3} {p2 : Pos} (he : E3 X a ta) (hl : PO X lo (upOp X.K tl)) (hu : PO X hi (upOp X.K th)) : E3 X (.Subscript a (.Slice lo hi none p2) pos) (vSlF ta tl th) :=
 (zgE zsl he hl hu).weak fun σ H Q ⟨τ, M, R, as, am, h, k⟩ => ⟨τ, M, _, as, am, h, fun x H1 wx M1 k1 am1 ax h1 => ⟨τ, M1, _, as.kp am k1, am1, h1, fun l H2 M2 k2 am2 h2 => ⟨τ, M2, _, (as.kp am k1).kp am1 k2, am2, h2, fun u H3 M3 k3 am3 h3 =>
  ⟨wx, M3, _, am3, (ax.kp am1 k2).kp am2 k3, znV h3, (((k.kp k1).kp k2).kp k3).frz⟩⟩⟩⟩
variable {sc : Scope} {N' : List Str} {js : List (Option Nat)} {tg iter elt : Expr} {ifs : List Expr} {wi : TI3} {g : TG3} {tt : TT3} {te : TE3}
theorem zgt {i : Nat} {x : Str} {px spos : Pos} (hN : X.N.Nodup) (hi0 : X.N[i]? = some x) (hx : Loc X.env.scope x) (N' : List Str) (js : List (Option Nat)) (hi : PI X tg iter (upI X.K wi))
  (hg : ∀ B, PG (cxB X sc N' B) tg (upG X.K g)) (ht : ∀ B, PIfs (cxB X sc N' B) ifs (upT X.K tt)) (he : ∀ B, PE (cxB X sc N' B) elt (up X.K te))
  (S0 : zep N' sc X.env.scope = true := by kernel_rfl) (hj : jsOk N' X.N sc js N' = true := by kernel_rfl) (hc : X.calm = true := by rfl) (hsw : swapsWith (.ListComp elt [⟨tg, iter, ifs, 0⟩] sc pos) (some (.Name x px)) spos.line X.env = pure true := by rfl)
  (hf : X.fn x = true ∨ X.env.scope.names.lookup x = some .local := by first | exact .inl rfl | exact .inr rfl | assumption)
  (hs : ∀ x, foldedSetIterable iter X.env x = pure x := by intro _; rfl) : P3 X (.Assign [.Name x px] (.ListComp elt [⟨tg, iter, ifs, 0⟩] sc pos) spos) (vSet i (vFrz (zdM wi g tt te js))) :=
 (zkS hN hi0 hx N' js hi hg ht he S0 hj hc hsw hf hs).weak fun D σ H ⟨τ, M, D', as, am, h, k⟩ => zj5 ⟨τ, M, _, as, am, h, Up.frz fun y H1 wy M1 k1 am1 ay h1 => k.nx _ _ _ _ k1 am1 ((as.kp am k1).set ay i) h1⟩
end
def Pl : Nat → W → Prop
 | _, .non => True
 | _, .int _ => True
 | _, .str x => PyData.strOk x = true
 | n + 1, .tup ws => ∀ w ∈ ws, Pl n w
 | n + 1, .rl ws => ∀ w ∈ ws, Pl n w
 | _, _ => False
def der (M : Mm) : W → W
 | .ref a => match M a with
  | some (.lst ws) => .rl ws
  | _ => .ref a
 | w => w
section
variable {M : Mm}
theorem zgM {n : Nat} (ih : ∀ {w : W}, Pl n w → ∃ d, Snap M w d ∧ d.canLay0 = true ∧ d.depth ≤ n) : ∀ {ws : List W}, (∀ w ∈ ws, Pl n w) → ∃ ds, zdK M ws ds ∧ PyData.canLayAll0 ds = true ∧ PyData.depthAll ds ≤ n
 | [], _ => ⟨[], .nil, rfl, by simp [PyData.depthAll]⟩
 | w :: ws, h => by
  obtain ⟨d, s, c, e⟩ := ih (h w List.mem_cons_self)
  obtain ⟨ds, ss, cc, ee⟩ := zgM ih fun z hz => h z (List.mem_cons_of_mem _ hz)
  exact ⟨d :: ds, .cons s ss, by simp [PyData.canLayAll0, c, cc], by simp only [PyData.depthAll]; omega⟩
theorem zqg : ∀ {n : Nat} {w : W}, Pl n w → ∃ d, Snap M w d ∧ d.canLay0 = true ∧ d.depth ≤ n := by
 intro n
 induction n with
 | zero =>
  intro w h
  cases w <;> first | exact (show False from h).elim | skip
  case non => exact ⟨_, .non, rfl, by simp [PyData.depth]⟩
  case int i => exact ⟨_, .int i, rfl, by simp [PyData.depth]⟩
  case str x => exact ⟨_, .str x, h, by simp [PyData.depth]⟩
 | succ n ih =>
  intro w h
  cases w <;> first | exact (show False from h).elim | skip
  case non => exact ⟨_, .non, rfl, by simp [PyData.depth]⟩
  case int i => exact ⟨_, .int i, rfl, by simp [PyData.depth]⟩
  case str x => exact ⟨_, .str x, h, by simp [PyData.depth]⟩
  case tup ws =>
   obtain ⟨ds, s, c, e⟩ := zgM ih h
   exact ⟨_, .tup s, by simpa [PyData.canLay0] using c, by simp only [PyData.depth]; omega⟩
  case rl ws =>
   obtain ⟨ds, s, c, e⟩ := zgM ih h
   exact ⟨_, .rl s, by simpa [PyData.canLay0] using c, by simp only [PyData.depth]; omega⟩
theorem zj8 {n : Nat} {w : W} (h : Pl n (der M w)) : ∃ d, Snap M w d ∧ Snap M (der M w) d ∧ d.canLay0 = true ∧ d.depth ≤ n := by
 obtain ⟨d, s, c, e⟩ := zqg (M := M) h
 refine ⟨d, ?_, s, c, e⟩
 cases w <;> first | exact s | skip
 case ref a =>
  cases q : M a with
  | none =>
   have e : der M (.ref a) = .ref a := by simp [der, q]
   rw [e] at s; exact s
  | some o =>
   cases o with
   | lst ws =>
    have e : der M (.ref a) = .rl ws := by simp [der, q]
    rw [e] at s
    cases s with
    | rl r => exact .ref q r
   | dK _ =>
    have e : der M (.ref a) = .ref a := by simp [der, q]
    rw [e] at s; exact s
   | dT _ =>
    have e : der M (.ref a) = .ref a := by simp [der, q]
    rw [e] at s; exact s
   | fix _ =>
    have e : der M (.ref a) = .ref a := by simp [der, q]
    rw [e] at s; exact s
   | exc _ =>
    have e : der M (.ref a) = .ref a := by simp [der, q]
    rw [e] at s; exact s
   | ins _ _ _ =>
    have e : der M (.ref a) = .ref a := by simp [der, q]
    rw [e] at s; exact s
   | dn _ _ _ _ =>
    have e : der M (.ref a) = .ref a := by simp [der, q]
    rw [e] at s; exact s
   | vw _ =>
    have e : der M (.ref a) = .ref a := by simp [der, q]
    rw [e] at s; exact s
theorem zi4 {n : Nat} (ih : ∀ {x y : W} {dx dy : PyData}, Pl n x → Pl n y → Snap M x dx → Snap M y dy → (PyData.eqv dx dy = true ↔ x = y)) : ∀ {xs ys : List W} {dx dy : List PyData}, (∀ w ∈ xs, Pl n w) → (∀ w ∈ ys, Pl n w) → zdK M xs dx → zdK M ys dy → (PyData.eqvAll dx dy = true ↔ xs = ys)
 | [], [], _, _, _, _, .nil, .nil => by simp [PyData.eqvAll]
 | [], _ :: _, _, _, _, _, .nil, .cons _ _ => by simp [PyData.eqvAll]
 | _ :: _, [], _, _, _, _, .cons _ _, .nil => by simp [PyData.eqvAll]
 | x :: xs, y :: ys, _, _, hx, hy, .cons s1 r1, .cons s2 r2 => by
  rw [PyData.eqvAll, Bool.and_eq_true, ih (hx x List.mem_cons_self) (hy y List.mem_cons_self) s1 s2, zi4 ih (fun z hz => hx z (List.mem_cons_of_mem _ hz)) (fun z hz => hy z (List.mem_cons_of_mem _ hz)) r1 r2]
  simp
theorem zsD : ∀ {n : Nat} {x y : W} {dx dy : PyData}, Pl n x → Pl n y → Snap M x dx → Snap M y dy → (PyData.eqv dx dy = true ↔ x = y) := by
 intro n
 induction n with
 | zero =>
  intro x y dx dy hx hy sx sy
  cases sx <;> first | exact (show False from hx).elim | skip
  all_goals cases sy <;> first | exact (show False from hy).elim | simp [PyData.eqv]
 | succ n ih =>
  intro x y dx dy hx hy sx sy
  cases sx <;> first | exact (show False from hx).elim | skip
  all_goals cases sy <;> first | exact (show False from hy).elim | skip
  all_goals first | (simp [PyData.eqv]; done) | skip
  case tup.tup r1 _ _ r2 => rw [PyData.eqv, zi4 ih hx hy r1 r2]; simp
  case rl.rl r1 _ _ r2 => rw [PyData.eqv, zi4 ih hx hy r1 r2]; simp
theorem zqh {neg : Bool} {x y : W} {R : K3} (n : Nat) (hn : n ≤ 60) (hx : Pl n (der M x)) (hy : Pl n (der M y)) (h : ∀ b : Bool, (b = true ↔ der M x = der M y) → R (.bl (if neg then !b else b)) M) : rEqD neg x y M R := by
 obtain ⟨dx, s1, s1', c1, e1⟩ := zj8 hx
 obtain ⟨dy, s2, s2', c2, e2⟩ := zj8 hy
 exact ⟨dx, dy, s1, s2, ⟨c1, by omega⟩, ⟨c2, by omega⟩, h _ (zsD hx hy s1' s2')⟩
theorem zhL {neg : Bool} {x y : W} {R : K3} (n : Nat) (hn : n ≤ 60) (hx : Pl n (der M x)) (hy : Pl n (der M y)) (h : ∀ b : Bool, (b = true ↔ der M x = der M y) → R (.bl (if neg then !b else b)) M) : rEq neg x y M R := by
 have d := zqh n hn hx hy h
 cases x <;> first | exact d | skip
 case int i =>
  cases y <;> first | exact d | skip
  case int j => exact h (decide (i = j)) (by simp [der])
 case str i =>
  cases y <;> first | exact d | skip
  case str j => exact h (decide (i = j)) (by simp [der])
 case bl i =>
  cases y <;> first | exact d | skip
  case bl j => exact (show False by cases n <;> exact hx).elim
end
theorem zj9 {M : Mm} {neg : Bool} {x y : W} {R : K3} (n : Nat) (hn : n ≤ 60) (hx : Pl n (der M x)) (e : der M y = der M x) (h : R (.bl (!neg)) M) : rEq neg x y M R := by
 refine zhL n hn hx (by rw [e]; exact hx) fun b hb => ?_
 have : b = true := hb.mpr e.symm
 subst this
 cases neg <;> exact h
theorem zsE {ws : List W} {keep : Mm → Prop} {g : TG3} {tt : TT3} {te : TE3} {τ₀ : S3} {M1 : Mm} {R : K3} (St : S3 → Prop) (tgt : W → S3) (Rel : W → Option W → Prop) (hl : ws.length ≤ sizeLine) (hk : ∀ M, Sub M1 M → keep M)
  (h0 : St τ₀) (ht : ∀ w ∈ ws, St (tgt w)) (hg : ∀ w ∈ ws, ∀ τ M (C : S3 → Mm → Prop), St τ → C (tgt w) M → g w τ M C)
  (hs : ∀ w ∈ ws, ∀ M (C : K3) (D : Mm → Prop), Sub M1 M → (∀ y, Rel w (some y) → C y M) → (Rel w none → D M) → tt (tgt w) M fun b M3 => if b = true then te (tgt w) M3 C else D M3)
  (r : ∀ os, Paired Rel ws os → New (os.filterMap id) M1 R) : zj4 ws keep g tt te τ₀ M1 R := by
 intro p hp
 refine ⟨fun i τ acc M => St τ ∧ (∃ os, Paired Rel (ws.take i) os ∧ acc = os.filterMap id) ∧ M = M1, ⟨h0, ⟨[], by simp; exact .nil, rfl⟩, rfl⟩, ?_, ?_, ?_⟩
 ·rintro vs i τ acc M _ mp ⟨_, _, rfl⟩; exact hk _ (Sub.new hp)
 ·rintro vs i w τ acc M hw mp ⟨st, ⟨os, po, rfl⟩, rfl⟩
  have hm : w ∈ ws := List.mem_of_getElem? hw
  have hi : i < ws.length := (List.getElem?_eq_some_iff.mp hw).1
  have htk : ws.take (i + 1) = ws.take i ++ [w] := by rw [List.take_add_one, hw]; rfl
  have snoc : ∀ o, Rel w o → Paired Rel (ws.take (i + 1)) (os ++ [o]) := fun o ro => by
   rw [htk]
   clear hw mp st htk
   revert os
   generalize ws.take i = l
   intro os po
   induction po with
   | nil => exact .cons ro .nil
   | cons a b ih => exact .cons a ih
  have hlen : (os.filterMap id).length < sizeLine := by
   have h1 := List.length_filterMap_le id os
   have h2 := Paired.length po
   rw [List.length_take] at h2
   omega
  refine hg w hm τ _ _ st (hs w hm _ _ _ (Sub.new hp) (fun y hy => ⟨zaj, hlen, M, ?_, ht w hm, ⟨_, snoc _ hy, ?_⟩, rfl⟩) fun hn => ⟨zaj, M, ?_, ht w hm, ⟨_, snoc _ hn, ?_⟩, rfl⟩)
  ·rw [zgL hp]; exact Sub.refl _
  ·simp
  ·rw [zgL hp]; exact Sub.refl _
  ·simp
 ·rintro τ acc M mp ⟨_, ⟨os, po, rfl⟩, rfl⟩
  rw [List.take_length] at po
  exact r os po p hp
def hdSt (rest : S3) : S3 → Prop := fun τ => ∃ o, τ = o :: rest
theorem map1 {ws : List W} {keep : Mm → Prop} {te : TE3} {o : Option W} {rest : S3} {M1 : Mm} {R : K3} (f : W → W) (hl : ws.length ≤ sizeLine) (hk : ∀ M, Sub M1 M → keep M)
  (hs : ∀ w ∈ ws, ∀ M (C : K3), Sub M1 M → C (f w) M → te (some w :: rest) M C) (r : New (ws.map f) M1 R) : zj4 ws keep (zbD 0) zhH te (o :: rest) M1 R := by
 refine zsE (hdSt rest) (fun w => some w :: rest) (fun w o => o = some (f w)) hl hk ⟨_, rfl⟩ (fun w _ => ⟨_, rfl⟩) ?_ ?_ ?_
 ·rintro w _ τ M C ⟨o, rfl⟩ h; exact h
 ·intro w hw M C D sb h1 _
  show (if true = true then te (some w :: rest) M C else D M)
  rw [if_pos rfl]
  exact hs w hw M C sb (h1 _ rfl)
 ·intro os po
  have : os.filterMap id = ws.map f := by
   clear r hs hl hk
   induction po with
   | nil => rfl
   | cons a b ih => subst a; simp [ih]
  rw [this]; exact r
theorem znW {ws : List W} {keep : Mm → Prop} {tt : TT3} {te : TE3} {o : Option W} {rest : S3} {M1 : Mm} {R : K3} (f : W → Option W) (hl : ws.length ≤ sizeLine) (hk : ∀ M, Sub M1 M → keep M)
  (hs : ∀ w ∈ ws, ∀ M (C : K3) (D : Mm → Prop), Sub M1 M → (∀ y, f w = some y → C y M) → (f w = none → D M) → tt (some w :: rest) M fun b M3 => if b = true then te (some w :: rest) M3 C else D M3)
  (r : New (ws.filterMap f) M1 R) : zj4 ws keep (zbD 0) tt te (o :: rest) M1 R := by
 refine zsE (hdSt rest) (fun w => some w :: rest) (fun w o => o = f w) hl hk ⟨_, rfl⟩ (fun w _ => ⟨_, rfl⟩) ?_ ?_ ?_
 ·rintro w _ τ M C ⟨o, rfl⟩ h; exact h
 ·intro w hw M C D sb h1 h2
  exact hs w hw M C D sb (fun y e => h1 y e.symm) fun e => h2 e.symm
 ·intro os po
  have : os.filterMap id = ws.filterMap f := by
   clear r hs hl hk
   induction po with
   | nil => rfl
   | @cons a b c d e _ ih =>
    subst e
    cases q : f a <;> simp [q, ih]
  rw [this]; exact r
theorem Paired.all {P : W → W → Prop} {Q : W → Prop} {xs ys : List W} (h : Paired P xs ys) (k : ∀ x y, P x y → Q y) : ∀ y ∈ ys, Q y := by
 induction h with
 | nil => intro y hy; cases hy
 | cons a b ih =>
  intro y hy
  rcases List.mem_cons.mp hy with rfl | hy
  ·exact k _ _ a
  ·exact ih y hy
end L3
namespace L3
open PySem PySem.Spec PyProof.Rows L2
structure Df (K : PySem.W.Frag) (mg : Str → Option Value) (x : Str) (st : Stmt) (ps : List Str) (f : Addr) (fd : FuncData) : Prop where
 fn : Fun K x x st f fd
 at_ : mg x = some (.ref f)
 bi : zf7 K fd ps []
theorem za2 {K : PySem.W.Frag} {x : Str} {st : Stmt} {f : Addr} {fd : FuncData} {ps : List Str} {mg : Str → Option Value} (F : Fun K x x st f fd) (hm : mg x = some (.ref f))
  (h : ∀ (kV doc pm : Value) (an : Option Addr) (cdv ct : Value) (us : List Value), us.length = ps.length → bindArgs (PySem.W.fnOf x x (zam st) (zaf st) (zaa st) .none kV doc pm an cdv ct) ⟨us, []⟩ = pure (ps.zip us)) : Df K mg x st ps f fd := ⟨F, hm, F.binds h⟩
theorem zbB : bootBuiltins "len" = some (.builtin "len") := PySem.boot_len
theorem zi5 : bootBuiltins "list" = some (.type "list") := by decide +kernel
theorem zbS : bootBuiltins "tuple" = some (.type "tuple") := by decide +kernel
theorem zsF : bootBuiltins "str" = some (.type "str") := by decide +kernel
theorem zaG : bootBuiltins "isinstance" = some (.builtin "isinstance") := by decide +kernel
theorem zo3 : bootBuiltins "all" = some (.builtin "all") := by decide +kernel
theorem zsG : bootBuiltins "any" = some (.builtin "any") := by decide +kernel
theorem atI0 {α : Type} (x : α) (xs : List α) : atI (x :: xs) 0 = some x := by simp [atI, ixN]
theorem atI1 {α : Type} (x y : α) (xs : List α) : atI (x :: y :: xs) 1 = some y := zeo (j := 1) rfl
theorem atI2 {α : Type} (x y z : α) (xs : List α) : atI (x :: y :: z :: xs) 2 = some z := zeo (j := 2) rfl
theorem zd6 {α : Type} {xs : List α} {i : Int} (h0 : 0 ≤ i) (h1 : i < xs.length) : ∃ x, atI xs i = some x ∧ xs[i.toNat]? = some x ∧ x ∈ xs := by
 have hlt : i.toNat < xs.length := by omega
 refine ⟨xs[i.toNat], ?_, List.getElem?_eq_getElem hlt, List.getElem_mem hlt⟩
 simp [atI, ixN, h0, h1, hlt]
end L3
namespace L3
open PySem PySem.Spec PyProof.Rows L2
theorem cdiv {i j : Int} (h0 : 0 < j) (h1 : j ≤ 1000000000) : zl1 i j := ⟨h0, Int.lt_of_le_of_lt h1 (by decide +kernel)⟩
theorem zul {i j : Int} (h0 : 0 < j) (h1 : j ≤ 1000000000) : zl1 i j ↔ True := iff_true_intro (cdiv h0 h1)
def Ints (ws : List W) : Prop := ∀ w ∈ ws, ∃ i, w = W.int i
theorem small {n : Nat} (h : n ≤ 10000000) : n ≤ sizeLine := Nat.le_trans h (by decide)
theorem zmd {n : Nat} (h : n < 10000000) : n < sizeLine := Nat.lt_of_lt_of_le h (by decide)
theorem zqi {S : List W} {i : Int} (h0 : 0 ≤ i) (h1 : i ≤ S.length) : cutW S none (some i) = S.take i.toNat := by
 unfold cutW HT.sIx
 simp only [List.drop_zero, Nat.sub_zero]
 rw [if_neg (by omega), Nat.min_eq_left (by omega)]
theorem zka {M : Mm} {p q : Addr} {a b c : MO} (h : p ≠ q) : put (put (put M p a) q b) p c = put (put M p c) q b := by
 rw [znM (M := put M p a) (Ne.symm h), zeq]
end L3
namespace L3
open PySem PySem.Spec PyProof.Rows L2
theorem za4 {w : W} {T n : String} {b : Bool} {M : Mm} {R : K3} (hn : ∀ m, zsC M w m ↔ m = n) (hs : subT n T = some b) : rIsi [w, .ty T] M R ↔ R (.bl b) M :=
 ⟨fun ⟨_, _, h1, h2, h3⟩ => by cases (hn _).mp h1; cases hs.symm.trans h2; exact h3, fun h => ⟨n, b, (hn n).mpr rfl, hs, h⟩⟩
theorem zhM {M : Mm} {R : K3} : rIsi [W.non, .ty "list"] M R ↔ R (.bl false) M := za4 (fun _ => Iff.rfl) (by decide)
theorem zgN {M : Mm} {R : K3} : rIsi [W.non, .ty "tuple"] M R ↔ R (.bl false) M := za4 (fun _ => Iff.rfl) (by decide)
theorem zi6 {M : Mm} {R : K3} : rIsi [W.non, .ty "int"] M R ↔ R (.bl false) M := za4 (fun _ => Iff.rfl) (by decide)
theorem zi7 {M : Mm} {R : K3} : rIsi [W.non, .ty "str"] M R ↔ R (.bl false) M := za4 (fun _ => Iff.rfl) (by decide)
theorem zhN {M : Mm} {R : K3} : rIsi [W.non, .ty "bool"] M R ↔ R (.bl false) M := za4 (fun _ => Iff.rfl) (by decide)
theorem zi8 {b : Bool} {M : Mm} {R : K3} : rIsi [W.bl b, .ty "bool"] M R ↔ R (.bl true) M := za4 (fun _ => Iff.rfl) (by decide)
theorem zkV {b : Bool} {M : Mm} {R : K3} : rIsi [W.bl b, .ty "int"] M R ↔ R (.bl true) M := za4 (fun _ => Iff.rfl) (by decide)
theorem zkW {b : Bool} {M : Mm} {R : K3} : rIsi [W.bl b, .ty "str"] M R ↔ R (.bl false) M := za4 (fun _ => Iff.rfl) (by decide)
theorem zi9 {b : Bool} {M : Mm} {R : K3} : rIsi [W.bl b, .ty "list"] M R ↔ R (.bl false) M := za4 (fun _ => Iff.rfl) (by decide)
theorem zhO {b : Bool} {M : Mm} {R : K3} : rIsi [W.bl b, .ty "tuple"] M R ↔ R (.bl false) M := za4 (fun _ => Iff.rfl) (by decide)
theorem zja {i : Int} {M : Mm} {R : K3} : rIsi [W.int i, .ty "int"] M R ↔ R (.bl true) M := za4 (fun _ => Iff.rfl) (by decide)
theorem zhP {i : Int} {M : Mm} {R : K3} : rIsi [W.int i, .ty "bool"] M R ↔ R (.bl false) M := za4 (fun _ => Iff.rfl) (by decide)
theorem zjb {i : Int} {M : Mm} {R : K3} : rIsi [W.int i, .ty "str"] M R ↔ R (.bl false) M := za4 (fun _ => Iff.rfl) (by decide)
theorem zgO {i : Int} {M : Mm} {R : K3} : rIsi [W.int i, .ty "tuple"] M R ↔ R (.bl false) M := za4 (fun _ => Iff.rfl) (by decide)
theorem zhQ {i : Int} {M : Mm} {R : K3} : rIsi [W.int i, .ty "list"] M R ↔ R (.bl false) M := za4 (fun _ => Iff.rfl) (by decide)
theorem zjc {x : Str} {M : Mm} {R : K3} : rIsi [W.str x, .ty "str"] M R ↔ R (.bl true) M := za4 (fun _ => Iff.rfl) (by decide)
theorem zjd {x : Str} {M : Mm} {R : K3} : rIsi [W.str x, .ty "int"] M R ↔ R (.bl false) M := za4 (fun _ => Iff.rfl) (by decide)
theorem zgP {x : Str} {M : Mm} {R : K3} : rIsi [W.str x, .ty "tuple"] M R ↔ R (.bl false) M := za4 (fun _ => Iff.rfl) (by decide)
theorem zhR {x : Str} {M : Mm} {R : K3} : rIsi [W.str x, .ty "list"] M R ↔ R (.bl false) M := za4 (fun _ => Iff.rfl) (by decide)
theorem zhS {x : Str} {M : Mm} {R : K3} : rIsi [W.str x, .ty "bool"] M R ↔ R (.bl false) M := za4 (fun _ => Iff.rfl) (by decide)
theorem zgQ {ws : List W} {M : Mm} {R : K3} : rIsi [W.tup ws, .ty "tuple"] M R ↔ R (.bl true) M := za4 (fun _ => Iff.rfl) (by decide)
theorem zhT {ws : List W} {M : Mm} {R : K3} : rIsi [W.tup ws, .ty "list"] M R ↔ R (.bl false) M := za4 (fun _ => Iff.rfl) (by decide)
theorem zje {ws : List W} {M : Mm} {R : K3} : rIsi [W.tup ws, .ty "str"] M R ↔ R (.bl false) M := za4 (fun _ => Iff.rfl) (by decide)
theorem zjf {ws : List W} {M : Mm} {R : K3} : rIsi [W.tup ws, .ty "int"] M R ↔ R (.bl false) M := za4 (fun _ => Iff.rfl) (by decide)
theorem zhU {ws : List W} {M : Mm} {R : K3} : rIsi [W.tup ws, .ty "bool"] M R ↔ R (.bl false) M := za4 (fun _ => Iff.rfl) (by decide)
theorem zjg {ws : List W} {M : Mm} {R : K3} : rIsi [W.rl ws, .ty "list"] M R ↔ R (.bl true) M := za4 (fun _ => Iff.rfl) (by decide)
theorem zhV {ws : List W} {M : Mm} {R : K3} : rIsi [W.rl ws, .ty "tuple"] M R ↔ R (.bl false) M := za4 (fun _ => Iff.rfl) (by decide)
theorem zkX {ws : List W} {M : Mm} {R : K3} : rIsi [W.rl ws, .ty "str"] M R ↔ R (.bl false) M := za4 (fun _ => Iff.rfl) (by decide)
theorem zkY {ws : List W} {M : Mm} {R : K3} : rIsi [W.rl ws, .ty "int"] M R ↔ R (.bl false) M := za4 (fun _ => Iff.rfl) (by decide)
theorem zjh {ws : List W} {M : Mm} {R : K3} : rIsi [W.rl ws, .ty "bool"] M R ↔ R (.bl false) M := za4 (fun _ => Iff.rfl) (by decide)
theorem zqj {p : Addr} {ws : List W} {M : Mm} {R : K3} : rIsi [.ref p, .ty "list"] (put M p (.lst ws)) R ↔ R (.bl true) (put M p (.lst ws)) :=
 za4 (n := "list") (fun m => Iff.intro (fun h => h.elim And.left (fun h => h.2.elim (fun ⟨_, e⟩ => nomatch zaj.symm.trans e) (fun ⟨_, e⟩ => nomatch zaj.symm.trans e))) (fun e => Or.inl ⟨e, ws, zaj⟩)) (by decide)
theorem zsH {neg : Bool} {i j : Int} {M : Mm} {R : K3} : L3.rEq neg (.int i) (.int j) M R = R (.bl (if neg then !decide (i = j) else decide (i = j))) M := rfl
theorem zsI {neg : Bool} {i j : Str} {M : Mm} {R : K3} : L3.rEq neg (.str i) (.str j) M R = R (.bl (if neg then !decide (i = j) else decide (i = j))) M := rfl
theorem zsJ {neg : Bool} {i j : Bool} {M : Mm} {R : K3} : L3.rEq neg (.bl i) (.bl j) M R = R (.bl (if neg then !decide (i = j) else decide (i = j))) M := rfl
theorem znX {M : Mm} {a : Addr} {k : Str} {v : W} {kvs : List (Key × W)} {Q : Mm → Prop} (h : M a = some (.dK kvs)) (hl : kvs.length < sizeLine) (q : Q (put M a (.dK (putW kvs (Sum.inr k) v)))) : zp9 (.ref a) (.str k) v M Q := .inr (.inl ⟨kvs, .inr k, rfl, h, hl, q⟩)
end L3
namespace L3
open PySem PySem.Spec PyProof.Rows L2
section
variable {X : Cx} {a b c : Expr} {ta tb tc : TE3} {pos : Pos}
theorem zme {bs : List Bool} : (List.range bs.length).any (fun i => bs.getD i false) = bs.any id := by
 induction bs with
 | nil => rfl
 | cons b r ih =>
  rw [List.length_cons, List.range_succ_eq_map, List.any_cons, List.any_map, List.any_cons]
  have : ((fun i => (b :: r).getD i false) ∘ Nat.succ) = fun i => r.getD i false := by
   funext i; simp [List.getD]
  rw [this, ih]
  simp
theorem zhW (hc : X.calm = true) : zcf X (.builtin "any") (fun xs H Q => ∃ (p : Addr) (bs : List Bool), xs = [.ref p] ∧ SqL X.K H p (bs.map V.bl) ∧ Q (.bl (bs.any id)) H) := by
 intro pins s σ H xs us Q I r h
 obtain ⟨p, bs, rfl, hq, q⟩ := h
 obtain ⟨u, rfl, ru⟩ := zgD r
 cases ru
 obtain ⟨its, rv, pl, hz⟩ := I.list hq
 have hlt : p < s.heap.objs.size := by obtain ⟨_, e, _⟩ := pl.isList; exact Heap.lt_size e
 refine call_any_walk (wpAny_pyIter_list pl.isList ?_)
 have hA : X.A.in1.handled = none := I.ok.hd hc
 refine ⟨s.heap.objs.size, [s.heap.objs.size, p], [s.heap.objs.size], its.toArray.size, (fun i v => its.toArray[i]? = some v), _, (fun i => bs.getD i false), rfl, Walks.list hA s.heap.objs.size p (Nat.ne_of_lt hlt) its.toArray,
  ⟨⟨_, Heap.get?_push_size _ rfl, rfl, rfl⟩, pl.isList.push _⟩, ?_, fun h' tk hk => ?_⟩
 ·intro i v s' Q' E' hv hQ'
  have hv' : its[i]? = some v := by simpa using hv
  have hi : i < its.length := (List.getElem?_eq_some_iff.mp hv').1
  have hl := rv.length
  rw [List.length_map] at hl
  have hb : bs[i]? = some (bs.getD i false) := by
   have hi' : i < bs.length := by omega
   simp [List.getD, List.getElem?_eq_getElem hi']
  obtain ⟨u, hu, ru⟩ := rv.get (i := i) (x := .bl (bs.getD i false)) (by rw [List.getElem?_map, hb]; rfl)
  rw [hv'] at hu; cases hu
  cases (show v = Value.bool (bs.getD i false) from ru)
  exact wpAny_pure hQ'
 ·have hl := rv.length
  rw [List.length_map] at hl
  have e : (List.range its.toArray.size).any (fun i => bs.getD i false) = bs.any id := by
   rw [List.size_toArray, ← hl, zme]
  rw [e]
  refine ⟨.bl (bs.any id), H, ?_, rfl, q⟩
  exact I.kept (t' := tk) fun b o eb => hk b o (fun z => by
   have : b = s.heap.objs.size := by simpa using z
   exact absurd (Heap.lt_size eb) (by rw [this]; exact Nat.lt_irrefl _)) (Heap.get?_push_of_some _ eb)
def rAny : List W → Mm → K3 → Prop
 | [.ref a], M, R => ∃ bs, M a = some (.lst (bools bs)) ∧ R (.bl (bs.any id)) M
 | [.rl ws], M, R => ∃ bs, ws = bools bs ∧ R (.bl (bs.any id)) M
 | _, _, _ => False
theorem zum (hc : X.calm = true) : zcf X (.builtin "any") (upC X.K rAny) := by
 rintro pins s σ H xs us Q I rs ⟨ws, M, R, am, axs, h, k⟩
 match ws, h with
 | [.ref a], h =>
  obtain ⟨v, rfl, av⟩ := axs.one
  cases av
  obtain ⟨bs, e, r⟩ := h
  obtain ⟨vs, f, q⟩ := am.lst e
  rw [q.bools] at f
  exact zhW hc pins s σ H _ us Q I rs ⟨a, bs, rfl, SqL.of f, k.at am (.bl _) r⟩
 | [.rl ws], h =>
  obtain ⟨v, rfl, av⟩ := axs.one
  obtain ⟨bs, rfl, r⟩ := h
  cases av with
  | rl f _ q =>
   rw [q.bools] at f
   exact zhW hc pins s σ H _ us Q I rs ⟨_, bs, rfl, SqL.of f, k.at am (.bl _) r⟩
end
end L3
namespace L3
open PySem PySem.Spec PyProof.Rows L2
def zd7 : Nat → List W → List W
 | _, [] => []
 | n, w :: r => .tup [.int n, w] :: zd7 (n + 1) r
theorem zd8 : ∀ {ws : List W} {n : Nat}, (zd7 n ws).length = ws.length
 | [], _ => rfl
 | _ :: r, n => by simp [zd7, zd8 (ws := r)]
theorem enumW_get : ∀ {ws : List W} {n i : Nat}, (zd7 n ws)[i]? = (ws[i]?).map fun w => W.tup [.int ((n + i : Nat) : Int), w]
 | [], _, _ => by simp [zd7]
 | w :: r, n, 0 => by simp [zd7]
 | w :: r, n, i + 1 => by
  rw [zd7, List.getElem?_cons_succ, List.getElem?_cons_succ, enumW_get]
  congr 2
  funext w
  congr 4
  omega
section
variable {X : Cx} {a b c : Expr} {ta tb tc : TE3} {pos : Pos}
theorem zmf {K : PySem.W.Frag} {H0 : Hp} {M0 : Mm} {p : Addr} {vs : List V} {ws : List W} {keep : Mm → Prop} (q0 : AVs K H0 M0 vs ws) (am0 : AM K H0 M0) (st : ∀ H M, Kp H0 M0 H M → AM K H M → keep M → SqL K H p vs) : ItOk K H0 M0 (Ite K p vs) (zd7 0 ws) keep := by
 refine ⟨fun i H M k am kp hi => ⟨st H M k am kp, by rw [zd8] at hi; rw [q0.length]; exact hi⟩, fun H M k am kp => ⟨st H M k am kp, by rw [zd8, q0.length]; exact Nat.le_refl _⟩, fun i H M x H' k am kp hi y => ?_⟩
 obtain ⟨pp, u, hu, hn, rfl, rfl⟩ := y
 obtain ⟨w, hw, av⟩ := (q0.kp am0 k).getV hu
 obtain ⟨am2, k2⟩ := am.tup (u := .tup [.int (i : Nat), u]) hn
 refine ⟨.tup [.int ((i : Nat) : Int), w], by rw [enumW_get, hw]; simp, k2, am2, .tup za0 (.cons (.int _) (.cons (av.go (ziW hn)) .nil))⟩
def zet (ta : TA3) : TI3 := fun τ M R => ta τ M fun ws M1 => match ws with
 | [.rl zs] => R (zd7 0 zs) (fun _ => True) M1
 | [.sc zs] => R (zd7 0 zs) (fun _ => True) M1
 | [.ref p] => ∃ zs, M1 p = some (.lst zs) ∧ False
 | _ => False
theorem zji {tA : TA3} {p pos : Pos} {es : List Expr} {kx : Nat} {px : Pos} (hg : Gl X "enumerate") (hm : X.mg "enumerate" = none) (ha : A3 X [a] tA) (hs : starEach [a] X.env = [(false, eval a X.env)] := by rfl) : PI X (.Tuple es kx px) (.Call (.Name "enumerate" p) [a] [] pos) (upI X.K (zet tA)) :=
 (zpV hg hm ha hs).weak fun σ H R' ⟨τ, M, R, as, am, h, k⟩ => ⟨τ, M, _, as, am, h, fun vs H1 ws M1 k1 am1 ax r => by
  match ws, r with
  | [.rl zs], r =>
   obtain ⟨v, rfl, av⟩ := ax.one
   cases av with
   | rl e n q => exact ⟨_, _, rfl, SqL.of e, k _ _ _ _ _ k1 am1 (zmf q am1 fun H M k _ _ => SqL.of (k.fr _ _ n e).1) r⟩
  | [.sc zs], r =>
   obtain ⟨v, rfl, av⟩ := ax.one
   cases av with
   | sc e q => exact ⟨_, _, rfl, e.sq, k _ _ _ _ _ k1 am1 (zmf q am1 fun H M k _ _ => by
     refine SqR.sq ?_
     rcases e with ⟨o, e⟩ | e
     ·exact .inl ⟨o, (k.fr _ _ (am1.noFrz e) e).1⟩
     ·exact .inr e) r⟩
  | [.ref p], r => obtain ⟨_, _, f⟩ := r; exact f.elim⟩
end
end L3
namespace L3
open PySem PySem.Spec PyProof.Rows L2
theorem zqk : ∀ (z0 : Mm) (z1 : Bool → Mm → Prop), vTru W.non z0 z1 = z1 Bool.false z0 := by intros; rfl
theorem zql : ∀ (z0 : Mm) (z1 : Bool → Mm → Prop) (b : Bool), vTru (W.bl b) z0 z1 = z1 b z0 := by intros; rfl
theorem zqm : ∀ (z0 : Mm) (z1 : Bool → Mm → Prop) (i : Int), vTru (W.int i) z0 z1 = z1 (i != 0) z0 := by intros; rfl
theorem zqn : ∀ (z0 : Mm) (z1 : Bool → Mm → Prop) (y : PySem.Str), vTru (W.str y) z0 z1 = (Str.length y ≤ PySem.sizeLine ∧ z1 ((↑(Str.length y) : Int) != 0) z0) := by intros; rfl
theorem zqo : ∀ (z0 : Mm) (z1 : Bool → Mm → Prop) (ws : List W), vTru (W.tup ws) z0 z1 = z1 (!List.isEmpty ws) z0 := by intros; rfl
theorem zqp : ∀ (z0 : Mm) (z1 : Bool → Mm → Prop) (ws : List W), vTru (W.rl ws) z0 z1 = z1 (!List.isEmpty ws) z0 := by intros; rfl
theorem zqq : ∀ (z0 : Mm) (z1 : Bool → Mm → Prop) (ws : List W), vTru (W.sc ws) z0 z1 = z1 (!List.isEmpty ws) z0 := by intros; rfl
theorem zqr : ∀ (z0 : Mm) (z1 : Bool → Mm → Prop) (kvs : List (L2.Key × W)), vTru (W.dk kvs) z0 z1 = z1 (!List.isEmpty kvs) z0 := by intros; rfl
theorem zqs : ∀ (z0 : Mm) (z1 : Bool → Mm → Prop) (p : PySem.Addr), vTru (W.ref p) z0 z1 = ((∃ (ws : List W), z0 p = Option.some (MO.lst ws) ∧ z1 (!List.isEmpty ws) z0) ∨ ∃ (kvs : List (L2.Key × W)), z0 p = Option.some (MO.dK kvs) ∧ z1 (!List.isEmpty kvs) z0) := by intros; rfl
theorem zqt : ∀ (z0 : Mm) (z1 : List W → (Mm → Prop) → Mm → Prop) (ws : List W), rItN (W.tup ws) z0 z1 = z1 ws (fun (x : Mm) => True) z0 := by intros; rfl
theorem zqu : ∀ (z0 : Mm) (z1 : List W → (Mm → Prop) → Mm → Prop) (ws : List W), rItN (W.rl ws) z0 z1 = z1 ws (fun (x : Mm) => True) z0 := by intros; rfl
theorem zqv : ∀ (z0 : Mm) (z1 : List W → (Mm → Prop) → Mm → Prop) (ws : List W), rItN (W.sc ws) z0 z1 = z1 ws (fun (x : Mm) => True) z0 := by intros; rfl
theorem zqw : ∀ (z0 : Mm) (z1 : List W → (Mm → Prop) → Mm → Prop) (z : PySem.Str), rItN (W.str z) z0 z1 = z1 (List.map (fun (c : Nat) => W.str { cps := #[c] }) (Array.toList (PySem.Str.cps z))) (fun (x : Mm) => True) z0 := by intros; rfl
theorem zqx : ∀ (z0 : Mm) (z1 : List W → (Mm → Prop) → Mm → Prop) (a : PySem.Addr), rItN (W.ref a) z0 z1 = ∃ (ws : List W), z0 a = Option.some (MO.lst ws) ∧ z1 ws (fun (M : Mm) => M a = Option.some (MO.lst ws)) z0 := by intros; rfl
theorem zqy : ∀ (z0 : Mm) (z1 : K3) (i j : Int), rAdd (W.int i) (W.int j) z0 z1 = z1 (W.int (i + j)) z0 := by intros; rfl
theorem zqz : ∀ (z0 : Mm) (z1 : K3) (i j : PySem.Str), rAdd (W.str i) (W.str j) z0 z1 = (Str.length i + Str.length j ≤ PySem.sizeLine ∧ z1 (W.str (i ++ j)) z0) := by intros; rfl
theorem zqA : ∀ (z0 : Mm) (z1 : K3) (xs ys : List W), rAdd (W.tup xs) (W.tup ys) z0 z1 = (xs ≠ [] ∧ List.length xs + List.length ys ≤ PySem.sizeLine ∧ z1 (W.tup (xs ++ ys)) z0) := by intros; rfl
theorem zqB : ∀ (z0 : Mm) (z1 : K3) (a b : PySem.Addr), rAdd (W.ref a) (W.ref b) z0 z1 = ∃ (xs : List W), ∃ (ys : List W), z0 a = Option.some (MO.lst xs) ∧ z0 b = Option.some (MO.lst ys) ∧ List.length xs + List.length ys ≤ PySem.sizeLine ∧ New (xs ++ ys) z0 z1 := by intros; rfl
theorem zqC : ∀ (z0 : Mm) (z1 : K3) (xs : List W) (b : PySem.Addr), rAdd (W.rl xs) (W.ref b) z0 z1 = ∃ (ys : List W), z0 b = Option.some (MO.lst ys) ∧ List.length xs + List.length ys ≤ PySem.sizeLine ∧ New (xs ++ ys) z0 z1 := by intros; rfl
theorem zqD : ∀ (z0 : Mm) (z1 : K3) (a : PySem.Addr) (ys : List W), rAdd (W.ref a) (W.rl ys) z0 z1 = ∃ (xs : List W), z0 a = Option.some (MO.lst xs) ∧ List.length xs + List.length ys ≤ PySem.sizeLine ∧ New (xs ++ ys) z0 z1 := by intros; rfl
theorem zqE : ∀ (z0 : Mm) (z1 : K3) (xs ys : List W), rAdd (W.rl xs) (W.rl ys) z0 z1 = (List.length xs + List.length ys ≤ PySem.sizeLine ∧ New (xs ++ ys) z0 z1) := by intros; rfl
theorem znY : ∀ (z0 : Mm) (z1 : K3) (i j : Int), zbR (W.int i) (W.int j) z0 z1 = z1 (W.int (i + j)) z0 := by intros; rfl
theorem znZ : ∀ (z0 : Mm) (z1 : K3) (i j : PySem.Str), zbR (W.str i) (W.str j) z0 z1 = (Str.length i + Str.length j ≤ PySem.sizeLine ∧ z1 (W.str (i ++ j)) z0) := by intros; rfl
theorem zn0 : ∀ (z0 : Mm) (z1 : K3) (xs ys : List W), zbR (W.tup xs) (W.tup ys) z0 z1 = (xs ≠ [] ∧ List.length xs + List.length ys ≤ PySem.sizeLine ∧ z1 (W.tup (xs ++ ys)) z0) := by intros; rfl
theorem zn1 : ∀ (z0 : Mm) (z1 : K3) (a b : PySem.Addr), zbR (W.ref a) (W.ref b) z0 z1 = ∃ (xs : List W), ∃ (ys : List W), z0 a = Option.some (MO.lst xs) ∧ z0 b = Option.some (MO.lst ys) ∧ List.length xs + List.length ys ≤ PySem.sizeLine ∧ z1 (W.rl (xs ++ ys)) z0 := by intros; rfl
theorem zn2 : ∀ (z0 : Mm) (z1 : K3) (xs : List W) (b : PySem.Addr), zbR (W.rl xs) (W.ref b) z0 z1 = ∃ (ys : List W), z0 b = Option.some (MO.lst ys) ∧ List.length xs + List.length ys ≤ PySem.sizeLine ∧ z1 (W.rl (xs ++ ys)) z0 := by intros; rfl
theorem zn3 : ∀ (z0 : Mm) (z1 : K3) (a : PySem.Addr) (ys : List W), zbR (W.ref a) (W.rl ys) z0 z1 = ∃ (xs : List W), z0 a = Option.some (MO.lst xs) ∧ List.length xs + List.length ys ≤ PySem.sizeLine ∧ z1 (W.rl (xs ++ ys)) z0 := by intros; rfl
theorem zn4 : ∀ (z0 : Mm) (z1 : K3) (xs ys : List W), zbR (W.rl xs) (W.rl ys) z0 z1 = (List.length xs + List.length ys ≤ PySem.sizeLine ∧ z1 (W.rl (xs ++ ys)) z0) := by intros; rfl
theorem zqF : ∀ (g : Int → Int → W) (z1 : Mm) (z2 : K3) (i j : Int), rII0 g (W.int i) (W.int j) z1 z2 = z2 (g i j) z1 := by intros; rfl
theorem zsK : ∀ (C : Int → Int → Prop) (g : Int → Int → W) (z2 : Mm) (z3 : K3) (i j : Int), rII C g (W.int i) (W.int j) z2 z3 = (C i j ∧ z3 (g i j) z2) := by intros; rfl
theorem zsL : ∀ (z0 : Mm) (z1 : K3) (i j : Int), rLt (W.int i) (W.int j) z0 z1 = z1 (W.bl (Decidable.decide (i < j))) z0 := by intros; rfl
theorem zsM : ∀ (z0 : Mm) (z1 : K3) (i j : PySem.Str), rLt (W.str i) (W.str j) z0 z1 = z1 (W.bl (zsk i j)) z0 := by intros; rfl
theorem zqG : ∀ (z0 : Mm) (z1 : K3) (i : Int), rNeg (W.int i) z0 z1 = z1 (W.int (-i)) z0 := by intros; rfl
theorem zsN : ∀ (z0 : Mm) (z1 : K3) (ws : List W) (i : Int), rIx (W.tup ws) (W.int i) z0 z1 = ∃ (w : W), L2.atI ws i = Option.some w ∧ z1 w z0 := by intros; rfl
theorem zsO : ∀ (z0 : Mm) (z1 : K3) (ws : List W) (i : Int), rIx (W.rl ws) (W.int i) z0 z1 = ∃ (w : W), L2.atI ws i = Option.some w ∧ z1 w z0 := by intros; rfl
theorem zsP : ∀ (z0 : Mm) (z1 : K3) (ws : List W) (i : Int), rIx (W.sc ws) (W.int i) z0 z1 = ∃ (w : W), L2.atI ws i = Option.some w ∧ z1 w z0 := by intros; rfl
theorem zsQ : ∀ (z0 : W) (z1 : Mm) (z2 : K3) (kvs : List (L2.Key × W)), rIx (W.dk kvs) z0 z1 z2 = ∃ (w : W), dGet z1 (W.dk kvs) z0 (Option.some w) ∧ z2 w z1 := by intros; rfl
theorem zsR : ∀ (z0 : W) (z1 : Mm) (z2 : K3) (kvs : List (List L2.Key × W)), rIx (W.dt kvs) z0 z1 z2 = ∃ (w : W), dGet z1 (W.dt kvs) z0 (Option.some w) ∧ z2 w z1 := by intros; rfl
theorem zsS : ∀ (z0 : Mm) (z1 : K3) (z : PySem.Str) (i : Int), rIx (W.str z) (W.int i) z0 z1 = (Str.length z ≤ PySem.sizeLine ∧ ∃ (c : Nat), L2.atI (Array.toList (PySem.Str.cps z)) i = Option.some c ∧ z1 (W.str { cps := #[c] }) z0) := by intros; rfl
theorem zsT : ∀ (z0 : Mm) (z1 : K3) (a : PySem.Addr) (i : Int), rIx (W.ref a) (W.int i) z0 z1 = ((∃ (ws : List W), ∃ (w : W), z0 a = Option.some (MO.lst ws) ∧ L2.atI ws i = Option.some w ∧ z1 w z0) ∨ ∃ (w : W), dGet z0 (W.ref a) (W.int i) (Option.some w) ∧ z1 w z0) := by intros; rfl
theorem zsU : ∀ (z0 : W) (z1 : Mm) (z2 : K3) (a : PySem.Addr), (∀ (i : Int), z0 = W.int i → False) → rIx (W.ref a) z0 z1 z2 = ∃ (w : W), dGet z1 (W.ref a) z0 (Option.some w) ∧ z2 w z1 := by
 intro x M R a h; cases x <;> first | rfl | exact (h _ rfl).elim
theorem zqH : ∀ (z0 : Mm) (z1 : K3) (ws : List W), rLen [W.tup ws] z0 z1 = z1 (W.int (↑(List.length ws) : Int)) z0 := by intros; rfl
theorem zqI : ∀ (z0 : Mm) (z1 : K3) (ws : List W), rLen [W.rl ws] z0 z1 = z1 (W.int (↑(List.length ws) : Int)) z0 := by intros; rfl
theorem zqJ : ∀ (z0 : Mm) (z1 : K3) (ws : List W), rLen [W.sc ws] z0 z1 = z1 (W.int (↑(List.length ws) : Int)) z0 := by intros; rfl
theorem zqK : ∀ (z0 : Mm) (z1 : K3) (kvs : List (L2.Key × W)), rLen [W.dk kvs] z0 z1 = z1 (W.int (↑(List.length kvs) : Int)) z0 := by intros; rfl
theorem zqL : ∀ (z0 : Mm) (z1 : K3) (z : PySem.Str), rLen [W.str z] z0 z1 = (Str.length z ≤ PySem.sizeLine ∧ z1 (W.int (↑(Str.length z) : Int)) z0) := by intros; rfl
theorem zqM : ∀ (z0 : Mm) (z1 : K3) (a : PySem.Addr), rLen [W.ref a] z0 z1 = ((∃ (ws : List W), z0 a = Option.some (MO.lst ws) ∧ z1 (W.int (↑(List.length ws) : Int)) z0) ∨ ∃ (kvs : List (L2.Key × W)), z0 a = Option.some (MO.dK kvs) ∧ z1 (W.int (↑(List.length kvs) : Int)) z0) := by intros; rfl
theorem zn5 : ∀ (z0 : Mm) (z1 : K3) (ws : List W), zkT [W.tup ws] z0 z1 = New ws z0 z1 := by intros; rfl
theorem zn6 : ∀ (z0 : Mm) (z1 : K3) (ws : List W), zkT [W.rl ws] z0 z1 = New ws z0 z1 := by intros; rfl
theorem zn7 : ∀ (z0 : Mm) (z1 : K3) (ws : List W), zkT [W.sc ws] z0 z1 = New ws z0 z1 := by intros; rfl
theorem zn8 : ∀ (z0 : Mm) (z1 : K3) (kvs : List (L2.Key × W)), zkT [W.dk kvs] z0 z1 = New (List.map (fun (kv : L2.Key × W) => wK (Prod.fst kv)) kvs) z0 z1 := by intros; rfl
theorem zn9 : ∀ (z0 : Mm) (z1 : K3) (a : PySem.Addr), zkT [W.ref a] z0 z1 = ((∃ (ws : List W), z0 a = Option.some (MO.lst ws) ∧ New ws z0 z1) ∨ ∃ (kvs : List (L2.Key × W)), z0 a = Option.some (MO.dK kvs) ∧ New (List.map (fun (kv : L2.Key × W) => wK (Prod.fst kv)) kvs) z0 z1) := by intros; rfl
theorem zmg : ∀ (z0 : Mm) (z1 : K3) (ws : List W), zd4 [W.tup ws] z0 z1 = z1 (W.rl ws) z0 := by intros; rfl
theorem zmh : ∀ (z0 : Mm) (z1 : K3) (ws : List W), zd4 [W.rl ws] z0 z1 = z1 (W.rl ws) z0 := by intros; rfl
theorem zmi : ∀ (z0 : Mm) (z1 : K3) (ws : List W), zd4 [W.sc ws] z0 z1 = z1 (W.rl ws) z0 := by intros; rfl
theorem zmj : ∀ (z0 : Mm) (z1 : K3) (kvs : List (L2.Key × W)), zd4 [W.dk kvs] z0 z1 = z1 (W.rl (List.map (fun (kv : L2.Key × W) => wK (Prod.fst kv)) kvs)) z0 := by intros; rfl
theorem zmk : ∀ (z0 : Mm) (z1 : K3) (a : PySem.Addr), zd4 [W.ref a] z0 z1 = ((∃ (ws : List W), z0 a = Option.some (MO.lst ws) ∧ z1 (W.rl ws) z0) ∨ ∃ (kvs : List (L2.Key × W)), z0 a = Option.some (MO.dK kvs) ∧ z1 (W.rl (List.map (fun (kv : L2.Key × W) => wK (Prod.fst kv)) kvs)) z0) := by intros; rfl
theorem zml : ∀ (z0 : Mm) (z1 : K3) (ws : List W), zc5 [W.tup ws] z0 z1 = z1 (W.tup ws) z0 := by intros; rfl
theorem zmm : ∀ (z0 : Mm) (z1 : K3) (ws : List W), zc5 [W.rl ws] z0 z1 = z1 (W.tup ws) z0 := by intros; rfl
theorem zmn : ∀ (z0 : Mm) (z1 : K3) (a : PySem.Addr), zc5 [W.ref a] z0 z1 = ∃ (ws : List W), z0 a = Option.some (MO.lst ws) ∧ z1 (W.tup ws) z0 := by intros; rfl
theorem zqN : ∀ (z0 z1 : Option Int) (z2 : Mm) (z3 : K3) (ws : List W), rSlF (W.rl ws) z0 z1 z2 z3 = z3 (W.rl (cutW ws z0 z1)) z2 := by intros; rfl
theorem zqO : ∀ (z0 z1 : Option Int) (z2 : Mm) (z3 : K3) (ws : List W), rSlF (W.sc ws) z0 z1 z2 z3 = z3 (W.rl (cutW ws z0 z1)) z2 := by intros; rfl
theorem zqP : ∀ (z0 z1 : Option Int) (z2 : Mm) (z3 : K3) (a : PySem.Addr), rSlF (W.ref a) z0 z1 z2 z3 = ∃ (ws : List W), z2 a = Option.some (MO.lst ws) ∧ z3 (W.rl (cutW ws z0 z1)) z2 := by intros; rfl
theorem zqQ : ∀ (z0 z1 : Option Int) (z2 : Mm) (z3 : K3) (ws : List W), rSlF (W.tup ws) z0 z1 z2 z3 = (¬(HT.sIx (List.length ws) 0 z0 = 0 ∧ HT.sIx (List.length ws) (List.length ws) z1 = List.length ws) ∧ z3 (W.tup (cutW ws z0 z1)) z2) := by intros; rfl
theorem zsV : ∀ (z0 z1 : Option Int) (z2 : Mm) (z3 : K3) (ws : List W), rSl (W.rl ws) z0 z1 z2 z3 = New (cutW ws z0 z1) z2 z3 := by intros; rfl
theorem zsW : ∀ (z0 z1 : Option Int) (z2 : Mm) (z3 : K3) (ws : List W), rSl (W.sc ws) z0 z1 z2 z3 = New (cutW ws z0 z1) z2 z3 := by intros; rfl
theorem zsX : ∀ (z0 z1 : Option Int) (z2 : Mm) (z3 : K3) (a : PySem.Addr), rSl (W.ref a) z0 z1 z2 z3 = ∃ (ws : List W), z2 a = Option.some (MO.lst ws) ∧ New (cutW ws z0 z1) z2 z3 := by intros; rfl
theorem zsY : ∀ (z0 z1 : Option Int) (z2 : Mm) (z3 : K3) (ws : List W), rSl (W.tup ws) z0 z1 z2 z3 = (¬(HT.sIx (List.length ws) 0 z0 = 0 ∧ HT.sIx (List.length ws) (List.length ws) z1 = List.length ws) ∧ z3 (W.tup (cutW ws z0 z1)) z2) := by intros; rfl
theorem zqR : ∀ (z0 : Mm) (z1 : K3) (l : PySem.Addr) (y : W), rApp (W.ref l) [y] z0 z1 = ∃ (ws : List W), z0 l = Option.some (MO.lst ws) ∧ List.length ws < PySem.sizeLine ∧ z1 W.non (put z0 l (MO.lst (ws ++ [y]))) := by intros; rfl
theorem zqS : ∀ (z0 : Mm) (z1 : K3) (l : PySem.Addr), rPop (W.ref l) [] z0 z1 = ∃ (ws : List W), ∃ (w : W), z0 l = Option.some (MO.lst (ws ++ [w])) ∧ z1 w (put z0 l (MO.lst ws)) := by intros; rfl
theorem zsZ : ∀ (T : String) (z1 : Mm) (x_2 : PySem.Str), tyW T (W.str x_2) z1 = (T = "str") := by intros; rfl
theorem zs0 : ∀ (T : String) (z1 : Mm) (i : Int), tyW T (W.int i) z1 = (T = "int") := by intros; rfl
theorem zs1 : ∀ (T : String) (z1 : Mm) (ws : List W), tyW T (W.rl ws) z1 = (T = "list") := by intros; rfl
theorem zs2 : ∀ (T : String) (z1 : Mm) (ws : List W), tyW T (W.sc ws) z1 = (T = "list") := by intros; rfl
theorem zs3 : ∀ (T : String) (z1 : Mm) (kvs : List (L2.Key × W)), tyW T (W.dk kvs) z1 = (T = "dict") := by intros; rfl
theorem zs4 : ∀ (T : String) (z1 : Mm) (kvs : List (List L2.Key × W)), tyW T (W.dt kvs) z1 = (T = "dict") := by intros; rfl
theorem zs5 : ∀ (T : String) (z1 : Mm) (p : PySem.Addr), tyW T (W.ref p) z1 = ((T = "list" ∧ ∃ (ws : List W), z1 p = Option.some (MO.lst ws)) ∨ T = "dict" ∧ ((∃ (kvs : List (L2.Key × W)), z1 p = Option.some (MO.dK kvs)) ∨ ∃ (kvs : List (List L2.Key × W)), z1 p = Option.some (MO.dT kvs))) := by intros; rfl
theorem zqT : ∀ (z0 : Mm) (z1 : K3) (i j : Int), rMul (W.int i) (W.int j) z0 z1 = ((L2.CMul i j ∨ L2.CBig i j) ∧ z1 (W.int (i * j)) z0) := by intros; rfl
theorem zqU : ∀ (z0 : Mm) (z1 : K3) (z : PySem.Str) (n : Int), rMul (W.str z) (W.int n) z0 z1 = (Str.length z ≤ 16 ∧ -2 ^ 63 ≤ n ∧ n ≤ 1048576 ∧ z1 (W.str (PySem.Txt.mul z n)) z0) := by intros; rfl
theorem zqV : ∀ (z0 : Mm) (z1 : K3) (a : PySem.Addr) (n : Int), rMul (W.ref a) (W.int n) z0 z1 = ∃ (xs : List W), z0 a = Option.some (MO.lst xs) ∧ -2 ^ 63 ≤ n ∧ n < 2 ^ 63 ∧ List.length xs * Int.toNat n ≤ PySem.sizeLine ∧ New (List.flatten (List.replicate (Int.toNat n) xs)) z0 z1 := by intros; rfl
theorem zqW : ∀ (z0 : Mm) (z1 : K3) (xs : List W) (n : Int), rMul (W.rl xs) (W.int n) z0 z1 = (-2 ^ 63 ≤ n ∧ n < 2 ^ 63 ∧ List.length xs * Int.toNat n ≤ PySem.sizeLine ∧ New (List.flatten (List.replicate (Int.toNat n) xs)) z0 z1) := by intros; rfl
theorem zoa : ∀ (z0 : Mm) (z1 : K3) (i j : Int), zhK (W.int i) (W.int j) z0 z1 = ((L2.CMul i j ∨ L2.CBig i j) ∧ z1 (W.int (i * j)) z0) := by intros; rfl
theorem zob : ∀ (z0 : Mm) (z1 : K3) (z : PySem.Str) (n : Int), zhK (W.str z) (W.int n) z0 z1 = (Str.length z ≤ 16 ∧ -2 ^ 63 ≤ n ∧ n ≤ 1048576 ∧ z1 (W.str (PySem.Txt.mul z n)) z0) := by intros; rfl
theorem zoc : ∀ (z0 : Mm) (z1 : K3) (a : PySem.Addr) (n : Int), zhK (W.ref a) (W.int n) z0 z1 = ∃ (xs : List W), z0 a = Option.some (MO.lst xs) ∧ -2 ^ 63 ≤ n ∧ n < 2 ^ 63 ∧ List.length xs * Int.toNat n ≤ PySem.sizeLine ∧ z1 (W.rl (List.flatten (List.replicate (Int.toNat n) xs))) z0 := by intros; rfl
theorem zod : ∀ (z0 : Mm) (z1 : K3) (xs : List W) (n : Int), zhK (W.rl xs) (W.int n) z0 z1 = (-2 ^ 63 ≤ n ∧ n < 2 ^ 63 ∧ List.length xs * Int.toNat n ≤ PySem.sizeLine ∧ z1 (W.rl (List.flatten (List.replicate (Int.toNat n) xs))) z0) := by intros; rfl
end L3
namespace L3
open PySem PySem.Spec PyProof.Rows L2
section
variable {X : Cx} {a b c : Expr} {ta tb tc : TE3} {pos : Pos}
end
end L3
namespace L3
open PySem PySem.Spec PyProof.Rows L2
section
variable {X : Cx}
theorem zkb {K : PySem.W.Frag} {H : Hp} {M : Mm} (ss : List Str) : AVs K H M (ss.map V.str) (ss.map W.str) := by
 induction ss with
 | nil => exact .nil
 | cons s r ih => exact .cons (.str s) ih
end
end L3
namespace Rg
open PySem PySem.Spec PyProof.Rows L2 L3
structure Rule where
 name : Str
 parts : List Str
 cost : Int
theorem zjj (c : Nat) : cs (⟨#[c]⟩ : Str) = [c] := rfl
def zbh (r : Rule) : W := .tup [.str r.name, .tup (r.parts.map W.str), .int r.cost]
def rlW (rs : List Rule) : W := .rl (rs.map zbh)
end Rg
namespace Rg
open PySem PySem.Spec PyProof.Rows L2 L3
def za8 : Sp3 := fun ws M R => ∃ (zs : List W) (k : Int), (ws = [.sc zs, .int k] ∨ ws = [.rl zs, .int k]) ∧ Ints zs ∧ 0 ≤ k ∧ ∀ i, R (.int i) M
abbrev zdN : List Str := ["script", "k"]
def zbs : TS3 :=
   (vSeq (vIfS (zaK (vOp rLt (vVar 1) (vCB rLen (zac (vVar 0) aNil))))
    (vRet (vOp rIx (vVar 0) (vVar 1)))
    zbG)
   (vRet (vC (.int 0))))
end Rg
set_option hygiene false in
local macro_rules | `(tactic| simp? only [$xs,*] $[$l:location]?) => `(tactic| simp only [L3.vAsg, L3.wSub, L3.wTup, L3.zkU, L3.wNil, L3.zp6, L3.zuf, L3.zsB, L3.vSeq, L3.vSet, L3.vVar, L3.vC, L3.vOp, L3.zaK, L3.vUn, L3.vCB, L3.zbC, L3.aNil, L3.zac, L3.vTup, L3.vLst, L3.zi2, L3.vIf, L3.vIfS, L3.vAnd, L3.vOr, L3.vNot, L3.zf9, L3.vOrV, L3.znQ, L3.zb1, L3.zqk, L3.zql, L3.zqm, L3.zqn, L3.zqo, L3.zqp, L3.zqq, L3.zqr, L3.zqs, L3.vRet, L3.zcn, L3.zbG, L3.vBM, L3.vBM0, L3.vSl, L3.vSlF, L3.sNo, L3.sPt, L3.vFor, L3.iIt, L3.iR1, L3.iR2, L3.zbD, L3.zdM, L3.vFrz, L3.zhH, L3.zqt, L3.zqu, L3.zqv, L3.zqw, L3.zqx, L3.zqy, L3.zqz, L3.zqA, L3.zqB, L3.zqC, L3.zqD, L3.zqE, L3.znY, L3.znZ, L3.zn0, L3.zn1, L3.zn2, L3.zn3, L3.zn4, L3.zqF, L3.zsK, L3.zsH, L3.zsI, L3.zsJ, zhM, zgN, zi6, zi7, zhN, zi8, zkV, zkW, zi9, zhO, zja, zhP, zjb, zgO, zhQ, zjc, zjd, zgP, zhR, zhS, zgQ, zhT, zje, zjf, zhU, zjg, zhV, zkX, zkY, zjh, zqj, L3.zsL, L3.zsM, L3.zqG, L3.zsN, L3.zsO, L3.zsP, L3.zsQ, L3.zsR, L3.zsS, L3.zsT, L3.zsU, L3.zqH, L3.zqI, L3.zqJ, L3.zqK, L3.zqL, L3.zqM, L3.zn5, L3.zn6, L3.zn7, L3.zn8, L3.zn9, L3.zmg, L3.zmh, L3.zmi, L3.zmj, L3.zmk, L3.zml, L3.zmm, L3.zmn, L3.zqN, L3.zqO, L3.zqP, L3.zqQ, L3.zsV, L3.zsW, L3.zsX, L3.zsY, L3.zqR, L3.zqS, L3.zsZ, L3.zs0, L3.zs1, L3.zs2, L3.zs3, L3.zs4, L3.zs5, L3.zqT, L3.zqU, L3.zqV, L3.zqW, L3.zoa, L3.zob, L3.zoc, L3.zod, L3.zaP, L3.znU, atI0, atI1, atI2, List.map_cons, List.map_nil, Option.bind_some, Option.bind_none, Option.join_some, List.getElem?_cons_zero, List.getElem?_cons_succ, List.set_cons_zero, List.set_cons_succ, Option.some.injEq, exists_eq_left', exists_eq_left, W.bl.injEq, W.int.injEq, W.str.injEq, Bool.false_eq_true, if_true, if_false, ↓reduceIte, true_and, and_true, sizeLine, zaj, zeq, MO.lst.injEq, MO.dK.injEq, MO.dT.injEq, exists_eq', exists_eq, true_or, or_true, false_and, and_false, or_false, false_or, reduceCtorEq, String.reduceEq, exists_false, zul, decide_eq_true_eq, Bool.not_eq_true', Bool.not_true, Bool.not_false, Classical.not_not, decide_eq_false_iff_not, Int.reduceLT, Int.reduceLE, Nat.reduceLT, Nat.reduceLeDiff, Nat.reducePow, List.length_cons, List.length_nil, Nat.reduceAdd, Nat.zero_add, Nat.zero_le, $xs,*] $[$l:location]?)
namespace Rg
open PySem PySem.Spec PyProof.Rows L2 L3
theorem zgR : ∀ ws M R, za8 ws M R → ws.length = 2 := by rintro ws M R ⟨_, _, rfl | rfl, _⟩ <;> rfl
theorem zmo (c : Nat) (g : Str) : occ ⟨#[c]⟩ g = decide (c ∈ cs g) := StrLaws.found_one g c
theorem zoe (z : Str) : (Txt.partition z "_").1.length ≤ z.length ∧ (Txt.partition z "_").2.2.length ≤ z.length := by
 have := fact_partition z "_"
 exact ⟨this.1, this.2.2⟩
theorem zmp (z : Str) : zdI z = ((decide ((Txt.partition z "_").2.1 = "") || zgJ (Txt.partition z "_").2.2 FIGS) && zgJ (Txt.partition z "_").1 zsc) := by
 unfold zdI; rw [dStr]
theorem zof {t : Str} {ts : List Str} : inW (.str t) (ts.map W.str) = decide (t ∈ ts) := by
 unfold inW
 rw [List.any_map, Bool.eq_iff_iff]
 simp [Function.comp, eqW]
theorem zgc {ws : List W} {M : Mm} {R : K3} (h : za8 ws M R) : zbs (zaP R) (zbe zdN ws) M := by
 obtain ⟨zs, k, e, hi, hk, r⟩ := h
 rcases e with rfl | rfl
 ·show zbs (zaP R) [some (.sc zs), some (.int k)] M
  simp? only [zbs]
  by_cases hd : k < zs.length
  ·obtain ⟨x, e, _, m⟩ := zd6 hk hd
   obtain ⟨i, rfl⟩ := hi x m
   rw [if_pos hd]
   exact ⟨_, e, _, Sub.refl _, r i⟩
  ·rw [if_neg hd]
   exact ⟨_, Sub.refl _, r 0⟩
 ·show zbs (zaP R) [some (.rl zs), some (.int k)] M
  simp? only [zbs]
  by_cases hd : k < zs.length
  ·obtain ⟨x, e, _, m⟩ := zd6 hk hd
   obtain ⟨i, rfl⟩ := hi x m
   rw [if_pos hd]
   exact ⟨_, e, _, Sub.refl _, r i⟩
  ·rw [if_neg hd]
   exact ⟨_, Sub.refl _, r 0⟩
end Rg
namespace PySem
namespace Rl
open PyProof.Rows L2 PySem.Spec
section
variable {prog : Program} {w : World} {A : Around} {E : Value → Shared → Prop} {s : Shared}
end
end Rl
end PySem
namespace L2
open PySem PySem.Spec PyProof.Rows
section
variable {X : Cx} {a : Expr} {ta : TA} {p p2 pos pos2 : Pos}
end
end L2
namespace L3
open PySem PySem.Spec PyProof.Rows L2
section
variable {X : Cx} {a : Expr} {ta : TE3} {pos : Pos}
end
end L3
namespace PySem
namespace Dp
open PyProof.Rows L2 PySem.Spec
section
variable {prog : Program} {w : World} {A : Around} {E : Value → Shared → Prop} {s : Shared}
variable {K : Type} [DecidableEq K] {knd : KeyKind prog w K}
def all (kvs : List (K × Value)) (ps : List (K × Value)) : List (K × Value) := ps.foldl (fun kvs p => stored kvs p.1 p.2) kvs
end
end Dp
end PySem
namespace L3
open PySem PySem.Spec PyProof.Rows L2
section
variable {X : Cx}
end
end L3
namespace L3
open PySem PySem.Spec PyProof.Rows L2
section
variable {X : Cx}
end
end L3
namespace L3
open PySem PySem.Spec PyProof.Rows L2
end L3
namespace Rg
open PySem PySem.Spec PyProof.Rows
def jn (c : Nat) : List (List Nat) → List Nat
 | [] => []
 | [p] => p
 | p :: q :: r => p ++ c :: jn c (q :: r)
def sp (c : Nat) : List Nat → List (List Nat)
 | [] => [[]]
 | a :: r => if a = c then [] :: sp c r else match sp c r with
  | [] => [[a]]
  | p :: ps => (a :: p) :: ps
theorem ze8 (c : Nat) : ∀ l, ∃ p ps, sp c l = p :: ps
 | [] => ⟨_, _, rfl⟩
 | a :: r => by
  obtain ⟨p, ps, e⟩ := ze8 c r
  rw [sp]
  split
  ·exact ⟨_, _, rfl⟩
  ·rw [e]; exact ⟨_, _, rfl⟩
theorem zkc {c : Nat} : ∀ {p : List Nat}, c ∉ p → sp c p = [p]
 | [], _ => rfl
 | a :: p, h => by
  rw [sp, if_neg (fun e => h (by rw [e]; exact List.mem_cons_self)), zkc (fun z => h (List.mem_cons_of_mem _ z))]
def toS (l : List Nat) : Str := ⟨l.toArray⟩
theorem zbL (l : List Nat) : cs (toS l) = l := by unfold cs toS; simp
theorem zfu (x : Str) : toS (cs x) = x := zfr (zbL _)
theorem zmq {sep : Str} {c : Nat} (hs : cs sep = [c]) : ∀ xs : List Str, cs (Str.join sep xs) = jn c (xs.map cs)
 | [] => rfl
 | [x] => rfl
 | x :: y :: r => by
  show cs (x ++ sep ++ Str.join sep (y :: r)) = _
  rw [zbO, zbO, zmq hs (y :: r), hs, List.append_assoc]; rfl
def pos (c : Nat) : Nat → List Nat → List Nat
 | _, [] => []
 | i, b :: r => if b = c then i :: pos c (i + 1) r else pos c (i + 1) r
open PySem.Builtin.Str PySem.StrLaws in
theorem zqX (x : Str) (c : Nat) (limit : Nat) : ∀ (n a : Nat) (st : Array Nat × Nat), n = x.length - a → a + n ≤ limit → st.2 ≤ a → st.1.size ≤ a →
  (forIn (List.range' a (n + 1)) st (occBody x ⟨#[c]⟩ x.length limit)).run.fst.toList = st.1.toList ++ pos c a ((cs x).drop a) := by
 intro n
 induction n with
 | zero =>
  intro a st hn hl h1 h2
  have hd : (cs x).drop a = [] := List.drop_of_length_le (by rw [zaS]; omega)
  rw [hd, pos, List.append_nil, List.range'_succ, List.forIn_cons]
  unfold occBody
  rw [if_neg (by intro ⟨⟨_, h⟩, _⟩; have : a + 1 ≤ x.length := h; omega)]
  rfl
 | succ n ih =>
  intro a st hn hl h1 h2
  have ha : a < (cs x).length := by rw [zaS]; omega
  have hd : (cs x).drop a = (cs x)[a] :: (cs x).drop (a + 1) := List.drop_eq_getElem_cons ha
  have hs : subAt x ⟨#[c]⟩ a = decide ((cs x)[a] = c) := by
   rw [subAt_eq]
   show (((cs x).drop a).take 1 == [c]) = _
   rw [hd, List.take_succ_cons, List.take_zero, Bool.eq_iff_iff, beq_iff_eq, decide_eq_true_eq]
   exact ⟨fun h => (List.cons.inj h).1, fun h => by rw [h]⟩
  rw [List.range'_succ, List.forIn_cons]
  unfold occBody
  rw [hd, pos]
  by_cases hc : (cs x)[a] = c
  ·rw [if_pos ⟨⟨⟨by omega, h1⟩, by show a + 1 ≤ x.length; rw [zaS] at ha; omega⟩, by rw [hs]; simp [hc]⟩, if_pos hc]
   have := ih (a + 1) (st.1.push a, a + 1) (by omega) (by omega) (Nat.le_refl _) (by simp; omega)
   refine Eq.trans this ?_
   simp
  ·rw [if_neg (by rw [hs]; simp [hc]), if_neg hc]
   exact ih (a + 1) st (by omega) (by omega) (by omega) (by omega)
open PySem.Builtin.Str PySem.StrLaws in
theorem zmr (x : Str) (c : Nat) : occurrences x ⟨#[c]⟩ 0 x.length (x.length + 1) = pos c 0 (cs x) := by
 rw [occ_eq]
 have := zqX x c (x.length + 1) x.length 0 (#[], 0) (by omega) (by omega) (Nat.le_refl _) (by simp)
 simpa using this
open PySem.Builtin.Str PySem.StrLaws in
theorem zog (x : Str) (c : Nat) : ∀ (l : List Nat) (a i : Nat), a ≤ i → (cs x).drop i = l → partsFrom x 1 a (pos c i l) = (match sp c l with | [] => [] | p :: ps => (((cs x).drop a).take (i - a) ++ p) :: ps).map toS := by
 intro l
 induction l with
 | nil =>
  intro a i h e
  have hi : (cs x).length ≤ i := by
   by_cases hh : (cs x).length ≤ i
   ·exact hh
   ·have := congrArg List.length e; rw [List.length_drop] at this; simp at this; omega
  show [strSub x a x.length] = [toS (((cs x).drop a).take (i - a) ++ [])]
  congr 1
  apply zfr
  rw [zbL, zl3, List.append_nil, List.take_of_length_le (by rw [List.length_drop, zaS]; exact Nat.le_refl _), List.take_of_length_le (by rw [List.length_drop]; omega)]
 | cons b r ih =>
  intro a i h e
  have hi : i < (cs x).length := by
   by_cases hh : (cs x).length ≤ i
   ·rw [List.drop_of_length_le hh] at e; cases e
   ·omega
  have e2 : (cs x).drop (i + 1) = r := by rw [← List.drop_drop, e]; rfl
  have hb : (cs x)[i] = b := by rw [List.drop_eq_getElem_cons hi] at e; exact (List.cons.inj e).1
  rw [pos, sp]
  by_cases hc : b = c
  ·rw [if_pos hc, if_pos hc, partsFrom, ih (i + 1) (i + 1) (Nat.le_refl _) e2]
   obtain ⟨p, ps, eq⟩ := ze8 c r
   rw [eq]
   show strSub x a i :: _ = toS (((cs x).drop a).take (i - a) ++ []) :: List.map toS (p :: ps)
   congr 1
   ·apply zfr; rw [zbL, zl3, List.append_nil]
   ·rw [Nat.sub_self, List.take_zero]; rfl
  ·rw [if_neg hc, if_neg hc, ih a (i + 1) (by omega) e2]
   obtain ⟨p, ps, eq⟩ := ze8 c r
   rw [eq]
   show toS (((cs x).drop a).take (i + 1 - a) ++ p) :: _ = toS (((cs x).drop a).take (i - a) ++ (b :: p)) :: _
   congr 2
   have h3 : ((cs x).drop a).take (i + 1 - a) = ((cs x).drop a).take (i - a) ++ [b] := by
    rw [show i + 1 - a = (i - a) + 1 by omega, List.take_add_one, List.getElem?_drop, show a + (i - a) = i by omega, List.getElem?_eq_getElem hi, hb]; rfl
   rw [h3, List.append_assoc]; rfl
open PySem.Builtin.Str PySem.StrLaws in
theorem zhX (x : Str) (c : Nat) : partsBetween x (occurrences x ⟨#[c]⟩ 0 x.length (x.length + 1)) 1 = (sp c (cs x)).map toS := by
 rw [partsBetween_eq, zmr, zog x c (cs x) 0 0 (Nat.le_refl _) rfl]
 obtain ⟨p, ps, e⟩ := ze8 c (cs x)
 rw [e]; rfl
end Rg
namespace L3
open PySem PySem.Spec PyProof.Rows L2
section
variable {X : Cx}
def zqY (sep : Str) (xs : List Str) : Prop := ∃ B : Nat, (∀ y ∈ xs, y.length ≤ B) ∧ xs.length * B + xs.length * sep.length ≤ 16777216
def zms : W → List W → Mm → K3 → Prop
 | .str sep, [.rl ws], M, R => ∃ xs : List Str, ws = xs.map W.str ∧ zqY sep xs ∧ R (.str (Str.join sep xs)) M
 | .str sep, [.ref a], M, R => ∃ xs : List Str, M a = some (.lst (xs.map W.str)) ∧ zqY sep xs ∧ R (.str (Str.join sep xs)) M
 | _, _, _, _ => False
theorem zmt {K : PySem.W.Frag} {H : Hp} {M : Mm} : ∀ {xs : List Str} {vs : List V} {us : List Value}, AVs K H M vs (xs.map W.str) → Vals vs us → ∃ l : List (Str × Tok), strValues l = us ∧ l.map (·.1) = xs
 | [], _, _, .nil, .nil => ⟨[], rfl, rfl⟩
 | x :: xs, _, _, .cons av avs, .cons rv rvs => by
  obtain ⟨l, e1, e2⟩ := zmt avs rvs
  cases av
  obtain ⟨t, rfl⟩ := rv
  exact ⟨(x, t) :: l, by rw [← e1]; rfl, by rw [← e2]; rfl⟩
theorem zhY {pins : List (Addr × Obj)} {σ : L2.St} {H : Hp} {M : Mm} {s : Shared} {Q : VK} {R : K3} {sep : Str} {ts : List Str} {vs : List V} {l : Addr} {t : Tok} (I : L2.Inv X pins σ H s) (am : AM X.K H M) (k : Up X.K H M R Q) (f : H l = some (.lst vs)) (q : AVs X.K H M vs (ts.map W.str)) (hj : zqY sep ts) (r : R (.str (Str.join sep ts)) M) :
  wpAny (model X.prog X.w) X.A (call (.builtin "str.join") [.str sep t, .ref l]) (EP X pins σ Q) X.xe s := by
 obtain ⟨B, hB, hl⟩ := hj
 obtain ⟨its, rv, pl, _⟩ := I.list (SqL.of f)
 obtain ⟨l, e1, e2⟩ := zmt q rv
 refine call_meets F.slot_str_join (typeIs_str _ _ _) F.entry_str_join (F.args_str_join_2 _ _) (meets_str_join_list sep t _ l (by rw [e2]; exact StrLaws.joinFits hB hl)) ⟨by rw [e1]; exact pl.isList, ?_⟩
 have fin : ∀ (y : Str) (tk tk' : Nat), y = Str.join sep ts → EP X pins σ Q (.str y tk) { s with toks := tk' } := fun y tk tk' e => by
  subst e
  exact ⟨.str _, H, I.tok _, ⟨_, rfl⟩, k.at am (.str _) r⟩
 have hz : (Builtin.Str.glued sep ts).length ≤ sizeLine := by
  have h1 := StrLaws.sumLen_le ts hB
  rw [size_glued, sizeLine_eq]
  have h2 : (ts.length - 1) * sep.length ≤ ts.length * sep.length := Nat.mul_le_mul_right _ (Nat.sub_le _ _)
  omega
 have ge := StrLaws.glued_eq_join sep ts
 match l, e2 with
 | [], e2 => subst e2; exact ⟨hz, fin _ _ _ ge⟩
 | [p], e2 => subst e2; exact fin _ _ s.toks rfl
 | p :: p2 :: r2, e2 =>
  rw [← e2] at hz ge
  exact ⟨hz, fin _ _ _ (by rw [← e2]; exact ge)⟩
theorem zo4 : MtR X "str.join" (upM X.K zms) := by
 rintro pins s σ H x xs v us Q I rx rs ⟨wx, ws, M, R, am, ax, axs, h, k⟩
 match wx, ws, h with
 | .str sep, [.rl ws], h =>
  obtain ⟨u, rfl, au⟩ := axs.one
  obtain ⟨ts, rfl, hj, r⟩ := h
  cases ax
  obtain ⟨t, rfl⟩ := rx
  obtain ⟨u', rfl, ru⟩ := rs.one
  cases au with
  | rl f n q => cases ru; exact zhY I am k f q hj r
 | .str sep, [.ref a], h =>
  obtain ⟨u, rfl, au⟩ := axs.one
  obtain ⟨ts, e, hj, r⟩ := h
  cases ax
  obtain ⟨t, rfl⟩ := rx
  obtain ⟨u', rfl, ru⟩ := rs.one
  cases au
  cases ru
  obtain ⟨vs, f, q⟩ := am.lst e
  exact zhY I am k f q hj r
def Cuts (x : Str) (c : Nat) : Prop := 0 < x.length ∧ x.length ≤ 1000000 ∧ (∀ a ∈ Rg.cs x, a < 256) ∧ c < 256
def zs6 : W → List W → Mm → K3 → Prop
 | .str x, [.str y], M, R => ∃ c : Nat, y = ⟨#[c]⟩ ∧ Cuts x c ∧ New ((Rg.sp c (Rg.cs x)).map fun p => W.str (Rg.toS p)) M R
 | _, _, _, _ => False
theorem zmu (c : Nat) : ∀ l : List Nat, (Rg.sp c l).length ≤ l.length + 1
 | [] => Nat.le_refl _
 | a :: r => by
  have ih := zmu c r
  rw [Rg.sp]
  split
  ·simp; omega
  ·obtain ⟨p, ps, e⟩ := Rg.ze8 c r
   rw [e] at ih ⊢
   simp at ih ⊢; omega
theorem zhZ : ∀ (tk : Nat) (ps : List Str), Vals (ps.map V.str) (strsFrom tk ps)
 | _, [] => .nil
 | tk, p :: ps => .cons ⟨tk, rfl⟩ (zhZ (tk + 1) ps)
theorem zkd {x : Str} (h : ∀ a ∈ Rg.cs x, a < 256) : Builtin.Str.strKind x = 1 := by
 unfold Builtin.Str.strKind
 rw [if_pos]
 rw [Array.all_eq_true']
 intro a ha
 simpa using h a (by unfold Rg.cs; simpa using ha)
theorem zqZ : MtR X "str.split" (upM X.K zs6) := by
 rintro pins s σ H x xs v us Q I rx rs ⟨wx, ws, M, R, am, ax, axs, h, k⟩
 match wx, ws, h with
 | .str x, [.str y], h =>
  obtain ⟨u, rfl, au⟩ := axs.one
  obtain ⟨c, rfl, ⟨h0, h1, h2, h3⟩, r⟩ := h
  cases ax; cases au
  obtain ⟨t, rfl⟩ := rx
  obtain ⟨u', rfl, ru⟩ := rs.one
  obtain ⟨t', rfl⟩ := ru
  have k1 : (decide (x.length < (⟨#[c]⟩ : Str).length) || decide (Builtin.Str.strKind x < Builtin.Str.strKind ⟨#[c]⟩)) = false := by
   rw [zkd h2, zkd (x := ⟨#[c]⟩) (by unfold Rg.cs; simp; exact h3)]
   have : (⟨#[c]⟩ : Str).length = 1 := rfl
   rw [this]
   simp
   omega
  have hp := Rg.zhX x c
  have hlen : ((Rg.sp c (Rg.cs x)).map Rg.toS).length ≤ sizeLine := by
   rw [List.length_map, sizeLine_eq]
   have := zmu c (Rg.cs x)
   rw [Rg.zaS] at this
   omega
  have hfr := I.hok.fresh (Nat.le_refl s.heap.objs.size)
  have fin : ∀ (its : List Value) (tk : Nat), Vals (((Rg.sp c (Rg.cs x)).map Rg.toS).map V.str) its → EP X pins σ Q (.ref s.heap.objs.size) { s with toks := tk, heap := s.heap.push { cls := .type "list", data := .seq its.toArray } } := fun its tk hv =>
   ⟨.ref s.heap.objs.size, _, I.lnew (t' := tk) hv (by rw [List.length_map]; exact hlen), rfl, zcX am k hfr (zkb _) (by
    have r' := r
    rw [show (Rg.sp c (Rg.cs x)).map (fun p => W.str (Rg.toS p)) = ((Rg.sp c (Rg.cs x)).map Rg.toS).map W.str by rw [List.map_map]; rfl] at r'
    exact r')⟩
  cases hf : (Builtin.Str.occurrences x ⟨#[c]⟩ 0 x.length (x.length + 1)).isEmpty with
  | false =>
   refine call_meets F.slot_str_split (typeIs_str _ _ _) F.entry_str_split (F.args_str_split_2 _ _) (meets_str_split_sep x ⟨#[c]⟩ t t' k1 rfl hf (by rw [sizeLine_eq]; omega) (by show (Builtin.Str.partsBetween x _ 1).length ≤ _; rw [hp]; exact hlen)) ?_
   show EP X pins σ Q _ _
   have hv := zhZ s.toks ((Rg.sp c (Rg.cs x)).map Rg.toS)
   have := fin _ (s.toks + ((Rg.sp c (Rg.cs x)).map Rg.toS).length) hv
   show EP X pins σ Q (.ref s.heap.objs.size) { s with toks := s.toks + (Builtin.Str.partsBetween x (Builtin.Str.occurrences x ⟨#[c]⟩ 0 x.length (x.length + 1)) 1).length, heap := s.heap.push { cls := .type "list", data := .seq (strsFrom s.toks (Builtin.Str.partsBetween x (Builtin.Str.occurrences x ⟨#[c]⟩ 0 x.length (x.length + 1)) 1)).toArray } }
   rw [hp]
   exact this
  | true =>
   obtain ⟨raising, htree⟩ := split_sep_tree x ⟨#[c]⟩ t t'
   refine call_meets F.slot_str_split (typeIs_str _ _ _) F.entry_str_split (F.args_str_split_2 _ _) (S := fun _ R s => R (.ok (.ret (.ref s.heap.objs.size))) { s with heap := s.heap.push { cls := .type "list", data := .seq [Value.str x t].toArray } }) (.of_wp fun prog w A R s h => ?_) ?_
   ·rw [htree, k1, hf]
    show wpAny _ _ (do rule "str.split.same-object"; ret (← newList [.str x t])) _ _ s
    exact wpAny_bind (wpAny_rule (wpAny_bind (wpAny_newList (wpAny_pure ⟨_, rfl, h⟩) (by show 1 ≤ sizeLine; decide))))
   ·have hpos : Rg.sp c (Rg.cs x) = [Rg.cs x] := by
     have h5 : Builtin.Str.occurrences x ⟨#[c]⟩ 0 x.length (x.length + 1) = [] := List.isEmpty_iff.mp hf
     rw [h5] at hp
     have h6 : [Builtin.Str.strSub x 0 x.length] = (Rg.sp c (Rg.cs x)).map Rg.toS := hp
     obtain ⟨p, ps, e⟩ := Rg.ze8 c (Rg.cs x)
     rw [e] at h6 ⊢
     simp at h6
     obtain ⟨h7, rfl⟩ := h6
     congr 1
     have := congrArg Rg.cs h7
     rw [Rg.zbL, Rg.zl3, Nat.sub_zero, List.drop_zero, List.take_of_length_le (by rw [Rg.zaS]; exact Nat.le_refl _)] at this
     exact this.symm
    have := fin [.str x t] s.toks (by rw [hpos, List.map_cons, List.map_nil, Rg.zfu]; exact .cons ⟨t, rfl⟩ .nil)
    exact this
end
end L3
namespace Rg
open PySem PySem.Spec PyProof.Rows L2 L3
end Rg
namespace Rg
open PySem PySem.Spec PyProof.Rows L2 L3
def pcs (c : Nat) (z : Str) : List Str := (sp c (cs z)).map toS
end Rg
namespace L3
open PySem PySem.Spec PyProof.Rows L2
section
variable {X : Cx}
theorem zs7 {c : Const} {j : Nat} {pos : Pos} {es : List Expr} {env : Env} : starEach (.Constant c j pos :: es) env = (false, eval (.Constant c j pos) env) :: starEach es env := rfl
theorem zun {x : Str} {j : Nat} {pos : Pos} {es : List Expr} {t : TA3} (hr : A3 X es t) : A3 X (.Constant (.str x) j pos :: es) (zac (vC (.str x)) t) := zab zbq hr zs7
def aKl (xs : List Str) : TA3 := fun τ M R => R (xs.map W.str) M
def zoh : List Expr → Option (List Str)
 | [] => some []
 | .Constant (.str x) _ _ :: es => (zoh es).map (x :: ·)
 | _ :: _ => none
theorem a_kl : ∀ {es : List Expr} {xs : List Str}, zoh es = some xs → A3 X es (aKl xs)
 | [], xs, h => by cases h; exact zae
 | e :: es, xs, h => by
  match e, h with
  | .Constant (.str x) j p, h =>
   obtain ⟨ys, e1, rfl⟩ := Option.map_eq_some_iff.mp (show (zoh es).map (x :: ·) = some xs from h)
   exact zun (a_kl e1)
def vKl (xs : List Str) : TE3 := zi2 (aKl xs)
theorem v_kl {es : List Expr} {xs : List Str} {pos : Pos} (h : zoh es = some xs) : E3 X (.List es pos) (vKl xs) := zhJ (a_kl h)
def zjk : W → List W → Mm → K3 → Prop
 | .str x, [.str y], M, R => ∃ c : Nat, y = ⟨#[c]⟩ ∧ x.length ≤ 1000000 ∧ (∀ a ∈ Rg.cs x, a < 256) ∧ c < 256 ∧ New ((Rg.pcs c x).map W.str) M R
 | _, _, _, _ => False
theorem zoi : MtR X "str.split" (upM X.K zjk) := by
 rintro pins s σ H x xs v us Q I rx rs ⟨wx, ws, M, R, am, ax, axs, h, k⟩
 match wx, ws, h with
 | .str x, [.str y], h =>
  obtain ⟨c, rfl, h1, h2, h3, r⟩ := h
  by_cases h0 : 0 < x.length
  ·refine zqZ pins s σ H _ xs v us Q I rx rs ⟨.str x, [.str ⟨#[c]⟩], M, R, am, ax, axs, ⟨c, rfl, ⟨h0, h1, h2, h3⟩, ?_⟩, k⟩
   have e : (Rg.pcs c x).map W.str = (Rg.sp c (Rg.cs x)).map fun p => W.str (Rg.toS p) := by unfold Rg.pcs; rw [List.map_map]; rfl
   rw [← e]; exact r
  ·obtain ⟨u, rfl, au⟩ := axs.one
   cases ax; cases au
   obtain ⟨t, rfl⟩ := rx
   obtain ⟨u', rfl, ru⟩ := rs.one
   obtain ⟨t', rfl⟩ := ru
   have hx : Rg.cs x = [] := List.length_eq_zero_iff.mp (by rw [Rg.zaS]; omega)
   have e : Rg.pcs c x = [x] := by unfold Rg.pcs; rw [hx]; show [Rg.toS []] = [x]; rw [← hx, Rg.zfu]
   rw [e] at r
   have hfr := I.hok.fresh (Nat.le_refl s.heap.objs.size)
   refine call_meets F.slot_str_split (typeIs_str _ _ _) F.entry_str_split (F.args_str_split_2 _ _) (meets_str_split_cannot_occur x ⟨#[c]⟩ t t' (by
    have : (⟨#[c]⟩ : Str).length = 1 := rfl
    rw [this, decide_eq_true (by omega), Bool.true_or])) ?_
   exact ⟨.ref s.heap.objs.size, _, I.lnew (t' := s.toks) (ys := [.str x]) (its := [.str x t]) (.cons ⟨t, rfl⟩ .nil) (by show 1 ≤ sizeLine; decide), rfl, zcX am k hfr (zkb [x]) r⟩
end
end L3
namespace L2
open PySem PySem.Spec PyProof.Rows
def Cov (B : Heap) (l : List Env) (H : Hp) (h : Heap) : Prop := ∀ b o, h.get? b = some o → b ∉ frs l → ∃ o', B.get? b = some o' ∧ (H b = none → o' = o)
def CXr (P : Program) (w : World) : CXT := fun outer H s E e s' => s'.os = s.os ∧ AllBare s'.gens ∧ ∃ (ea : Addr) (cls a0 : Value) (B : Heap) (H' : Hp),
 e = .ref ea ∧ Heap.FlyingW B outer ea cls a0 s'.heap ∧ HOk P w H' B ∧ Un (frs outer) [] H H' s.heap s'.heap ∧ Cov B outer H s.heap ∧ E cls none H'
theorem zmv {B h h1 h2 : Heap} {l : List Env} {H H' : Hp} (u : Un (frs l) [] H H' h h1) (cv : Cov B l H h) (fr : h1.FunFrames B l) (st : B.StaysIn h2) (us : h1.UpToSlots h2) : Un (frs l) [] H H' h h2 where
 keep := fun b o e n hb _ => by
  obtain ⟨o', e1, e2⟩ := cv b o e hb
  rw [← e2 n]; exact st b o' e1
 slot := fun b o e n hb _ => by
  obtain ⟨sl, e1⟩ := u.slot b o e n hb (by simp)
  obtain ⟨_, o1, e2, nf⟩ := fr.mem hb
  rw [e1] at e2; cases e2
  obtain ⟨sl', e3⟩ := us b _ e1 nf
  exact ⟨sl', e3⟩
 free := u.free
 there := fun b o e _ => by
  by_cases hb : b ∈ frs l
  ·obtain ⟨_, o1, e2, nf⟩ := fr.mem hb
   obtain ⟨sl', e3⟩ := us b o1 e2 nf
   exact ⟨_, e3⟩
  ·obtain ⟨o', e1, _⟩ := cv b o e hb
   exact ⟨o', st b o' e1⟩
 tups := u.tups
 frzs := u.frzs
 tbls := u.tbls
section
variable {P : Program} {w : World} {K : PySem.W.Frag} {mg : Str → Option Value} {base : Heap} {N : List Str} {qual : Str} {scope : Scope} {f : Addr} {cd : Value} {A : Around} {outer : List Env} {s : Shared} {H : Hp} {E : XK}
 {pins : List (Addr × Obj)} {σ : St} {H1 : Hp} {s1 : Shared}
theorem zs8 (I : Inv (cxOf (CXr P w) P w K mg base N qual scope f cd A outer s H E) pins σ H1 s1) : HOk P w H1 (PySem.W.hideAll s1.heap (frs (cxOf (CXr P w) P w K mg base N qual scope f cd A outer s H E).stack)) := fun a o e => by
 refine (I.hok a o e).stay (fun b u hb q => PySem.W.hideAll_get _ q fun hm => ?_) (fun _ q => q) fun _ _ q => q
 have n := I.stkFree b hm
 rcases hb with z | z
 ·rw [z, e] at n; cases n
 ·rw [z] at n; cases n
theorem zo5 (I : Inv (cxOf (CXr P w) P w K mg base N qual scope f cd A outer s H E) pins σ H1 s1) {b : Addr} {o : Obj} (e : s.heap.get? b = some o) (hb : b ∉ frs outer) : b ∉ frs (cxOf (CXr P w) P w K mg base N qual scope f cd A outer s H E).stack := fun hm => by
 rcases List.mem_cons.mp (I.stkSub b hm) with z | z
 ·have h1 : s.heap.objs.size ≤ (cxOf (CXr P w) P w K mg base N qual scope f cd A outer s H E).env.locals := I.ok.above
  rw [← z] at h1
  exact absurd (Nat.lt_of_lt_of_le (Heap.lt_size e) h1) (Nat.lt_irrefl _)
 ·exact hb z
theorem zuo (I : Inv (cxOf (CXr P w) P w K mg base N qual scope f cd A outer s H E) pins σ H1 s1) : Cov (PySem.W.hideAll s1.heap (frs (cxOf (CXr P w) P w K mg base N qual scope f cd A outer s H E).stack)) outer H s.heap := fun b o e hb => by
 obtain ⟨o', e1⟩ := I.base.there b o e (by simp [cxOf])
 refine ⟨o', PySem.W.hideAll_get _ e1 (zo5 I e hb), fun n => ?_⟩
 have e2 := I.base.keep b o e n hb (by simp [cxOf])
 rw [e1] at e2; exact Option.some.inj e2
theorem zq0 {ea C : Addr} {args : List Value} {h' : Heap} (I : Inv (cxOf (CXr P w) P w K mg base N qual scope f cd A outer s H E) pins σ H1 s1) (hx : Heap.MadeExcOf s1.heap h' ea (.ref C) args) (hE : E (.ref C) none H1) : (cxOf (CXr P w) P w K mg base N qual scope f cd A outer s H E).xe (.ref ea) { s1 with heap := h' } := by
 have hin : ∀ env ∈ (cxOf (CXr P w) P w K mg base N qual scope f cd A outer s H E).stack, ∀ a, env.frame = some a → a ∈ frs (cxOf (CXr P w) P w K mg base N qual scope f cd A outer s H E).stack := fun env he a ha => List.mem_filterMap.mpr ⟨env, he, ha⟩
 have hl := PySem.W.funFrames_hide I.stack hin
 refine wpAny_leaves_madeW (base := PySem.W.hideAll s1.heap (frs (cxOf (CXr P w) P w K mg base N qual scope f cd A outer s H E).stack)) (h := s1.heap) I.ok.frames rfl (fun b o q => PySem.W.of_hideAll _ q) hl hx fun h2 t fl _ _ us => ?_
 have cv := zuo I
 exact ⟨I.os, I.bare, ea, .ref C, .ref t, _, H1, rfl, fl, zs8 I, zmv I.base cv hl.2.2 fl.1 ((Heap.UpToSlots.of_keeps hx.keeps).trans us), cv, hE⟩
theorem zmw {E1 : XK} (hE : ∀ c d H', E1 c d H' → E c d H') : zhk (CXr P w) (cxOf (CXr P w) P w K mg base N qual scope f cd A outer s H E) E1 := fun pins σ H1 s1 e s' I h => by
 obtain ⟨os, bare, ea, cls, a0, B, H', rfl, fl, hok, un, cov, he⟩ := h
 have I' := I.call' os un (hok.kept fl.1) bare (fun b z => absurd z (by simp))
 have cv : Cov B outer H s.heap := fun b o e hb => by
  obtain ⟨o1, e1⟩ := I.base.there b o e (by simp [cxOf])
  obtain ⟨o', e2, e3⟩ := cov b o1 e1 (zo5 I e hb)
  refine ⟨o', e2, fun n => ?_⟩
  have e4 := I.base.keep b o e n hb (by simp [cxOf])
  rw [e1] at e4; cases e4
  exact e3 (I.base.free b o e n (by simp [cxOf]))
 refine wpAny_leaves_onW I.ok.frames rfl fl fun h2 fl2 us => ?_
 exact ⟨I'.os, I'.bare, ea, cls, a0, B, H', rfl, fl2, hok, zmv I'.base cv fl.2.2.1.2.2 fl2.1 us, cv, hE _ _ _ he⟩
theorem zs9 : PassesOwn (model P w) (cxOf (CXr P w) P w K mg base N qual scope f cd A outer s H E).A (cxOf (CXr P w) P w K mg base N qual scope f cd A outer s H E).env (cxOf (CXr P w) P w K mg base N qual scope f cd A outer s H E).xe := PassesOwn.leaving
end
end L2
namespace L2
open PySem PySem.Spec PyProof.Rows
structure XCls (K : PySem.W.Frag) (mg : Str → Option Value) (x : Str) (C : Addr) : Prop where
 at_ : mg x = some (.ref C)
 ex : PySem.W.excIn K C [.type "ValueError", .type "Exception", .type "BaseException", .type "object"] "ValueError.__new__" = true
theorem zq1 {K : PySem.W.Frag} {h : Heap} {C : Addr} {bl : List Value} {nw : String} (Z : K.In h) (q : PySem.W.excIn K C bl nw = true) :
  ∃ bm N nm qn bs hd sn sub ab col dd k0 k1 k2 k3 k5 mN, h.get? C = some (excClassObj nm qn C N bs bm hd sn sub ab col dd k0 k1 k2 k3 k5 nw) ∧ h.Ns N mN ∧ mN "__init__" = none ∧ OwnTail h bl bm := by
 unfold PySem.W.excIn at q
 split at q
 case h_2 => cases q
 rename_i dd cd sl lk
 split at q
 case h_2 => cases q
 rename_i C1 bm a0 a1 a2 a3 nn a5 em es
 simp only [Bool.and_eq_true, beq_iff_eq, Bool.not_eq_true'] at q
 rcases q with ⟨⟨⟨⟨⟨z1, z2⟩, z3⟩, z4⟩, z5⟩, z6⟩
 subst z1 z2
 rcases cd with ⟨nm, bs, mro, ns, qn, hd, sn, sub, ab, col, dl⟩
 simp only at em z3 z5 z6
 subst em z3
 obtain rfl : sl = #[a0, a1, a2, a3, some (.builtin nn), a5] := by
  rcases sl with ⟨l⟩
  simp only at es
  rw [es]
 exact ⟨bm, ns, nm, qn, bs, hd, sn, sub, ab, col, dd, a0, a1, a2, a3, a5, _, Z _ _ lk, .of_isNs (PySem.W.isNs_of_in Z z5), PySem.W.nsMap_none_of_in Z z5 z6, PySem.W.tail_of_in Z z4⟩
end L2
namespace L3
open PySem PySem.Spec PyProof.Rows L2
def NM (w : W) : Prop := ∀ n, w ≠ .ty n
def UpN (K : PySem.W.Frag) (H : Hp) (M : Mm) (R : K3) (Q : VK) : Prop := ∀ v H' w M', NM w → Kp H M H' M' → AM K H' M' → AV K H' M' v w → R w M' → Q v H'
structure UpE (K : PySem.W.Frag) (H : Hp) (M : Mm) (D : D3) (E : Ends) : Prop where
 nx : UpS K H M D.nx E.nx
 rt : UpN K H M D.rt E.rt
 bk : UpS K H M D.bk E.bk
 ct : UpS K H M D.ct E.ct
theorem UpN.kp {K : PySem.W.Frag} {H H1 : Hp} {M M1 : Mm} {R : K3} {Q : VK} (h : UpN K H M R Q) (k : Kp H M H1 M1) : UpN K H1 M1 R Q := fun v H' w M' n k' am av r => h v H' w M' n (k.trans k') am av r
theorem UpE.kp {K : PySem.W.Frag} {H H1 : Hp} {M M1 : Mm} {D : D3} {E : Ends} (h : UpE K H M D E) (k : Kp H M H1 M1) : UpE K H1 M1 D E := ⟨h.nx.kp k, h.rt.kp k, h.bk.kp k, h.ct.kp k⟩
def upE (K : PySem.W.Frag) (H0 : Hp) (M0 : Mm) (r0 : K3) (t : TS3) : TS := fun E σ H => ∃ τ M D, AS K H M σ τ ∧ AM K H M ∧ Kp H0 M0 H M ∧ D.rt = r0 ∧ t D τ M ∧ UpE K H M D E
abbrev X3 (X : Cx) (H0 : Hp) (M0 : Mm) (r0 : K3) (st : Stmt) (t : TS3) : Prop := PS X st (upE X.K H0 M0 r0 t)
abbrev Xs3 (X : Cx) (H0 : Hp) (M0 : Mm) (r0 : K3) (st : List Stmt) (t : TS3) : Prop := PSs X st (upE X.K H0 M0 r0 t)
section
variable {X : Cx} {H0 : Hp} {M0 : Mm} {r0 : K3} {pos : Pos} {st : Stmt} {rest : List Stmt} {t u : TS3} {e : Expr} {te : TE3}
theorem zmx : Xs3 X H0 M0 r0 [] zbG := zlC.weak fun D σ H ⟨τ, M, D', as, am, k0, e0, h, k⟩ => k.nx.at am as h
theorem zcV (h1 : X3 X H0 M0 r0 st t) (h2 : Xs3 X H0 M0 r0 rest u) : Xs3 X H0 M0 r0 (st :: rest) (vSeq t u) := (zjQ h1 h2).weak fun D σ H ⟨τ, M, D', as, am, k0, e0, h, k⟩ =>
 ⟨τ, M, { D' with nx := u D' }, as, am, k0, e0, h, ⟨fun σ' H' τ' M' k' am' as' h' => ⟨τ', M', D', as', am', k0.trans k', e0, h', k.kp k'⟩, k.rt, k.bk, k.ct⟩⟩
theorem zeu (h1 : X3 X H0 M0 r0 st t) : Xs3 X H0 M0 r0 [st] t := zlD h1
theorem x_if {c : Expr} {a b : List Stmt} {tc : TT3} (hc : T3 X c tc) (ha : Xs3 X H0 M0 r0 a t) (hb : Xs3 X H0 M0 r0 b u) : X3 X H0 M0 r0 (.If c a b pos) (vIfS tc t u) := (zrK hc ha hb).weak fun D σ H ⟨τ, M, D', as, am, k0, e0, h, k⟩ =>
 ⟨τ, M, _, as, am, h, fun b H1 M1 k1 am1 h1 => by
  cases b with
  | true => exact ⟨τ, M1, D', as.kp am k1, am1, k0.trans k1, e0, h1, k.kp k1⟩
  | false => exact ⟨τ, M1, D', as.kp am k1, am1, k0.trans k1, e0, h1, k.kp k1⟩⟩
theorem x_st (h : P3 X st t) (irr : ∀ D r τ M, t D τ M → t { D with rt := r } τ M) : X3 X H0 M0 r0 st t := h.weak fun E σ H ⟨τ, M, D, as, am, k0, e0, q, k⟩ =>
 ⟨τ, M, { D with rt := fun _ _ => False }, as, am, irr _ _ _ _ q, ⟨k.nx, fun _ _ _ _ _ _ _ z => z.elim, k.bk, k.ct⟩⟩
def zjl (te : TE3) : TS3 := fun D τ M => te τ M fun w M' => NM w ∧ D.rt w M'
theorem zq2 (he : E3 X e te) : X3 X H0 M0 r0 (.Return (some e) pos) (zjl te) := (zoJ he).weak fun D σ H ⟨τ, M, D', as, am, k0, e0, h, k⟩ => ⟨τ, M, _, as, am, h, fun v H' w M' k' am' av ⟨n, r⟩ => k.rt _ _ _ _ n k' am' av r⟩
theorem zup {tg iter : Expr} {body : List Stmt} {wi : TI3} {g : TG3} {tb : TS3} {pos : Pos} (hp : PassesOwn (model X.prog X.w) X.A X.env X.xe) (hc : X.calm = true) (hi : PI X tg iter (upI X.K wi)) (hg : PG X tg (upG X.K g)) (hb : Xs3 X H0 M0 r0 body tb)
  (hs : ∀ x, foldedSetIterable iter X.env x = pure x := by intro _; rfl) : X3 X H0 M0 r0 (.For tg iter body [] pos) (vFor wi g tb) :=
 (zoL hp hc hi hg hb hs).weak fun D σ H ⟨τ, M, D', as, am, k0, e0, h, k⟩ => by
  refine ⟨τ, M, _, as, am, h, fun J H1 ws keep M1 k1 am1 it ⟨Pv, h0, hk, hs, hd⟩ => ?_⟩
  refine ⟨fun i m σ' H' => m = ws.length - i ∧ i ≤ ws.length ∧ ∃ τ' M', Kp H1 M1 H' M' ∧ AM X.K H' M' ∧ AS X.K H' M' σ' τ' ∧ Pv i τ' M', ⟨_, rfl, Nat.zero_le _, τ, M1, Kp.refl am1, am1, as.kp am k1, h0⟩, ?_⟩
  rintro i m σ2 H2 ⟨rfl, hi, τ2, M2, k2, am2, as2, p2⟩
  by_cases hlt : i < ws.length
  ·refine .inr ⟨it.go i H2 M2 k2 am2 (hk i τ2 M2 hi p2) hlt, fun σ' H' => ∃ τ' M', Kp H1 M1 H' M' ∧ AM X.K H' M' ∧ AS X.K H' M' σ' τ' ∧ Pv (i + 1) τ' M', fun σ' H' q => ⟨ws.length - (i + 1), by omega, rfl, hlt, q⟩, fun x H3 y => ?_⟩
   obtain ⟨w, hw, k3, am3, ax⟩ := it.yld i H2 M2 x H3 k2 am2 (hk i τ2 M2 hi p2) hlt y
   refine ⟨w, τ2, M2, _, ax, as2.kp am2 k3, am3, hs i w τ2 M2 hw p2, fun σ4 H4 τ4 M4 k4 am4 as4 h4 => ?_⟩
   have kk := ((k2.trans k3).trans k4)
   have again : UpS X.K H4 M4 (fun τ' M' => ∃ M'', Sub M'' M' ∧ Pv (i + 1) τ' M'') (fun σ' H' => ∃ τ' M', Kp H1 M1 H' M' ∧ AM X.K H' M' ∧ AS X.K H' M' σ' τ' ∧ Pv (i + 1) τ' M') :=
    fun σ' H' τ' M' k' am' as' ⟨M'', q2, q3⟩ => ⟨τ', M'', (kk.trans k').sub q2, am'.sub q2, as'.sub q2, q3⟩
   exact ⟨τ4, M4, { D' with nx := fun τ' M' => ∃ M'', Sub M'' M' ∧ Pv (i + 1) τ' M'', ct := fun τ' M' => ∃ M'', Sub M'' M' ∧ Pv (i + 1) τ' M'', bk := D'.nx }, as4, am4, k0.trans (k1.trans kk), e0, h4, ⟨again, k.rt.kp (k1.trans kk), k.nx.kp (k1.trans kk), again⟩⟩
  ·have e : i = ws.length := by omega
   subst e
   exact .inl ⟨it.stop H2 M2 k2 am2 (hk _ τ2 M2 hi p2), k.nx _ _ _ _ (k1.trans k2) am2 as2 (hd τ2 M2 p2)⟩
end
def zev (K : PySem.W.Frag) (cl : String → Option Addr) (sp : Sp3) : Sp := fun vs H Q E => ∃ ws M R, AM K H M ∧ AVs K H M vs ws ∧ sp ws M R ∧ UpN K H M R Q ∧ ∀ n C H' M', cl n = some C → Kp H M H' M' → AM K H' M' → R (.ty n) M' → E (.ref C) none H'
section
variable {P : Program} {w : World} {K : PySem.W.Frag} {mg : Str → Option Value} {base : Heap}
theorem FnOk.calm {k : Nat} {f : Addr} {fd : FuncData} {ps : List Str} {cl : String → Option Addr} {sp : Sp3} (F : FnOk P w K mg base (CXr P w) k f fd ps (zev K cl sp)) :
  FnOk P w K mg base CX0 k f fd ps (upSp K fun ws M R => sp ws M fun w M' => NM w ∧ R w M') := by
 have cv : ∀ vs H Q, upSp K (fun ws M R => sp ws M fun w M' => NM w ∧ R w M') vs H Q E0 → zev K cl sp vs H Q E0 := fun vs H Q ⟨ws, M, R, am, av, h, k⟩ =>
  ⟨ws, M, _, am, av, h, fun v H' w M' n k' am' av' r => k v H' w M' k' am' av' r.2, fun n C H' M' _ _ _ r => absurd rfl (r.1 n)⟩
 refine ⟨fun vs H Q E h => F.len vs H Q E0 (cv vs H Q h), fun A outer s H args us vs Q E hr he hb hv hs => ?_⟩
 refine codeAny_mono (F.run A outer s H args us vs Q E0 hr he hb hv (cv vs H Q hs)) fun r s' h => ?_
 cases r with
 | error e => obtain ⟨_, _, _, _, _, _, _, _, _, _, _, _, z⟩ := h; exact z.elim
 | ok fl => cases fl <;> exact h
theorem okX {x qual : Str} {st : Stmt} {f : Addr} {fd : FuncData} {N ps : List Str} {k : Nat} {sp : Sp3} {cl : String → Option Addr} (F : Fun K x qual st f fd) (S : zaR N ps (zaa st)) (len : ∀ ws M R, sp ws M R → ws.length = ps.length)
  (hbody : ∀ (cdv : Value) (A : Around) (outer : List Env) (s : Shared) (H : Hp) (E : XK) (ws : List W) (M : Mm) (R : K3), Room k (A.deeper (envOfC qual (zaa st) s.heap.objs.size f cdv)) → sp ws M R →
   (∀ n C H' M', cl n = some C → Kp H M H' M' → AM K H' M' → (zaP R).rt (.ty n) M' → E (.ref C) none H') →
   ∃ t, Xs3 (cxOf (CXr P w) P w K mg base N qual (zaa st) f cdv A outer s H E) H M (zaP R).rt (zaf st) t ∧ t (zaP R) (zbe N ws) M) : FnOk P w K mg base (CXr P w) (k + 1) f fd ps (zev K cl sp) := by
 obtain ⟨oc, od, kV, doc, pm, an, cdv, ct, osl, rfl, lk, hcd⟩ := F.ex
 refine zr0 lk hcd S (fun vs H Q E ⟨ws, M, R, am, av, h, _⟩ => by rw [av.length]; exact len ws M R h) fun A outer s H vs Q E hr ⟨ws, M, R, am, av, h, kk, kx⟩ => ?_
 obtain ⟨t, ht, h'⟩ := hbody cdv A outer s H E ws M R hr h fun n C H' M' c k' am' ⟨M'', sb, r⟩ => kx n C H' M'' c (k'.sub sb) (am'.sub sb) r
 refine ⟨_, ht, zbe N ws, M, zaP R, ?_, am, Kp.refl am, rfl, h', ⟨fun σ' H' τ' M' k' am' as' ⟨M'', sb, r⟩ => kk _ H' _ M'' (fun n z => W.noConfusion z) (k'.sub sb) (am'.sub sb) .non r, fun v H' w M' n k' am' av' ⟨M'', sb, r⟩ => kk v H' w M'' n (k'.sub sb) (am'.sub sb) (av'.sub sb) r, fun _ _ _ _ _ _ _ z => z.elim, fun _ _ _ _ _ _ _ z => z.elim⟩⟩
 unfold L2.start zbe
 rw [av.length]
 exact AS.start av _
end
section
variable {P : Program} {w : World} {K : PySem.W.Frag} {mg : Str → Option Value} {base : Heap} {N : List Str} {qual : Str} {scope : Scope} {f : Addr} {cd : Value} {A : Around} {outer : List Env} {s : Shared} {H : Hp} {E : XK}
 {H0 : Hp} {M0 : Mm} {r0 : K3} {cl : String → Option Addr}
def zcc (n : String) (te : TE3) : TS3 := fun D τ M => te τ M fun _ M' => D.rt (.ty n) M'
theorem zfv {x : Str} {C : Addr} {n : String} {e : Expr} {te : TE3} {np cpos pos : Pos} (hx : ∀ n C H' M', cl n = some C → Kp H0 M0 H' M' → AM K H' M' → r0 (.ty n) M' → E (.ref C) none H') (hh : (cxOf (CXr P w) P w K mg base N qual scope f cd A outer s H E).A.handled = none)
  (c : XCls K mg x C) (hc : cl n = some C) (hg : Gl (cxOf (CXr P w) P w K mg base N qual scope f cd A outer s H E) x) (he : E3 (cxOf (CXr P w) P w K mg base N qual scope f cd A outer s H E) e te) (hd : (x == ("__debug__" : Str)) = false := by decide)
  (hs : starEach [e] (cxOf (CXr P w) P w K mg base N qual scope f cd A outer s H E).env = (false, eval e (cxOf (CXr P w) P w K mg base N qual scope f cd A outer s H E).env) :: starEach [] (cxOf (CXr P w) P w K mg base N qual scope f cd A outer s H E).env := by rfl) : X3 (cxOf (CXr P w) P w K mg base N qual scope f cd A outer s H E) H0 M0 r0 (.Raise (some (.Call (.Name x np) [e] [] cpos)) none pos) (zcc n te) := by
 intro pins s1 σ H1 D I ⟨τ, M, D', as, am, k0, e0, h, k⟩
 obtain ⟨bm, NN, nm, qn, bs, hd', sn, sub, ab, col, dd, k0', k1, k2, k3, k5, mN, hC, hN, hni, T⟩ := zq1 I.ok.mod.kin c.ex
 refine wpAny_Raise_call_subT (C := C) (nm := nm) (q := qn) (N := NN) (bs := bs) (bm := bm) (hdct := hd') (sn := sn) (sub := sub) (ab := ab) (col := col) (dd := dd) (k0 := k0') (k1 := k1) (k2 := k2) (k3 := k3) (k5 := k5) PySem.F.excBase_ValueError (mN := mN)
  (T.hasType PySem.F.excBase_ValueError.hasBase) hh (by rw [hs]; rfl) hni (zfi I hg c.at_ ⟨rfl, ?_⟩ hd)
 rw [hs]
 refine Calls.evalArgs_plain (Calls.spliced_cons (thn (he pins s1 σ H1 (fun _ H2 => E (.ref C) none H2) I ⟨τ, M, _, as, am, h, fun v H2 w M2 k2' am2 _ r => ?_⟩) fun u s2 ⟨v, H2, I2, _, q2⟩ => ?_))
 ·rw [e0] at r
  exact hx n C H2 M2 hc (k0.trans k2') am2 r
 ·exact spliced_none ⟨rfl, by show 1 ≤ sizeLine; decide, I2.bk _ _ hC, hN.keeps I2.bk, T.keeps I2.bk, fun h' ea hm => zq0 I2 hm q2⟩
end
end L3
namespace L2
open PySem PySem.Spec PyProof.Rows
structure Air (P : Program) (w : World) (l : List Env) (H : Hp) (s : Shared) (ea : Addr) (cls : Value) (H' : Hp) (B : Heap) (s' : Shared) : Prop where
 os : s'.os = s.os
 bare : AllBare s'.gens
 fl : ∃ a0, Heap.FlyingW B l ea cls a0 s'.heap
 hok : HOk P w H' B
 un : Un (frs l) [] H H' s.heap s'.heap
 cov : Cov B l H s.heap
section
variable {P : Program} {w : World} {l : List Env} {H H' : Hp} {s s' : Shared} {ea : Addr} {cls : Value} {B : Heap} {M : Model} {A : Around} {E E' : Value → Shared → Prop}
theorem Air.re (a : Air P w l H s ea cls H' B s') {h2 : Heap} {tk : Nat} {a1 : Value} (fl : Heap.FlyingW B l ea cls a1 h2) (us : s'.heap.UpToSlots h2) : Air P w l H s ea cls H' B { s' with heap := h2, toks := tk } := by
 obtain ⟨a0, f0⟩ := a.fl
 exact ⟨a.os, a.bare, ⟨a1, fl⟩, a.hok, zmv a.un a.cov f0.2.2.1 fl.1 us, a.cov⟩
theorem Air.look {env : Env} {outer : List Env} {L : Addr} {G : Shared → Prop} (a : Air P w (env :: outer) H s ea cls H' B s') (hfr : A.frames = some (env :: outer)) (hf : env.frame = some L) (h : ∀ s2, Air P w (env :: outer) H s ea cls H' B s2 → G s2) :
  wpAny M A (noteFrame (.ref ea) env) (fun _ s2 => wpAny M A (setFlight (.ref ea) none) (fun _ s3 => G s3) E s2) E' s' := by
 obtain ⟨a0, f0⟩ := a.fl
 refine wpAny_looks_onW hfr hf f0 fun h2 held us => ?_
 refine wpAny_landsW held fun h3 fl us' => ?_
 exact h _ (a.re (tk := s'.toks) fl (us.trans us'))
theorem Air.land {G : Shared → Prop} (a : Air P w l H s ea cls H' B s') (h : ∀ s2, Air P w l H s ea cls H' B s2 → G s2) : wpAny M A (setFlight (.ref ea) none) (fun _ s3 => G s3) E s' := by
 obtain ⟨a0, f0⟩ := a.fl
 exact PyProof.Rows.lands_againW f0 fun h3 fl us => h _ (a.re (tk := s'.toks) fl us)
theorem Air.ty (a : Air P w l H s ea cls H' B s') : PySem.W.Looks M s'.heap (typeOf (.ref ea)) cls := by
 obtain ⟨a0, f0⟩ := a.fl
 obtain ⟨ob, e, rfl⟩ := f0.there
 exact (PySem.W.Looks.ld e).andThen .now
theorem Air.obj (a : Air P w l H s ea cls H' B s') : ∃ o vs, s'.heap.get? ea = some o ∧ o.cls = cls ∧ o.data = .fields vs := by
 obtain ⟨a0, f0⟩ := a.fl
 obtain ⟨oe, vs, e, c, d, _⟩ := f0.first
 exact ⟨oe, vs, e, c, d⟩
theorem Air.new (a : Air P w l H s ea cls H' B s') : s.heap.get? ea = none := by
 obtain ⟨a0, f0⟩ := a.fl
 cases q : s.heap.get? ea with
 | none => rfl
 | some o =>
  by_cases hb : ea ∈ frs l
  ·obtain ⟨_, o1, e1, nf⟩ := f0.2.2.1.mem hb
   obtain ⟨o2, vs, e2, _, d⟩ := a.obj
   rw [e1] at e2; cases e2
   exact absurd d (nf vs)
  ·obtain ⟨o', e', _⟩ := a.cov ea o q hb
   rw [f0.2.1] at e'; cases e'
theorem Air.free (a : Air P w l H s ea cls H' B s') : H' ea = none := by
 obtain ⟨a0, f0⟩ := a.fl
 cases q : H' ea with
 | none => rfl
 | some u =>
  have x := a.hok ea u q
  have : ∃ o, B.get? ea = some o := by
   cases u with
   | lst xs => obtain ⟨_, _, _, _, e⟩ := x; exact ⟨_, e⟩
   | tup xs => obtain ⟨_, _, _, o, e, _⟩ := x; exact ⟨_, e⟩
   | dK kvs => obtain ⟨_, _, _, _, o, _, _, e, _⟩ := x; exact ⟨_, e⟩
   | dT kvs => obtain ⟨_, _, _, _, o, _, _, e, _⟩ := x; exact ⟨_, e⟩
   | set S n => obtain ⟨o, _, _, _, e, _⟩ := x; exact ⟨_, e⟩
   | ins C dx fs => obtain ⟨_, _, _, e, _⟩ := x; exact ⟨_, e⟩
   | own y => exact x
   | xd fs => obtain ⟨_, ⟨_, _, _, e, _⟩, _⟩ := x; exact ⟨_, e⟩
   | rng lo hi => obtain ⟨_, _, _, e⟩ := x; exact ⟨_, e⟩
   | frz ob u => exact ⟨_, x.1⟩
   | tbl ps => exact ⟨_, x⟩
   | met f y => exact ⟨_, x⟩
   | ext φ => exact x.2.1
  obtain ⟨o, e⟩ := this
  rw [f0.2.1] at e; cases e
end
section
variable {X : Cx} {pins : List (Addr × Obj)} {σ : St} {H H' : Hp} {s s' : Shared} {ea : Addr} {cls : Value} {B : Heap} {A : Around} {E : Value → Shared → Prop}
theorem Air.inv (a : Air X.prog X.w X.stack H s ea cls H' B s') (I : Inv X pins σ H s) : Inv X pins σ H' s' := by
 obtain ⟨a0, f0⟩ := a.fl
 exact I.call' a.os a.un (a.hok.kept f0.1) a.bare (fun b z => absurd z (by simp))
abbrev Cx.inX (X : Cx) (ea : Addr) (oe : Obj) : Cx := { X with A := X.A.mark (some (.ref ea)), calm := false, pn := (ea, oe) :: X.pn, xe := fun _ _ => False }
theorem Inv.inX {oe : Obj} {vs : Array Value} (I : Inv X pins σ H s) (e : s.heap.get? ea = some oe) (hd : oe.data = .fields vs) (n : H ea = none) (hs : X.s₀.heap.get? ea = none) : Inv (X.inX ea oe) pins σ H s := by
 refine ⟨⟨I.ok.mod, I.ok.kind, I.ok.glob, I.ok.blt, I.ok.above, I.ok.inj, I.ok.has, I.ok.cab, (fun z => nomatch z), I.ok.frames, I.ok.stk, I.ok.exf, I.ok.bs, I.ok.bsz, I.ok.noex, I.ok.exfs, I.ok.funs, I.ok.frf⟩, I.os, I.bare, I.base, I.loc, I.cell, I.free, I.freeC, fun p hp => ?_, I.hok, I.len⟩
 rcases List.mem_cons.mp (show p ∈ (ea, oe) :: (X.pn ++ pins) from hp) with z | z
 ·subst z
  refine ⟨e, n, fun q => ?_, fun q => ?_, fun v q => by rw [hd] at q; cases q⟩
  ·obtain ⟨m, ⟨o', es, ep, ho', hd', _⟩, _⟩ := I.loc
   rw [← q, e] at ho'; cases ho'; rw [hd'] at hd; cases hd
  ·obtain ⟨_, o, ho, _⟩ := I.ok.funs.mem q
   rw [hs] at ho; cases ho
 ·exact I.pin p z
theorem zq3 {M : Model} {i : Nat} {n : Str} {pos : Pos} {Q : Unit → Shared → Prop} (I : Inv X pins σ H s) (hN : X.N.Nodup) (hi : X.N[i]? = some n) (hl : X.env.scope.names.lookup n = some .local) (h : ∀ s', Inv X pins (σ.set i none) H s' → Q () s') :
  wpAny M A (do bindName X.env n .none; unbindBehindTheSuite X.env n pos) Q E s := by
 obtain ⟨m, hn, hlk⟩ := id I.loc
 obtain ⟨oL, _, _, hoL, _⟩ := id hn
 refine wpAny_nameGoes_keeps hl hn (by rw [I.ok.kind]; rfl) fun h' v hn' hs => h _ ?_
 have neL : ∀ {b : Addr} {o : Obj}, X.s₀.heap.get? b = some o → b ≠ X.env.locals := fun {b o} e => Nat.ne_of_lt (Nat.lt_of_lt_of_le (Heap.lt_size e) I.ok.above)
 have cell' : ∀ x c, X.env.cells.lookup x = some c → ∀ u, s.heap.IsCell c u → h'.IsCell c u := fun x c e u z => z.sameBut hs (I.cne x c e)
 refine ⟨I.ok, I.os, I.bare, ⟨?_, ?_, I.base.free, ?_, I.base.tups, I.base.frzs, I.base.tbls⟩, ⟨_, hn', ?_⟩, ?_, I.free, I.freeC, ?_, ?_, by simpa using I.len⟩
 ·intro b o e n1 hb hx
  exact (hs.2 b (neL e)).trans (I.base.keep b o e n1 hb hx)
 ·intro b o e n1 hb hx
  obtain ⟨sl, e1⟩ := I.base.slot b o e n1 hb hx
  exact ⟨sl, (hs.2 b (neL e)).trans e1⟩
 ·intro b o e hx
  obtain ⟨o', e1⟩ := I.base.there b o e hx
  exact ⟨o', (hs.2 b (neL e)).trans e1⟩
 ·intro j y v' e1 e2 e3
  by_cases hj : j = i
  ·subst hj
   rw [List.getElem?_set] at e2
   simp at e2
  ·rw [List.getElem?_set_ne (Ne.symm hj)] at e2
   obtain ⟨u', r', q⟩ := hlk j y v' e1 e2 e3
   refine ⟨u', r', ?_⟩
   rcases q with ⟨k, e⟩ | ⟨k, c, e, z⟩
   ·refine .inl ⟨k, ?_⟩
    have : y ≠ n := fun e => hj (zgC hN e1 (e ▸ hi))
    simp [this, e]
   ·exact .inr ⟨k, c, e, cell' y c e _ z⟩
 ·intro y c e
  obtain ⟨u, z⟩ := I.cell y c e
  exact ⟨u, cell' y c e u z⟩
 ·intro p hp
  obtain ⟨e, n1, ne, nf, d⟩ := I.pin p hp
  exact ⟨(hs.2 p.1 ne).trans e, n1, ne, nf, d⟩
 ·intro b ob e
  refine (I.hok b ob e).stay (fun c u hc q => (hs.2 c ?_).trans q) (fun _ q => q) fun _ _ q => q
  intro z
  subst z
  rcases hc with z | z
  ·rw [← z, I.free] at e; cases e
  ·rw [I.free] at z; cases z
end
end L2
namespace L2
open PySem PySem.Spec PyProof.Rows
section
variable {K : PySem.W.Frag} {M : Model}
end
section
variable {X : Cx} {pins : List (Addr × Obj)} {σ : St} {H H' : Hp} {s s' : Shared} {ea : Addr} {cls : Value} {B : Heap} {E : Value → Shared → Prop}
theorem Air.inX (a : Air X.prog X.w X.stack H s ea cls H' B s') (I : Inv X pins σ H s) (hex : X.ex = []) : ∃ oe vs, oe.cls = cls ∧ oe.data = .fields vs ∧ Inv (X.inX ea oe) pins σ H' s' := by
 obtain ⟨oe, vs, e, c, d⟩ := a.obj
 refine ⟨oe, vs, c, d, (a.inv I).inX e d a.free ?_⟩
 cases q : X.s₀.heap.get? ea with
 | none => rfl
 | some o =>
  obtain ⟨o', e'⟩ := I.base.there ea o q (by rw [hex]; simp)
  rw [a.new] at e'; cases e'
end
section
variable {X : Cx} {k : Nat} {f : Addr} {fd : FuncData} {ps : List Str} {sp : Sp} {g : Str} {p cpos spos pos : Pos} {e : Expr} {es : List Expr} {t : TA} {hs : List ExceptHandler} {h0 : ExceptHandler}
def TryX (X : Cx) (pins : List (Addr × Obj)) (σ : St) (E2 : XK) : Value → Shared → Prop := fun e s1 => ∃ H1 s0 ea cls H' B, e = .ref ea ∧ Air X.prog X.w X.stack H1 s0 ea cls H' B s1 ∧ Inv X pins σ H1 s0 ∧ E2 cls none H'
end
end L2
namespace L2
open PySem PySem.Spec PyProof.Rows
section
variable {K : PySem.W.Frag} {x t : Value} {Hh : Heap → Prop}
end
end L2
namespace L3
open PySem PySem.Spec PyProof.Rows L2
theorem AS.setN {K : PySem.W.Frag} {H : Hp} {M : Mm} : ∀ {σ : SV} {τ : S3} (i : Nat), AS K H M σ τ → AS K H M (σ.set i none) (τ.set i none)
 | _, _, _, .nil => .nil
 | _, _, 0, .cons _ t => .cons (fun x e => nomatch e) t
 | _, _, i + 1, .cons q t => .cons q (AS.setN i t)
section
variable {X : Cx} {ea : Addr} {oe : Obj}
theorem zkZ {x : Str} {C : Addr} {pos : Pos} (hg : Gl X x) (hm : X.mg x = some (.ref C)) (hd : (x == ("__debug__" : Str)) = false := by decide) : E3 X (.Name x pos) (vC (.ref C)) := zl8 hg hm (y := .ref C) rfl (fun _ _ => .ref C) hd
end
end L3
namespace HT
open PySem PySem.Spec PyProof.Rows
section
variable {prog : Program} {w : World} {A : Around} {E : Value → Shared → Prop} {s : Shared}
theorem getItem_tuple_all {t sl : Addr} {items : Array Value} {vl vu : Value} {lo hi : Option Int} {Q : Value → Shared → Prop} (ht : IsTup s.heap t items) (hs : s.heap.IsSliceOf sl vl vu .none) (pl : IsPart vl lo) (pu : IsPart vu hi)
  (hw : sIx items.size 0 lo = 0 ∧ sIx items.size items.size hi = items.size) (h : Q (.ref t) s) : wpAny (model prog w) A (getItem (.ref t) (.ref sl)) Q E s := by
 obtain ⟨os, hos, hcs, hds⟩ := id hs
 have hTs : s.TypeIs (.ref sl) "slice" := ⟨os, hos, hcs⟩
 unfold getItem
 try with_reducible refine wpAny_holding ?_
 first | refine wpAny_bind (wpAny_pure ?_) | skip
 refine wpAny_bind (wpAny_sequenceKey ht.typeIs (by decide) ?_)
 refine wpAny_bind (wpAny_callSpecial?_slot (name := Str.ofString "__getitem__") ht.typeIs PyProof.Rows.slot_tuple_getitem
  (wpAny_call_entry PyProof.Rows.slot_tuple_getitem ht.typeIs entry_tuple_getitem ?_ (args_tuple_getitem _ _)))
 show wpAny _ _ (Builtin.Tuple.tupleItemsOf (.ref t) >>= _) _ _ s
 refine wpAny_bind (tupleItemsOf_ ht ?_)
 refine wpAny_bind (wpAny_typeOf hTs ?_)
 rw [if_pos (by decide)]
 refine wpAny_bind (zcT hs pl pu ?_)
 show wpAny _ _ (if (((sIx items.size 0 lo : Nat) : Int) == 0 && (1 : Int) == 1 && (sIx items.size items.size hi - sIx items.size 0 lo) == items.size) = true then _ else _) _ _ s
 rw [if_pos (by rw [hw.1, hw.2]; simp)]
 first
  | exact wpAny_pure ⟨_, rfl, wpAny_pure h⟩
  | exact wpAny_bind (wpAny_rule (wpAny_pure ⟨_, rfl, wpAny_pure h⟩))
  | exact wpAny_bind (wpAny_pure (wpAny_pure ⟨_, rfl, wpAny_pure h⟩))
  | exact wpAny_bind (wpAny_rule (wpAny_bind (wpAny_pure (wpAny_pure ⟨_, rfl, wpAny_pure h⟩))))
  | (refine wpAny_bind ?_
     unfold Builtin.Tuple.tupleIsExact
     refine wpAny_bind (wpAny_typeOf ht.typeIs ?_)
     refine wpAny_pure ?_
     rw [if_pos (by decide)]
     exact wpAny_bind (wpAny_rule (wpAny_pure ⟨_, rfl, wpAny_pure h⟩)))
end
end HT
namespace HT
open PySem PySem.Spec PyProof.Rows
section
variable {prog : Program} {w : World} {A : Around} {E : Value → Shared → Prop} {s : Shared}
end
end HT
namespace L2
open PySem PySem.Spec PyProof.Rows
section
variable {X : Cx}
theorem zta : SlR X (fun x lo hi H Q => ∃ z : Str, x = .str z ∧ z.length ≤ sizeLine ∧ Q (.str (Txt.slice z lo hi)) H) := by
 intro pins s σ H x v vl vu lo hi sl Q I rx hs pl pu h
 obtain ⟨z, rfl, hz, q⟩ := h
 obtain ⟨t, rfl⟩ := (show ∃ t, v = Value.str z t from rx)
 have fin : ∀ (l u : Option (Int × Tok)), l.map (·.1) = lo → u.map (·.1) = hi → vl = partValue l → vu = partValue u → wpAny (model X.prog X.w) X.A (getItem (.str z t) (.ref sl)) (EP X pins σ Q) X.xe s := by
  rintro l u rfl rfl rfl rfl
  obtain ⟨o, ho, hc, hd⟩ := hs
  exact wpAny_getItem_str_slice (l := l) (u := u) (st := none) ⟨o, ho, hc, hd⟩ rfl (post_val_or_str ⟨Nat.le_trans (Txt.slice_le z _ _) hz, fun t' k => ⟨.str _, H, I.tok _, ⟨_, rfl⟩, q⟩⟩)
 refine ⟨"str", _, PySem.F.slot_str_getitem.lookup, typeIs_str _ _ _, ?_⟩
 cases pl with
 | none =>
  cases pu with
  | none => exact fin none none rfl rfl rfl rfl
  | int j tj => exact fin none (some (j, tj)) rfl rfl rfl rfl
 | int i ti =>
  cases pu with
  | none => exact fin (some (i, ti)) none rfl rfl rfl rfl
  | int j tj => exact fin (some (i, ti)) (some (j, tj)) rfl rfl rfl rfl
theorem zq4 : SlR X (fun x lo hi H Q => ∃ a xs, x = .ref a ∧ SqT X.K H a xs ∧ (HT.sIx xs.length 0 lo = 0 ∧ HT.sIx xs.length xs.length hi = xs.length) ∧ Q (.ref a) H) := by
 intro pins s σ H x v vl vu lo hi sl Q I rx hs pl pu h
 obtain ⟨a, xs, rfl, hx, hw, q⟩ := h
 cases rx
 obtain ⟨its, r, ht, hz⟩ := I.tuple hx
 have hlen : its.toArray.size = xs.length := by rw [List.size_toArray]; exact r.length.symm
 refine ⟨"tuple", _, PyProof.Rows.slot_tuple_getitem.lookup, ht.typeIs, ?_⟩
 exact HT.getItem_tuple_all ht hs pl pu (by rw [hlen]; exact hw) ⟨.ref a, H, I, rfl, q⟩
end
end L2
namespace L3
open PySem PySem.Spec PyProof.Rows L2
section
variable {X : Cx}
def rSlG : W → Option Int → Option Int → Mm → K3 → Prop
 | .str z, lo, hi, M, R => z.length ≤ sizeLine ∧ R (.str (Txt.slice z lo hi)) M
 | .tup ws, lo, hi, M, R => R (.tup (cutW ws lo hi)) M
 | _, _, _, _, _ => False
theorem zoj {ws : List W} {lo hi : Option Int} (h : HT.sIx ws.length 0 lo = 0 ∧ HT.sIx ws.length ws.length hi = ws.length) : cutW ws lo hi = ws := by
 unfold cutW
 rw [h.1, h.2]; simp
theorem ztb : SlR X (upSl X.K rSlG) := by
 rintro pins s σ H x v vl vu lo hi sl Q I rx hs pl pu ⟨wx, M, R, am, ax, h, k⟩
 cases ax <;> first | exact (show False from h).elim | skip
 case str z => exact zta pins s σ H _ v vl vu lo hi sl Q I rx hs pl pu ⟨z, rfl, h.1, k.at am (.str _) h.2⟩
 case tup a xs ws e q =>
  by_cases hw : HT.sIx ws.length 0 lo = 0 ∧ HT.sIx ws.length ws.length hi = ws.length
  ·have h' : R (.tup (cutW ws lo hi)) M := h
   rw [zoj hw] at h'
   exact zq4 pins s σ H _ v vl vu lo hi sl Q I rx hs pl pu ⟨a, xs, rfl, SqT.of e, by rw [q.length]; exact hw, k.at am (.tup e q) h'⟩
  ·exact zoP pins s σ H _ v vl vu lo hi sl Q I rx hs pl pu ⟨a, xs, rfl, SqT.of e, by rw [q.length]; exact hw, fun p hp => laidT am k hp (zhG q) h⟩
variable {a : Expr} {ta : TE3} {pos : Pos}
def vSlG (ta : TE3) (tl th : TO3) : TE3 := fun τ M R => ta τ M fun x M1 => tl τ M1 fun l M2 => th τ M2 fun u M3 => rSlG x l u M3 R
theorem zfe {lo hi : Option Expr} {tl th : TO3} {p2 : Pos} (he : E3 X a ta) (hl : PO X lo (upOp X.K tl)) (hu : PO X hi (upOp X.K th)) : E3 X (.Subscript a (.Slice lo hi none p2) pos) (vSlG ta tl th) :=
 (zgE ztb he hl hu).weak fun σ H Q ⟨τ, M, R, as, am, h, k⟩ => ⟨τ, M, _, as, am, h, fun x H1 wx M1 k1 am1 ax h1 => ⟨τ, M1, _, as.kp am k1, am1, h1, fun l H2 M2 k2 am2 h2 => ⟨τ, M2, _, (as.kp am k1).kp am1 k2, am2, h2, fun u H3 M3 k3 am3 h3 =>
  ⟨wx, M3, R, am3, (ax.kp am1 k2).kp am2 k3, h3, k.kp ((k1.trans k2).trans k3)⟩⟩⟩⟩
end
end L3
namespace L2
open PySem PySem.Spec PyProof.Rows
section
variable {M : Model} {A : Around} {E : Value → Shared → Prop} {s : Shared}
end
end L2
namespace L2
open PySem PySem.Spec PyProof.Rows
section
variable {X : Cx} {sc : Scope} {N' : List Str} {B : Blk} {E1 E2 : XK}
end
section
variable {prog : Program} {w : World} {A : Around} {R : Result → Shared → Prop} {s : Shared}
end
end L2
namespace L2
open PySem PySem.Spec PyProof.Rows
section
variable {P : Program} {w : World} {K : PySem.W.Frag} {mg : Str → Option Value} {base : Heap} {N : List Str} {qual : Str} {scope : Scope} {f : Addr} {cd : Value} {A : Around} {outer : List Env} {s0 : Shared} {H0 : Hp} {E : XK} {X : Cx}
 {pins : List (Addr × Obj)} {σ : St} {H : Hp} {s : Shared} {sc : Scope} {cl : List (Str × Addr)} {C : Addr} {fp : List Addr}
end
end L2
namespace L2
open PySem PySem.Spec PyProof.Rows
section
variable {X : Cx} {sc : Scope} {N' : List Str} {js : List (Option Nat)} {tg iter elt : Expr} {ifs : List Expr} {pos : Pos} {wi : TI} {g : Blk → TG} {tt : Blk → TT} {te : Blk → TE}
end
end L2
namespace L3
open PySem PySem.Spec PyProof.Rows L2
def upX (K : PySem.W.Frag) (H0 : Hp) (M0 : Mm) (t : TE3) : TE := fun σ H Q => ∃ τ M R, AS K H M σ τ ∧ AM K H M ∧ Kp H0 M0 H M ∧ t τ M R ∧ Up K H M R Q
section
variable {X : Cx}
end
section
variable {X : Cx} {H0 : Hp} {M0 : Mm} {r0 : K3} {pos : Pos}
def zq5 (i : Nat) (te : K3 → TE3) : TS3 := fun D τ M => te D.rt τ M fun w M' => D.nx (τ.set i (some w)) M'
theorem ztc {i : Nat} {x : Str} {e : Expr} {te : K3 → TE3} {pos' : Pos} (hN : X.N.Nodup) (hi : X.N[i]? = some x) (hx : Loc X.env.scope x) (he : PE X e (upX X.K H0 M0 (te r0))) (hs : swapsWith e (some (.Name x pos')) pos.line X.env = pure false := by rfl)
  (hf : X.fn x = true ∨ X.env.scope.names.lookup x = some .local := by first | exact .inl rfl | exact .inr rfl | assumption) : X3 X H0 M0 r0 (.Assign [.Name x pos'] e pos) (zq5 i te) := (zoK hN hi hx he hs hf).weak fun D σ H ⟨τ, M, D', as, am, k0, e0, h, k⟩ =>
 ⟨τ, M, fun w M' => D'.nx (τ.set i (some w)) M', as, am, k0, by subst e0; exact h, fun y H1 wy M1 k1 am1 ay h1 => k.nx _ _ _ _ k1 am1 ((as.kp am k1).set ay i) h1⟩
end
end L3
namespace L2
open PySem PySem.Spec PyProof.Rows
section
variable {X : Cx} {k : Nat} {f : Addr} {fd : FuncData} {ps : List Str} {sp : Sp} {g y : Str} {p py cpos spos pos : Pos} {e : Expr} {es : List Expr} {t : TA} {hs : List ExceptHandler} {h0 : ExceptHandler} {i : Nat}
def ztd (sp : Sp) (t : TA) (i : Nat) (E1 : (St → Hp → Prop) → St → XK) : TS := fun D σ H => t σ H fun vs H1 => sp vs H1 (fun v H2 => D.nx (σ.set i (some v)) H2) (E1 D.nx σ)
theorem zq6 {E1 : (St → Hp → Prop) → St → XK} (F : FnOk X.prog X.w X.K X.mg X.base (CXr X.prog X.w) k f fd ps sp) (hr : Room k X.A) (hg : Gl X g) (hm : X.mg g = some (.ref f)) (hk : PySem.W.keepIn X.K (.ref f) = true) (hb : zf7 X.K fd ps [])
  (hN : X.N.Nodup) (hi : X.N[i]? = some y) (hy : Loc X.env.scope y) (ha : ∀ E, PA (X.wish E) (e :: es) t) (hst : X.stack = X.env :: X.outer) (hfr : X.env.frame = some X.env.locals)
  (hh : ∀ (pins : List (Addr × Obj)) (σ : St) (H : Hp) (s : Shared) (ea : Addr) (cls : Value) (H' : Hp) (B : Heap) (s' : Shared) (D : Ends), Air X.prog X.w X.stack H s ea cls H' B s' → Inv X pins σ H s → E1 D.nx σ cls none H' →
   wpAny (model X.prog X.w) X.A (handleBy (.ref ea) X.env (h0 :: hs)) (SP X pins D) X.xe s')
  (hdb : (g == ("__debug__" : Str)) = false := by decide) (he : starEach (e :: es) X.env = (false, eval e X.env) :: starEach es X.env := by rfl) (hpl : (backTo cpos (starEach es X.env)).any (·.1) = false := by rfl)
  (hsw : swapsWith (.Call (.Name g p) (e :: es) [] cpos) (some (.Name y py)) spos.line X.env = pure false := by rfl) (hf : X.fn y = true ∨ X.env.scope.names.lookup y = some .local := by first | exact .inl rfl | exact .inr rfl | assumption) :
  PS X (.Try [.Assign [.Name y py] (.Call (.Name g p) (e :: es) [] cpos) spos] (h0 :: hs) [] [] pos) (ztd sp t i E1) := by
 intro pins s σ H D I h
 refine wpAny_Try_except ?_
 refine wpAny_execs_cons (wpAny_mono (Q := fun fl s1 => fl = .next ∧ ∃ v H', Inv X pins (σ.set i (some v)) H' s1 ∧ D.nx (σ.set i (some v)) H') (E := TryX X pins σ (E1 D.nx σ)) ?_ ?_ ?_)
 ·refine wpAny_Assign_Name (Q := fun fl s1 => fl = .next ∧ ∃ v H', Inv X pins (σ.set i (some v)) H' s1 ∧ D.nx (σ.set i (some v)) H') ?_ hsw
  refine wpAny_Call_Name_kw (zfi I hg hm ?_ hdb)
  refine PySem.W.callWith_K (h₀ := X.base) I.ok.mod.kin hk (thn (ha (TryX X pins σ (E1 D.nx σ)) cpos pins s σ H _ (I.wish _) h) fun us s1 ⟨vs, H1, I1, r, q⟩ => ⟨I1.kIn, ?_⟩) he hpl
  have I1' : Inv X pins σ H1 s1 := I1.unwish
  have hl : us.length = ps.length := by rw [← r.length]; exact F.len _ _ _ _ q
  refine wpAny_call (codeAny_mono (F.run X.A X.stack s1 H1 ⟨us, []⟩ us vs _ _ hr I1'.env0 (by have z := hb s1 us I1'.kIn (by rw [List.append_nil]; exact hl); rw [List.append_nil] at z; exact z) r q) fun rr s' hq => ?_)
  cases rr with
  | error ex =>
   obtain ⟨os, bare, ea, cls, a0, B, H', rfl, fl, hok, un, cov, e1⟩ := hq
   exact ⟨H1, s1, ea, cls, H', B, rfl, ⟨os, bare, ⟨a0, fl⟩, hok, un, cov⟩, I1', e1⟩
  | ok fl =>
   cases fl with
   | ret u =>
    obtain ⟨v, H', I', rv, q'⟩ := I1'.after hq
    exact zdV I' hN hi hy rv (fun s2 I2 => ⟨rfl, v, H', I2, q'⟩) hf
   | next => exact False.elim hq
   | brk => exact False.elim hq
   | cont => exact False.elim hq
 ·rintro fl s1 ⟨rfl, v, H', I', q⟩
  exact wpAny_execs_nil (wpAny_execs_nil ⟨_, H', I', q⟩)
 ·rintro ex s1 ⟨H1, s0, ea, cls, H', B, rfl, a, I', q⟩
  have a' := a
  rw [hst] at a'
  refine a'.look (by rw [← hst]; exact I.ok.frames) hfr fun s2 a2 => ?_
  rw [← hst] at a2
  exact hh pins σ H1 s0 ea cls H' B s2 D a2 I' q
end
end L2
namespace L2
open PySem PySem.Spec PyProof.Rows
abbrev excO (ea : Addr) (cls : Value) : HO := .ext fun h => ∃ o, h.get? ea = some o ∧ o.cls = cls
section
variable {X : Cx} {pins : List (Addr × Obj)} {σ : St} {H H' : Hp} {s s' : Shared} {ea : Addr} {cls : Value} {B : Heap} {E : Value → Shared → Prop}
theorem Air.tell (a : Air X.prog X.w X.stack H s ea cls H' B s') (I : Inv X pins σ H s) : Inv X pins σ (upd H' ea (excO ea cls)) s' := by
 obtain ⟨a0, f0⟩ := a.fl
 have hf := a.free
 have hn := a.new
 obtain ⟨o, vs, e, c, d⟩ := a.obj
 have u := a.un
 refine I.call' a.os ⟨u.keep, u.slot, fun b o' e' n x => ?_, u.there, fun b xs q => ?_, fun b o' w q => ?_, fun b ps q => ?_⟩ (fun b w q => ?_) a.bare (fun b z => absurd z (by simp))
 ·rw [zaA (fun z => by subst z; rw [hn] at e'; cases e')]; exact u.free b o' e' n x
 ·rw [zaA (zal (u.tups b xs q) hf)]; exact u.tups b xs q
 ·rw [zaA (zal (u.frzs b o' w q) hf)]; exact u.frzs b o' w q
 ·obtain ⟨more, q'⟩ := u.tbls b ps q
  exact ⟨more, by rw [zaA (zal q' hf)]; exact q'⟩
 ·by_cases hb : b = ea
  ·subst hb
   rw [za0] at q
   cases q
   exact ⟨⟨o, e, c⟩, ⟨o, e⟩, fun h1 h2 ⟨o', e1, c1⟩ k => ⟨o', k o' e1, c1⟩⟩
  ·rw [zaA hb] at q
   exact ((a.hok.kept f0.1) b w q).stay (fun c v _ r => r) (fun c r => by rw [zaA (zal r hf)]; exact r) fun c xs r => by rw [zaA (zal r hf)]; exact r
abbrev Cx.inK (X : Cx) (ea : Addr) : Cx := { X with A := X.A.mark (some (.ref ea)), calm := false, xe := fun _ _ => False }
theorem Inv.inK (I : Inv X pins σ H s) : Inv (X.inK ea) pins σ H s :=
 ⟨⟨I.ok.mod, I.ok.kind, I.ok.glob, I.ok.blt, I.ok.above, I.ok.inj, I.ok.has, I.ok.cab, (fun z => nomatch z), I.ok.frames, I.ok.stk, I.ok.exf, I.ok.bs, I.ok.bsz, I.ok.noex, I.ok.exfs, I.ok.funs, I.ok.frf⟩, I.os, I.bare, I.base, I.loc, I.cell, I.free, I.freeC, I.pin, I.hok, I.len⟩
theorem Inv.outK (I : Inv (X.inK ea) pins σ H s) (c : X.Ok) : Inv X pins σ H s := ⟨c, I.os, I.bare, I.base, I.loc, I.cell, I.free, I.freeC, I.pin, I.hok, I.len⟩
theorem zk0 {x n : Str} {c : Value} {p pos : Pos} {i : Nat} {b0 : Stmt} {suite : List Stmt} {rest : List ExceptHandler} {D : Ends} {ts : TS}
  (a : Air X.prog X.w X.stack H s ea cls H' B s') (I : Inv X pins σ H s) (hex : X.ex = []) (g1 : Gl X x) (m1 : X.mg x = some c) (d1 : (x == ("__debug__" : Str)) = false) (n1 : PySem.W.exmOne X.K cls c = some true)
  (hN : X.N.Nodup) (hi : X.N[i]? = some n) (hl : X.env.scope.names.lookup n = some .local) (hf : X.fn n = true ∨ X.env.scope.names.lookup n = some .local)
  (hs : PSs (X.inK ea) (b0 :: suite) ts) (h : ts { nx := fun σ' H2 => D.nx (σ'.set i none) H2, rt := fun _ _ => False } (σ.set i (some (.ref ea))) (upd H' ea (excO ea cls))) :
  wpAny (model X.prog X.w) X.A (handleBy (.ref ea) X.env (.ExceptHandler (some (.Name x p)) (some n) (b0 :: suite) pos :: rest)) (SP X pins D) E s' := by
 obtain ⟨oe, vs, _, _, J⟩ := a.inX I hex
 refine wpAny_handleBy_cons (codeAny_handlers_test (zfi (X := X.inX ea oe) J g1 m1 ?_ d1)) (by intro q; cases q)
 refine (PySem.W.exm_one (a.inv I).kIn a.ty n1).here ?_
 refine codeAny_handlers_suite_as (a.land fun s2 a2 => ?_)
 have J2 : Inv (X.inK ea) pins σ (upd H' ea (excO ea cls)) s2 := (a2.tell I).inK
 refine zdV (X := X.inK ea) J2 hN hi (.inl hl) (v := .ref ea) rfl (fun s3 J3 => ?_) hf
 refine wpAny_mono (hs pins s3 _ _ _ J3 h) (fun f s4 q => ?_) fun _ _ z => z.elim
 cases f with
 | next =>
  obtain ⟨σ4, H4, J4, q4⟩ := q
  exact zq3 (J4.outK I.ok) hN hi hl fun s5 J5 => ⟨_, H4, J5, q4⟩
 | brk => obtain ⟨_, _, _, z⟩ := q; exact z.elim
 | cont => obtain ⟨_, _, _, z⟩ := q; exact z.elim
 | ret u => obtain ⟨_, _, _, _, _, z⟩ := q; exact z.elim
end
end L2
namespace L3
open PySem PySem.Spec PyProof.Rows L2
def zmy (sp : Sp3) (t : TA3) (i j ie : Nat) (cl : String → Option Addr) : TS3 := fun D τ M => ie < τ.length ∧ t τ M fun ws M1 => sp ws M1 fun w M2 => (NM w ∧ D.nx (τ.set i (some w)) M2) ∨
 (∃ n, w = .ty n ∧ ∀ C, cl n = some C → ∀ ea, M2 ea = none → D.nx (((τ.set ie (some (.ref ea))).set j (some (.ref ea))).set ie none) (put M2 ea (.exc (.ref C))))
def zte (K : PySem.W.Frag) (cl : String → Option Addr) (j ie : Nat) : (SV → Hp → Prop) → SV → XK := fun nx σ cls _ H' => ∃ n C, cl n = some C ∧ cls = .ref C ∧ ∀ ea, H' ea = none →
 upS K (vSet j (vVar ie)) { nx := fun σ' H2 => nx (σ'.set ie none) H2, rt := fun _ _ => False } (σ.set ie (some (.ref ea))) (upd H' ea (excO ea cls))
theorem zok {K : PySem.W.Frag} {cl : String → Option Addr} {sp : Sp3} {t : TA3} {i j ie : Nat} {D : Ends} {σ : SV} {H : Hp} (h : upS K (zmy sp t i j ie cl) D σ H) :
  ztd (zev K cl sp) (upA K t) i (zte K cl j ie) D σ H := by
 obtain ⟨τ, M, D', as, am, ⟨hl, h⟩, kk⟩ := h
 refine ⟨τ, M, _, as, am, h, fun vs H1 ws M1 k1 am1 av h1 => ⟨ws, M1, _, am1, av, h1, ?_, ?_⟩⟩
 ·rintro v H2 w M2 nm k2 am2 av2 (⟨_, r⟩ | ⟨n, rfl, _⟩)
  ·exact kk.nx _ _ _ _ (k1.trans k2) am2 (((as.kp am k1).kp am1 k2).set av2 i) r
  ·exact absurd rfl (nm n)
 ·rintro n' C' H2 M2 hcl k2 am2 (⟨nm, _⟩ | ⟨n, e, r⟩)
  ·exact absurd rfl (nm n')
  ·cases e
   refine ⟨n', C', hcl, rfl, fun ea hea => ?_⟩
   obtain ⟨am3, k3⟩ := am2.laid (o := .exc (.ref C')) (u := excO ea (.ref C')) hea za0
   have as3 := (((as.kp am k1).kp am1 k2).kp am2 k3)
   refine ⟨_, _, { nx := fun τ' M' => D'.nx (τ'.set ie none) M', rt := fun _ _ => False, bk := fun _ _ => False, ct := fun _ _ => False }, as3.set (.ref ea) ie, am3, ?_, ⟨fun σ' H3 τ' M3 k4 am4 as4 r3 => ?_, fun _ _ _ _ _ _ _ z => z.elim, fun _ _ _ _ _ _ _ z => z.elim, fun _ _ _ _ _ _ _ z => z.elim⟩⟩
   ·refine ⟨.ref ea, ?_, r C' hcl ea (am2.nonM hea)⟩
    rw [List.getElem?_set_self hl]
   ·exact kk.nx _ _ _ _ (((k1.trans k2).trans k3).trans k4) am4 (as4.setN ie) r3
end L3
namespace L3
open PySem PySem.Spec PyProof.Rows L2
section
variable {X : Cx}
end
end L3
namespace L2
open PySem PySem.Spec PySem.W PySem.Calls PyProof.Rows Builtin Builtin.ObjectAttr Builtin.Getset_descriptor
structure ExcA (K : PySem.W.Frag) (D : Addr) : Prop where
 ga : PySem.W.findIn K (.ref D) "__getattribute__" = some (some (.builtin "BaseException.__getattribute__"))
 gn : PySem.W.findIn K (.ref D) "__getattr__" = some none
 cl : PySem.W.findIn K (.ref D) "__class__" = some (some (.builtin "object.__class__"))
 sp : PySem.W.specialIn K (.builtin "object.__class__") "__get__" = some (some (.builtin "getset_descriptor.__get__"))
 tk : PySem.W.takesIn K (.builtin "object.__class__") = some true
 mo : PySem.W.mroIn K D (.type "object") = some true
 mb : PySem.W.mroIn K D (.type "BaseException") = some true
 is : (PySem.W.clsIn K D).isSome = true
section
variable {K : PySem.W.Frag} {D x : Addr} {M : Model} {h : Heap} {prog : Program} {w : World} {A : Around} {E : Value → Shared → Prop} {s : Shared}
theorem zq7 {name : Str} {a g : Value} (Z : K.In h) (ha : PySem.W.findIn K (.ref D) name = some (some a)) (hg : PySem.W.specialIn K a "__get__" = some (some g)) (ht : PySem.W.takesIn K a = some true) :
  PySem.W.Looks M h (find (.ref x) (.ref D) name) (.bind g a) := by
 have q1 := PySem.W.looks_findIn (M := M) Z ha
 have q2 : PySem.W.Looks M h (getOf (some a)) (some g) := PySem.W.looks_specialIn Z hg
 have q3 := PySem.W.looks_takesIn (M := M) Z ht
 exact q1.andThen (q2.andThen ((show PySem.W.Looks M h (dataDescriptor? (some a) (some g)) (some (g, a)) from q3.andThen .now).andThen (PySem.W.Looks.tag .now)))
def zjm (x D : Addr) (h : Heap) : Prop := ∃ o, h.get? x = some o ∧ o.cls = .ref D
theorem zjm.ty (p : zjm x D h) : PySem.W.Looks M h (typeOf (.ref x)) (.ref D) := by
 obtain ⟨o, e, c⟩ := p
 exact c ▸ (PySem.W.Looks.ld e).andThen .now
theorem zq8 {R : Result → Shared → Prop} {tp : Value} (Z : K.In s.heap) (p : zjm x D s.heap) (F : ExcA K D) (h : R (.ok (.ret (.ref D))) s) :
  codeAny (model prog w) A (.call (.builtin "getset_descriptor.__get__") ⟨[.builtin "object.__class__", .ref x, tp], []⟩) R s := by
 obtain ⟨hh, g, dr, tt, os⟩ := s
 have q0 := p.ty (M := model prog w)
 have q1 := PySem.W.looks_mroIn (M := model prog w) Z F.mo
 refine codeAny_call_builtin PySem.W.KF.slot_gs.plain PySem.W.KF.entry_gs (PySem.W.KF.slot_gs.check _ _ _ _ _ _ _ _ PySem.W.KF.type_class (PySem.W.KF.args_gs _ _ _) ?_)
 unfold Builtin.«getset_descriptor.__get__» descrGet
 rw [PySem.W.dga_obj]
 refine wpAny_bind (wpAny_pure ?_)
 unfold descrGetter descrCheckInstance descrNameAndClass isInstance
 simp only [PySem.W.KF.owner_class]
 repeat lk
 refine ⟨Code.quiet_builtin _ (by decide +kernel), codeAny_builtin PySem.W.KF.entry_class ?_⟩
 unfold Builtin.«object.__class__» shownTypeOf
 repeat lk
 exact h
theorem zol {tk : Tok} {R : Result → Shared → Prop} (Z : K.In s.heap) (p : zjm x D s.heap) (F : ExcA K D) (h : R (.ok (.ret (.ref D))) s) :
  codeAny (model prog w) A (.call (.builtin "BaseException.__getattribute__") ⟨[.ref x, .str "__class__" tk], []⟩) R s := by
 refine codeAny_call_builtin PySem.F.excAttr_ValueError.ga.plain PySem.F.entry_bexc_ga ?_
 have hk : builtinKind "BaseException.__getattribute__" = some .slot := by decide +kernel
 have hc : splitId "BaseException.__getattribute__" = some ("BaseException", "__getattribute__") := by decide +kernel
 have ha := PySem.F.args_bexc_ga (.ref x) (.str "__class__" tk)
 obtain ⟨hh, g, dr, tt, os⟩ := s
 have q0 := p.ty (M := model prog w)
 have q1 := PySem.W.looks_mroIn (M := model prog w) Z F.mb
 have q2 : PySem.W.Looks (model prog w) hh (isInstance (.ref x) (.type "BaseException")) true := q0.andThen q1
 simp only [checkBuiltinCall, hk, hc]
 refine wpAny_bind (q2.at ?_)
 repeat (any_goals (first | assumption | wp_step))
 have q3 := zq7 (x := x) (M := model prog w) Z F.cl F.sp F.tk
 obtain ⟨o, e, c⟩ := id p
 refine wpAny_loadPart e ?_
 refine wpAny_pure ?_
 rw [c]
 refine wpAny_bind (q3.at ?_)
 dsimp only
 unfold bindTo
 dsimp only
 refine wpAny_bind (wpAny_holding (wpAny_call (zq8 Z p F ?_)))
 exact wpAny_pure h
theorem zmz {Q : Option Value → Shared → Prop} (Z : K.In s.heap) (p : zjm x D s.heap) (F : ExcA K D) (h : Q (some (.ref D)) { s with toks := s.toks + 1 }) : wpAny (model prog w) A (getAttr? (.ref x) "__class__") Q E s := by
 obtain ⟨hh, g, dr, tt, os⟩ := s
 have q0 := p.ty (M := model prog w)
 have q1 := PySem.W.looks_findIn (M := model prog w) Z F.ga
 have q2 := PySem.W.looks_findIn (M := model prog w) Z F.gn
 have n1 : (onTheHeap (Value.ref D) && Value.builtin "BaseException.__getattribute__" == Value.builtin "object.__getattribute__") = false := by
  have : (Value.builtin "BaseException.__getattribute__" == Value.builtin "object.__getattribute__") = false := by decide +kernel
  rw [this, Bool.and_false]
 unfold getAttr? getAttrBy? getAttrBy
 refine wpAny_bind (wpAny_mkText (wpAny_bind (wpAny_attempt (wpAny_holding (wpAny_bind (q0.at (wpAny_bind (q1.at ?_))))))))
 dsimp only
 rw [n1, if_neg (by decide)]
 unfold getAttrByItsOwn hookBefore
 have n2 : onTheHeap (Value.ref D) = true := rfl
 rw [n2, if_pos rfl]
 refine wpAny_bind (q2.at ?_)
 dsimp only
 refine wpAny_bind (wpAny_attempt (wpAny_holding ?_))
 unfold callGetattribute boundAndCalled
 have f3 := PySem.F.excAttr_ValueError.ga.bind (.ref x)
 rw [Bool.false_and, if_neg (by decide), f3]
 refine wpAny_bind (wpAny_pure ?_)
 refine wpAny_call (zol Z p F ?_)
 exact wpAny_pure (wpAny_pure h)
theorem zke (F : ExcA K D) : PySem.W.KitX K (.ref x) (.ref D) (zjm x D) where
 ty := fun _ _ _ p => p.ty
 it := fun _ _ Z _ => by
  have hc := F.is
  unfold PySem.W.clsIn at hc
  split at hc
  ·rename_i ho
   intro A' Q' E' s' k q
   unfold isType loadHead
   exact wpAny_bind (wpAny_loadPart (k _ _ (Z _ _ ho)) (wpAny_pure q))
  ·cases hc
 ne := fun h tp dd its n sl Z htp => by
  refine Bool.eq_false_iff.mpr fun q => ?_
  have e : D = tp := Value.ref.inj (beq_iff_eq.mp q)
  subst e
  have hc := F.is
  unfold PySem.W.clsIn at hc
  split at hc
  ·rename_i ho
   have y := (Z _ _ ho).symm.trans htp
   cases y
  ·cases hc
 ca := fun Z p k => zmz Z p F k
end
end L2
namespace L3
open PySem PySem.Spec PyProof.Rows L2
def zgS (K : PySem.W.Frag) : List W → Mm → K3 → Prop
 | [.ref ea, c], M, R => ∃ C b, M ea = some (.exc (.ref C)) ∧ ExcA K C ∧ ((∃ D, c = .ref D ∧ PySem.W.kitOne K (.ref C) (.ref D) = some b) ∨ ∃ T, c = .ty T ∧ PySem.W.kitOne K (.ref C) (.type T) = some b) ∧ R (.bl b) M
 | _, _, _ => False
theorem zfw {X : Cx} : zcf X (.builtin "isinstance") (upC X.K (zgS X.K)) := by
 rintro pins s σ H xs us Q I rs ⟨ws, M, R, am, axs, h, k⟩
 match ws, h with
 | [.ref ea, c], h =>
  obtain ⟨C, b, hm, F, hc, r⟩ := h
  obtain ⟨v, u, rfl, av, au⟩ := axs.two
  cases av
  obtain ⟨y, z, rfl, ry, rz⟩ := zpG rs
  cases (show y = Value.ref ea from ry)
  have e : H ea = some (.ext fun h => ∃ o, h.get? ea = some o ∧ o.cls = .ref C) := am ea _ hm
  have p : zjm ea C s.heap := (show zbw X.prog X.w H s.heap ea (.ext fun h => ∃ o, h.get? ea = some o ∧ o.cls = .ref C) from I.hok ea _ e).1
  rcases hc with ⟨D, rfl, hk⟩ | ⟨T, rfl, hk⟩
  ·cases au
   cases (show z = Value.ref D from rz)
   exact PySem.W.kia_one (zke F) I.kIn p hk (fun z => nomatch z) fun tk => ⟨.bl b, H, I.tok _, rfl, k.at am (.bl b) r⟩
  ·cases au
   cases (show z = Value.type T from rz)
   exact PySem.W.kia_one (zke F) I.kIn p hk (fun z => nomatch z) fun tk => ⟨.bl b, H, I.tok _, rfl, k.at am (.bl b) r⟩
end L3
namespace L3
open PySem PySem.Spec PyProof.Rows L2
section
variable {K : PySem.W.Frag} {H : Hp} {M : Mm}
end
section
variable {X : Cx} {C : Addr} {f m : Str} {pos apos cpos : Pos} {ta tv : TE3} {o e value : Expr} {es : List Expr} {t : TA3} {sp : Sp3}
variable {k : Nat} {g : Addr} {fd : FuncData} {ps : List Str}
end
end L3
namespace L2
open PySem PySem.Spec PyProof.Rows
section
variable {prog : Program} {w : World} {K : Type} [DecidableEq K] {knd : HeapKind prog w K} {A : Around} {E : Value → Shared → Prop} {s : Shared} {d a : Addr} {k : K} {xs : List (K × Addr × Value)}
theorem zmA {y : Value} {Q : Value → Shared → Prop} (hu : knd.room A) (hkey : knd.is s.heap k a) (hm : s.heap.DictOfH knd d xs) (hsz : xs.length ≤ sizeLine)
  (h1 : ∀ p, atKey xs k = some p → Q p.2 { s with toks := s.toks + knd.draws k })
  (h2 : atKey xs k = none → ∀ h', h'.DictOfH knd d (storedH xs k a y) → Heap.SameBut d s.heap h' → Q y { s with heap := h', toks := s.toks + knd.draws k }) :
  wpAny (model prog w) A (dictSetDefault d (.ref a) y) Q E s := by
 obtain ⟨o, es, ep, ho, hc, hd, he, his, hn⟩ := hm
 unfold dictSetDefault
 refine wpAny_holding (wpAny_bind (knd.pyHash hu hkey (wpAny_bind (wpAny_dictFind_heap (s := { s with toks := s.toks + knd.draws k }) hu hkey ho hd he his hn (fun hno => ?_) fun j p hj => ?_))))
 ·have hk := atKey_none_of_get hno
  have hnot : k ∉ xs.map (·.1) := not_mem_keys_of_get hno
  refine wpAny_bind (wpAny_rule (wpAny_bind (wpAny_updateDictKeys (hz := by have e := size_of_entries he; omega) (s := { s with toks := s.toks + knd.draws k }) ho hd (wpAny_pure (h2 hk _ ⟨_, _, ep + 1, Heap.get?_update_self _ ho (Obj.isFreed_of_dict (Obj.data_mapDictKeys hd _)),
   hc.mapDictKeys _, Obj.data_mapDictKeys hd _, ?_, fun x hx => ?_, ?_⟩ (Heap.SameBut.update ..))))))
  ·rw [storedH_new hk]
   simp [he, entryOfKey]
  ·rw [storedH_new hk] at hx
   rcases List.mem_append.mp hx with q | q
   ·exact knd.keeps (his x q) ho hd (Heap.SameBut.update ..)
   ·obtain rfl := List.mem_singleton.mp q
    exact knd.keeps hkey ho hd (Heap.SameBut.update ..)
  ·rw [storedH_new hk, List.map_append, List.nodup_append]
   refine ⟨hn, by simp, fun x hx y hy => ?_⟩
   simp only [List.map_cons, List.map_nil, List.mem_singleton] at hy
   subst hy
   exact fun e => hnot (e ▸ hx)
 ·refine wpAny_bind (wpAny_dictEntries (s := { s with toks := s.toks + knd.draws k }) ho hd ?_)
  rw [entry_at he j, hj]
  exact wpAny_bind (wpAny_rule (wpAny_pure (h1 p (atKey_of_get hn hj))))
end
section
variable {X : Cx} {pins : List (Addr × Obj)} {σ : St} {H : Hp} {s : Shared} {a b : Addr} {v : V} {r : Value} {A : Around} {E : Value → Shared → Prop} {kvs : List (List Key × V)} {k : List Key}
end
end L2
namespace L3
open PySem PySem.Spec PyProof.Rows L2
section
variable {X : Cx}
end
end L3
namespace L2
open PySem PySem.Spec PyProof.Rows
section
variable {X : Cx} {pins : List (Addr × Obj)} {σ : St} {H : Hp} {s : Shared} {a b : Addr} {v : V} {r : Value} {A : Around} {E : Value → Shared → Prop} {es : List (NKey × Addr × V)} {tl : List Int} {x : NKey}
theorem ztf {o e : Expr} {args : List Expr} {to : TE} {t : TA} {name : Str} {apos cpos : Pos} {T id : String} {rr : V → List V → Hp → VK → Prop} {tq : V → Hp → Prop} (pa : PlainAttrs T) (slot : Slot T name id) (hty : typeOf (.builtin id) = pure (.type "method_descriptor")) (hm : MtR X id rr) (ho : PE X o to) (ha : PA X (e :: args) t)
  (tp : ∀ pins σ H s x v, Inv X pins σ H s → RelV x v → tq x H → s.TypeIs v T ∧ ∀ a, v = .ref a → ∃ ob, s.heap.get? a = some ob ∧ ob.dict = none) (hbase : attributeBase o name X.env (eval o X.env) = eval o X.env)
  (hfew : ((backTo cpos (starEach (e :: args) X.env)).all (fun x => !x.1) && (backToKw cpos (keywordEach [] X.env)).all (fun x => x.1.isSome) && decide ((e :: args).length + ([] : List Keyword).length + (if ([] : List Keyword).isEmpty then 0 else 1) < 30)) = true)
  (hline : (apos.endLine == cpos.line) = true) (hs : starEach (e :: args) X.env = (false, eval e X.env) :: starEach args X.env) (hplain : (backTo cpos (starEach args X.env)).any (·.1) = false) :
  PE X (.Call (.Attribute o name apos) (e :: args) [] cpos) (fun σ H Q => to σ H fun x H1 => tq x H1 ∧ t σ H1 fun xs H2 => rr x xs H2 Q) := by
 intro pins s σ H Q I h
 refine wpAny_Call_method_late hbase hfew hline rfl (thn (ho pins s σ H _ I h) fun v s1 ⟨x, H1, I1, r1, ty, q1⟩ => ?_)
 obtain ⟨h1, h2⟩ := tp _ _ _ _ _ _ I1 r1 ty
 refine ⟨T, id, pa, slot, hty, h1, h2, ?_⟩
 have hA := ha cpos pins s1 σ H1 _ I1 q1
 rw [hs] at hA ⊢
 refine Calls.callWith_builtin (by show (false || (backTo cpos (starEach args X.env)).any (·.1)) = false; rw [hplain] <;> rfl) (Calls.evalArgs_plain ?_)
 exact thn hA fun us s2 ⟨vs, H2, I2, r2, q2⟩ => hm pins s2 σ H2 x vs v us Q I2 r1 r2 q2
theorem zew {α β : Type} {F : α → β → Prop} : ∀ {a c : List α} {b d : List β}, Paired F a b → Paired F c d → Paired F (a ++ c) (b ++ d)
 | _, _, _, _, .nil, h => h
 | _, _, _, _, .cons r t, h => .cons r (zew t h)
theorem zmB (I : Inv X pins σ H s) (e : H a = some (.ext (zbW X.prog X.w tl a es))) : zbW X.prog X.w tl a es s.heap := (show zbw X.prog X.w H s.heap a (.ext (zbW X.prog X.w tl a es)) from I.hok a _ e).1
theorem NX.val {xs : List (NKey × Addr × Value)} (q : NX es xs) (x : NKey) : (atKey xs x = none ∧ ∀ e ∈ es, e.1 ≠ x) ∨ ∃ b v u, atKey xs x = some (b, u) ∧ (x, b, v) ∈ es ∧ RelV v u := by
 induction q with
 | nil => exact .inl ⟨rfl, fun e he => nomatch he⟩
 | @cons p z ps zs h t ih =>
  obtain ⟨p1, p2, p3⟩ := p
  obtain ⟨z1, z2, z3⟩ := z
  obtain ⟨rfl, rfl, h3⟩ := h
  unfold atKey at ih ⊢
  rw [List.find?_cons]
  by_cases hx : p1 = x
  ·subst hx
   rw [decide_eq_true rfl]
   exact .inr ⟨p2, p3, z3, rfl, List.mem_cons_self, h3⟩
  ·rw [decide_eq_false hx]
   rcases ih with ⟨i1, i2⟩ | ⟨b, v, u, i1, i2, i3⟩
   ·refine .inl ⟨i1, fun e he => ?_⟩
    rcases List.mem_cons.mp he with rfl | he
    ·exact hx
    ·exact i2 e he
   ·exact .inr ⟨b, v, u, i1, List.mem_cons_of_mem _ i2, i3⟩
theorem zmC {Q : Value → Shared → Prop} (hu : A.units + 2 < cLine) (I : Inv X pins σ H s) (e : H a = some (.ext (zbW X.prog X.w tl a es))) (ks : ∀ z ∈ es, NAt H tl z.1 z.2.1) (eb : NAt H tl x b) (rv : RelV v r) (hl : es.length < sizeLine)
  (h1 : ∀ c v0 w' s', (x, c, v0) ∈ es → Inv X pins σ H s' → RelV v0 w' → Q w' s') (h2 : (∀ z ∈ es, z.1 ≠ x) → ∀ s', Inv X pins σ (upd H a (.ext (zbW X.prog X.w tl a (es ++ [(x, b, v)])))) s' → Q r s') :
  wpAny (model X.prog X.w) A (call (.builtin "dict.setdefault") [.ref a, .ref b, r]) Q E s := by
 obtain ⟨o, ents, ep, xs, ho, hc, hd, he, nx, hn, hz, hsys⟩ := zmB I e
 have isAll : ∀ z ∈ xs, (zbi X.prog X.w tl).is s.heap z.1 z.2.1 := by
  have : ∀ {es : List (NKey × Addr × V)} {xs : List (NKey × Addr × Value)}, NX es xs → (∀ z ∈ es, NAt H tl z.1 z.2.1) → ∀ z ∈ xs, (zbi X.prog X.w tl).is s.heap z.1 z.2.1 := by
   intro es xs q
   induction q with
   | nil => intro _ z hz; cases hz
   | @cons p z ps zs h t ih =>
    intro hk u hu
    rcases List.mem_cons.mp hu with rfl | hu
    ·have := (hk p List.mem_cons_self).is I.hok
     rw [h.1, h.2.1] at this
     exact this
    ·exact ih (fun y hy => hk y (List.mem_cons_of_mem _ hy)) u hu
  exact this nx ks
 have dd : s.heap.DictOfH (zbi X.prog X.w tl) a xs := ⟨o, ents, ep, ho, hc, hd, he, isAll, hn⟩
 have hlen : xs.length = es.length := (Paired.length nx).symm
 refine call_meetsIn PySem.F.slot_dict_setdefault dd.typeIs PySem.F.entry_dict_setdefault (PySem.F.args_dict_setdefault_3 _ _ _)
  (S := fun A R s1 => (zbi X.prog X.w tl).room A.in1 ∧ (zbi X.prog X.w tl).is s1.heap x b ∧ s1.heap.DictOfH (zbi X.prog X.w tl) a xs ∧
   (∀ p, atKey xs x = some p → R (.ok (.ret p.2)) { s1 with toks := s1.toks + (zbi X.prog X.w tl).draws x }) ∧
   (atKey xs x = none → ∀ h', h'.DictOfH (zbi X.prog X.w tl) a (storedH xs x b r) → Heap.SameBut a s1.heap h' → R (.ok (.ret r)) { s1 with heap := h', toks := s1.toks + (zbi X.prog X.w tl).draws x }))
  (.of_wp fun A R s1 ⟨q0, q1, q2, q3, q4⟩ => ?_) ⟨hu, eb.is I.hok, dd, fun p hp => ?_, fun hno h' dd' hs => ?_⟩
 ·unfold Builtin.«dict.setdefault»
  refine wpAny_bind ?_
  unfold Builtin.Dict.keyAndDefault
  refine wpAny_bind (wpAny_notOrdered_dict q2.typeIs (wpAny_pure ?_))
  dsimp only
  rw [if_neg (by rw [hsys]; exact Bool.false_ne_true)]
  exact wpAny_bind (zmA q0 q1 q2 hz (fun p hp => wpAny_pure ⟨_, rfl, q3 p hp⟩) fun hn h' hm' hs' => wpAny_pure ⟨_, rfl, q4 hn h' hm' hs'⟩)
 ·rcases nx.val x with ⟨i1, _⟩ | ⟨c, v0, u, i1, i2, i3⟩
  ·rw [i1] at hp; cases hp
  ·rw [i1] at hp; cases hp
   exact h1 c v0 u _ i2 (I.tok _) i3
 ·rcases nx.val x with ⟨_, i2⟩ | ⟨c, v0, u, i1, _, _⟩
  ·rw [storedH_new hno] at dd'
   obtain ⟨q1, es', ep', hq, g2, g3, g4, _, g5⟩ := dd'
   refine h2 i2 _ (ziS (t' := s.toks + (zbi X.prog X.w tl).draws x) I (by rw [e]; exact True.intro) hs ⟨q1, hq⟩ (zbW.ok ⟨q1, es', ep', _, hq, g2, g3, g4, zew nx (.cons ⟨rfl, rfl, rv⟩ .nil), g5, ?_, hsys⟩))
   rw [List.length_append, hlen]
   simp; omega
  ·rw [i1] at hno; cases hno
end
end L2
namespace L3
open PySem PySem.Spec PyProof.Rows L2
def keyW (tl : List Int) (x : NKey) : W := .tup (wK x.1 :: .tup (x.2.map wK) :: tl.map W.int)
section
variable {K : PySem.W.Frag} {H : Hp} {M : Mm}
theorem AVs.intsN : ∀ {tl : List Int} {vs : List V}, AVs K H M vs (tl.map W.int) → vs = tl.map V.int
 | [], _, h => by cases h; rfl
 | i :: r, _, h => by
  cases h with
  | cons a b => cases a; rw [AVs.intsN b]; rfl
theorem zmD {tl : List Int} {x : NKey} {v : V} (h : AV K H M v (keyW tl x)) : ∃ b, v = .ref b ∧ NAt H tl x b := by
 unfold keyW at h
 cases h with
 | @tup b xs _ e q =>
  cases q with
  | @cons v1 vs1 _ _ a1 q1 =>
   cases q1 with
   | @cons v2 vs2 _ _ a2 q2 =>
    have e1 := a1.key
    subst e1
    have e3 := q2.intsN
    subst e3
    cases a2 with
    | @tup pa ys _ e4 q4 =>
     rw [q4.keys] at e4
     exact ⟨b, rfl, pa, e, e4⟩
end
section
variable {X : Cx}
def zq9 (P : Program) (w : World) (tl : List Int) : TE3 := fun τ M R => ∀ p, M p = none → R (.ref p) (put M p (.dn P w tl []))
theorem zra {tl : List Int} {pos : Pos} : E3 X (.Dict [] [] pos) (zq9 X.prog X.w tl) := by
 rintro pins s σ H Q I ⟨τ, M, R, as, am, h, k⟩
 have hf := I.hok.fresh (Nat.le_refl s.heap.objs.size)
 have hb := I.big
 obtain ⟨am2, k2⟩ := am.laid (o := .dn X.prog X.w tl []) (u := .ext (zbW X.prog X.w tl s.heap.objs.size [])) hf ⟨[], za0, .nil⟩
 refine wpAny_Dict_empty ⟨.ref s.heap.objs.size, _, I.laid (a := s.heap.objs.size) (o := .ext (zbW X.prog X.w tl s.heap.objs.size [])) (t' := s.toks) (fun _ _ q => Heap.get?_push_of_some _ q) (Nat.le_refl _) (zbW.ok ⟨_, #[], 0, [], Heap.get?_push_size _ rfl, ⟨rfl, rfl, rfl⟩, rfl, rfl, .nil, List.nodup_nil, Nat.zero_le _, ?_⟩), rfl, k _ _ _ _ k2 am2 (.ref _) (h _ (am.nonM hf))⟩
 rw [beq_eq_false_iff_ne]
 exact Nat.ne_of_gt hb
abbrev isDn (P : Program) (w : World) (tl : List Int) (x : W) (M : Mm) : Prop := ∃ a kvs, x = .ref a ∧ M a = some (.dn P w tl kvs)
theorem zuq {P : Program} {w : World} {tl : List Int} {pins : List (Addr × Obj)} {σ : SV} {H : Hp} {s : Shared} {v : V} {u : Value} (I : Inv X pins σ H s) (r : RelV v u) (h : ∃ a es, v = .ref a ∧ H a = some (.ext (zbW P w tl a es))) : s.TypeIs u "dict" ∧ ∀ a, u = .ref a → ∃ ob, s.heap.get? a = some ob ∧ ob.dict = none := by
 obtain ⟨a, es, rfl, e⟩ := h
 cases (show u = Value.ref a from r)
 obtain ⟨o, ents, ep, xs, ho, hc, hd, _⟩ := (show zbw X.prog X.w H s.heap a (.ext (zbW P w tl a es)) from I.hok a _ e).1
 refine ⟨⟨o, ho, hc.1⟩, fun b e' => ?_⟩
 cases e'
 exact ⟨o, ho, hc.2.1⟩
def zrb (P : Program) (w : World) (tl : List Int) (to : TE3) (tk tv : TE3) : TE3 := fun τ M R => to τ M fun d M1 => isDn P w tl d M1 ∧ tk τ M1 fun kw M2 => tv τ M2 fun v M3 => ∃ a kvs x, d = .ref a ∧ M3 a = some (.dn P w tl kvs) ∧ kw = keyW tl x ∧ kvs.length < sizeLine ∧
 (∀ w0, zbg kvs x = some w0 → R w0 M3) ∧ (zbg kvs x = none → R v (put M3 a (.dn P w tl (kvs ++ [(x, v)]))))
abbrev PN (K : PySem.W.Frag) (H : Hp) (M : Mm) (tl : List Int) (es : List (NKey × Addr × V)) (kvs : List (NKey × W)) : Prop := Paired (fun (e : NKey × Addr × V) (p : NKey × W) => e.1 = p.1 ∧ NAt H tl e.1 e.2.1 ∧ AV K H M e.2.2 p.2) es kvs
theorem PN.look {K : PySem.W.Frag} {H : Hp} {M : Mm} {tl : List Int} {es : List (NKey × Addr × V)} {kvs : List (NKey × W)} (q : PN K H M tl es kvs) (hn : (es.map (·.1)).Nodup) (x : NKey) : (zbg kvs x = none ∧ ∀ e ∈ es, e.1 ≠ x) ∨ ∃ w, zbg kvs x = some w ∧ ∀ c v, (x, c, v) ∈ es → AV K H M v w := by
 induction q with
 | nil => exact .inl ⟨rfl, fun e he => nomatch he⟩
 | @cons p z ps zs h t ih =>
  rw [List.map_cons, List.nodup_cons] at hn
  obtain ⟨p1, p2, p3⟩ := p
  obtain ⟨z1, z2⟩ := z
  obtain ⟨rfl, _, h3⟩ := h
  unfold zbg at ih ⊢
  rw [List.find?_cons]
  by_cases hx : p1 = x
  ·subst hx
   rw [decide_eq_true rfl]
   refine .inr ⟨z2, rfl, fun c v hm => ?_⟩
   rcases List.mem_cons.mp hm with e | hm
   ·cases e; exact h3
   ·exact absurd (List.mem_map.mpr ⟨_, hm, rfl⟩) hn.1
  ·rw [decide_eq_false hx]
   rcases ih hn.2 with ⟨i1, i2⟩ | ⟨w, i1, i2⟩
   ·refine .inl ⟨i1, fun e he => ?_⟩
    rcases List.mem_cons.mp he with rfl | he
    ·exact hx
    ·exact i2 e he
   ·refine .inr ⟨w, i1, fun c v hm => ?_⟩
    rcases List.mem_cons.mp hm with e | hm
    ·cases e; exact absurd rfl hx
    ·exact i2 c v hm
theorem zrc {es : List (NKey × Addr × V)} {xs : List (NKey × Addr × Value)} (nx : NX es xs) : es.map (·.1) = xs.map (·.1) := by
 induction nx with
 | nil => rfl
 | cons h _ ih => rw [List.map_cons, List.map_cons, ih, h.1]
theorem zbW.nodup {P : Program} {w : World} {tl : List Int} {a : Addr} {es : List (NKey × Addr × V)} {h : Heap} (x : zbW P w tl a es h) : (es.map (·.1)).Nodup := by
 obtain ⟨o, ents, ep, xs, _, _, _, _, nx, hn, _⟩ := x
 rw [zrc nx]; exact hn
theorem PN.ats {K : PySem.W.Frag} {H : Hp} {M : Mm} {tl : List Int} {es : List (NKey × Addr × V)} {kvs : List (NKey × W)} (q : PN K H M tl es kvs) : ∀ z ∈ es, NAt H tl z.1 z.2.1 := by
 induction q with
 | nil => intro z hz; cases hz
 | cons h _ ih =>
  intro z hz
  rcases List.mem_cons.mp hz with rfl | hz
  ·exact h.2.1
  ·exact ih z hz
theorem ztg {tl : List Int} {o ek ev : Expr} {to tk tv : TE3} {apos cpos : Pos} (hu : X.A.units + 2 < cLine) (ho : E3 X o to) (hk : E3 X ek tk) (hv : E3 X ev tv) (hbase : attributeBase o "setdefault" X.env (eval o X.env) = eval o X.env := by rfl)
  (hfew : ((backTo cpos (starEach [ek, ev] X.env)).all (fun x => !x.1) && (backToKw cpos (keywordEach [] X.env)).all (fun x => x.1.isSome) && decide (([ek, ev] : List Expr).length + ([] : List Keyword).length + (if ([] : List Keyword).isEmpty then 0 else 1) < 30)) = true := by rfl)
  (hline : (apos.endLine == cpos.line) = true := by rfl) (hs : starEach [ek, ev] X.env = (false, eval ek X.env) :: starEach [ev] X.env := by rfl) (hs2 : starEach [ev] X.env = (false, eval ev X.env) :: starEach [] X.env := by rfl) (hplain : (backTo cpos (starEach [ev] X.env)).any (·.1) = false := by rfl) :
  E3 X (.Call (.Attribute o "setdefault" apos) [ek, ev] [] cpos) (zrb X.prog X.w tl to tk tv) := by
 have hm : MtR X "dict.setdefault" (fun d vs H Q => ∃ M R w kw ww a kvs x y z, AM X.K H M ∧ d = .ref a ∧ vs = [y, z] ∧ AV X.K H M y kw ∧ AV X.K H M z ww ∧ M a = some (.dn X.prog X.w tl kvs) ∧ kw = keyW tl x ∧ kvs.length < sizeLine ∧ (∀ w0, zbg kvs x = some w0 → R w0 M) ∧ (zbg kvs x = none → R ww (put M a (.dn X.prog X.w tl (kvs ++ [(x, ww)])))) ∧ w = () ∧ Up X.K H M R Q) := by
  rintro pins s σ H d vs v us Q I rd rs ⟨M, R, _, kw, ww, a, kvs, x, y, z, am, rfl, rfl, ay, az, e, rfl, hl, h1, h2, _, k⟩
  cases (show v = Value.ref a from rd)
  obtain ⟨u, u1, rfl, ru, ru1⟩ := zpG rs
  obtain ⟨es, e1, q⟩ := am _ _ e
  obtain ⟨b, rfl, nb⟩ := zmD ay
  cases (show u = Value.ref b from ru)
  have nd := zbW.nodup (zmB I e1)
  have lk := PN.look q nd x
  refine zmC hu I e1 (PN.ats q) nb ru1 (by rw [Paired.length q]; exact hl) (fun c v0 w' s' hm I' rw' => ?_) fun hno s' I' => ?_
  ·rcases lk with ⟨_, l2⟩ | ⟨w, l1, l2⟩
   ·exact absurd rfl (l2 _ hm)
   ·exact ⟨_, H, I', rw', k.at am (l2 c v0 hm) (h1 w l1)⟩
  ·rcases lk with ⟨l1, _⟩ | ⟨w, l1, l2⟩
   ·have g := znO (o := .dn X.prog X.w tl (kvs ++ [(x, ww)])) (u := .ext (zbW X.prog X.w tl a (es ++ [(x, b, z)]))) am e
    obtain ⟨am3, k3⟩ := am.write (o := .dn X.prog X.w tl (kvs ++ [(x, ww)])) (u := .ext (zbW X.prog X.w tl a (es ++ [(x, b, z)]))) e ⟨_, za0, zew (Paired.mapP q fun p r t => ⟨t.1, let ⟨pa, n1, n2⟩ := t.2.1; ⟨pa, g.ht _ _ n1, g.ht _ _ n2⟩, t.2.2.go g⟩) (.cons ⟨rfl, let ⟨pa, n1, n2⟩ := nb; ⟨pa, g.ht _ _ n1, g.ht _ _ n2⟩, az.go g⟩ .nil)⟩
    exact ⟨_, _, I', ru1, k _ _ _ _ k3 am3 (az.wr am e) (h2 l1)⟩
   ·exfalso
    have : ∀ {es : List (NKey × Addr × V)} {kvs : List (NKey × W)}, PN X.K H M tl es kvs → (∀ z ∈ es, z.1 ≠ x) → zbg kvs x = none := by
     intro es kvs q
     induction q with
     | nil => intro _; rfl
     | @cons p r ps rs h t ih =>
      intro hz
      unfold zbg at ih ⊢
      rw [List.find?_cons, decide_eq_false (by rw [← h.1]; exact hz p List.mem_cons_self)]
      exact ih fun y hy => hz y (List.mem_cons_of_mem _ hy)
    rw [this q hno] at l1; cases l1
 refine (ztf (tq := fun x H => ∃ a es, x = .ref a ∧ H a = some (.ext (zbW X.prog X.w tl a es))) PySem.F.plainAttrs_dict PySem.F.slot_dict_setdefault PySem.F.type_dict_setdefault hm ho (zab hk (zab hv zae hs2) hs) (fun pins σ H s x v I r h => zuq I r h) hbase hfew hline hs hplain).weak ?_
 rintro σ H Q ⟨τ, M, R, as, am, h, k⟩
 refine ⟨τ, M, _, as, am, h, fun d H1 wd M1 k1 am1 ad ⟨⟨a, kvs, e1, e2⟩, h1⟩ => ?_⟩
 subst e1
 cases ad
 obtain ⟨es, e3, q⟩ := am1 _ _ e2
 refine ⟨⟨a, es, rfl, e3⟩, τ, M1, fun ws M3 => match ws with | [kw, v] => ∃ a' kvs x, W.ref a = .ref a' ∧ M3 a' = some (.dn X.prog X.w tl kvs) ∧ kw = keyW tl x ∧ kvs.length < sizeLine ∧ (∀ w0, zbg kvs x = some w0 → R w0 M3) ∧ (zbg kvs x = none → R v (put M3 a' (.dn X.prog X.w tl (kvs ++ [(x, v)])))) | _ => False, as.kp am k1, am1, ?_, fun vs H2 ws M2 k2 am2 avs r => ?_⟩
 ·exact h1
 ·match ws, r with
  | [kw, ww], ⟨a', kvs, x, ea, e4, e5, hl, g1, g2⟩ =>
   cases ea
   obtain ⟨y, z, rfl, ay, az⟩ := avs.two
   exact ⟨M2, R, (), kw, ww, a, kvs, x, y, z, am2, rfl, rfl, ay, az, e4, e5, hl, g1, g2, rfl, k.kp (k1.trans k2)⟩
end
end L3
namespace L3
open PySem PySem.Spec PyProof.Rows L2
section
variable {X : Cx} {H0 : Hp} {M0 : Mm} {r0 : K3}
def zeI (sp : Sp3) (ta : TA3) (r0 : K3) : TE3 := fun τ M R => ta τ M fun ws M1 => sp ws M1 fun w M2 => (NM w ∧ R w M2) ∨ ((∃ n, w = .ty n) ∧ r0 w M2)
theorem zmE {E : XK} {cl : String → Option Addr} {k : Nat} {g : Addr} {fd : FuncData} {ps : List Str} {sp : Sp3} {x : Str} {a : Expr} {es : List Expr} {ta : TA3} {p pos : Pos} (hp : zhk (CXr X.prog X.w) X E)
  (hx : ∀ n C H' M', cl n = some C → Kp H0 M0 H' M' → AM X.K H' M' → r0 (.ty n) M' → E (.ref C) none H') (F : FnOk X.prog X.w X.K X.mg X.base (CXr X.prog X.w) k g fd ps (zev X.K cl sp)) (hr : Room k X.A) (hg : Gl X x) (hm : X.mg x = some (.ref g)) (hk : PySem.W.keepIn X.K (.ref g) = true) (hb : zf7 X.K fd ps [])
  (ha : A3 X (a :: es) ta) (hdb : (x == ("__debug__" : Str)) = false := by decide) (he : starEach (a :: es) X.env = (false, eval a X.env) :: starEach es X.env := by rfl) (hpl : (backTo pos (starEach es X.env)).any (·.1) = false := by rfl) :
  PE X (.Call (.Name x p) (a :: es) [] pos) (upX X.K H0 M0 (zeI sp ta r0)) :=
 (zlQ (E := E) F hr hg hm hk hb .nil hp ha hdb he hpl).weak fun σ H Q ⟨τ, M, R, as, am, k0, h, kk⟩ =>
  ⟨τ, M, _, as, am, h, fun vs H1 ws M1 k1 am1 av h1 => ⟨ws, M1, _, am1, (List.append_nil vs).symm ▸ av, h1, fun y H' w M' n k' am' ay r => by
   rcases r with ⟨_, r⟩ | ⟨⟨m, rfl⟩, _⟩
   ·exact kk _ _ _ _ (k1.trans k') am' ay r
   ·exact absurd rfl (n m), fun n C H' M' c k' am' r => by
   rcases r with ⟨z, _⟩ | ⟨_, r⟩
   ·exact absurd rfl (z n)
   ·exact hx n C H' M' c ((k0.trans k1).trans k') am' r⟩⟩
def vBM1 (T : String) (rm : W → List W → Mm → K3 → Prop) (to te : TE3) : TE3 := fun τ M R => to τ M fun x M1 => tyW T x M1 ∧ te τ M1 fun wa M2 => rm x [wa] M2 R
theorem zur {T : String} {name : Str} {id : String} {rm : W → List W → Mm → K3 → Prop} {o e : Expr} {to te : TE3} {apos cpos : Pos} (pa : PlainAttrs T) (slot : Slot T name id) (hty : typeOf (.builtin id) = pure (.type "method_descriptor")) (hm : MtR X id (upM X.K rm)) (ho : E3 X o to) (ha : PE X e (upX X.K H0 M0 te))
  (hbase : attributeBase o name X.env (eval o X.env) = eval o X.env := by rfl)
  (hfew : ((backTo cpos (starEach [e] X.env)).all (fun x => !x.1) && (backToKw cpos (keywordEach [] X.env)).all (fun x => x.1.isSome)
   && decide (([e] : List Expr).length + ([] : List Keyword).length + (if ([] : List Keyword).isEmpty then 0 else 1) < 30)) = true := by rfl)
  (hline : (apos.endLine == cpos.line) = true := by rfl) (hs : starEach [e] X.env = (false, eval e X.env) :: starEach [] X.env := by rfl) (hplain : (backTo cpos (starEach [] X.env)).any (·.1) = false := by rfl) :
  PE X (.Call (.Attribute o name apos) [e] [] cpos) (upX X.K H0 M0 (vBM1 T rm to te)) :=
 (zr7 pa slot hty hm ho (zlP ha zoN hs) hbase hfew hline hs hplain).weak fun σ H Q ⟨τ, M, R, as, am, k0, h, k⟩ => ⟨τ, M, _, as, am, h, fun x H1 wx M1 k1 am1 ax ⟨ty, h1⟩ => ⟨zjY am1 ax ty, τ, M1, _, as.kp am k1, am1, k0.trans k1, h1, fun y H2 wy M2 k2 am2 ay h2 =>
  ⟨wx, [wy], M2, R, am2, ax.kp am1 k2, .cons ay .nil, h2, (k.kp k1).kp k2⟩⟩⟩
def zkf (te : K3 → TE3) : TS3 := fun D τ M => te D.rt τ M fun _ M' => D.nx τ M'
theorem zrd {e : Expr} {te : K3 → TE3} {pos : Pos} (he : PE X e (upX X.K H0 M0 (te r0))) (hs : swapsWith e none pos.line X.env = pure false := by rfl) : X3 X H0 M0 r0 (.Expr e pos) (zkf te) := (zlE he hs).weak fun D σ H ⟨τ, M, D', as, am, k0, e0, h, k⟩ =>
 ⟨τ, M, fun _ M' => D'.nx τ M', as, am, k0, by subst e0; exact h, fun y H1 wy M1 k1 am1 ay h1 => k.nx _ _ _ _ k1 am1 (as.kp am k1) h1⟩
end
end L3
namespace L2
open PySem PySem.Spec PyProof.Rows
theorem zmF {X : Cx} {pins : List (Addr × Obj)} {σ : St} {H : Hp} {s : Shared} {a : Addr} {tl : List Int} {es : List (NKey × Addr × V)} (I : Inv X pins σ H s) (e : H a = some (.ext (zbW X.prog X.w tl a es))) (ks : ∀ z ∈ es, NAt H tl z.1 z.2.1) :
  ∃ xs, s.heap.DictOfH (zbi X.prog X.w tl) a xs ∧ NX es xs ∧ (a == sysModules) = false := by
 obtain ⟨o, ents, ep, xs, ho, hc, hd, he, nx, hn, hz, hsys⟩ := zmB I e
 refine ⟨xs, ⟨o, ents, ep, ho, hc, hd, he, ?_, hn⟩, nx, hsys⟩
 have : ∀ {es : List (NKey × Addr × V)} {xs : List (NKey × Addr × Value)}, NX es xs → (∀ z ∈ es, NAt H tl z.1 z.2.1) → ∀ z ∈ xs, (zbi X.prog X.w tl).is s.heap z.1 z.2.1 := by
  intro es xs q
  induction q with
  | nil => intro _ z hz; cases hz
  | @cons p z ps zs h t ih =>
   intro hk u hu
   rcases List.mem_cons.mp hu with rfl | hu
   ·have := (hk p List.mem_cons_self).is I.hok
    rw [h.1, h.2.1] at this
    exact this
   ·exact ih (fun y hy => hk y (List.mem_cons_of_mem _ hy)) u hu
 exact this nx ks
end L2
namespace L3
open PySem PySem.Spec PyProof.Rows L2
section
variable {X : Cx} {tl : List Int}
def rInN (P : Program) (w : World) (tl : List Int) : R3 := fun kw d M R => ∃ a kvs x, d = .ref a ∧ M a = some (.dn P w tl kvs) ∧ kw = keyW tl x ∧ R (.bl (!(zbg kvs x).isSome)) M
def rIxN (P : Program) (w : World) (tl : List Int) : R3 := fun d kw M R => ∃ a kvs x w0, d = .ref a ∧ M a = some (.dn P w tl kvs) ∧ kw = keyW tl x ∧ zbg kvs x = some w0 ∧ R w0 M
theorem zmG {K : PySem.W.Frag} {H : Hp} {M : Mm} {x : NKey} : ∀ {es : List (NKey × Addr × V)} {kvs : List (NKey × W)}, PN K H M tl es kvs → (∀ z ∈ es, z.1 ≠ x) → zbg kvs x = none := by
 intro es kvs q
 induction q with
 | nil => intro _; rfl
 | @cons p r ps rs h t ih =>
  intro hz
  unfold zbg at ih ⊢
  rw [List.find?_cons, decide_eq_false (by rw [← h.1]; exact hz p List.mem_cons_self)]
  exact ih fun y hy => hz y (List.mem_cons_of_mem _ hy)
theorem zom (hu : X.A.units + 2 < cLine) : OpR X (compareOp .NotIn) (upO X.K (rInN X.prog X.w tl)) := by
 rintro pins s σ H x y v u Q I rx ry ⟨wx, wy, M, R, am, ax, ay, ⟨a, kvs, k, rfl, e, rfl, r⟩, kk⟩
 cases ay
 cases (show u = Value.ref a from ry)
 obtain ⟨b, rfl, nb⟩ := zmD ax
 cases (show v = Value.ref b from rx)
 obtain ⟨es, e1, q⟩ := am _ _ e
 obtain ⟨xs, dd, nx, hsys⟩ := zmF I e1 (PN.ats q)
 have lk := PN.look q (zbW.nodup (zmB I e1)) k
 refine wpAny_notIn_heap (knd := zbi X.prog X.w tl) hu (nb.is I.hok) hsys dd ⟨.bl (!(zbg kvs k).isSome), H, I.tok _, ?_, kk.at am (.bl _) r⟩
 rcases nx.val k with ⟨i1, i2⟩ | ⟨c, v0, u0, i1, i2, _⟩
 ·rw [zmG q i2, i1]; rfl
 ·rcases lk with ⟨_, l2⟩ | ⟨w0, l1, _⟩
  ·exact absurd rfl (l2 _ i2)
  ·rw [l1, i1]; rfl
theorem zth (hu : X.A.units + 2 < cLine) : IxR X (upO X.K (rIxN X.prog X.w tl)) := by
 rintro value slice pins s σ H x y v u Q I rx ry ⟨wx, wy, M, R, am, ax, ay, ⟨a, kvs, k, w0, rfl, e, rfl, l, r⟩, kk⟩ hs
 cases ax
 cases (show v = Value.ref a from rx)
 obtain ⟨b, rfl, nb⟩ := zmD ay
 cases (show u = Value.ref b from ry)
 obtain ⟨es, e1, q⟩ := am _ _ e
 obtain ⟨xs, dd, nx, hsys⟩ := zmF I e1 (PN.ats q)
 have lk := PN.look q (zbW.nodup (zmB I e1)) k
 rcases nx.val k with ⟨i1, i2⟩ | ⟨c, v0, u0, i1, i2, i3⟩
 ·rw [zmG q i2] at l; cases l
 ·rcases lk with ⟨_, l2⟩ | ⟨w1, l1, l2⟩
  ·exact absurd rfl (l2 _ i2)
  ·rw [l1] at l; cases l
   exact tail_any dd.typeIs PySem.F.slot_dict_getitem.lookup (wpAny_getItem_heap (knd := zbi X.prog X.w tl) hu (nb.is I.hok) dd i1 ⟨v0, H, I.tok _, i3, kk.at am (l2 c v0 i2) r⟩) hs
theorem zus {a b : Expr} {ta tb : TE3} {pos : Pos} (hu : X.A.units + 2 < cLine) (ha : E3 X a ta) (hb : E3 X b tb) (hs : ziO b := by exact fun _ _ => rfl) : E3 X (.Subscript a b pos) (vOp (rIxN X.prog X.w tl) ta tb) := (zr2 (zth hu) ha hb hs).weak fun _ _ _ h => zhD h
end
end L3
namespace L2
open PySem PySem.Spec PyProof.Rows
section
variable {X : Cx}
def PEp (X : Cx) (e : Expr) (t : TE) : Prop :=
 ∀ (pins : List (Addr × Obj)) (s : Shared) (σ : St) (H : Hp) (Q : VK), 0 < s.toks → Inv X pins σ H s → t σ H Q → wpAny (model X.prog X.w) X.A (eval e X.env) (fun v s' => 0 < s'.toks ∧ EP X pins σ Q v s') X.xe s
def PEz (X : Cx) (e : Expr) (t : TE) : Prop :=
 ∀ (pins : List (Addr × Obj)) (s : Shared) (σ : St) (H : Hp) (Q : VK), 0 < s.toks → Inv X pins σ H s → t σ H Q → wpAny (model X.prog X.w) X.A (eval e X.env) (EP X pins σ Q) X.xe s
def PSz (X : Cx) (st : Stmt) (t : TS) : Prop :=
 ∀ (pins : List (Addr × Obj)) (s : Shared) (σ : St) (H : Hp) (D : Ends), 0 < s.toks → Inv X pins σ H s → t D σ H → wpAny (model X.prog X.w) X.A (exec st X.env) (SP X pins D) X.xe s
def PSsz (X : Cx) (st : List Stmt) (t : TS) : Prop :=
 ∀ (pins : List (Addr × Obj)) (s : Shared) (σ : St) (H : Hp) (D : Ends), 0 < s.toks → Inv X pins σ H s → t D σ H → wpAny (model X.prog X.w) X.A (execs st X.env) (SP X pins D) X.xe s
theorem PEp.weak {e : Expr} {t u : TE} (h : PEp X e t) (w : ∀ σ H Q, u σ H Q → t σ H Q) : PEp X e u := fun pins s σ H Q hp I q => h pins s σ H Q hp I (w σ H Q q)
theorem PEz.weak {e : Expr} {t u : TE} (h : PEz X e t) (w : ∀ σ H Q, u σ H Q → t σ H Q) : PEz X e u := fun pins s σ H Q hp I q => h pins s σ H Q hp I (w σ H Q q)
theorem PSz.weak {e : Stmt} {t u : TS} (h : PSz X e t) (w : ∀ D σ H, u D σ H → t D σ H) : PSz X e u := fun pins s σ H D hp I q => h pins s σ H D hp I (w D σ H q)
theorem PSsz.weak {e : List Stmt} {t u : TS} (h : PSsz X e t) (w : ∀ D σ H, u D σ H → t D σ H) : PSsz X e u := fun pins s σ H D hp I q => h pins s σ H D hp I (w D σ H q)
theorem zre {i : Nat} {x : Str} {pos : Pos} (hN : X.N[i]? = some x) (hk : X.env.scope.names.lookup x = some .local) (hd : (x == ("__debug__" : Str)) = false) : PEp X (.Name x pos) (tVar i) := by
 intro pins s σ H Q hp I h
 obtain ⟨v, e, h⟩ := h
 obtain ⟨m, hn, hl⟩ := I.loc
 obtain ⟨u, r, l⟩ := hl i x v hN e (.inl hk)
 have fin : 0 < s.toks ∧ EP X pins σ Q u s := ⟨hp, v, H, I, r, h⟩
 rcases l with ⟨hk', hm⟩ | ⟨hk', c, hc, hcell⟩
 ·exact wpAny_Name (wpAny_loadName_local I.ok.kind hk' hn hm fin) hd
 ·rcases hk' with hk' | hk' <;> (have hk2 : X.env.scope.names.lookup x = _ := hk'; rw [hk] at hk2; cases hk2)
theorem zon {prog : Program} {w : World} {A : Around} {E : Value → Shared → Prop} {s : Shared} {x y z : Str} {t : Tok} {u : Nat} {Q : Value → Shared → Prop} (hu : 0 < u) (hyz : (y == z) = false) (hp : 0 < s.toks) (hb : x.length + (x.length + 1) * z.length ≤ 16777216)
  (hq : ∀ t' k, 0 < k → Q (.str (Txt.replace x y z) t') { s with toks := k }) : wpAny (model prog w) A (call (.builtin "str.replace") [.str x t, .str y u, .str z (u + 1)]) Q E s := by
 have hl : Builtin.Str.tooLong (x.length + (Builtin.Str.occurrences x y 0 x.length (x.length + 1)).length * z.length) = false := by
  have o1 := StrLaws.occ_length_le x y 0 x.length (x.length + 1)
  have o2 := Nat.mul_le_mul_right z.length o1
  unfold Builtin.Str.tooLong
  rw [sizeLine_eq]
  exact decide_eq_false (by omega)
 have hg := gives_str_replace x y z t u (u + 1) fun _ => ⟨by simp [Nat.ne_of_gt hu], by simp, hyz, hl⟩
 refine call_gives PySem.F.slot_str_replace (typeIs_str _ _ _) PySem.F.entry_str_replace (PySem.F.args_str_replace_3 _ _ _) hg ?_
 have hq2 := hq
 unfold Txt.replace at hq2
 cases hc : ((Builtin.Str.occurrences x y 0 x.length (x.length + 1)).isEmpty || (y.length == 0 && z.length == 0))
 ·rw [hc, if_neg Bool.false_ne_true] at hq2
  rw [if_neg Bool.false_ne_true]
  exact ⟨fits_replaced y hb, hq2 _ _ (Nat.succ_pos _)⟩
 ·rw [hc, if_pos rfl] at hq2
  rw [if_pos rfl]
  exact hq2 t s.toks hp
def tRep (y z : Str) (to : TE) : TE := fun σ H Q => to σ H fun x H1 => ∃ t, x = .str t ∧ t.length + (t.length + 1) * z.length ≤ 16777216 ∧ Q (.str (Txt.replace t y z)) H1
theorem zrf {o : Expr} {to : TE} {y z : Str} {j1 j2} {p1 p2 apos cpos : Pos} (ho : PEp X o to) (hyz : (y == z) = false)
  (hbase : attributeBase o "replace" X.env (eval o X.env) = eval o X.env)
  (hfew : ((backTo cpos (starEach [.Constant (.str y) j1 p1, .Constant (.str z) j2 p2] X.env)).all (fun x => !x.1) && (backToKw cpos (keywordEach [] X.env)).all (fun x => x.1.isSome)
   && decide (([.Constant (.str y) j1 p1, .Constant (.str z) j2 p2] : List Expr).length + ([] : List Keyword).length + (if ([] : List Keyword).isEmpty then 0 else 1) < 30)) = true)
  (hline : (apos.endLine == cpos.line) = true) (hs : starEach [.Constant (.str y) j1 p1, .Constant (.str z) j2 p2] X.env = (false, eval (.Constant (.str y) j1 p1) X.env) :: starEach [.Constant (.str z) j2 p2] X.env) (hs2 : starEach [.Constant (.str z) j2 p2] X.env = (false, eval (.Constant (.str z) j2 p2) X.env) :: starEach [] X.env) (hplain : (backTo cpos (starEach [.Constant (.str z) j2 p2] X.env)).any (·.1) = false) :
  PEp X (.Call (.Attribute o "replace" apos) [.Constant (.str y) j1 p1, .Constant (.str z) j2 p2] [] cpos) (tRep y z to) := by
 intro pins s σ H Q hp I h
 refine wpAny_Call_method_late hbase hfew hline rfl (thn (ho pins s σ H _ hp I h) fun v s1 ⟨hp1, x, H1, I1, r1, t, ex, hb, q⟩ => ?_)
 subst ex
 obtain ⟨tk, rfl⟩ := r1
 refine ⟨"str", "str.replace", PySem.F.plainAttrs_str, PySem.F.slot_str_replace, PySem.F.type_str_replace, typeIs_str _ _ _, (fun a e => by cases e), ?_⟩
 rw [hs] at *
 refine Calls.callWith_builtin (by show (false || (backTo cpos (starEach [.Constant (.str z) j2 p2] X.env)).any (·.1)) = false; rw [hplain] <;> rfl) (Calls.evalArgs_plain ?_)
 show wpAny _ _ (spliced ((false, eval (.Constant (.str y) j1 p1) X.env) :: backTo cpos (starEach [.Constant (.str z) j2 p2] X.env))) _ _ s1
 refine Calls.spliced_cons (wpAny_Constant_str ?_)
 rw [hs2]
 show wpAny _ _ (spliced ((false, eval (.Constant (.str z) j2 p2) X.env) :: backTo cpos (starEach [] X.env))) _ _ _
 refine Calls.spliced_cons (wpAny_Constant_str ?_)
 refine Calls.spliced_nil ?_
 exact zon hp1 hyz (Nat.succ_pos _) hb fun t' k hk => ⟨hk, .str _, H1, I1.tok _, ⟨t', rfl⟩, q⟩
theorem zti {o e : Expr} {es : List Expr} {to : TE} {t : TA} {name : Str} {apos cpos : Pos} {T id : String} {r : V → List V → Hp → VK → Prop} (pa : PlainAttrs T) (slot : Slot T name id) (hty : typeOf (.builtin id) = pure (.type "method_descriptor")) (hm : MtR X id r) (ho : PEp X o to) (ha : PA X (e :: es) t)
  (hbase : attributeBase o name X.env (eval o X.env) = eval o X.env)
  (hfew : ((backTo cpos (starEach (e :: es) X.env)).all (fun x => !x.1) && (backToKw cpos (keywordEach [] X.env)).all (fun x => x.1.isSome)
   && decide ((e :: es).length + ([] : List Keyword).length + (if ([] : List Keyword).isEmpty then 0 else 1) < 30)) = true)
  (hline : (apos.endLine == cpos.line) = true) (hs : starEach (e :: es) X.env = (false, eval e X.env) :: starEach es X.env) (hplain : (backTo cpos (starEach es X.env)).any (·.1) = false) :
  PEz X (.Call (.Attribute o name apos) (e :: es) [] cpos) (tBM X.K T r to t) := by
 intro pins s σ H Q hp I h
 refine wpAny_Call_method_late hbase hfew hline rfl (thn (ho pins s σ H _ hp I h) fun v s1 ⟨_, x, H1, I1, r1, ty, q1⟩ => ?_)
 obtain ⟨h1, h2⟩ := zlU I1 r1 ty
 refine ⟨T, id, pa, slot, hty, h1, h2, ?_⟩
 have hA := ha cpos pins s1 σ H1 _ I1 q1
 rw [hs] at hA ⊢
 refine Calls.callWith_builtin (by show (false || (backTo cpos (starEach es X.env)).any (·.1)) = false; rw [hplain] <;> rfl) (Calls.evalArgs_plain ?_)
 exact thn hA fun us s2 ⟨vs, H2, I2, r2, q2⟩ => hm pins s2 σ H2 x vs v us Q I2 r1 r2 q2
theorem zrg {i : Nat} {x : Str} {e : Expr} {te : TE} {pos' pos : Pos} (hN : X.N.Nodup) (hi : X.N[i]? = some x) (hx : Loc X.env.scope x) (he : PEz X e te) (hs : swapsWith e (some (.Name x pos')) pos.line X.env = pure false) (hf : X.fn x = true ∨ X.env.scope.names.lookup x = some .local) :
  PSz X (.Assign [.Name x pos'] e pos) (tAsg te (znv i)) := by
 intro pins s σ H D hp I h
 refine wpAny_Assign_Name (thn (he pins s σ H _ hp I h) fun v s1 ⟨y, H1, I1, r1, q1⟩ => ?_) hs
 exact zdV I1 hN hi hx r1 (fun s2 I2 => ⟨_, H1, I2, q1⟩) hf
theorem zmH {st : Stmt} {rest : List Stmt} {t u : TS} (h1 : PSz X st t) (h2 : PSs X rest u) : PSsz X (st :: rest) (tSeq t u) := by
 intro pins s σ H D hp I h
 refine wpAny_execs_cons (thn (h1 pins s σ H { D with nx := u D } hp I h) fun f s1 q => ?_)
 cases f with
 | next =>
  obtain ⟨σ', H', I', q⟩ := q
  exact h2 pins s1 σ' H' D I' q
 | ret v => exact q
 | brk => exact q
 | cont => exact q
end
theorem zh0 {kindOf : Str → Option NameKind} : ∀ (bs : List (Str × Value)) (m : Str → Option Value), (∀ b ∈ bs, kindOf b.1 = some .local) → bindL kindOf bs m = fun y => (bs.reverse.lookup y).or (m y)
 | [], m, _ => by funext y; rfl
 | (n, v) :: r, m, h => by
  rw [bindL, if_pos (h (n, v) (by simp)), zh0 r _ fun b hb => h b (List.mem_cons_of_mem _ hb)]
  funext y
  rw [List.reverse_cons, List.lookup_append, Option.or_assoc]
  congr 1
  rw [List.lookup_cons]
  by_cases e : y = n
  ·subst e; simp
  ·have : (y == n) = false := by simpa using e
   rw [this, if_neg e]; rfl
theorem ztj {CX : CXT} {P : Program} {w : World} {K : PySem.W.Frag} {mg : Str → Option Value} {base : Heap} {k : Nat} {f : Addr} {name qual : Str} {params : Arguments} {body : List Stmt} {scope : Scope} {dV kV doc pm cdv ct oc : Value} {an od : Option Addr}
  {osl : Array (Option Value)} {N ps : List Str} {sp : Sp} (lk : K.lookup f = some ⟨oc, od, .func (PySem.W.fnOf name qual params body scope dV kV doc pm an cdv ct), osl⟩) (hcd : PySem.W.codeIn K cdv qual = true) (S : zaR N ps scope)
  (ncl : ∀ n, cellsFrom n scope.names [] = []) (ncl2 : ∀ x ∈ scope.names, x.2 ≠ .cell) (hl0 : ∀ x ∈ ps, scope.names.lookup x = some .local) (hps : ps ≠ [])
  (len : ∀ vs H Q E, sp vs H Q E → vs.length = ps.length)
  (hbody : ∀ (A : Around) (outer : List Env) (s : Shared) (H : Hp) (vs : List V) (Q : VK) (E : XK), Room k (A.deeper (envOfC qual scope s.heap.objs.size f cdv)) → sp vs H Q E →
   ∃ t, PSsz (cxOf CX P w K mg base N qual scope f cdv A outer s H E) body t ∧ t { nx := fun _ H' => Q .non H', rt := Q } (start N vs) H) :
  FnOk P w K mg base CX (k + 1) f (PySem.W.fnOf name qual params body scope dV kV doc pm an cdv ct) ps sp := by
 refine ⟨len, fun A outer s H args us vs Q E hr e0 hb r hsp => ?_⟩
 have hl := len _ _ _ _ hsp
 have KX : K.In s.heap := e0.mod.kin.keeps fun b o e => (e0.bs b o e).1
 have lim : s.heap.NoLimit := e0.mod.nolimit.keeps fun b o e => (e0.bs b o e).1
 have hloc : ∀ y ∈ ps.zip us, scope.names.lookup y.1 = some .local := fun ⟨n, v⟩ hy => hl0 n (List.of_mem_zip hy).1
 have hzl : 0 < (ps.zip us).length := by
  rw [List.length_zip, ← r.length, hl]
  cases ps with
  | nil => exact absurd rfl hps
  | cons a b => simp
 refine codeAny_call_function hr.depth (KX _ _ lk) rfl S.co S.gen rfl (PySem.W.codeRec_of KX hcd) (hb _ _ _ _ ?_)
 refine wpAny_newFunctionEnv (closure := []) ncl2 hloc (fun h1 hns hsb => ?_) S.kind
 have keep : ∀ b o, s.heap.get? b = some o → h1.get? b = some o := fun b o e => (hsb.2 b (Nat.ne_of_lt (Heap.lt_size e))).trans (Heap.get?_push_of_some _ e)
 have x : InCallC s s.heap.objs.size (bindL (envOfC qual scope s.heap.objs.size f cdv).kindOf (ps.zip us) fun _ => none) (cellsFrom (s.heap.objs.size + 1) scope.names []) (bindC (envOfC qual scope s.heap.objs.size f cdv).kindOf (ps.zip us) fun _ => none) { s with heap := h1, toks := s.toks + (ps.zip us).length } := by
  refine ⟨⟨⟨_, _, rfl⟩, ?_, keep, Nat.le_refl _⟩, fun n c hc => ?_, ?_, fun n c hc => ?_⟩
  ·rw [zh0 _ _ hloc]
   simpa using hns
  ·rw [ncl] at hc; cases hc
  ·rw [ncl]; exact List.Pairwise.nil
  ·rw [ncl] at hc; cases hc
 refine ⟨lim.keeps keep, codeAny_func ?_⟩
 obtain ⟨t, ht, hq⟩ := hbody A outer s H vs Q E (hr.deeper _) hsp
 have I : Inv (cxOf CX P w K mg base N qual scope f cdv A outer s H E) [] (start N vs) H { s with heap := h1, toks := s.toks + (ps.zip us).length } := zhp S hr.hd e0 hl r x
 rw [← ncl (s.heap.objs.size + 1)]
 refine wpAny_mono (ht [] _ (start N vs) H _ (show 0 < s.toks + (ps.zip us).length by omega) I hq) (fun fl s' hs => ?_) fun e s' hs => hs
 have fin : ∀ {σ' : St} {H' : Hp} {v : V} {u : Value}, Inv (cxOf CX P w K mg base N qual scope f cdv A outer s H E) [] σ' H' s' → RelV v u → Q v H' → CE outer P w H s Q u s' :=
  fun {σ' H' v u} J rv q => ⟨v, H', J.os, J.bare, J.base, J.hok, rv, q⟩
 cases fl with
 | ret u =>
  obtain ⟨v, σ', H', J, rv, q⟩ := hs
  exact fin J rv q
 | next =>
  obtain ⟨σ', H', J, q⟩ := hs
  exact fin (v := V.non) (u := Value.none) J rfl q
 | brk =>
  obtain ⟨_, _, _, q⟩ := hs
  exact False.elim q
 | cont =>
  obtain ⟨_, _, _, q⟩ := hs
  exact False.elim q
end L2
namespace Rg
open PySem PySem.Spec PyProof.Rows L2 L3
theorem zbx {lo : Int} {n i : Nat} {w : W} (h : (zc6 lo n)[i]? = some w) : i < n ∧ w = .int (lo + i) := by
 unfold zc6 at h
 rw [List.getElem?_map] at h
 obtain ⟨j, hj, rfl⟩ := Option.map_eq_some_iff.mp h
 obtain ⟨h1, h2⟩ := List.getElem?_eq_some_iff.mp hj
 simp at h1 h2
 subst h2
 exact ⟨h1, rfl⟩
theorem zbX {lo : Int} {n : Nat} : (zc6 lo n).length = n := by unfold zc6; simp
theorem zff {ts : List Str} {k : Int} (h0 : 0 ≤ k) (h1 : k < ts.length) : ∃ t, atI (ts.map W.str) k = some (.str t) ∧ t ∈ ts := by
 obtain ⟨x, e, e2, _⟩ := zd6 (xs := ts.map W.str) h0 (by rw [List.length_map]; exact h1)
 rw [List.getElem?_map] at e2
 obtain ⟨t, ht, rfl⟩ := Option.map_eq_some_iff.mp e2
 exact ⟨t, e, List.mem_of_getElem? ht⟩
end Rg
namespace Rg
open PySem PySem.Spec PyProof.Rows L2 L3
end Rg
namespace Rg
open PySem PySem.Spec PyProof.Rows L2 L3
inductive Tr where
 | wd (t : Str)
 | nd (n : Int) (cs : List Tr)
mutual
def Tr.w : Tr → W
 | .wd t => .str t
 | .nd n cs => .tup [.int n, .tup (Tr.ws cs)]
def Tr.ws : List Tr → List W
 | [] => []
 | c :: cs => c.w :: Tr.ws cs
end
theorem zdu : ∀ cs : List Tr, Tr.ws cs = cs.map Tr.w
 | [] => by simp [Tr.ws]
 | c :: cs => by simp [Tr.ws, zdu cs]
end Rg
namespace Rg
open PySem PySem.Spec PyProof.Rows L2 L3
def Tr.isNd : Tr → Bool
 | .wd _ => false
 | .nd _ _ => true
end Rg
namespace Rg
open PySem PySem.Spec PyProof.Rows L2 L3
def H3 : List Str := ["S", "T_1", "UP_2034"]
def ABC : List Str := ["a", "b", "c"]
structure Gr (rs : List Rule) : Prop where
 nm : ∀ r ∈ rs, r.name ∈ H3
 pt : ∀ r ∈ rs, ∀ t ∈ r.parts, t ∈ ABC ∨ t ∈ H3
 few : ∀ r ∈ rs, r.parts.length ≤ 3
def nmOf (rs : List Rule) (n : Int) : Str := match rs[n.toNat]? with
 | some r => r.name
 | none => toS []
def Tr.lab (rs : List Rule) : Tr → Str
 | .wd t => t
 | .nd n _ => nmOf rs n
def frst (nm : Str) (ps : List Str) : List Rule → Nat → Option Nat
 | [], _ => none
 | r :: rs, k => if r.name = nm ∧ r.parts = ps then some k else frst nm ps rs (k + 1)
theorem zh1 {nm : Str} {ps : List Str} : ∀ {rs : List Rule} {k j : Nat}, frst nm ps rs k = some j → k ≤ j ∧ ∃ r, rs[j - k]? = some r ∧ r.name = nm ∧ r.parts = ps
 | [], k, j, h => by simp [frst] at h
 | r :: rs, k, j, h => by
  rw [frst] at h
  split at h
  ·rename_i e
   simp at h
   subst h
   exact ⟨Nat.le_refl _, r, by simp, e⟩
  ·obtain ⟨h1, r', h2, h3⟩ := zh1 h
   refine ⟨by omega, r', ?_, h3⟩
   rw [show j - k = (j - (k + 1)) + 1 by omega]
   simpa using h2
theorem zjn {nm : Str} {ps : List Str} {r : Rule} : ∀ {rs : List Rule} (k : Nat), r ∈ rs → r.name = nm → r.parts = ps → ∃ j, frst nm ps rs k = some j
 | r' :: rs, k, h, h1, h2 => by
  rw [frst]
  split
  ·exact ⟨_, rfl⟩
  ·rename_i e
   rcases List.mem_cons.mp h with q | q
   ·subst q; exact absurd ⟨h1, h2⟩ e
   ·exact zjn (k + 1) q h1 h2
theorem zex {rs : List Rule} {nm : Str} {ps : List Str} {j : Nat} (h : frst nm ps rs 0 = some j) : ∃ r, rs[j]? = some r ∧ r ∈ rs ∧ r.name = nm ∧ r.parts = ps := by
 obtain ⟨_, r, e, h1⟩ := zh1 h
 exact ⟨r, by simpa using e, List.mem_of_getElem? e, h1⟩
theorem zcw {rs : List Rule} {r : Rule} {j : Nat} (h : rs[j]? = some r) : nmOf rs (j : Int) = r.name := by
 unfold nmOf; rw [Int.toNat_natCast, h]
mutual
def Tr.sh (rs : List Rule) : Tr → List Nat
 | .wd t => cs t
 | .nd n c => cs (nmOf rs n) ++ 40 :: ((Tr.shr rs c).drop 1 ++ [41])
def Tr.shr (rs : List Rule) : List Tr → List Nat
 | [] => []
 | c :: r => 32 :: (c.sh rs ++ Tr.shr rs r)
end
inductive Okt (rs : List Rule) : Tr → Prop
 | wd {t : Str} : t ∈ ABC → Okt rs (.wd t)
 | nd {n : Nat} {r : Rule} {c : List Tr} : rs[n]? = some r → frst r.name (c.map (Tr.lab rs)) rs 0 = some n → (∀ x ∈ c, Okt rs x) → Okt rs (.nd n c)
theorem zo6 : ∀ t ∈ ABC, cs t = [97] ∨ cs t = [98] ∨ cs t = [99] := by decide +kernel
theorem ztk : ∀ t ∈ ABC, zdI t = false := by decide +kernel
theorem zut : ∀ t ∈ H3, zdI t = true := by decide +kernel
theorem ztl : ∀ t ∈ H3, cs t = [83] ∨ cs t = [84, 95, 49] ∨ cs t = [85, 80, 95, 50, 48, 51, 52] := by decide +kernel
def small (c : Nat) : Bool := decide (97 ≤ c ∧ c ≤ 122)
def OP : Str := "("
def CL : Str := ")"
theorem zuu : cs OP = [40] := by decide +kernel
theorem zuv : cs CL = [41] := by decide +kernel
theorem zoo : CL ≠ OP := by decide +kernel
def Tr.isNm : Tr → Bool
 | .wd t => zdI t
 | .nd _ _ => false
def zcZ (rs : List Rule) (ch : List Tr) (t : Str) : Option Tr := match frst t (ch.map (Tr.lab rs)) rs 0 with
 | none => none
 | some k => some (.nd k ch)
def knot (rs : List Rule) (nm : Tr) (ch : List Tr) : Option Tr :=
 if ch.any Tr.isNm then none else match nm with
  | .nd _ _ => none
  | .wd t => zcZ rs ch t
def zco (rs : List Rule) (st : List (List Tr)) (p : Str) : Option (List (List Tr)) :=
 if p = OP then some ([] :: st)
 else if p = CL then match st with
  | ch :: row :: st' => match row.getLast? with
   | none => none
   | some nm => match knot rs nm ch with
    | none => none
    | some t => some ((row.dropLast ++ [t]) :: st')
  | _ => none
 else match st with
  | row :: st' => some ((row ++ [.wd p]) :: st')
  | [] => none
def prun (rs : List Rule) : List Str → List (List Tr) → Option (List (List Tr))
 | [], st => some st
 | p :: ps, st => match zco rs st p with
  | none => none
  | some st' => prun rs ps st'
def pend : List (List Tr) → Option Tr
 | [[.nd n c]] => some (.nd n c)
 | _ => none
def zey (rs : List Rule) (ps : List Str) : Option Tr := match prun rs ps [[]] with
 | none => none
 | some st => pend st
mutual
def Tr.tk (rs : List Rule) : Tr → List Str
 | .wd t => [t]
 | .nd n c => nmOf rs n :: OP :: (Tr.tks rs c ++ [CL])
def Tr.tks (rs : List Rule) : List Tr → List Str
 | [] => []
 | c :: r => c.tk rs ++ Tr.tks rs r
end
section
variable {rs : List Rule} (g : Gr rs)
include g
theorem ztm {t : Str} (h : t ∈ ABC) : t ≠ OP ∧ t ≠ CL := by
 revert t; decide +kernel
theorem zuw {t : Str} (h : t ∈ H3) : t ≠ OP ∧ t ≠ CL := by
 revert t; decide +kernel
theorem Okt.isNm {c : Tr} (h : Okt rs c) : c.isNm = false := by
 cases h with
 | wd h => exact ztk _ h
 | nd _ _ _ => rfl
theorem zrh {ch : List Tr} (h : ∀ c ∈ ch, Okt rs c) : ch.any Tr.isNm = false := by
 rw [List.any_eq_false]
 intro c hc
 rw [(h c hc).isNm g]; simp
mutual
theorem zmI : ∀ (c : Tr) (row : List Tr) (st : List (List Tr)) (rest : List Str), Okt rs c → prun rs (c.tk rs ++ rest) (row :: st) = prun rs rest ((row ++ [c]) :: st)
 | .wd t, row, st, rest, h => by
  cases h with
  | wd h =>
   obtain ⟨h1, h2⟩ := ztm g h
   simp [Tr.tk, prun, zco, h1, h2]
 | .nd n c, row, st, rest, h => by
  cases h with
  | @nd n r _ hr hf hc =>
   have hn := zcw hr
   obtain ⟨h1, h2⟩ := zuw g (g.nm r (List.mem_of_getElem? hr))
   rw [Tr.tk, hn]
   simp only [List.cons_append, prun, zco, if_neg h1, if_neg h2, if_true]
   rw [List.append_assoc, zkg c [] _ _ hc, List.nil_append]
   simp only [List.cons_append, List.nil_append, prun, zco, if_neg zoo, if_true, List.getLast?_append, List.getLast?_singleton, List.dropLast_concat, knot, zrh g hc, zcZ]
   simp [hf]
theorem zkg : ∀ (c : List Tr) (row : List Tr) (st : List (List Tr)) (rest : List Str), (∀ x ∈ c, Okt rs x) → prun rs (Tr.tks rs c ++ rest) (row :: st) = prun rs rest ((row ++ c) :: st)
 | [], row, st, rest, _ => by simp [Tr.tks]
 | c :: cs', row, st, rest, h => by
  rw [Tr.tks, List.append_assoc, zmI c row st _ (h c (by simp)), zkg cs' _ st _ (fun x hx => h x (List.mem_cons_of_mem _ hx))]
  simp
end
theorem zop {n : Int} {c : List Tr} (h : Okt rs (.nd n c)) : zey rs ((Tr.nd n c).tk rs) = some (.nd n c) := by
 have := zmI g (.nd n c) [] [] [] h
 rw [List.append_nil, List.nil_append] at this
 unfold zey
 rw [this]; rfl
def Pw (rs : List Rule) : Tr → Prop
 | .wd _ => True
 | .nd n c => Okt rs (.nd n c)
theorem zri {ch : List Tr} {r : Rule} (hr : r ∈ rs) (hp : r.parts = ch.map (Tr.lab rs)) (hc : ∀ c ∈ ch, Pw rs c) (hn : ∀ c ∈ ch, ∀ t, c = .wd t → t ∉ H3) : ∀ c ∈ ch, Okt rs c := by
 intro c hx
 cases c with
 | nd n c => exact hc _ hx
 | wd t =>
  have : t ∈ r.parts := by rw [hp]; exact List.mem_map.mpr ⟨_, hx, rfl⟩
  rcases g.pt r hr t this with q | q
  ·exact .wd q
  ·exact absurd q (hn _ hx t rfl)
theorem zkh {ch : List Tr} {t : Str} {x : Tr} (h : zcZ rs ch t = some x) (hc : ∀ c ∈ ch, Pw rs c) (hn : ∀ c ∈ ch, ∀ t, c = .wd t → t ∉ H3) : ∃ k : Nat, x = .nd k ch ∧ nmOf rs k = t ∧ Okt rs x := by
 unfold zcZ at h
 split at h
 ·cases h
 ·rename_i k e
  cases h
  obtain ⟨r, h1, h2, h3, h4⟩ := zex e
  refine ⟨k, rfl, by rw [zcw h1, h3], .nd h1 (by rw [h3]; exact e) (zri g h2 h4 hc hn)⟩
theorem zoq {st st' : List (List Tr)} {p : Str} (h : zco rs st p = some st') (hs : ∀ row ∈ st, ∀ c ∈ row, Pw rs c) : ∀ row ∈ st', ∀ c ∈ row, Pw rs c := by
 unfold zco at h
 split at h
 ·cases h
  intro row hr
  rcases List.mem_cons.mp hr with q | q
  ·rw [q]; intro c hc; cases hc
  ·exact hs row q
 ·split at h
  ·split at h
   ·rename_i ch row st2
    split at h
    ·cases h
    ·rename_i nm e
     split at h
     ·cases h
     ·rename_i t e2
      cases h
      have hch : ∀ c ∈ ch, Pw rs c := hs ch (by simp)
      have ht : Pw rs t := by
       unfold knot at e2
       split at e2
       ·cases e2
       ·rename_i hany
        split at e2
        ·cases e2
        ·obtain ⟨k, rfl, _, ho⟩ := zkh g e2 hch (fun c hc t' e' ht' => by
          refine hany (List.any_eq_true.mpr ⟨c, hc, ?_⟩)
          rw [e']; exact zut _ ht')
         exact ho
      intro row' hr
      rcases List.mem_cons.mp hr with q | q
      ·rw [q]
       intro c hc
       rcases List.mem_append.mp hc with q | q
       ·exact hs row (by simp) c ((List.dropLast_sublist row).subset q)
       ·rw [List.mem_singleton.mp q]; exact ht
      ·exact hs row' (by simp [q])
   ·cases h
  ·split at h
   ·rename_i row st2
    cases h
    intro row' hr
    rcases List.mem_cons.mp hr with q | q
    ·rw [q]
     intro c hc
     rcases List.mem_append.mp hc with q | q
     ·exact hs row (by simp) c q
     ·rw [List.mem_singleton.mp q]; trivial
    ·exact hs row' (by simp [q])
   ·cases h
theorem zmJ : ∀ {ps : List Str} {st st' : List (List Tr)}, prun rs ps st = some st' → (∀ row ∈ st, ∀ c ∈ row, Pw rs c) → ∀ row ∈ st', ∀ c ∈ row, Pw rs c
 | [], st, st', h, hs => by cases h; exact hs
 | p :: ps, st, st', h, hs => by
  rw [prun] at h
  split at h
  ·cases h
  ·rename_i st2 e
   exact zmJ h (zoq g e hs)
theorem zki {ps : List Str} {t : Tr} (h : zey rs ps = some t) : Okt rs t ∧ ∃ n c, t = .nd n c := by
 unfold zey at h
 split at h
 ·cases h
 ·rename_i st e
  have := zmJ g e (by simp)
  unfold pend at h
  split at h
  ·cases h
   exact ⟨this _ List.mem_cons_self (.nd _ _) List.mem_cons_self, _, _, rfl⟩
  ·cases h
end
end Rg
namespace Rg
open PySem PySem.Spec PyProof.Rows L2 L3
def zfx (rs : List Rule) : List Tr → Option Tr
 | .wd t :: ch => zcZ rs ch t
 | _ => none
def lrow (w : List Nat) (row : List Tr) : List Tr := if w = [] then row else row ++ [.wd (toS w)]
def zb2 (rs : List Rule) (w : List Nat) (pv c : Nat) (row row2 : List Tr) (st : List (List Tr)) : Option (List (List Tr) × List Nat) :=
 if w ≠ [] ∧ small (w.headD 0) = false then none
 else if w = [] ∧ pv ≠ 41 ∧ (c = 32 ∨ pv ≠ 40) then none
 else if c = 32 then some (lrow w row :: row2 :: st, [])
 else match zfx rs (lrow w row) with
  | none => none
  | some t => some ((row2 ++ [t]) :: st, [])
def zbY (rs : List Rule) (st : List (List Tr)) (w : List Nat) (pv c : Nat) : Option (List (List Tr) × List Nat) :=
 if c = 40 then (if toS w ∈ H3 then some ([.wd (toS w)] :: st, []) else none)
 else if c = 41 ∨ c = 32 then match st with
  | row :: row2 :: st' => zb2 rs w pv c row row2 st'
  | _ => none
 else if pv = 41 then none
 else some (st, w ++ [c])
def lrun (rs : List Rule) : List Nat → Nat → List (List Tr) → List Nat → Option (List (List Tr) × List Nat)
 | [], _, st, w => some (st, w)
 | c :: r, pv, st, w => match zbY rs st w pv c with
  | none => none
  | some (st', w') => lrun rs r c st' w'
def lend : List (List Tr) → List Nat → Option Tr
 | [[t]], [] => some t
 | _, _ => none
def ze9 (rs : List Rule) (l : List Nat) : Option Tr := match lrun rs l 0 [[]] [] with
 | none => none
 | some (st, w) => lend st w
section
variable {rs : List Rule} (g : Gr rs)
include g
theorem zmK {t : Str} (ht : t ∈ H3) (pv : Nat) (hp : pv ≠ 41) (st : List (List Tr)) (rest : List Nat) : lrun rs (cs t ++ 40 :: rest) pv st [] = lrun rs rest 40 ([.wd t] :: st) [] := by
 have e : toS (cs t) = t := zfu t
 rcases ztl t ht with h | h | h <;> rw [h] at e ⊢ <;> simp [lrun, zbY, hp, e, ht]
theorem zmL {t : Str} (ht : t ∈ ABC) (pv : Nat) (hp : pv ≠ 41) (st : List (List Tr)) (rest : List Nat) : ∃ x, cs t = [x] ∧ small x = true ∧ x ≠ 41 ∧ lrun rs (cs t ++ rest) pv st [] = lrun rs rest x st [x] := by
 rcases zo6 t ht with h | h | h <;> rw [h] <;> exact ⟨_, rfl, by decide, by decide, by simp [lrun, zbY, hp]⟩
def ztn (rs : List Rule) (c : List Tr) : Prop := ∀ (row row2 : List Tr) (st : List (List Tr)) (w : List Nat) (pv : Nat) (rest : List Nat) (t : Tr), (w = [] ∧ pv = 41 ∨ ∃ x, w = [x] ∧ small x = true) → zfx rs (lrow w row ++ c) = some t →
  lrun rs (Tr.shr rs c ++ 41 :: rest) pv (row :: row2 :: st) w = lrun rs rest 41 ((row2 ++ [t]) :: st) []
def zux (rs : List Rule) (c : List Tr) : Prop := ∀ (q : Str) (row2 : List Tr) (st : List (List Tr)) (rest : List Nat) (t : Tr), zfx rs (.wd q :: c) = some t →
  lrun rs ((Tr.shr rs c).drop 1 ++ 41 :: rest) 40 ([.wd q] :: row2 :: st) [] = lrun rs rest 41 ((row2 ++ [t]) :: st) []
def NdF (rs : List Rule) (c : Tr) : Prop := ∀ (row : List Tr) (st : List (List Tr)) (pv : Nat) (rest : List Nat), pv ≠ 41 → (∃ n k, c = .nd n k) →
  lrun rs (c.sh rs ++ rest) pv (row :: st) [] = lrun rs rest 41 ((row ++ [c]) :: st) []
theorem zo7 {c : Tr} {r : List Tr} (hc : Okt rs c) (hN : NdF rs c) (hA : ztn rs r) (row row2 : List Tr) (st : List (List Tr)) (pv : Nat) (rest : List Nat) (t : Tr) (hp : pv ≠ 41) (hk : zfx rs (row ++ [c] ++ r) = some t) :
  lrun rs (c.sh rs ++ (Tr.shr rs r ++ 41 :: rest)) pv (row :: row2 :: st) [] = lrun rs rest 41 ((row2 ++ [t]) :: st) [] := by
 cases c with
 | wd x =>
  cases hc with
  | wd h =>
   obtain ⟨y, e, hy, hy1, h1⟩ := zmL g h pv hp (row :: row2 :: st) (Tr.shr rs r ++ 41 :: rest)
   rw [Tr.sh, h1]
   refine hA row row2 st [y] y rest t (.inr ⟨y, rfl, hy⟩) ?_
   have : lrow [y] row = row ++ [.wd x] := by rw [lrow, if_neg (by simp), ← e, zfu]
   rw [this]; exact hk
 | nd n c =>
  rw [hN row (row2 :: st) pv _ hp ⟨n, c, rfl⟩]
  exact hA (row ++ [.nd n c]) row2 st [] 41 rest t (.inl ⟨rfl, rfl⟩) (by rw [lrow, if_pos rfl]; exact hk)
mutual
theorem zmM : ∀ (c : Tr), Okt rs c → NdF rs c
 | .wd x, hc => fun _ _ _ _ _ hn => by obtain ⟨_, _, e⟩ := hn; cases e
 | .nd n c, hc => fun row st pv rest hp hn => by
  cases hc with
  | @nd n q _ hq hf ho =>
   have hnm := zcw hq
   have hh := g.nm q (List.mem_of_getElem? hq)
   rw [Tr.sh, hnm, List.append_assoc, List.cons_append, zmK g hh pv hp, List.append_assoc]
   exact (zh2 c ho).2 q.name row st rest _ (by rw [zfx, zcZ, hf])
theorem zh2 : ∀ (c : List Tr), (∀ x ∈ c, Okt rs x) → ztn rs c ∧ zux rs c
 | [], _ => by
  refine ⟨fun row row2 st w pv rest t hw hk => ?_, fun q row2 st rest t hk => ?_⟩
  ·rw [List.append_nil] at hk
   rcases hw with ⟨rfl, rfl⟩ | ⟨x, rfl, hx⟩
   ·simp [Tr.shr, lrun, zbY, zb2, hk]
   ·simp [Tr.shr, lrun, zbY, zb2, hk, hx]
  ·simp [Tr.shr, lrun, zbY, zb2, lrow, hk]
 | c :: r, ho => by
  have hc := ho c (by simp)
  have N := zmM c hc
  have A := (zh2 r (fun x hx => ho x (List.mem_cons_of_mem _ hx))).1
  refine ⟨fun row row2 st w pv rest t hw hk => ?_, fun q row2 st rest t hk => ?_⟩
  ·have h1 : lrun rs (Tr.shr rs (c :: r) ++ 41 :: rest) pv (row :: row2 :: st) w = lrun rs (c.sh rs ++ (Tr.shr rs r ++ 41 :: rest)) 32 (lrow w row :: row2 :: st) [] := by
    rcases hw with ⟨rfl, rfl⟩ | ⟨x, rfl, hx⟩
    ·simp [Tr.shr, lrun, zbY, zb2]
    ·simp [Tr.shr, lrun, zbY, zb2, hx]
   rw [h1]
   exact zo7 g hc N A (lrow w row) row2 st 32 rest t (by decide) (by rw [List.append_assoc]; exact hk)
  ·rw [show (Tr.shr rs (c :: r)).drop 1 = c.sh rs ++ Tr.shr rs r by rw [Tr.shr]; rfl, List.append_assoc]
   exact zo7 g hc N A [.wd q] row2 st 40 rest _ (by decide) hk
end
theorem zkj {n : Int} {c : List Tr} (h : Okt rs (.nd n c)) : ze9 rs ((Tr.nd n c).sh rs) = some (.nd n c) := by
 have := zmM g (.nd n c) h [] [] 0 [] (by decide) ⟨_, _, rfl⟩
 rw [List.append_nil] at this
 rw [ze9, this]; rfl
end
def rdy (rs : List Rule) : List Tr → List Nat
 | [] => []
 | c :: r => c.sh rs ++ 32 :: rdy rs r
theorem zmN (rs : List Rule) : ∀ a b : List Tr, rdy rs (a ++ b) = rdy rs a ++ rdy rs b
 | [], b => rfl
 | c :: a, b => by simp [rdy, zmN rs a b]
theorem zgT (rs : List Rule) (c : Tr) : ∀ a : List Tr, (Tr.shr rs (a ++ [c])).drop 1 = rdy rs a ++ c.sh rs
 | [] => by simp [Tr.shr, rdy]
 | d :: a => by
  have := zgT rs c a
  have h2 : Tr.shr rs (a ++ [c]) = 32 :: (rdy rs a ++ c.sh rs) := by
   rw [← this]
   cases a with
   | nil => simp [Tr.shr]
   | cons e a => simp [Tr.shr]
  rw [List.cons_append, Tr.shr, h2]
  simp [rdy]
inductive Rdy (rs : List Rule) : List (List Tr) → List Nat → Prop
 | bot : Rdy rs [[]] []
 | row {st : List (List Tr)} {l : List Nat} {t : Str} {ch : List Tr} : Rdy rs st l → (∀ c ∈ ch, Pw rs c) → (∀ c ∈ ch, ∀ x, c = .wd x → x ∉ H3) → Rdy rs ((.wd t :: ch) :: st) (l ++ (cs t ++ 40 :: rdy rs ch))
inductive Inv (rs : List Rule) : List Nat → Nat → List (List Tr) → List Nat → Prop
 | ready {st : List (List Tr)} {l w : List Nat} {pv : Nat} : Rdy rs st l → pv ≠ 41 → (w = [] → (st.length ≤ 1 ∨ (pv = 40 ∧ ∃ t st', st = [.wd t] :: st') ∨ pv = 32)) → Inv rs (l ++ w) pv st w
 | shut {st : List (List Tr)} {l : List Nat} {t : Str} {ch : List Tr} {c : Tr} : Rdy rs st l → (∀ x ∈ ch ++ [c], Pw rs x) → (∀ x ∈ ch ++ [c], ∀ y, x = .wd y → y ∉ H3) → Inv rs (l ++ (cs t ++ 40 :: (rdy rs ch ++ c.sh rs))) 41 ((.wd t :: (ch ++ [c])) :: st) []
 | done {t : Tr} : Okt rs t → (∃ n c, t = .nd n c) → Inv rs (t.sh rs) 41 [[t]] []
theorem zor : ∀ t ∈ H3, small ((cs t).headD 0) = false := by decide +kernel
section
variable {rs : List Rule} (g : Gr rs)
include g
theorem zrj {st : List (List Tr)} {l : List Nat} {row2 : List Tr} {t : Tr} (h : Rdy rs (row2 :: st) l) (ht : Okt rs t) (hn : ∃ n c, t = .nd n c) : Inv rs (l ++ t.sh rs) 41 ((row2 ++ [t]) :: st) [] := by
 cases h with
 | bot => exact .done ht hn
 | @row st l q ch h h1 h2 =>
  have := Inv.shut (rs := rs) (t := q) (c := t) (ch := ch) h (fun x hx => by
   rcases List.mem_append.mp hx with z | z
   ·exact h1 x z
   ·rw [List.mem_singleton.mp z]; obtain ⟨n, c, rfl⟩ := hn; exact ht) (fun x hx y e => by
   rcases List.mem_append.mp hx with z | z
   ·exact h2 x z y e
   ·rw [List.mem_singleton.mp z] at e; obtain ⟨n, c, rfl⟩ := hn; cases e)
  rw [show l ++ (cs q ++ 40 :: rdy rs ch) ++ t.sh rs = l ++ (cs q ++ 40 :: (rdy rs ch ++ t.sh rs)) by simp]
  exact this
theorem zos {st : List (List Tr)} {l : List Nat} {row2 : List Tr} {q : Str} {ch : List Tr} {t : Tr} (h : Rdy rs (row2 :: st) l) (h1 : ∀ c ∈ ch, Pw rs c) (h2 : ∀ c ∈ ch, ∀ x, c = .wd x → x ∉ H3) (hk : zfx rs (.wd q :: ch) = some t) :
  Inv rs (l ++ (cs q ++ 40 :: ((Tr.shr rs ch).drop 1 ++ [41]))) 41 ((row2 ++ [t]) :: st) [] := by
 rw [zfx] at hk
 obtain ⟨k, rfl, hn, ho⟩ := zkh g hk h1 h2
 have := zrj g h ho ⟨_, _, rfl⟩
 rw [Tr.sh, hn] at this
 exact this
theorem zmO {pre : List Nat} {pv c : Nat} {st st' : List (List Tr)} {w w' : List Nat} (h : Inv rs pre pv st w) (e : zbY rs st w pv c = some (st', w')) : Inv rs (pre ++ [c]) c st' w' := by
 unfold zbY at e
 by_cases c40 : c = 40
 ·subst c40
  rw [if_pos rfl] at e
  split at e
  ·rename_i hm
   simp only [Option.some.injEq, Prod.mk.injEq] at e
   obtain ⟨rfl, rfl⟩ := e
   cases h with
   | @ready _ l _ _ h1 h2 h3 =>
    have h4 := Rdy.row (rs := rs) (t := toS w) (ch := []) h1 (by simp) (by simp)
    have := Inv.ready (w := []) (pv := 40) h4 (by decide) (fun _ => .inr (.inl ⟨rfl, _, _, rfl⟩))
    rw [zbL, rdy] at this
    simpa using this
   | shut _ _ _ => exact absurd hm (by decide +kernel)
   | done _ _ => exact absurd hm (by decide +kernel)
  ·cases e
 ·rw [if_neg c40] at e
  by_cases c2 : c = 41 ∨ c = 32
  ·rw [if_pos c2] at e
   match st, e, h with
   | [], e, h => cases e
   | [_], e, h => cases e
   | row :: row2 :: st2, e, h =>
    simp only [zb2] at e
    split at e
    ·cases e
    ·rename_i n1
     split at e
     ·cases e
     ·rename_i n2
      -- the text with the last word laid to its row
      have key : ∃ (q : Str) (ch : List Tr) (l : List Nat), lrow w row = .wd q :: ch ∧ Rdy rs (row2 :: st2) l ∧ (∀ c ∈ ch, Pw rs c) ∧ (∀ c ∈ ch, ∀ x, c = .wd x → x ∉ H3) ∧ pre = l ++ (cs q ++ 40 :: (Tr.shr rs ch).drop 1) ∧ (c = 32 → ch ≠ []) := by
       cases h with
       | @ready _ l _ _ h1 h2 h3 =>
        cases h1 with
        | @row _ l0 q ch h4 h5 h6 =>
         by_cases hw : w = []
         ·subst hw
          rcases h3 rfl with z | ⟨z, t, st', z'⟩ | z
          ·simp at z
          ·simp only [List.cons.injEq] at z'
           obtain ⟨⟨_, rfl⟩, _⟩ := z'
           refine ⟨q, [], l0, by simp [lrow], h4, h5, h6, by simp [rdy, Tr.shr], fun ec => absurd ⟨rfl, h2, .inl ec⟩ n2⟩
          ·refine absurd ⟨rfl, h2, .inr ?_⟩ n2
           omega
         ·have hs : small (w.headD 0) = true := by
           cases hq : small (w.headD 0) with
           | true => rfl
           | false => exact absurd ⟨hw, hq⟩ n1
          refine ⟨q, ch ++ [.wd (toS w)], l0, by simp [lrow, hw], h4, fun x hx => ?_, fun x hx y ey => ?_, ?_, fun _ => by simp⟩
          ·rcases List.mem_append.mp hx with z | z
           ·exact h5 x z
           ·rw [List.mem_singleton.mp z]; trivial
          ·rcases List.mem_append.mp hx with z | z
           ·exact h6 x z y ey
           ·rw [List.mem_singleton.mp z] at ey
            cases ey
            intro hm
            have := zor _ hm
            rw [zbL, hs] at this
            cases this
          ·rw [zgT, Tr.sh, zbL]; simp
       | @shut _ l q ch c1 h1 h2 h3 =>
        refine ⟨q, ch ++ [c1], l, by simp [lrow], h1, h2, h3, by rw [zgT], fun _ => by simp⟩
      obtain ⟨q, ch, l, er, h4, h5, h6, ep, hne⟩ := key
      rw [er] at e
      split at e
      ·rename_i c32
       simp only [Option.some.injEq, Prod.mk.injEq] at e
       obtain ⟨rfl, rfl⟩ := e
       have := Inv.ready (w := []) (pv := 32) (Rdy.row (t := q) h4 h5 h6) (by decide) (fun _ => .inr (.inr rfl))
       rw [c32, ep]
       rw [List.append_nil] at this
       have hl : (Tr.shr rs ch).drop 1 ++ [32] = rdy rs ch := by
        rcases List.eq_nil_or_concat ch with z | ⟨a, b, z⟩
        ·exact absurd z (hne c32)
        ·rw [z, List.concat_eq_append, zgT, zmN]; simp [rdy]
       rw [← hl] at this
       simpa using this
      ·rename_i c32
       have c41 : c = 41 := by omega
       split at e
       ·cases e
       ·rename_i t hk
        simp only [Option.some.injEq, Prod.mk.injEq] at e
        obtain ⟨rfl, rfl⟩ := e
        have := zos g h4 h5 h6 hk
        rw [ep, c41]
        simpa using this
  ·rw [if_neg c2] at e
   split at e
   ·cases e
   ·rename_i hpv
    simp only [Option.some.injEq, Prod.mk.injEq] at e
    obtain ⟨rfl, rfl⟩ := e
    cases h with
    | @ready _ l _ _ h1 h2 h3 =>
     rw [List.append_assoc]
     exact Inv.ready h1 (fun z => c2 (.inl z)) (fun z => by simp at z)
    | shut _ _ _ => exact absurd rfl hpv
    | done _ _ => exact absurd rfl hpv
theorem zkk : ∀ {l pre : List Nat} {pv : Nat} {st st' : List (List Tr)} {w w' : List Nat}, Inv rs pre pv st w → lrun rs l pv st w = some (st', w') → ∃ pv', Inv rs (pre ++ l) pv' st' w'
 | [], pre, pv, st, st', w, w', h, e => by
  simp only [lrun, Option.some.injEq, Prod.mk.injEq] at e
  obtain ⟨rfl, rfl⟩ := e
  exact ⟨pv, by rw [List.append_nil]; exact h⟩
 | c :: l, pre, pv, st, st', w, w', h, e => by
  rw [lrun] at e
  split at e
  ·cases e
  ·rename_i st2 w2 e2
   have := zkk (zmO g h e2) e
   simpa using this
theorem zkl {l : List Nat} {t : Tr} (h : ze9 rs l = some t) : Okt rs t ∧ (∃ n c, t = .nd n c) ∧ l = t.sh rs := by
 unfold ze9 at h
 split at h
 ·cases h
 ·rename_i st w e
  obtain ⟨pv, hi⟩ := zkk g (pre := []) (Inv.ready (w := []) (pv := 0) .bot (by decide) (fun _ => .inl (by simp))) e
  unfold lend at h
  split at h
  ·cases h
   rw [List.nil_append] at hi
   generalize hst : ([[t]] : List (List Tr)) = S at hi
   generalize hz : ([] : List Nat) = z at hi
   cases hi with
   | ready h1 _ _ => cases h1 with
    | bot => simp at hst
    | row a _ _ => simp only [List.cons.injEq] at hst; obtain ⟨_, rfl⟩ := hst; cases a
   | shut h1 _ _ => simp only [List.cons.injEq] at hst; obtain ⟨_, rfl⟩ := hst; cases h1
   | done h1 h2 =>
    simp only [List.cons.injEq, and_true] at hst
    subst hst
    exact ⟨h1, h2, rfl⟩
  ·cases h
end
end Rg
namespace Rg
open PySem PySem.Spec PyProof.Rows L2 L3
def pad1 (a : Nat) (l : List Nat) : List Nat := l.flatMap fun c => if c = a then [32, a, 32] else [c]
def zbf (l : List Nat) : List Nat := pad1 41 (pad1 40 l)
def toks (l : List Nat) : List (List Nat) := (sp 32 (zbf l)).filter fun p => !p.isEmpty
theorem zgU (l m : List Nat) : zbf (l ++ m) = zbf l ++ zbf m := by simp [zbf, pad1]
theorem zmP : zbf [] = [] := rfl
theorem zmQ (m : List Nat) : zbf (32 :: m) = 32 :: zbf m := by simp [zbf, pad1]
theorem zo8 (m : List Nat) : zbf (40 :: m) = 32 :: 40 :: 32 :: zbf m := by simp [zbf, pad1]
theorem zo9 (m : List Nat) : zbf (41 :: m) = 32 :: 41 :: 32 :: zbf m := by simp [zbf, pad1]
theorem zfy : ∀ {l : List Nat}, (∀ c ∈ l, c ≠ 40 ∧ c ≠ 41) → zbf l = l
 | [], _ => rfl
 | a :: l, h => by
  obtain ⟨h1, h2⟩ := h a (by simp)
  have := zfy (l := l) fun c hc => h c (List.mem_cons_of_mem _ hc)
  rw [show a :: l = [a] ++ l from rfl, zgU, this]
  simp [zbf, pad1, h1, h2]
def ne32 (l : List Nat) : List (List Nat) := (sp 32 l).filter fun p => !p.isEmpty
theorem zkm (b : List Nat) : ∀ a : List Nat, ne32 (a ++ 32 :: b) = ne32 a ++ ne32 b
 | [] => by simp [ne32, sp]
 | x :: a => by
  have ih := zkm b a
  unfold ne32 at ih ⊢
  rw [List.cons_append, sp, sp]
  split
  ·simp at ih ⊢; exact ih
  ·obtain ⟨p, ps, e⟩ := ze8 32 (a ++ 32 :: b)
   obtain ⟨q, qs, e2⟩ := ze8 32 a
   have e3 : p = q ∧ (ps.filter fun p => !p.isEmpty) = (qs.filter fun p => !p.isEmpty) ++ ((sp 32 b).filter fun p => !p.isEmpty) := by
    have key : ∀ (a : List Nat) p ps q qs, sp 32 (a ++ 32 :: b) = p :: ps → sp 32 a = q :: qs → p = q ∧ ps = qs ++ sp 32 b := by
     intro a
     induction a with
     | nil => intro p ps q qs h1 h2; simp [sp] at h1 h2; obtain ⟨rfl, rfl⟩ := h1; obtain ⟨rfl, rfl⟩ := h2; simp
     | cons y a ih =>
      intro p ps q qs h1 h2
      rw [List.cons_append, sp] at h1
      rw [sp] at h2
      obtain ⟨p', ps', e'⟩ := ze8 32 (a ++ 32 :: b)
      obtain ⟨q', qs', e2'⟩ := ze8 32 a
      obtain ⟨r1, r2⟩ := ih _ _ _ _ e' e2'
      rw [e'] at h1
      rw [e2'] at h2
      split at h1
      ·rename_i hy
       rw [if_pos hy] at h2
       cases h1; cases h2
       exact ⟨rfl, by rw [r1, r2]; rfl⟩
      ·rename_i hy
       rw [if_neg hy] at h2
       cases h1; cases h2
       exact ⟨by rw [r1], r2⟩
    obtain ⟨r1, r2⟩ := key a _ _ _ _ e e2
    exact ⟨r1, by rw [r2, List.filter_append]⟩
   rw [e, e2]
   simp only [List.filter_cons]
   rw [e3.1, e3.2]
   simp
theorem zkn {l : List Nat} (h : 32 ∉ l) (hn : l ≠ []) : ne32 l = [l] := by
 unfold ne32
 rw [zkc h]
 cases l with
 | nil => exact absurd rfl hn
 | cons a l => rfl
theorem zjo (l : List Nat) : toks l = ne32 (zbf l) := rfl
theorem zdp (a b : List Nat) : toks (a ++ 32 :: b) = toks a ++ toks b := by rw [zjo, zgU, zmQ, zkm]; rfl
theorem zh3 (a b : List Nat) (c : Nat) (h : c = 40 ∨ c = 41) : toks (a ++ c :: b) = toks a ++ [c] :: toks b := by
 have h1 : zbf (c :: b) = 32 :: ([c] ++ 32 :: zbf b) := by
  rcases h with rfl | rfl
  ·rw [zo8]; rfl
  ·rw [zo9]; rfl
 rw [zjo, zgU, h1, zkm, zkm, zkn (l := [c]) (by rcases h with rfl | rfl <;> decide) (by simp)]
 rfl
theorem zh4 {l : List Nat} (h : ∀ c ∈ l, c ≠ 32 ∧ c ≠ 40 ∧ c ≠ 41) (hn : l ≠ []) : toks l = [l] := by
 rw [zjo, zfy (fun c hc => (h c hc).2), zkn (fun z => (h 32 z).1 rfl) hn]
theorem zfg : toks [] = [] := rfl
theorem zgV : ∀ t ∈ ABC, (∀ c ∈ cs t, c ≠ 32 ∧ c ≠ 40 ∧ c ≠ 41) ∧ cs t ≠ [] := by decide +kernel
theorem zko : ∀ t ∈ H3, (∀ c ∈ cs t, c ≠ 32 ∧ c ≠ 40 ∧ c ≠ 41) ∧ cs t ≠ [] := by decide +kernel
section
variable {rs : List Rule} (g : Gr rs)
include g
mutual
theorem zmR : ∀ c : Tr, Okt rs c → toks (c.sh rs) = (c.tk rs).map cs
 | .wd t, h => by
  cases h with
  | wd h => rw [Tr.sh, Tr.tk, zh4 (zgV t h).1 (zgV t h).2]; rfl
 | .nd n c, h => by
  cases h with
  | @nd n r _ hr hf hc =>
   have hn := zcw hr
   have hh := zko _ (g.nm r (List.mem_of_getElem? hr))
   have ht : toks ((Tr.shr rs c).drop 1) = toks (Tr.shr rs c) := by
    cases c with
    | nil => rfl
    | cons c1 c2 => rw [Tr.shr, ← List.nil_append (32 :: (c1.sh rs ++ Tr.shr rs c2)), zdp]; rfl
   rw [Tr.sh, Tr.tk, hn, zh3 _ _ 40 (.inl rfl), zh3 _ _ 41 (.inr rfl), zh4 hh.1 hh.2, ht, zkp c hc, zfg]
   simp [zuu, zuv]
theorem zkp : ∀ c : List Tr, (∀ x ∈ c, Okt rs x) → toks (Tr.shr rs c) = (Tr.tks rs c).map cs
 | [], _ => rfl
 | c :: r, h => by
  have h1 := zmR c (h c (by simp))
  have h2 := zkp r fun x hx => h x (List.mem_cons_of_mem _ hx)
  rw [Tr.shr, Tr.tks, ← List.nil_append (32 :: (c.sh rs ++ Tr.shr rs r)), zdp, zfg, List.nil_append, List.map_append, ← h1, ← h2]
  cases r with
  | nil => simp [Tr.shr, zfg]
  | cons a b =>
   rw [Tr.shr, zdp, ← List.nil_append (32 :: (a.sh rs ++ Tr.shr rs b)), zdp, zfg, List.nil_append]
end
end
def zfz (l : List Nat) : List Str := (toks l).map toS
def reads (rs : List Rule) (l : List Nat) : Option Tr := match zey rs (zfz l) with
 | none => none
 | some t => if t.sh rs = l then some t else none
theorem zfA {rs : List Rule} (g : Gr rs) (l : List Nat) : reads rs l = ze9 rs l := by
 have toS_map : ∀ ts : List Str, (ts.map cs).map toS = ts := fun ts => by
  rw [List.map_map]
  exact List.map_id'' (fun t => zfu t) ts
 have back : ∀ {n c}, Okt rs (.nd n c) → reads rs ((Tr.nd n c).sh rs) = some (.nd n c) := fun {n c} h => by
  unfold reads zfz
  rw [zmR g _ h, toS_map, zop g h]
  simp
 cases h : ze9 rs l with
 | some t =>
  obtain ⟨h1, ⟨n, c, rfl⟩, rfl⟩ := zkl g h
  exact back h1
 | none =>
  cases h2 : reads rs l with
  | none => rfl
  | some t =>
   unfold reads at h2
   split at h2
   ·cases h2
   ·rename_i t' e
    split at h2
    ·rename_i es
     cases h2
     obtain ⟨h3, n, c, rfl⟩ := zki g e
     have := zkj g h3
     rw [es, h] at this
     cases this
    ·cases h2
theorem zot {rs : List Rule} (g : Gr rs) {n : Int} {c : List Tr} (h : Okt rs (.nd n c)) : reads rs ((Tr.nd n c).sh rs) = some (.nd n c) := by rw [zfA g, zkj g h]
mutual
def Tr.fs (rs : List Rule) : Tr → Tr
 | .wd t => .wd t
 | .nd n c => match rs[n.toNat]? with
  | some r => match frst r.name r.parts rs 0 with
   | some k => .nd k (Tr.fss rs c)
   | none => .nd n c
  | none => .nd n c
def Tr.fss (rs : List Rule) : List Tr → List Tr
 | [] => []
 | c :: r => c.fs rs :: Tr.fss rs r
end
inductive Byr (rs : List Rule) : Tr → Prop
 | wd {t : Str} : t ∈ ABC → Byr rs (.wd t)
 | nd {n : Nat} {r : Rule} {c : List Tr} : rs[n]? = some r → c.map (Tr.lab rs) = r.parts → (∀ x ∈ c, Byr rs x) → Byr rs (.nd n c)
theorem zto {rs : List Rule} : ∀ {c : Tr}, Byr rs c → (c.fs rs).lab rs = c.lab rs
 | .wd t, _ => rfl
 | .nd n c, h => by
  cases h with
  | @nd n r _ hr hp hc =>
   obtain ⟨k, e⟩ := zjn (ps := r.parts) 0 (List.mem_of_getElem? hr) rfl rfl
   obtain ⟨r', h1, h2, h3, h4⟩ := zex e
   rw [Tr.fs, Int.toNat_natCast, hr]
   simp only [e]
   rw [Tr.lab, Tr.lab, zcw h1, zcw hr, h3]
theorem zjp (rs : List Rule) : ∀ c : List Tr, Tr.fss rs c = c.map (Tr.fs rs)
 | [] => rfl
 | c :: r => by rw [Tr.fss, zjp rs r]; rfl
theorem zrk {rs : List Rule} {n : Nat} {r : Rule} {c : List Tr} (hr : rs[n]? = some r) : ∃ k : Nat, frst r.name r.parts rs 0 = some k ∧ (Tr.nd n c).fs rs = .nd k (Tr.fss rs c) := by
 obtain ⟨k, e⟩ := zjn (ps := r.parts) 0 (List.mem_of_getElem? hr) rfl rfl
 refine ⟨k, e, ?_⟩
 rw [Tr.fs, Int.toNat_natCast, hr]
 simp only [e]
mutual
theorem ztp {rs : List Rule} : ∀ c : Tr, Byr rs c → Okt rs (c.fs rs) ∧ (c.fs rs).sh rs = c.sh rs
 | .wd t, h => by cases h with | wd h => exact ⟨.wd h, rfl⟩
 | .nd n c, h => by
  cases h with
  | @nd n r _ hr hp hc =>
   obtain ⟨k, e, e2⟩ := zrk (c := c) hr
   obtain ⟨r', h1, h2, h3, h4⟩ := zex e
   obtain ⟨h5, h6⟩ := zpa c hc
   have hl : (Tr.fss rs c).map (Tr.lab rs) = r.parts := by
    rw [zjp, List.map_map, ← hp]
    exact List.map_congr_left fun x hx => zto (hc x hx)
   rw [e2]
   refine ⟨.nd h1 (by rw [h3, hl]; exact e) h5, ?_⟩
   rw [Tr.sh, Tr.sh, zcw h1, zcw hr, h3, h6]
theorem zpa {rs : List Rule} : ∀ c : List Tr, (∀ x ∈ c, Byr rs x) → (∀ x ∈ Tr.fss rs c, Okt rs x) ∧ Tr.shr rs (Tr.fss rs c) = Tr.shr rs c
 | [], _ => ⟨by simp [Tr.fss], rfl⟩
 | c :: r, h => by
  obtain ⟨h1, h2⟩ := ztp c (h c (by simp))
  obtain ⟨h3, h4⟩ := zpa r fun x hx => h x (List.mem_cons_of_mem _ hx)
  rw [Tr.fss]
  refine ⟨fun x hx => ?_, by rw [Tr.shr, Tr.shr, h2, h4]⟩
  rcases List.mem_cons.mp hx with q | q
  ·rw [q]; exact h1
  ·exact h3 x q
end
mutual
def Tr.dp : Tr → Nat
 | .wd _ => 0
 | .nd _ c => 1 + Tr.dps c
def Tr.dps : List Tr → Nat
 | [] => 0
 | c :: r => max c.dp (Tr.dps r)
end
theorem zd9 : ∀ {c : List Tr} {x : Tr}, x ∈ c → x.dp ≤ Tr.dps c
 | d :: c, x, h => by
  rw [Tr.dps]
  rcases List.mem_cons.mp h with rfl | h
  ·omega
  ·have := zd9 h; omega
def lmt : Nat → Nat
 | 0 => 1
 | d + 1 => 3 * lmt d + 12
theorem zkq {a b : Nat} (h : a ≤ b) : lmt a ≤ lmt b := by
 induction h with
 | refl => exact Nat.le_refl _
 | step _ ih => rw [lmt]; omega
theorem zjq {rs : List Rule} {L : Nat} : ∀ c : List Tr, (∀ x ∈ c, (x.sh rs).length ≤ L) → (Tr.shr rs c).length ≤ c.length * (L + 1)
 | [], _ => by simp [Tr.shr]
 | c :: r, h => by
  have h1 := h c (by simp)
  have h2 := zjq r fun x hx => h x (List.mem_cons_of_mem _ hx)
  rw [Tr.shr, List.length_cons, List.length_append, List.length_cons, Nat.add_mul]
  omega
theorem zmS : ∀ t ∈ H3, (cs t).length ≤ 7 := by decide +kernel
theorem zjr : ∀ t ∈ ABC, (cs t).length = 1 := by decide +kernel
theorem zmT {rs : List Rule} (g : Gr rs) : ∀ (d : Nat) (c : Tr), Byr rs c → c.dp ≤ d → (c.sh rs).length ≤ lmt d
 | d, .wd t, h, _ => by
  cases h with
  | wd h =>
   rw [Tr.sh, zjr t h]
   exact Nat.le_trans (show 1 ≤ lmt 0 from Nat.le_refl _) (zkq (Nat.zero_le _))
 | 0, .nd n c, h, hd => by rw [Tr.dp] at hd; omega
 | d + 1, .nd n c, h, hd => by
  cases h with
  | @nd n r _ hr hp hc =>
   rw [Tr.dp] at hd
   have h1 := zjq (L := lmt d) c fun x hx => zmT g d x (hc x hx) (by have := zd9 hx; omega)
   have h2 : c.length ≤ 3 := by
    have := g.few r (List.mem_of_getElem? hr)
    rw [← hp, List.length_map] at this
    exact this
   have h3 := zmS _ (g.nm r (List.mem_of_getElem? hr))
   rw [Tr.sh, zcw hr, lmt]
   simp only [List.length_append, List.length_cons, List.length_drop, List.length_nil]
   have h4 : c.length * (lmt d + 1) ≤ 3 * (lmt d + 1) := Nat.mul_le_mul_right _ h2
   omega
end Rg
namespace L3
open PySem PySem.Spec PyProof.Rows L2
abbrev E3p (X : Cx) (e : Expr) (t : TE3) : Prop := PEp X e (up X.K t)
abbrev E3z (X : Cx) (e : Expr) (t : TE3) : Prop := PEz X e (up X.K t)
abbrev X3z (X : Cx) (H0 : Hp) (M0 : Mm) (r0 : K3) (st : Stmt) (t : TS3) : Prop := PSz X st (upE X.K H0 M0 r0 t)
abbrev Xs3z (X : Cx) (H0 : Hp) (M0 : Mm) (r0 : K3) (st : List Stmt) (t : TS3) : Prop := PSsz X st (upE X.K H0 M0 r0 t)
def vRep (y z : Str) (to : TE3) : TE3 := fun τ M R => to τ M fun x M1 => ∃ t, x = .str t ∧ t.length + (t.length + 1) * z.length ≤ 16777216 ∧ R (.str (Txt.replace t y z)) M1
section
variable {X : Cx} {H0 : Hp} {M0 : Mm} {r0 : K3}
theorem zuy (i : Nat) {x : Str} {pos : Pos} (hN : X.N[i]? = some x := by rfl) (hk : X.env.scope.names.lookup x = some .local := by rfl) (hd : (x == ("__debug__" : Str)) = false := by decide) : E3p X (.Name x pos) (vVar i) := (zre hN hk hd).weak fun σ H Q ⟨τ, M, R, as, am, ⟨w, e, r⟩, k⟩ => by
 obtain ⟨v, e1, av⟩ := as.get e
 exact ⟨v, e1, k.at am av r⟩
theorem ztq {o : Expr} {to : TE3} {y z : Str} {j1 j2} {p1 p2 apos cpos : Pos} (ho : E3p X o to) (hyz : (y == z) = false := by decide)
  (hbase : attributeBase o "replace" X.env (eval o X.env) = eval o X.env := by rfl)
  (hfew : ((backTo cpos (starEach [.Constant (.str y) j1 p1, .Constant (.str z) j2 p2] X.env)).all (fun x => !x.1) && (backToKw cpos (keywordEach [] X.env)).all (fun x => x.1.isSome)
   && decide (([.Constant (.str y) j1 p1, .Constant (.str z) j2 p2] : List Expr).length + ([] : List Keyword).length + (if ([] : List Keyword).isEmpty then 0 else 1) < 30)) = true := by rfl)
  (hline : (apos.endLine == cpos.line) = true := by rfl) (hs : starEach [.Constant (.str y) j1 p1, .Constant (.str z) j2 p2] X.env = (false, eval (.Constant (.str y) j1 p1) X.env) :: starEach [.Constant (.str z) j2 p2] X.env := by rfl) (hs2 : starEach [.Constant (.str z) j2 p2] X.env = (false, eval (.Constant (.str z) j2 p2) X.env) :: starEach [] X.env := by rfl) (hplain : (backTo cpos (starEach [.Constant (.str z) j2 p2] X.env)).any (·.1) = false := by rfl) :
  E3p X (.Call (.Attribute o "replace" apos) [.Constant (.str y) j1 p1, .Constant (.str z) j2 p2] [] cpos) (vRep y z to) :=
 (zrf ho hyz hbase hfew hline hs hs2 hplain).weak fun σ H Q ⟨τ, M, R, as, am, h, k⟩ => ⟨τ, M, _, as, am, h, fun x H1 wx M1 k1 am1 ax ⟨t, e, hb, r⟩ => by
  subst e
  cases ax
  exact ⟨t, rfl, hb, (k.kp k1).at am1 (.str _) r⟩⟩
theorem z_bm {T : String} {name : Str} {id : String} {rm : W → List W → Mm → K3 → Prop} {o e : Expr} {es : List Expr} {to : TE3} {t : TA3} {apos cpos : Pos} (pa : PlainAttrs T) (slot : Slot T name id) (hty : typeOf (.builtin id) = pure (.type "method_descriptor")) (hm : MtR X id (upM X.K rm)) (ho : E3p X o to) (ha : A3 X (e :: es) t)
  (hbase : attributeBase o name X.env (eval o X.env) = eval o X.env := by rfl)
  (hfew : ((backTo cpos (starEach (e :: es) X.env)).all (fun x => !x.1) && (backToKw cpos (keywordEach [] X.env)).all (fun x => x.1.isSome)
   && decide ((e :: es).length + ([] : List Keyword).length + (if ([] : List Keyword).isEmpty then 0 else 1) < 30)) = true := by rfl)
  (hline : (apos.endLine == cpos.line) = true := by rfl) (hs : starEach (e :: es) X.env = (false, eval e X.env) :: starEach es X.env := by rfl) (hplain : (backTo cpos (starEach es X.env)).any (·.1) = false := by rfl) :
  E3z X (.Call (.Attribute o name apos) (e :: es) [] cpos) (vBM T rm to t) :=
 (zti pa slot hty hm ho ha hbase hfew hline hs hplain).weak fun σ H Q ⟨τ, M, R, as, am, h, k⟩ => ⟨τ, M, _, as, am, h, fun x H1 wx M1 k1 am1 ax ⟨ty, h1⟩ => ⟨zjY am1 ax ty, τ, M1, _, as.kp am k1, am1, h1, fun xs H2 ws M2 k2 am2 axs h2 =>
  ⟨wx, ws, M2, R, am2, ax.kp am1 k2, axs, h2, (k.kp k1).kp k2⟩⟩⟩
theorem zuz {a : Expr} {ta : TE3} (ha : E3z X a ta) : E3z X a (vFrz ta) := ha.weak fun σ H Q ⟨τ, M, R, as, am, h, k⟩ => ⟨τ, M, _, as, am, h, k.frz⟩
theorem ztr {i : Nat} {x : Str} {e : Expr} {te : TE3} {pos' pos : Pos} (hN : X.N.Nodup) (hi : X.N[i]? = some x) (hx : Loc X.env.scope x) (he : E3z X e te) (hs : swapsWith e (some (.Name x pos')) pos.line X.env = pure false := by rfl)
  (hf : X.fn x = true ∨ X.env.scope.names.lookup x = some .local := by first | exact .inl rfl | exact .inr rfl | assumption) : X3z X H0 M0 r0 (.Assign [.Name x pos'] e pos) (vSet i te) := (zrg hN hi hx he hs hf).weak fun D σ H ⟨τ, M, D', as, am, k0, e0, h, k⟩ =>
 ⟨τ, M, _, as, am, h, fun y H1 wy M1 k1 am1 ay h1 => k.nx _ _ _ _ k1 am1 ((as.kp am k1).set ay i) h1⟩
theorem zrl {st : Stmt} {rest : List Stmt} {t u : TS3} (h1 : X3z X H0 M0 r0 st t) (h2 : Xs3 X H0 M0 r0 rest u) : Xs3z X H0 M0 r0 (st :: rest) (vSeq t u) := (zmH h1 h2).weak fun D σ H ⟨τ, M, D', as, am, k0, e0, h, k⟩ =>
 ⟨τ, M, { D' with nx := u D' }, as, am, k0, e0, h, ⟨fun σ' H' τ' M' k' am' as' h' => ⟨τ', M', D', as', am', k0.trans k', e0, h', k.kp k'⟩, k.rt, k.bk, k.ct⟩⟩
end
section
variable {P : Program} {w : World} {K : PySem.W.Frag} {mg : Str → Option Value} {base : Heap}
theorem okXz {x qual : Str} {st : Stmt} {f : Addr} {fd : FuncData} {N ps : List Str} {k : Nat} {sp : Sp3} {cl : String → Option Addr} (F : Fun K x qual st f fd) (S : zaR N ps (zaa st)) (len : ∀ ws M R, sp ws M R → ws.length = ps.length)
  (ncl : ∀ n, cellsFrom n (zaa st).names [] = []) (ncl2 : ∀ x ∈ (zaa st).names, x.2 ≠ .cell) (hl0 : ∀ x ∈ ps, (zaa st).names.lookup x = some .local) (hps : ps ≠ [])
  (hbody : ∀ (cdv : Value) (A : Around) (outer : List Env) (s : Shared) (H : Hp) (E : XK) (ws : List W) (M : Mm) (R : K3), Room k (A.deeper (envOfC qual (zaa st) s.heap.objs.size f cdv)) → sp ws M R →
   (∀ n C H' M', cl n = some C → Kp H M H' M' → AM K H' M' → (zaP R).rt (.ty n) M' → E (.ref C) none H') →
   ∃ t, Xs3z (cxOf (CXr P w) P w K mg base N qual (zaa st) f cdv A outer s H E) H M (zaP R).rt (zaf st) t ∧ t (zaP R) (zbe N ws) M) : FnOk P w K mg base (CXr P w) (k + 1) f fd ps (zev K cl sp) := by
 obtain ⟨oc, od, kV, doc, pm, an, cdv, ct, osl, rfl, lk, hcd⟩ := F.ex
 refine ztj lk hcd S ncl ncl2 hl0 hps (fun vs H Q E ⟨ws, M, R, am, av, h, _⟩ => by rw [av.length]; exact len ws M R h) fun A outer s H vs Q E hr ⟨ws, M, R, am, av, h, kk, kx⟩ => ?_
 obtain ⟨t, ht, h'⟩ := hbody cdv A outer s H E ws M R hr h fun n C H' M' c k' am' ⟨M'', sb, r⟩ => kx n C H' M'' c (k'.sub sb) (am'.sub sb) r
 refine ⟨_, ht, zbe N ws, M, zaP R, ?_, am, Kp.refl am, rfl, h', ⟨fun σ' H' τ' M' k' am' as' ⟨M'', sb, r⟩ => kk _ H' _ M'' (fun n z => W.noConfusion z) (k'.sub sb) (am'.sub sb) .non r, fun v H' w M' n k' am' av' ⟨M'', sb, r⟩ => kk v H' w M'' n (k'.sub sb) (am'.sub sb) (av'.sub sb) r, fun _ _ _ _ _ _ _ z => z.elim, fun _ _ _ _ _ _ _ z => z.elim⟩⟩
 unfold L2.start zbe
 rw [av.length]
 exact AS.start av _
end
end L3
namespace Rg
open PySem PySem.Spec PyProof.Rows L2 L3
theorem zts (c : Nat) : ∀ l : List Nat, c ∉ [] → ((sp c l).intersperse [32, c, 32]).flatten = pad1 c l
 | [], _ => rfl
 | a :: l, hc => by
  have ih := zts c l hc
  obtain ⟨p, ps, e⟩ := ze8 c l
  rw [sp]
  unfold pad1 at ih ⊢
  rw [List.flatMap_cons, ← ih, e]
  by_cases h : a = c
  ·rw [if_pos h, if_pos h]
   simp [List.intersperse]
  ·rw [if_neg h, if_neg h]
   cases ps <;> simp [List.intersperse]
theorem zgW {sep : Str} : ∀ xs : List Str, cs (Str.join sep xs) = ((xs.map cs).intersperse (cs sep)).flatten
 | [] => rfl
 | [x] => by simp [Str.join]
 | x :: y :: r => by
  show cs (x ++ sep ++ Str.join sep (y :: r)) = _
  rw [zbO, zbO, zgW (y :: r)]
  simp [List.intersperse]
theorem zpb {x y z : Str} {c : Nat} (hy : y = ⟨#[c]⟩) (hz : cs z = [32, c, 32]) : cs (Txt.replace x y z) = pad1 c (cs x) := by
 subst hy
 have hl : (⟨#[c]⟩ : Str).length = 1 := rfl
 unfold Txt.replace
 rw [hl]
 split
 ·rename_i h
  have ho : (Builtin.Str.occurrences x ⟨#[c]⟩ 0 x.length (x.length + 1)).isEmpty = true := by
   rcases Bool.or_eq_true_iff.mp h with q | q
   ·exact q
   ·simp at q
  rw [zmr, List.isEmpty_iff] at ho
  have hp : ∀ (l : List Nat) (i : Nat), pos c i l = [] → c ∉ l := by
   intro l
   induction l with
   | nil => intro i _ h; cases h
   | cons a l ih =>
    intro i h
    rw [pos] at h
    split at h
    ·cases h
    ·rename_i ha
     intro hm
     rcases List.mem_cons.mp hm with q | q
     ·exact ha q.symm
     ·exact ih _ h q
  have hn := hp _ _ ho
  unfold pad1
  have : ∀ l : List Nat, c ∉ l → l.flatMap (fun a => if a = c then [32, c, 32] else [a]) = l := by
   intro l
   induction l with
   | nil => intro _; rfl
   | cons a l ih =>
    intro h
    rw [List.flatMap_cons, if_neg (fun e => h (by rw [e]; exact List.mem_cons_self)), ih fun q => h (List.mem_cons_of_mem _ q)]
    rfl
  exact (this _ hn).symm
 ·rw [StrLaws.glued_eq_join, zhX, zgW, hz, List.map_map, ← zts c (cs x) (by simp)]
  congr 2
  conv => rhs; rw [← List.map_id (sp c (cs x))]
  exact List.map_congr_left fun p _ => zbL p
theorem zou (c : Nat) (l : List Nat) : (pad1 c l).length ≤ 3 * l.length := by
 unfold pad1
 induction l with
 | nil => simp
 | cons a l ih =>
  rw [List.flatMap_cons, List.length_append, List.length_cons]
  split
  ·simp only [List.length_cons, List.length_nil]; omega
  ·simp only [List.length_cons, List.length_nil]; omega
theorem zkr {c d : Nat} {l : List Nat} (h : d ∈ pad1 c l) : d ∈ l ∨ d = 32 := by
 unfold pad1 at h
 obtain ⟨a, ha, hd⟩ := List.mem_flatMap.mp h
 split at hd
 ·rename_i e
  subst e
  simp at hd
  rcases hd with hd | hd | hd
  ·exact .inr hd
  ·rw [hd]; exact .inl ha
  ·exact .inr hd
 ·simp at hd; rw [hd]; exact .inl ha
end Rg
namespace L2
open PySem PySem.Spec PyProof.Rows
section
variable {X : Cx} {tg : Expr}
end
end L2
namespace L3
open PySem PySem.Spec PyProof.Rows L2
section
variable {X : Cx} {tg a b c : Expr}
end
end L3
namespace L2
open PySem PySem.Spec PyProof.Rows
def ItrD (lo : Int) (n : Nat) : It := ⟨fun i _ => i < n, fun i H x H' => H' = H ∧ x = .int (lo + i * (-1)), fun i _ => n ≤ i⟩
theorem zrm {P : Program} {w : World} {K : PySem.W.Frag} {tg : Expr} (it : Addr) (lo : Int) (n : Nat) : Turn P w K tg (ItrD lo n) [it] it (fun i h => IsRangeIter h it (lo + (i : Nat) * (-1)) ((n : Int) - (i : Nat)) (-1)) where
 mem := by simp
 obj := fun i h st b hb => by
  cases List.mem_singleton.mp hb
  exact ⟨_, st, fun v z => nomatch (show Data.fields _ = Data.cell v from z)⟩
 keep := fun i h h' st k => k it (by simp) _ st
 item := by
  intro X hP hw hK hc i pins s σ H E I hf st hg
  subst hP hw hK
  have ⟨f0, f1, _, f3, f4, f5⟩ := hf it (by simp)
  refine (Walks.range (prog := X.prog) (w := X.w) (I.ok.hd hc) it lo (-1) n).item i s _ _ hg st fun v h' tk hv st' kk => ?_
  obtain ⟨t, rfl⟩ := hv
  exact ⟨_, rfl, zny (s := { s with heap := h', toks := tk }) (n := "range_iterator") st' rfl rfl (by decide) ⟨.int (lo + i * (-1)), H, I.turned (fun b o hb e => kk b o (by simpa using hb) e) f0 f1 f3 f4 f5, ⟨t, rfl⟩, ⟨rfl, rfl⟩, st', fun b hb => (hf b hb).1⟩⟩
 done := by
  intro X hP hw hK hc i pins s σ H E I hf st hg
  subst hP hw hK
  have ⟨f0, f1, _, f3, f4, f5⟩ := hf it (by simp)
  exact wpAny_pyNext_range_end (I.ok.hd hc) st (by have : n ≤ i := hg; omega) fun h' eb => ⟨rfl, I.turned (t' := s.toks) (fun b o hb e => eb b o hb e) f0 f1 f3 f4 f5⟩
 self := fun _ _ _ _ _ st h => wpAny_pyIter_rangeiter st h
def zgd (lo hi : Int) : Nat := (lo - hi).toNat
theorem zmU {lo hi : Int} : Builtin.Range.rangeSize lo hi (-1) = (zgd lo hi : Nat) := by
 unfold Builtin.Range.rangeSize zgd
 rw [if_neg (by decide), show (- -1 : Int) = 1 from rfl, Int.ediv_one]
 split <;> omega
theorem zov {a b : Int} (ha : -(2 ^ 61) ≤ a) (ha' : a < 2 ^ 61) (hb : -(2 ^ 61) ≤ b) (hb' : b < 2 ^ 61) : Builtin.Range.small a b (-1) = true := by
 unfold Builtin.Range.small
 rw [zmU]
 unfold zgd
 simp only [Builtin.Range.rangeFitsLong, Bool.and_eq_true, Bool.or_eq_true, decide_eq_true_eq, beq_iff_eq, show ¬ (-1 : Int) > 0 by decide, if_false]
 omega
section
variable {X : Cx} {tg : Expr}
theorem zuA {pins : List (Addr × Obj)} {σ : St} {H : Hp} {s : Shared} {R : It → Hp → Prop} {E : Value → Shared → Prop} {lo hi : Int} {t u v : Tok} {tk : Nat} (I : Inv X pins σ H s) (hs : Builtin.Range.small lo hi (-1) = true)
  (q : R (ItrD lo (zgd lo hi)) H) : wpAny (model X.prog X.w) X.A (pyIter (.ref s.heap.objs.size)) (PIE X pins σ tg R) E { s with heap := s.heap.push { cls := .type "range", data := .fields #[.int lo t, .int hi u, .int (-1) v] }, toks := tk } := by
 obtain ⟨h1, e1⟩ : ∃ h1, h1 = s.heap.push { cls := .type "range", data := .fields #[.int lo t, .int hi u, .int (-1) v] } := ⟨_, rfl⟩
 refine wpAny_pyIter_range (IsRange.new ..) hs ?_
 rw [← e1]
 have I1 : Inv X pins σ H { s with heap := h1, toks := tk } := I.kept fun b o e => by rw [e1]; exact Heap.get?_push_of_some _ e
 refine ⟨h1.objs.size, [h1.objs.size], _, _, H, rfl, I1.kept (t' := tk) fun b o e => Heap.get?_push_of_some _ e, zrm _ lo (zgd lo hi), ?_, fun b hb => ?_, q⟩
 ·show IsRangeIter _ _ (lo + ((0 : Nat) : Int) * (-1)) (((zgd lo hi : Nat) : Int) - ((0 : Nat) : Int)) (-1)
  rw [← zmU, Int.natCast_zero, Int.zero_mul, Int.add_zero, Int.sub_zero]
  exact Heap.get?_push_size _ rfl
 ·cases List.mem_singleton.mp hb
  exact I1.fpOk (Nat.le_refl _) (I1.hok.fresh (Nat.le_refl _))
def zuB (ta : TA) : TI := fun σ H R => ta σ H fun vs H1 => ∃ i j : Int, vs = [.int i, .int j, .int (-1)] ∧ (-(2 ^ 61) ≤ i ∧ i < 2 ^ 61 ∧ -(2 ^ 61) ≤ j ∧ j < 2 ^ 61) ∧ R (ItrD i (zgd i j)) H1
theorem zmV {a b c : Expr} {ta : TA} {p pos : Pos} (hg : Gl X "range") (hm : X.mg "range" = none) (ha : PA X [a, b, c] ta) (hs : starEach [a, b, c] X.env = (false, eval a X.env) :: starEach [b, c] X.env := by rfl) (hs2 : starEach [b, c] X.env = [(false, eval b X.env), (false, eval c X.env)] := by rfl) :
  PI X tg (.Call (.Name "range" p) [a, b, c] [] pos) (zuB ta) := by
 intro pins s σ H R I h
 refine Call_ (zgk I hg hm boot_range (PyProof.Rows.callWith_type1 (thn (ha pos pins s σ H _ I h) fun us s1 ⟨vs, H1, I1, r1, q1⟩ => ?_) (by rw [hs]) (by rw [hs2]; rfl)))
 obtain ⟨i, j, e, ⟨q1, q2, q3, q4⟩, q⟩ := q1
 subst e
 cases r1 with
 | cons r rr =>
  cases rr with
  | cons r' rr =>
   cases rr with
   | cons r'' rr =>
    cases rr
    obtain ⟨t, rfl⟩ := r
    obtain ⟨t', rfl⟩ := r'
    obtain ⟨t'', rfl⟩ := r''
    exact call_range_3 (by decide) (zuA I1 (zov q1 q2 q3 q4) q) (.inl (PyProof.noPylong_small (by decide)))
end
end L2
namespace L3
open PySem PySem.Spec PyProof.Rows L2
section
variable {X : Cx} {tg a b c : Expr}
def zge (lo : Int) (n : Nat) : List W := (List.range n).map fun i => W.int (lo + (i : Nat) * (-1))
theorem zuC {K : PySem.W.Frag} {H0 : Hp} {M0 : Mm} {lo : Int} {n : Nat} : ItOk K H0 M0 (ItrD lo n) (zge lo n) fun _ => True where
 go := fun i H M _ am _ hi => by show i < n; simpa [zge] using hi
 stop := fun H M _ am _ => by show n ≤ _; simp [zge]
 yld := fun i H M x H' _ am _ hi y => by
  obtain ⟨rfl, rfl⟩ := y
  have hi : i < n := by simpa [zge] using hi
  exact ⟨.int (lo + i * (-1)), by simp [zge, hi], Kp.refl am, am, .int _⟩
def iRD (ta : TA3) : TI3 := fun τ M R => ta τ M fun ws M1 => ∃ i j : Int, ws = [.int i, .int j, .int (-1)] ∧ (-(2 ^ 61) ≤ i ∧ i < 2 ^ 61 ∧ -(2 ^ 61) ≤ j ∧ j < 2 ^ 61) ∧ R (zge i (zgd i j)) (fun _ => True) M1
theorem zow {tA : TA3} {p pos : Pos} (hg : Gl X "range") (hm : X.mg "range" = none) (ha : A3 X [a, b, c] tA) (hs : starEach [a, b, c] X.env = (false, eval a X.env) :: starEach [b, c] X.env := by rfl) (hs2 : starEach [b, c] X.env = [(false, eval b X.env), (false, eval c X.env)] := by rfl) :
  PI X tg (.Call (.Name "range" p) [a, b, c] [] pos) (upI X.K (iRD tA)) :=
 (zmV hg hm ha hs hs2).weak fun σ H R' ⟨τ, M, R, as, am, h, k⟩ => ⟨τ, M, _, as, am, h, fun vs H1 ws M1 k1 am1 ax ⟨i, j, e, h1, r⟩ => by
  subst e
  cases ax with
  | cons av ax =>
   obtain ⟨u, w, rfl, au, aw⟩ := ax.two
   cases av; cases au; cases aw
   exact ⟨i, j, rfl, h1, k _ _ _ _ _ k1 am1 zuC r⟩⟩
end
end L3
namespace Rg
open PySem PySem.Spec PyProof.Rows L2 L3
def zbk : Sp3 := fun ws M R => ∃ t : Tr, ws = [t.w] ∧ R (.bl t.isNd) M
abbrev zfB : List Str := ["child"]
def zce : TS3 :=
   (vRet (vCB rIsi (zac (vVar 0) (zac (vC (.ty "tuple")) aNil))))
end Rg
namespace Rg
open PySem PySem.Spec PyProof.Rows L2 L3
theorem zjs : ∀ ws M R, zbk ws M R → ws.length = 1 := by rintro ws M R ⟨_, rfl, _⟩; rfl
theorem zh5 {ws : List W} {M : Mm} {R : K3} (h : zbk ws M R) : zce (zaP R) (zbe zfB ws) M := by
 obtain ⟨t, rfl, r⟩ := h
 show zce (zaP R) [some t.w] M
 cases t with
 | wd t => simp? only [zce, Tr.w]; exact ⟨_, Sub.refl _, r⟩
 | nd n cs => simp? only [zce, Tr.w]; exact ⟨_, Sub.refl _, r⟩
end Rg
namespace L3
open PySem PySem.Spec PyProof.Rows L2
abbrev zuD (sp : Sp3) : Sp3 := fun ws M R => sp ws M fun w M' => NM w ∧ R w M'
section
variable {X : Cx} {k : Nat} {f : Addr} {fd : FuncData} {ps : List Str} {sp : Sp3} {g y x n z : Str} {p py cpos spos pos px pz pn pe ph : Pos} {e : Expr} {es : List Expr} {t : TA3} {i j ie : Nat} {cl : String → Option Addr} {Cg : Addr}
theorem ztt (F : FnOk X.prog X.w X.K X.mg X.base (CXr X.prog X.w) k f fd ps (zev X.K cl sp)) (hr : Room k X.A) (hg : Gl X g) (hm : X.mg g = some (.ref f)) (hk : PySem.W.keepIn X.K (.ref f) = true) (hb : zf7 X.K fd ps [])
  (hN : X.N.Nodup) (hi : X.N[i]? = some y) (hy : Loc X.env.scope y) (ha : ∀ E, A3 (X.wish E) (e :: es) t) (hst : X.stack = X.env :: X.outer) (hfr : X.env.frame = some X.env.locals)
  (hex : X.ex = []) (g1 : Gl X x) (m1 : X.mg x = some (.ref Cg)) (hc : ∀ n C, cl n = some C → PySem.W.exmOne X.K (.ref C) (.ref Cg) = some true)
  (hie : X.N[ie]? = some n) (hj : X.N[j]? = some z) (hz : Loc X.env.scope z) (hl : X.env.scope.names.lookup n = some .local := by rfl) (d1 : (x == ("__debug__" : Str)) = false := by decide)
  (hn : Vis (X.inK 0).env.scope n := by first | exact Or.inl rfl | exact Or.inr (Or.inl rfl) | exact Or.inr (Or.inr rfl)) (dn : (n == ("__debug__" : Str)) = false := by decide) (dc : (n == ("__classdict__" : Str)) = false := by decide)
  (hdb : (g == ("__debug__" : Str)) = false := by decide) (he : starEach (e :: es) X.env = (false, eval e X.env) :: starEach es X.env := by rfl) (hpl : (backTo cpos (starEach es X.env)).any (·.1) = false := by rfl)
  (hsw : swapsWith (.Call (.Name g p) (e :: es) [] cpos) (some (.Name y py)) spos.line X.env = pure false := by rfl) (hf : X.fn y = true ∨ X.env.scope.names.lookup y = some .local := by first | exact .inl rfl | exact .inr rfl)
  (hsz : swapsWith (.Name n pn) (some (.Name z pz)) ph.line X.env = pure false := by rfl) (hfz : X.fn z = true ∨ X.env.scope.names.lookup z = some .local := by first | exact .inl rfl | exact .inr rfl) :
  P3 X (.Try [.Assign [.Name y py] (.Call (.Name g p) (e :: es) [] cpos) spos] [.ExceptHandler (some (.Name x px)) (some n) [.Assign [.Name z pz] (.Name n pn) ph] pe] [] [] pos) (zmy sp t i j ie cl) := by
 refine PS.weak (zq6 (i := i) (E1 := zte X.K cl j ie) F hr hg hm hk hb hN hi hy ha hst hfr ?_ hdb he hpl hsw hf) fun D σ H h => zok h
 rintro pins σ H s ea cls H' B s' D a I ⟨m, C, hcl, rfl, hq⟩
 exact zk0 (i := ie) (ts := upS X.K (vSet j (vVar ie))) a I hex g1 m1 d1 (hc m C hcl) hN hie hl (.inr hl) (zak (zaO (X := X.inK ea) hN hj hz (v (X := X.inK ea) ie hie hn dn dc) hsz hfz)) (hq ea a.free)
end
end L3
namespace Rg
open PySem PySem.Spec PyProof.Rows L2 L3
structure GrL (rs : List Rule) : Prop where
 gr : Gr rs
 ne : rs ≠ []
 few : rs.length ≤ 7
abbrev tw (cs : List Tr) : List W := cs.map Tr.w
def Kid (rs : List Rule) : Tr → Prop
 | .wd t => t.length ≤ 1000000
 | .nd n _ => ∃ (j : Nat) (r : Rule), n = j ∧ rs[j]? = some r
def nkey (nm : Str) (ps : List Str) : NKey := (Sum.inr nm, ps.map Sum.inr)
def zh6 (k : Nat) (r : Rule) (acc : List (NKey × W)) : List (NKey × W) := match zbg acc (nkey r.name r.parts) with
 | some _ => acc
 | none => acc ++ [(nkey r.name r.parts, .int k)]
def zbr : List Rule → Nat → List (NKey × W) → List (NKey × W)
 | [], _, acc => acc
 | r :: rs, k, acc => zbr rs (k + 1) (zh6 k r acc)
def zgu (rs : List Rule) : List (NKey × W) := zbr rs 0 []
def zbM : Sp3 := fun ws M R => ∃ z g : Str, ws = [.str z, .str g] ∧ z.length ≤ 1000000 ∧ R (.bl (zgJ z g)) M
def zb3 : Sp3 := fun ws M R => ∃ z : Str, ws = [.str z] ∧ z.length ≤ 1000000 ∧ R (.bl (zdI z)) M
def zbm : Sp3 := fun ws M R => ∃ (rs : List Rule) (n : Int) (c : List Tr), ws = [rlW rs, (Tr.nd n c).w] ∧ Gr rs ∧ Byr rs (.nd n c) ∧ ((Tr.nd n c).sh rs).length ≤ 1000000 ∧ R (.str (toS ((Tr.nd n c).sh rs))) M
def zbt (P : Program) (w : World) : Sp3 := fun ws M R => ∃ rs : List Rule, ws = [rlW rs] ∧ rs.length ≤ 7 ∧ ∀ p, M p = none → R (.ref p) (put M p (.dn P w [] (zgu rs)))
def zbH (P : Program) (w : World) : Sp3 := fun ws M R => ∃ (rs : List Rule) (a q : Addr) (nm : Tr) (ch : List Tr), ws = [rlW rs, .ref a, nm.w, .ref q] ∧ M a = some (.dn P w [] (zgu rs)) ∧ M q = some (.lst (tw ch)) ∧ (∀ c ∈ ch, Kid rs c) ∧ ch.length ≤ 1000000 ∧
 (knot rs nm ch = none → R (.ty "NoText") M) ∧ ∀ t, knot rs nm ch = some t → R t.w M
def zaX : Sp3 := fun ws M R => ∃ (rs : List Rule) (ps : List Str), ws = [rlW rs, .rl (ps.map W.str)] ∧ GrL rs ∧ ps.length ≤ 900000 ∧ (∀ p ∈ ps, p.length ≤ 1000000) ∧ (zey rs ps = none → R (.ty "NoText") M) ∧ ∀ t, zey rs ps = some t → R t.w M
def zby : Sp3 := fun ws M R => ∃ (rs : List Rule) (x : Str), ws = [rlW rs, .str x] ∧ GrL rs ∧ x.length ≤ 150000 ∧ (∀ a ∈ cs x, a < 256) ∧ (reads rs (cs x) = none → R (.ty "NoText") M) ∧ ∀ t, reads rs (cs x) = some t → R t.w M
def zbZ : Sp3 := fun ws M R => ∃ (d : Int) (hs : List Str), ws = [.int d, .rl (hs.map W.str)] ∧ hs ≠ [] ∧ (∀ h ∈ hs, h ∈ H3) ∧ hs.length ≤ 3 ∧ ∀ ps : List Str, ps.length ≤ 3 → (∀ t ∈ ps, t ∈ ABC ∨ t ∈ H3) → R (.tup (ps.map W.str)) M
def zb4 : Sp3 := fun ws M R => ∃ zs : List W, ws = [.sc zs] ∧ Ints zs ∧ zs.length ≤ 63 ∧ ∀ rs : List Rule, GrL rs → R (rlW rs) M
def rkW (q : Str × Int × Int) : Key × W := (Sum.inr q.1, .tup [.int q.2.1, .int q.2.2])
def rk (L : List (Str × Int × Int)) (nm : Str) : Option (Int × Int) := (L.find? fun q => decide (q.1 = nm)).map Prod.snd
structure RkOk (rs : List Rule) (L : List (Str × Int × Int)) : Prop where
 ok : ∀ nm t k, rk L nm = some (t, k) → ∃ (j : Nat) (r : Rule), k = j ∧ rs[j]? = some r ∧ r.name = nm ∧ ∀ p ∈ r.parts, p ∈ H3 → ∃ t' k', rk L p = some (t', k') ∧ t' < t
def zcx : Sp3 := fun ws M R => ∃ rs : List Rule, ws = [rlW rs] ∧ GrL rs ∧ ∀ L, RkOk rs L → R (.dk (L.map rkW)) M
def cntR (L : List (Str × Int × Int)) (nm : Str) : Nat := match rk L nm with
 | some (t, _) => (H3.filter fun h => match rk L h with | some (t', _) => decide (t' < t) | none => false).length
 | none => 0
def zk1 (L : List (Str × Int × Int)) (nm : Str) (d : Nat) : Nat := if d < 6 then (6 - d) + 3 else cntR L nm + 1
def zaD : Nat → Sp3
 | 0 => fun _ _ _ => False
 | n + 1 => fun ws M R => ∃ (rs : List Rule) (L : List (Str × Int × Int)) (nm : Str) (zs : List W) (d : Nat), ws = [rlW rs, .dk (L.map rkW), .str nm, .rl zs, .int d] ∧ GrL rs ∧ RkOk rs L ∧ (rk L nm).isSome = true ∧ Ints zs ∧ zs.length ≤ 63 ∧ zk1 L nm d ≤ n + 1 ∧
  ∀ (t : Tr) (zs' : List W), Byr rs t → (∃ k c, t = .nd k c) → t.lab rs = nm → t.dp ≤ n + 1 → Ints zs' → zs'.length ≤ 63 → R (.tup [t.w, .rl zs']) M
def zat : Sp3 := zaD 9
def zbI : Nat → Sp3
 | 0 => fun _ _ _ => False
 | n + 1 => fun ws M R => ∃ (rs : List Rule) (k : Int) (c : List Tr), ws = [rlW rs, (Tr.nd k c).w] ∧ GrL rs ∧ Byr rs (.nd k c) ∧ (Tr.nd k c).dp ≤ n + 1 ∧ n + 1 ≤ 9 ∧ R (.str (toS ((Tr.nd k c).sh rs))) M
def zaJ : Sp3 := zbI 9
def zbn : Nat → Sp3
 | 0 => fun _ _ _ => False
 | n + 1 => fun ws M R => ∃ (rs : List Rule) (k : Int) (c : List Tr), ws = [rlW rs, (Tr.nd k c).w] ∧ GrL rs ∧ Byr rs (.nd k c) ∧ (Tr.nd k c).dp ≤ n + 1 ∧ R ((Tr.nd k c).fs rs).w M
def zay : Sp3 := zbn 9
def zc7 : Sp3 := fun ws M R => ∃ (rs : List Rule) (q : Addr) (nm : Str) (ch : List Tr), ws = [rlW rs, .ref q] ∧ GrL rs ∧ M q = some (.lst (tw (.wd nm :: ch))) ∧ (∀ c ∈ ch, Kid rs c) ∧ (∀ x, Tr.wd x ∈ ch → PyData.strOk x = true) ∧ ch.length ≤ 1000000 ∧ (zcZ rs ch nm = none → R .non M) ∧ ∀ t, zcZ rs ch nm = some t → R t.w M
def zc8 : Sp3 := fun ws M R => ∃ (rs : List Rule) (x : Str), ws = [rlW rs, .str x] ∧ GrL rs ∧ x.length ≤ 150000 ∧ (∀ a ∈ cs x, a < 256) ∧ (ze9 rs (cs x) = none → R .non M) ∧ ∀ t, ze9 rs (cs x) = some t → R t.w M
structure Cl6 where
 t : Addr
 g : Addr
 e : Addr
 o : Addr
 r : Addr
 m : Addr
def clOf (c : Cl6) : String → Option Addr := fun n => if n = "NoText" then some c.t else none
def zcy (c : Cl6) : Sp3 := fun ws M R => ∃ ea, ws = [.ref ea] ∧ M ea = some (.exc (.ref c.t)) ∧ R (.bl false) M
abbrev zmW : Sp3 := zhI
abbrev zdO : List Str := ["text", "signs"]
def zb5 : TS3 :=
   (vRet (zf9 (vOp (rEq true) (vVar 0) (vC (.str ""))) (vCB rAll (zac (vFrz (zdM (iIt rItN (vVar 0)) (zbD 0) zhH (vOp (rIn false) (vVar 0) (vVar 1)) [none, some 1])) aNil))))
abbrev zdP : List Str := ["part", "pieces", "right_end"]
def zdv : TS3 :=
   (vSet 1 (vBM "str" zqf (vVar 0) (zac (vC (.str "_")) aNil)))
def zdw : TS3 :=
   (vSet 2 (vOrV (vOp (rEq false) (vOp rIx (vVar 1) (vC (.int 1))) (vC (.str ""))) (zbC zbM (zac (vOp rIx (vVar 1) (vC (.int 2))) (zac (vC (.str "0123456789")) aNil)))))
def zdx : TS3 :=
   (vRet (zf9 (vVar 2) (zbC zbM (zac (vOp rIx (vVar 1) (vC (.int 0))) (zac (vC (.str "ABCDEFGHIJKLMNOPQRSTUVWXYZ")) aNil)))))
def zb6 : TS3 := (vSeq zdv (vSeq zdw zdx))
abbrev zc9 : List Str := ["grammar", "tree", "written", "waiting", "child", "k"]
def zda : TS3 :=
   (vSet 2 (vLst aNil))
def zdb : TS3 :=
   (vSet 3 (vLst (zac (vVar 1) aNil)))
def zcW : TS3 :=
   (vSeq (vSet 4 (vBM0 "list" rPop (vVar 3)))
   (vIfS (vNot (zb1 (zbC zbk (zac (vVar 4) aNil))))
    (zcn (vBM "list" rApp (vVar 2) (zac (vVar 4) aNil)))
    (vSeq (zcn (vBM "list" rApp (vVar 2) (zac (vOp zbR (vOp rIx (vOp rIx (vVar 0) (vOp rIx (vVar 4) (vC (.int 0)))) (vC (.int 0))) (vC (.str "("))) aNil)))
   (vSeq (zcn (vBM "list" rApp (vVar 3) (zac (vC (.str ")")) aNil)))
   (vFor (iRD (zac (vOp rSub (vCB rLen (zac (vOp rIx (vVar 4) (vC (.int 1))) aNil)) (vC (.int 1))) (zac (vUn rNeg (vC (.int 1))) (zac (vUn rNeg (vC (.int 1))) aNil)))) (zbD 5)
    (vSeq (zcn (vBM "list" rApp (vVar 3) (zac (vOp rIx (vOp rIx (vVar 4) (vC (.int 1))) (vVar 5)) aNil)))
   (vIfS (zaK (vOp rGt (vVar 5) (vC (.int 0))))
    (zcn (vBM "list" rApp (vVar 3) (zac (vC (.str " ")) aNil)))
    zbG)))))))
def zfC : TS3 :=
   (zo1 (zb1 (vVar 3)) zcW)
def zdc : TS3 :=
   (vRet (vBM "str" zms (vC (.str "")) (zac (vVar 2) aNil)))
def zbT : TS3 := (vSeq zda (vSeq zdb (vSeq zfC zdc)))
abbrev zcu : List Str := ["grammar", "numbers", "number", "rule"]
def zcz (P : Program) (w : World) : TS3 :=
   (vSet 1 (zq9 P w []))
def zcs (P : Program) (w : World) : TS3 :=
   (zcn (zrb P w [] (vVar 1) (vTup (zac (vOp rIx (vVar 3) (vC (.int 0))) (zac (vOp rIx (vVar 3) (vC (.int 1))) aNil))) (vVar 2)))
def zcA (P : Program) (w : World) : TS3 :=
   (vFor (zet (zac (vVar 0) aNil)) (wTup 2 (zkU (zbD 2) (zkU (zbD 3) wNil))) (zcs P w))
def zcB (P : Program) (w : World) : TS3 :=
   (vRet (vVar 1))
def zbu (P : Program) (w : World) : TS3 := (vSeq (zcz P w) (vSeq (zcA P w) (zcB P w)))
abbrev zfD : List Str := ["grammar", "numbers", "name", "children", "parts"]
def zeJ (P : Program) (w : World) : TS3 :=
   (vIfS (zb1 (vCB rAny (zac (vFrz (zdM (iIt rItN (vVar 3)) (zbD 0) zhH (zf9 (znQ (zbC zbk (zac (vVar 0) aNil))) (zbC zb3 (zac (vVar 0) aNil))) [none])) aNil)))
    (zcc "NoText" (vC (.str "a name stands without its brackets")))
    zbG)
def zdd (P : Program) (w : World) : TS3 :=
   (vSet 4 (vCB zc5 (zac (vFrz (zdM (iIt rItN (vVar 3)) (zbD 0) zhH (vIf (zb1 (zbC zbk (zac (vVar 0) aNil))) (vOp rIx (vOp rIx (vVar 1) (vOp rIx (vVar 0) (vC (.int 0)))) (vC (.int 0))) (vVar 0)) [none, some 0])) aNil)))
def zde (P : Program) (w : World) : TS3 :=
   (vIfS (vOr (zb1 (zbC zbk (zac (vVar 2) aNil))) (zaK (vOp (rInN P w []) (vTup (zac (vVar 2) (zac (vVar 4) aNil))) (vVar 1))))
    (zcc "NoText" (vC (.str "a tree is of no rule")))
    zbG)
def zct (P : Program) (w : World) : TS3 :=
   (zjl (vTup (zac (vOp (rIxN P w []) (vVar 1) (vTup (zac (vVar 2) (zac (vVar 4) aNil)))) (zac (vCB zc5 (zac (vVar 3) aNil)) aNil))))
def zch (P : Program) (w : World) : TS3 := (vSeq (zeJ P w) (vSeq (zdd P w) (vSeq (zde P w) (zct P w))))
abbrev zcb : List Str := ["grammar", "pieces", "numbers", "begun", "piece", "children", "name"]
def zci (P : Program) (w : World) : TS3 :=
   (vSet 2 (zbC (zbt P w) (zac (vVar 0) aNil)))
def zcj (P : Program) (w : World) : TS3 :=
   (vSet 3 (vLst (zac (vLst aNil) aNil)))
def zcd (P : Program) (w : World) : TS3 :=
   (vIfS (zaK (vOp (rEq false) (vVar 4) (vC (.str "("))))
    (zcn (vBM "list" rApp (vVar 3) (zac (vLst aNil) aNil)))
    (vIfS (zaK (vOp (rEq false) (vVar 4) (vC (.str ")"))))
    (vSeq (vSet 5 (vBM0 "list" rPop (vVar 3)))
   (vSeq (vIfS (vOr (zaK (vOp (rEq false) (vCB rLen (zac (vVar 3) aNil)) (vC (.int 0)))) (zaK (vOp (rEq false) (vCB rLen (zac (vOp rIx (vVar 3) (vUn rNeg (vC (.int 1)))) aNil)) (vC (.int 0)))))
    (zcc "NoText" (vC (.str "a bracket is closed without a name")))
    zbG)
   (vSeq (vSet 6 (vBM0 "list" rPop (vOp rIx (vVar 3) (vUn rNeg (vC (.int 1))))))
   (zkf (fun r0 => (vBM1 "list" rApp (vOp rIx (vVar 3) (vUn rNeg (vC (.int 1)))) (zeI (zbH P w) (zac (vVar 0) (zac (vVar 2) (zac (vVar 6) (zac (vVar 5) aNil)))) r0)))))))
    (zcn (vBM "list" rApp (vOp rIx (vVar 3) (vUn rNeg (vC (.int 1)))) (zac (vVar 4) aNil)))))
def zck (P : Program) (w : World) : TS3 :=
   (vFor (iIt rItN (vVar 1)) (zbD 4) (zcd P w))
def zbJ (P : Program) (w : World) : TS3 :=
   (vIfS (vOr (zaK (vOp (rEq true) (vCB rLen (zac (vVar 3) aNil)) (vC (.int 1)))) (vOr (zaK (vOp (rEq true) (vCB rLen (zac (vOp rIx (vVar 3) (vC (.int 0))) aNil)) (vC (.int 1)))) (vNot (zb1 (zbC zbk (zac (vOp rIx (vOp rIx (vVar 3) (vC (.int 0))) (vC (.int 0))) aNil))))))
    (zcc "NoText" (vC (.str "the text is not that of one tree")))
    zbG)
def zbK (P : Program) (w : World) : TS3 :=
   (zjl (vOp rIx (vOp rIx (vVar 3) (vC (.int 0))) (vC (.int 0))))
def za9 (P : Program) (w : World) : TS3 := (vSeq (zci P w) (vSeq (zcj P w) (vSeq (zck P w) (vSeq (zbJ P w) (zbK P w)))))
abbrev zdQ : List Str := ["grammar", "text", "pieces", "tree"]
def zdy : TS3 :=
   (vSet 2 (vFrz (vBM "str" zjk (vRep ")" " ) " (vRep "(" " ( " (vVar 1))) (zac (vC (.str " ")) aNil))))
def zdz : TS3 :=
   (zq5 3 (fun r0 => (zeI zaX (zac (vVar 0) (zac (vFrz (zdM (iIt rItN (vVar 2)) (zbD 0) (zaK (vOp (rEq true) (vVar 0) (vC (.str "")))) (vVar 0) [none])) aNil)) r0)))
def zdA : TS3 :=
   (vIfS (zaK (vOp (rEq true) (zbC zbm (zac (vVar 0) (zac (vVar 3) aNil))) (vVar 1)))
    (zcc "NoText" (vC (.str "a tree is not written so")))
    zbG)
def zdB : TS3 :=
   (zjl (vVar 3))
def zbU : TS3 := (vSeq (zdy) (vSeq (zdz) (vSeq (zdA) (zdB))))
abbrev zfE : List Str := ["d", "heads", "parts", "k", "one"]
def zeK : TS3 :=
   (vSet 2 (vLst aNil))
def zea : TS3 :=
   (vSeq (vSet 4 (vOp rMod (vOp zd2 (vVar 0) (vOp zbR (vC (.int 6)) (vOp zhK (vC (.int 90)) (vVar 3)))) (vC (.int 15))))
   (vIfS (zaK (vOp rLt (vVar 4) (vC (.int 8))))
    (zcn (vBM "list" rApp (vVar 2) (zac (vOp rIx (vKl ["a", "b", "c"]) (vOp rMod (vVar 4) (vC (.int 3)))) aNil)))
    (zcn (vBM "list" rApp (vVar 2) (zac (vOp rIx (vVar 1) (vOp rMod (vVar 4) (vCB rLen (zac (vVar 1) aNil)))) aNil)))))
def zeL : TS3 :=
   (vFor (iR1 (zac (vOp rIx (zi2 (zac (vC (.int 0)) (zac (vC (.int 1)) (zac (vC (.int 2)) (zac (vC (.int 2)) (zac (vC (.int 3)) (zac (vC (.int 1)) aNil))))))) (vOp rMod (vVar 0) (vC (.int 6)))) aNil)) (zbD 3) zea)
def zeM : TS3 :=
   (vRet (vCB zc5 (zac (vVar 2) aNil)))
def zcC : TS3 := (vSeq zeK (vSeq zeL zeM))
abbrev zdR : List Str := ["script", "cell", "heads", "rules", "k", "d", "name"]
def zdC : TS3 :=
   (vSet 1 (zbC za8 (zac (vVar 0) (zac (vC (.int 0)) aNil))))
def zdD : TS3 :=
   (vSet 2 (vSlF (vKl ["S", "T_1", "UP_2034"]) sNo (sPt (vOp zbR (vC (.int 1)) (vOp rMod (vOp zd2 (vVar 1) (vC (.int 2))) (vC (.int 3)))))))
def zdE : TS3 :=
   (vSet 3 (vLst aNil))
def zdf : TS3 :=
   (vSeq (vSet 5 (zbC za8 (zac (vVar 0) (zac (vOp zbR (vC (.int 1)) (vVar 4)) aNil))))
   (vSeq (vIfS (zaK (vOp (rEq false) (vOp rMod (vVar 1) (vC (.int 2))) (vC (.int 1))))
    (vSet 5 (vOp zd2 (vOp zhK (vOp zbR (vOp rMod (vVar 5) (vOp rPow (vC (.int 10)) (vC (.int 40)))) (vVar 4)) (vOp zbR (vOp zbR (vOp rMod (vVar 5) (vOp rPow (vC (.int 10)) (vC (.int 40)))) (vOp zhK (vC (.int 5)) (vVar 4))) (vC (.int 2)))) (vC (.int 7))))
    zbG)
   (vSeq (vSet 6 (vOp rIx (vVar 2) (vOp rMod (vVar 5) (vCB rLen (zac (vVar 2) aNil)))))
   (vSeq (vIfS (zaK (vOp rLt (vVar 4) (vCB rLen (zac (vVar 2) aNil))))
    (vSet 6 (vOp rIx (vVar 2) (vVar 4)))
    zbG)
   (zcn (vBM "list" rApp (vVar 3) (zac (vTup (zac (vVar 6) (zac (zbC zbZ (zac (vOp zd2 (vVar 5) (vC (.int 3))) (zac (vVar 2) aNil))) (zac (vOp rMod (vOp zd2 (vVar 5) (vC (.int 900))) (vC (.int 4))) aNil)))) aNil)))))))
def zdF : TS3 :=
   (vFor (iR1 (zac (vOp zbR (vCB rLen (zac (vVar 2) aNil)) (vOp rMod (vOp zd2 (vVar 1) (vC (.int 6))) (vC (.int 5)))) aNil)) (zbD 4) zdf)
def zdG : TS3 :=
   (vRet (vFrz (vVar 3)))
def zb7 : TS3 := (vSeq zdC (vSeq zdD (vSeq zdE (vSeq zdF zdG))))
abbrev zfF : List Str := ["rules", "ranks", "turn", "k", "parts", "good"]
def zeN : TS3 :=
   (vSet 1 zp6)
def zeb : TS3 :=
   (vFor (iR1 (zac (vCB rLen (zac (vVar 0) aNil)) aNil)) (zbD 3)
    (vSeq (vSet 4 (vFrz (zdM (iIt rItN (vOp rIx (vOp rIx (vVar 0) (vVar 3)) (vC (.int 1)))) (zbD 0) (zaK (vOp (rIn false) (vVar 0) (vKl ["S", "T_1", "UP_2034"]))) (vVar 0) [none])))
   (vSeq (vSet 5 (vCB rAll (zac (vFrz (zdM (iIt rItN (vVar 4)) (zbD 0) zhH (zf9 (vOp (rIn false) (vVar 0) (vVar 1)) (vOp rLt (vOp rIx (vOp rIx (vVar 1) (vVar 0)) (vC (.int 0))) (vVar 2))) [none, some 1, some 2])) aNil)))
   (vIfS (vAnd (zb1 (vVar 5)) (zaK (vOp (rIn true) (vOp rIx (vOp rIx (vVar 0) (vVar 3)) (vC (.int 0))) (vVar 1))))
    (vAsg (vTup (zac (vVar 2) (zac (vVar 3) aNil))) (wSub (vVar 1) (vOp rIx (vOp rIx (vVar 0) (vVar 3)) (vC (.int 0)))))
    zbG))))
def zeO : TS3 :=
   (vFor (iR1 (zac (vOp zbR (vCB rLen (zac (vVar 0) aNil)) (vC (.int 1))) aNil)) (zbD 2) zeb)
def zeP : TS3 :=
   (vRet (vFrz (vVar 1)))
def zcD : TS3 := (vSeq zeN (vSeq zeO zeP))
abbrev zfG : List Str := ["rules", "ranks", "name", "cells", "deep", "some", "number", "children", "part", "child"]
def zeQ (zat : Sp3) : TS3 :=
   (vSet 5 (vFrz (zdM (iR1 (zac (vCB rLen (zac (vVar 0) aNil)) aNil)) (zbD 0) (zaK (vOp (rEq false) (vOp rIx (vOp rIx (vVar 2) (vVar 0)) (vC (.int 0))) (vVar 1))) (vVar 0) [none, some 2, some 0])))
def zeR (zat : Sp3) : TS3 :=
   (vSet 6 (vOp rIx (vOp rIx (vVar 1) (vVar 2)) (vC (.int 1))))
def zeS (zat : Sp3) : TS3 :=
   (vIfS (vAnd (zaK (vOp rLt (vVar 4) (vC (.int 6)))) (zaK (vOp (rEq true) (vVar 3) (zi2 aNil))))
    (vSeq (vSet 6 (vOp rIx (vVar 5) (vOp rMod (vOp zd2 (vOp rIx (vVar 3) (vC (.int 0))) (vC (.int 3))) (vCB rLen (zac (vVar 5) aNil)))))
   (vSeq (vSet 3 (vSlF (vVar 3) (sPt (vC (.int 1))) sNo))
   (vIfS (zaK (vOp (rEq true) (vFrz (zdM (iIt rItN (vOp rIx (vOp rIx (vVar 0) (vVar 6)) (vC (.int 1)))) (zbD 0) (vAnd (zaK (vOp (rIn false) (vVar 0) (vKl ["S", "T_1", "UP_2034"]))) (zaK (vOp (rIn true) (vVar 0) (vVar 1)))) (vVar 0) [none, some 1])) (zi2 aNil)))
    (vSet 6 (vOp rIx (vOp rIx (vVar 1) (vVar 2)) (vC (.int 1))))
    zbG)))
    zbG)
def zb8 (zat : Sp3) : TS3 :=
   (vSet 7 (vLst aNil))
def zec (zat : Sp3) : TS3 :=
   (vIfS (zaK (vOp (rIn false) (vVar 8) (vKl ["S", "T_1", "UP_2034"])))
    (vSeq (vAsg (zbC zat (zac (vVar 0) (zac (vVar 1) (zac (vVar 8) (zac (vVar 3) (zac (vOp zbR (vVar 4) (vC (.int 1))) aNil)))))) (wTup 2 (zkU (zbD 9) (zkU (zbD 3) wNil))))
   (zcn (vBM "list" rApp (vVar 7) (zac (vVar 9) aNil))))
    (zcn (vBM "list" rApp (vVar 7) (zac (vVar 8) aNil))))
def zb9 (zat : Sp3) : TS3 :=
   (vFor (iIt rItN (vOp rIx (vOp rIx (vVar 0) (vVar 6)) (vC (.int 1)))) (zbD 8) (zec zat))
def zca (zat : Sp3) : TS3 :=
   (vRet (vTup (zac (vTup (zac (vVar 6) (zac (vCB zc5 (zac (vVar 7) aNil)) aNil))) (zac (vVar 3) aNil))))
def zcE (zat : Sp3) : TS3 := (vSeq (zeQ zat) (vSeq (zeR zat) (vSeq (zeS zat) (vSeq (zb8 zat) (vSeq (zb9 zat) (zca zat))))))
abbrev zfH : List Str := ["rules", "tree", "some", "child"]
def zeT (zaJ : Sp3) : TS3 :=
   (vSet 2 (vLst aNil))
def zcN (zaJ : Sp3) : TS3 :=
   (zcn (vBM "list" rApp (vVar 2) (zac (vIf (zb1 (vCB rIsi (zac (vVar 3) (zac (vC (.ty "tuple")) aNil)))) (zbC zaJ (zac (vVar 0) (zac (vVar 3) aNil))) (vVar 3)) aNil)))
def zeU (zaJ : Sp3) : TS3 :=
   (vFor (iIt rItN (vOp rIx (vVar 1) (vC (.int 1)))) (zbD 3) (zcN zaJ))
def zeV (zaJ : Sp3) : TS3 :=
   (vRet (vOp rAdd (vOp zbR (vOp zbR (vOp rIx (vOp rIx (vVar 0) (vOp rIx (vVar 1) (vC (.int 0)))) (vC (.int 0))) (vC (.str "("))) (vBM "str" zms (vC (.str " ")) (zac (vVar 2) aNil))) (vC (.str ")"))))
def zcF (zaJ : Sp3) : TS3 := (vSeq (zeT zaJ) (vSeq (zeU zaJ) (zeV zaJ)))
abbrev zfI : List Str := ["rules", "tree", "some", "child", "k"]
def zeW (zay : Sp3) : TS3 :=
   (vSet 2 (vLst aNil))
def zcO (zay : Sp3) : TS3 :=
   (zcn (vBM "list" rApp (vVar 2) (zac (vIf (zb1 (vCB rIsi (zac (vVar 3) (zac (vC (.ty "tuple")) aNil)))) (zbC zay (zac (vVar 0) (zac (vVar 3) aNil))) (vVar 3)) aNil)))
def zeX (zay : Sp3) : TS3 :=
   (vFor (iIt rItN (vOp rIx (vVar 1) (vC (.int 1)))) (zbD 3) (zcO zay))
def zed (zay : Sp3) : TS3 :=
   (vIfS (vAnd (zaK (vOp (rEq false) (vOp rIx (vOp rIx (vVar 0) (vVar 4)) (vC (.int 0))) (vOp rIx (vOp rIx (vVar 0) (vOp rIx (vVar 1) (vC (.int 0)))) (vC (.int 0))))) (zaK (vOp (rEq false) (vOp rIx (vOp rIx (vVar 0) (vVar 4)) (vC (.int 1))) (vOp rIx (vOp rIx (vVar 0) (vOp rIx (vVar 1) (vC (.int 0)))) (vC (.int 1))))))
    (vRet (vTup (zac (vVar 4) (zac (vCB zc5 (zac (vVar 2) aNil)) aNil))))
    zbG)
def zdg (zay : Sp3) : TS3 :=
   (vFor (iR1 (zac (vCB rLen (zac (vVar 0) aNil)) aNil)) (zbD 4) (zed zay))
def zeY (zay : Sp3) : TS3 :=
   (vRet (vC .non))
def zcG (zay : Sp3) : TS3 := (vSeq (zeW zay) (vSeq (zeX zay) (vSeq (zdg zay) (zeY zay))))
abbrev zgX : List Str := ["rules", "row", "parts", "child", "k"]
def zfJ : TS3 :=
   (vSet 2 (vLst aNil))
def zdh : TS3 :=
   (zcn (vBM "list" rApp (vVar 2) (zac (vIf (zb1 (vCB rIsi (zac (vVar 3) (zac (vC (.ty "tuple")) aNil)))) (vOp rIx (vOp rIx (vVar 0) (vOp rIx (vVar 3) (vC (.int 0)))) (vC (.int 0))) (vVar 3)) aNil)))
def zfK : TS3 :=
   (vFor (iIt rItN (vSlF (vVar 1) (sPt (vC (.int 1))) sNo)) (zbD 3) zdh)
def zeZ : TS3 :=
   (vIfS (vAnd (zaK (vOp (rEq false) (vOp rIx (vOp rIx (vVar 0) (vVar 4)) (vC (.int 0))) (vOp rIx (vVar 1) (vC (.int 0))))) (zaK (vOp (rEq false) (vOp rIx (vOp rIx (vVar 0) (vVar 4)) (vC (.int 1))) (vCB zc5 (zac (vVar 2) aNil)))))
    (vRet (vTup (zac (vVar 4) (zac (vCB zc5 (zac (vSlF (vVar 1) (sPt (vC (.int 1))) sNo) aNil)) aNil))))
    zbG)
def zdS : TS3 :=
   (vFor (iR1 (zac (vCB rLen (zac (vVar 0) aNil)) aNil)) (zbD 4) zeZ)
def zdT : TS3 :=
   (vRet (vC .non))
def zdi : TS3 := (vSeq zfJ (vSeq zfK (vSeq zdS zdT)))
abbrev zgY : List Str := ["rules", "text", "pile", "word", "k", "sign", "one"]
def zfL : TS3 :=
   (vSet 2 (vLst (zac (vLst aNil) aNil)))
def zfM : TS3 :=
   (vSet 3 (vC (.str "")))
def zks : TS3 :=
    (vSeq (vIfS (zaK (vOp (rIn true) (vVar 3) (vKl ["S", "T_1", "UP_2034"])))
    (vRet (vC .non))
    zbG)
   (vSeq (zcn (vBM "list" rApp (vVar 2) (zac (vLst (zac (vVar 3) aNil)) aNil)))
   (vSet 3 (vC (.str "")))))
def zjt : TS3 :=
    (vIfS (vOr (zaK (vOp rLt (vCB rLen (zac (vVar 2) aNil)) (vC (.int 2)))) (vAnd (zaK (vOp (rEq true) (vVar 3) (vC (.str "")))) (zaK (vOp (rIn true) (vOp rIx (vVar 3) (vC (.int 0))) (vC (.str "abcdefghijklmnopqrstuvwxyz"))))))
    (vRet (vC .non))
    zbG)
def zgZ : TS3 :=
   (vIfS (vAnd (zaK (vOp (rEq false) (vVar 3) (vC (.str "")))) (vAnd (zaK (vOp (rEq true) (vOp rIx (vVar 1) (vOp rSub (vVar 4) (vC (.int 1)))) (vC (.str ")")))) (vOr (zaK (vOp (rEq false) (vVar 5) (vC (.str " ")))) (zaK (vOp (rEq true) (vOp rIx (vVar 1) (vOp rSub (vVar 4) (vC (.int 1)))) (vC (.str "(")))))))
    (vRet (vC .non))
    zbG)
def zee : TS3 :=
   (vIfS (zaK (vOp (rEq true) (vVar 3) (vC (.str ""))))
    (zcn (vBM "list" rApp (vOp rIx (vVar 2) (vUn rNeg (vC (.int 1)))) (zac (vVar 3) aNil)))
    zbG)
def zju : TS3 :=
   (vSeq (vIfS (zaK (vOp (rIs false) (vVar 6) (vC .non)))
    (vRet (vC .non))
    zbG)
   (vSeq (vSet 2 (vSl (vVar 2) sNo (sPt (vUn rNeg (vC (.int 1))))))
   (zcn (vBM "list" rApp (vOp rIx (vVar 2) (vUn rNeg (vC (.int 1)))) (zac (vVar 6) aNil)))))
def zcH : TS3 :=
   (vIfS (zaK (vOp (rEq false) (vVar 5) (vC (.str ")"))))
    (vSeq (vSet 6 (zbC zc7 (zac (vVar 0) (zac (vOp rIx (vVar 2) (vUn rNeg (vC (.int 1)))) aNil))))
   zju)
    zbG)
def zfh : TS3 :=
    (vSeq zjt
   (vSeq zgZ
   (vSeq zee
   (vSeq (vSet 3 (vC (.str "")))
   zcH))))
def zkt : TS3 :=
    (vIfS (vAnd (zaK (vOp rGt (vVar 4) (vC (.int 0)))) (zaK (vOp (rEq false) (vOp rIx (vVar 1) (vOp rSub (vVar 4) (vC (.int 1)))) (vC (.str ")")))))
    (vRet (vC .non))
    (vSet 3 (vOp zbR (vVar 3) (vVar 5))))
def ze0 : TS3 :=
   (vSeq (vSet 5 (vOp rIx (vVar 1) (vVar 4)))
   (vIfS (zaK (vOp (rEq false) (vVar 5) (vC (.str "("))))
    zks
    (vIfS (vOr (zaK (vOp (rEq false) (vVar 5) (vC (.str ")")))) (zaK (vOp (rEq false) (vVar 5) (vC (.str " ")))))
    zfh
    zkt)))
def zfN : TS3 :=
   (vFor (iR1 (zac (vCB rLen (zac (vVar 1) aNil)) aNil)) (zbD 4) ze0)
def zfO : TS3 :=
   (vRet (vIf (vAnd (zaK (vOp (rEq false) (vCB rLen (zac (vVar 2) aNil)) (vC (.int 1)))) (vAnd (zaK (vOp (rEq false) (vCB rLen (zac (vOp rIx (vVar 2) (vC (.int 0))) aNil)) (vC (.int 1)))) (zaK (vOp (rEq false) (vVar 3) (vC (.str "")))))) (vOp rIx (vOp rIx (vVar 2) (vC (.int 0))) (vC (.int 0))) (vC .non)))
def zdj : TS3 := (vSeq zfL (vSeq zfM (vSeq zfN zfO)))
abbrev zfP : List Str := ["e"]
def zcI (K : PySem.W.Frag) (c : Cl6) : TS3 :=
   (vSeq (vIfS (vOr (zb1 (vCB (zgS K) (zac (vVar 0) (zac (vC (.ref c.e)) aNil)))) (vOr (zb1 (vCB (zgS K) (zac (vVar 0) (zac (vC (.ref c.g)) aNil)))) (zb1 (vCB (zgS K) (zac (vVar 0) (zac (vC (.ref c.o)) aNil))))))
    (vRet (vC (.bl true)))
    zbG)
   (vRet (vOrV (vCB (zgS K) (zac (vVar 0) (zac (vC (.ref c.r)) aNil))) (vCB (zgS K) (zac (vVar 0) (zac (vC (.ref c.m)) aNil))))))
abbrev zrn : List Str := ["script", "rules", "ranks", "name", "tree", "text", "cell", "at", "sign", "ahead", "changed", "some", "due", "told", "caught", "e"]
def zku (K : PySem.W.Frag) (c : Cl6) : TS3 :=
   (vSet 1 (zbC zb4 (zac (vVar 0) aNil)))
def zkv (K : PySem.W.Frag) (c : Cl6) : TS3 :=
   (vSet 2 (zbC zcx (zac (vVar 1) aNil)))
def zkw (K : PySem.W.Frag) (c : Cl6) : TS3 :=
   (vSet 3 (vOp rIx (vOp rIx (vVar 1) (vOp rMod (zbC za8 (zac (vVar 0) (zac (vC (.int 9)) aNil))) (vCB rLen (zac (vVar 1) aNil)))) (vC (.int 0))))
def zkx (K : PySem.W.Frag) (c : Cl6) : TS3 :=
   (vIfS (zaK (vOp (rIn true) (vVar 3) (vVar 2)))
    (vRet (vC (.bl true)))
    zbG)
def zky (K : PySem.W.Frag) (c : Cl6) : TS3 :=
   (vSet 4 (vOp rIx (zbC zat (zac (vVar 1) (zac (vVar 2) (zac (vVar 3) (zac (vSlF (vVar 0) (sPt (vC (.int 11))) (sPt (vC (.int 22)))) (zac (vC (.int 0)) aNil)))))) (vC (.int 0))))
def zkz (K : PySem.W.Frag) (c : Cl6) : TS3 :=
   (vSet 5 (zbC zbm (zac (vCB zd4 (zac (vVar 1) aNil)) (zac (vVar 4) aNil))))
def zkA (K : PySem.W.Frag) (c : Cl6) : TS3 :=
   (vIfS (vOr (vNot (zb1 (vCB rIsi (zac (vVar 5) (zac (vC (.ty "str")) aNil))))) (zaK (vOp (rEq true) (vVar 5) (zbC zaJ (zac (vVar 1) (zac (vVar 4) aNil))))))
    (vRet (vC (.bl false)))
    zbG)
def zkB (K : PySem.W.Frag) (c : Cl6) : TS3 :=
   (vIfS (zaK (vOp (rEq true) (zbC (zuD zby) (zac (vCB zd4 (zac (vVar 1) aNil)) (zac (vVar 5) aNil))) (zbC zay (zac (vVar 1) (zac (vVar 4) aNil)))))
    (vRet (vC (.bl false)))
    zbG)
def zg0 (K : PySem.W.Frag) (c : Cl6) : TS3 :=
   (vSet 6 (zbC za8 (zac (vVar 0) (zac (vC (.int 10)) aNil))))
def zg1 (K : PySem.W.Frag) (c : Cl6) : TS3 :=
   (vSet 7 (vOp rMod (vOp zd2 (vVar 6) (vC (.int 3))) (vOp zbR (vCB rLen (zac (vVar 5) aNil)) (vC (.int 1)))))
def zfQ (K : PySem.W.Frag) (c : Cl6) : TS3 :=
   (vSet 8 (vOp rIx (vC (.str "abcSTUP() A_1203x")) (vOp rMod (vOp zd2 (vVar 6) (vC (.int 3000))) (vC (.int 17)))))
def zfR (K : PySem.W.Frag) (c : Cl6) : TS3 :=
   (vSet 9 (vSlG (vVar 5) sNo (sPt (vVar 7))))
def zfS (K : PySem.W.Frag) (c : Cl6) : TS3 :=
   (vSet 10 (vOp rIx (zi2 (zac (vOp zbR (vOp zbR (vVar 9) (vVar 8)) (vSlG (vVar 5) (sPt (vVar 7)) sNo)) (zac (vOp zbR (vVar 9) (vSlG (vVar 5) (sPt (vOp zbR (vVar 7) (vC (.int 1)))) sNo)) (zac (vOp zbR (vOp zbR (vVar 9) (vVar 8)) (vSlG (vVar 5) (sPt (vOp zbR (vVar 7) (vC (.int 1)))) sNo)) aNil)))) (vOp rMod (vVar 6) (vC (.int 3)))))
def zfT (K : PySem.W.Frag) (c : Cl6) : TS3 :=
   (vIfS (zaK (vOp (rEq false) (vOp rMod (vOp zd2 (vVar 6) (vC (.int 60000))) (vC (.int 3))) (vC (.int 0))))
    (vSeq (vSet 11 (vKl ["", "a", "S", "(", ")", " ", "S(", "(a)", "S()a", "a()", "S() ", "T_(a)", "T_1", "()"]))
   (vSet 10 (vOp rIx (vVar 11) (vOp rMod (vOp zd2 (vVar 6) (vC (.int 180000))) (vC (.int 14))))))
    zbG)
def zfU (K : PySem.W.Frag) (c : Cl6) : TS3 :=
   (vSet 12 (zbC zc8 (zac (vVar 1) (zac (vVar 10) aNil))))
def zef (K : PySem.W.Frag) (c : Cl6) : TS3 :=
   (vSet 13 (vC .non))
def zeg (K : PySem.W.Frag) (c : Cl6) : TS3 :=
   (vSet 14 (vC .non))
def zeh (K : PySem.W.Frag) (c : Cl6) : TS3 :=
   (zmy zby (zac (vCB zd4 (zac (vVar 1) aNil)) (zac (vVar 10) aNil)) 13 14 15 (clOf c))
def zei (K : PySem.W.Frag) (c : Cl6) : TS3 :=
   (vIfS (zaK (vOp (rIs true) (vVar 12) (vC .non)))
    (vRet (zf9 (vOp (rIs false) (vVar 14) (vC .non)) (vOp (rEq false) (vVar 13) (vVar 12))))
    zbG)
def zfV (K : PySem.W.Frag) (c : Cl6) : TS3 :=
   (vRet (zf9 (vCB (zgS K) (zac (vVar 14) (zac (vC (.ref c.t)) aNil))) (zf9 (vCB (zgS K) (zac (vVar 14) (zac (vC (.ty "ValueError")) aNil))) (znQ (zbC (zcy c) (zac (vVar 14) aNil))))))
def zh7 (K : PySem.W.Frag) (c : Cl6) : TS3 := (vSeq (zku K c) (vSeq (zkv K c) (vSeq (zkw K c) (vSeq (zkx K c) (vSeq (zky K c) (vSeq (zkz K c) (vSeq (zkA K c) (vSeq (zkB K c) (vSeq (zg0 K c) (vSeq (zg1 K c) (vSeq (zfQ K c) (vSeq (zfR K c) (vSeq (zfS K c) (vSeq (zfT K c) (vSeq (zfU K c) (vSeq (zef K c) (vSeq (zeg K c) (vSeq (zeh K c) (vSeq (zei K c) (zfV K c))))))))))))))))))))
theorem zg2 : ∀ ws M R, zbM ws M R → ws.length = 2 := by rintro ws M R ⟨_, _, rfl, _⟩; rfl
theorem zg3 : ∀ ws M R, zb3 ws M R → ws.length = 1 := by rintro ws M R ⟨_, rfl, _⟩; rfl
theorem zgf : ∀ ws M R, zbm ws M R → ws.length = 2 := by rintro ws M R ⟨_, _, _, rfl, _⟩; rfl
theorem zfa {P : Program} {w : World} : ∀ ws M R, zbt P w ws M R → ws.length = 1 := by rintro ws M R ⟨_, rfl, _⟩; rfl
theorem zh8 {P : Program} {w : World} : ∀ ws M R, zbH P w ws M R → ws.length = 4 := by rintro ws M R ⟨_, _, _, _, _, rfl, _⟩; rfl
theorem zdU : ∀ ws M R, zaX ws M R → ws.length = 2 := by rintro ws M R ⟨_, _, rfl, _⟩; rfl
theorem zgg : ∀ ws M R, zby ws M R → ws.length = 2 := by rintro ws M R ⟨_, _, rfl, _⟩; rfl
theorem zjv : ∀ ws M R, zbZ ws M R → ws.length = 2 := by rintro ws M R ⟨_, _, rfl, _⟩; rfl
theorem zg4 : ∀ ws M R, zb4 ws M R → ws.length = 1 := by rintro ws M R ⟨_, rfl, _⟩; rfl
theorem zjw : ∀ ws M R, zcx ws M R → ws.length = 1 := by rintro ws M R ⟨_, rfl, _⟩; rfl
theorem zjx : ∀ n ws M R, zaD n ws M R → ws.length = 5
 | 0, _, _, _, h => h.elim
 | n + 1, ws, M, R, h => by obtain ⟨_, _, _, _, _, rfl, _⟩ := h; rfl
theorem zjy : ∀ n ws M R, zbI n ws M R → ws.length = 2
 | 0, _, _, _, h => h.elim
 | n + 1, ws, M, R, h => by obtain ⟨_, _, _, rfl, _⟩ := h; rfl
theorem zjz : ∀ n ws M R, zbn n ws M R → ws.length = 2
 | 0, _, _, _, h => h.elim
 | n + 1, ws, M, R, h => by obtain ⟨_, _, _, rfl, _⟩ := h; rfl
theorem zk2 : ∀ ws M R, zc7 ws M R → ws.length = 2 := by rintro ws M R ⟨_, _, _, _, rfl, _⟩; rfl
theorem zk3 : ∀ ws M R, zc8 ws M R → ws.length = 2 := by rintro ws M R ⟨_, _, rfl, _⟩; rfl
theorem zjA {c : Cl6} : ∀ ws M R, zcy c ws M R → ws.length = 1 := by rintro ws M R ⟨_, rfl, _⟩; rfl
theorem zro : ∀ ws M R, zmW ws M R → ws.length = 1 := by rintro ws M R ⟨_, rfl, _⟩; rfl
end Rg
namespace Rg
open PySem PySem.Spec PyProof.Rows L2 L3
theorem zgh {ws : List W} {M : Mm} {R : K3} (h : zbM ws M R) : zb5 (zaP R) (zbe zdO ws) M := by
 obtain ⟨z, g, rfl, hz, r⟩ := h
 show zb5 (zaP R) [some (.str z), some (.str g)] M
 have em : zgJ z g = (!decide (V.str z = V.str "") && (cs z).all fun c => decide (c ∈ cs g)) := rfl
 rw [dStr] at em
 simp? only [zb5]
 by_cases hc : z = ""
 ·rw [decide_eq_true hc] at em
  simp? only [hc]
  rw [if_neg (by simp)]
  simp at em; rw [em] at r
  exact ⟨_, Sub.refl _, r⟩
 ·rw [decide_eq_false hc] at em
  rw [if_pos hc]
  refine map1 (rest := [some (.str g)]) (fun w => match w with | .str x => .bl (occ x g) | _ => .non) (L3.small (by simp; have := zaS z; unfold cs at this; simp at this; omega)) (fun _ _ => trivial) (fun w hw M' C sb h1 => ?_) (New.frz ?_)
  ·obtain ⟨c, _, rfl⟩ := List.mem_map.mp hw
   simp? only [L3.rIn]
   exact h1
  ·simp? only [L3.rAll]
   refine ⟨(cs z).map fun c => decide (c ∈ cs g), ?_, _, Sub.refl _, ?_⟩
   ·unfold bools
    rw [List.map_map, List.map_map]
    refine List.map_congr_left fun c _ => ?_
    show W.bl (occ ⟨#[c]⟩ g) = _
    rw [zmo]; rfl
   ·rw [List.all_map]
    simp at em
    have e2 : (cs z).all (id ∘ fun c => decide (c ∈ cs g)) = zgJ z g := by rw [Bool.eq_iff_iff]; simp [em]
    rw [e2]; exact r
theorem zgi {ws : List W} {M : Mm} {R : K3} (h : zb3 ws M R) : zb6 (zaP R) (zbe zdP ws) M := by
 obtain ⟨z, rfl, hz, r⟩ := h
 show zb6 (zaP R) [some (.str z), none, none] M
 obtain ⟨h1, h3⟩ := zoe z
 have e := zmp z
 simp? only [zb6, zdv, zdw, zdx, L3.zqf]
 refine ⟨by decide +kernel, by omega, ?_⟩
 by_cases hc : (Txt.partition z "_").2.1 = ""
 ·rw [if_pos hc]
  refine ⟨_, _, rfl, by omega, _, Sub.refl _, ?_⟩
  rw [decide_eq_true hc, Bool.true_or, Bool.true_and] at e
  rw [← e]; exact r
 ·rw [if_neg hc]
  rw [decide_eq_false hc, Bool.false_or] at e
  refine ⟨_, _, rfl, by omega, _, rfl, ?_⟩
  split
  ·rename_i hb
   rw [show zgJ (Txt.partition z "_").2.2 FIGS = true from hb, Bool.true_and] at e
   refine ⟨_, _, rfl, by omega, _, Sub.refl _, ?_⟩
   rw [← e]; exact r
  ·rename_i hb
   rw [show zgJ (Txt.partition z "_").2.2 FIGS = false by simpa using hb, Bool.false_and] at e
   rw [← e]; exact ⟨_, Sub.refl _, r⟩
theorem zmX (nm : Str) (ps : List Str) : keyW [] (nkey nm ps) = .tup [.str nm, .tup (ps.map W.str)] := by
 unfold keyW nkey
 rw [List.map_map]; rfl
theorem zfW : ∀ {b d : List Str}, b.map (Sum.inr : Str → Key) = d.map Sum.inr → b = d
 | [], [], _ => rfl
 | [], _ :: _, h => by cases h
 | _ :: _, [], h => by cases h
 | x :: b, y :: d, h => by
  simp only [List.map_cons, List.cons.injEq, Sum.inr.injEq] at h
  rw [h.1, zfW h.2]
theorem zox {a c : Str} {b d : List Str} (h : nkey a b = nkey c d) : a = c ∧ b = d := by
 unfold nkey at h
 rw [Prod.mk.injEq, Sum.inr.injEq] at h
 exact ⟨h.1, zfW h.2⟩
theorem zcP (r : Rule) : ∀ (a : List Rule) (k : Nat) (acc : List (NKey × W)), zbr (a ++ [r]) k acc = zh6 (k + a.length) r (zbr a k acc)
 | [], k, acc => by simp [zbr]
 | x :: a, k, acc => by
  rw [List.cons_append, zbr, zbr, zcP r a, List.length_cons, Nat.add_assoc, Nat.add_comm 1]
theorem zmY (k : Nat) (r : Rule) (acc : List (NKey × W)) : (zh6 k r acc).length ≤ acc.length + 1 := by
 unfold zh6
 split
 ·omega
 ·simp
theorem ze1 : ∀ (rs : List Rule) (k : Nat) (acc : List (NKey × W)), (zbr rs k acc).length ≤ acc.length + rs.length
 | [], k, acc => by simp [zbr]
 | r :: rs, k, acc => by
  rw [zbr]
  have h1 := ze1 rs (k + 1) (zh6 k r acc)
  have h2 := zmY k r acc
  rw [List.length_cons]
  omega
theorem zkC {acc : List (NKey × W)} {x y : NKey} {v : W} : zbg (acc ++ [(y, v)]) x = (zbg acc x).or (if y = x then some v else none) := by
 unfold zbg
 rw [List.find?_append]
 cases acc.find? fun kv => decide (kv.1 = x) with
 | some q => rfl
 | none =>
  by_cases e : y = x
  ·simp [e]
  ·simp [e]
theorem zh9 (nm : Str) (ps : List Str) : ∀ (rs : List Rule) (k : Nat) (acc : List (NKey × W)), zbg (zbr rs k acc) (nkey nm ps) = (zbg acc (nkey nm ps)).or ((frst nm ps rs k).map fun j => W.int j)
 | [], k, acc => by simp [zbr, frst]
 | r :: rs, k, acc => by
  rw [zbr, zh9 nm ps rs (k + 1), frst, zh6]
  by_cases e : r.name = nm ∧ r.parts = ps
  ·obtain ⟨rfl, rfl⟩ := e
   rw [if_pos ⟨rfl, rfl⟩]
   cases h : zbg acc (nkey r.name r.parts) with
   | some v => simp [h]
   | none => simp [zkC, h]
  ·rw [if_neg e]
   have hne : nkey r.name r.parts ≠ nkey nm ps := fun h => e (zox h)
   cases h : zbg acc (nkey r.name r.parts) with
   | some v => simp
   | none => simp [zkC, hne]
theorem zmZ (rs : List Rule) (nm : Str) (ps : List Str) : zbg (zgu rs) (nkey nm ps) = (frst nm ps rs 0).map fun j => W.int j := by
 unfold zgu
 rw [zh9]; simp [zbg]
theorem enumW_get : ∀ {ws : List W} {n i : Nat} {w : W}, (zd7 n ws)[i]? = some w → ∃ x, ws[i]? = some x ∧ w = .tup [.int (n + i : Nat), x]
 | [], n, i, w, h => by simp [zd7] at h
 | x :: ws, n, 0, w, h => by simp [zd7] at h; exact ⟨x, rfl, by simp [← h]⟩
 | x :: ws, n, i + 1, w, h => by
  rw [zd7, List.getElem?_cons_succ] at h
  obtain ⟨y, h1, h2⟩ := enumW_get h
  exact ⟨y, by simpa using h1, by rw [h2]; simp; omega⟩
theorem zez {P : Program} {w : World} {ws : List W} {M : Mm} {R : K3} (h : zbt P w ws M R) : zbu P w (zaP R) (zbe zcu ws) M := by
 obtain ⟨rs, rfl, hl, r⟩ := h
 show zbu P w (zaP R) [some (rlW rs), none, none, none] M
 simp? only [zbu, zcz, zcA, L3.zq9, L3.zet, rlW]
 intro p hp
 refine for3 (fun i τ M' => ∃ o2 o3, τ = [some (.rl (rs.map zbh)), some (.ref p), o2, o3] ∧ M' = put M p (.dn P w [] (zbr (rs.take i) 0 []))) ⟨_, _, rfl, rfl⟩ (fun _ _ _ _ _ => trivial) ?_ ?_
 ·rintro i w' τ M' hw ⟨o2, o3, rfl, rfl⟩
  obtain ⟨x, hx, rfl⟩ := enumW_get hw
  rw [List.getElem?_map] at hx
  obtain ⟨q, hq, rfl⟩ := Option.map_eq_some_iff.mp hx
  have hi := (List.getElem?_eq_some_iff.mp hq).1
  have ht : rs.take (i + 1) = rs.take i ++ [q] := by rw [List.take_add_one, hq]; rfl
  have hn := ze1 (rs.take i) 0 []
  rw [List.length_take, List.length_nil] at hn
  simp? only [zcs, L3.zrb, zbh, Nat.zero_add]
  refine ⟨⟨p, _, rfl, zaj⟩, p, _, nkey q.name q.parts, rfl, zaj, (zmX _ _).symm, zmd (by omega), fun w0 h0 => ?_, fun h0 => ?_⟩
  ·refine ⟨_, Sub.refl _, _, _, rfl, ?_⟩
   rw [ht, zcP, zh6, h0]
  ·refine ⟨_, Sub.refl _, _, _, rfl, ?_⟩
   rw [zeq, ht, zcP, zh6, h0, List.length_take, Nat.min_eq_left (by omega), Nat.zero_add]
 ·rintro τ M' ⟨o2, o3, rfl, rfl⟩
  rw [zd8, List.length_map, List.take_length]
  simp? only [zcB]
  exact ⟨_, Sub.refl _, r p hp⟩
theorem ztu (ws : List W) : NM (.tup ws) := fun n z => W.noConfusion z
theorem nm_w (t : Tr) : NM t.w := by cases t <;> exact fun n z => by simp [Tr.w] at z
def fNm : W → W
 | .str t => .bl (zdI t)
 | _ => .bl false
theorem zpc (c : Tr) : fNm c.w = .bl c.isNm := by cases c <;> simp [Tr.w, fNm, Tr.isNm]
def fLab (rs : List Rule) : W → W
 | .str t => .str t
 | .tup (.int n :: _) => .str (nmOf rs n)
 | _ => .non
theorem zm0 (rs : List Rule) (c : Tr) : fLab rs c.w = .str (c.lab rs) := by cases c <;> simp [Tr.w, fLab, Tr.lab]
theorem zcl {rs : List Rule} {j : Nat} {r : Rule} (h : rs[j]? = some r) : atI (rs.map zbh) (j : Int) = some (zbh r) := zeo (by rw [List.getElem?_map, h]; rfl)
theorem zg5 {P : Program} {w : World} {ws : List W} {M : Mm} {R : K3} (h : zbH P w ws M R) : zch P w (zaP R) (zbe zfD ws) M := by
 obtain ⟨rs, a, q, nm, ch, rfl, ha, hq, hk, hl, r0, r1⟩ := h
 show zch P w (zaP R) [some (rlW rs), some (.ref a), some nm.w, some (.ref q), none] M
 obtain ⟨T1, hT1⟩ : ∃ x, x = vSeq (zdd P w) (vSeq (zde P w) (zct P w)) := ⟨_, rfl⟩
 simp? only [zch, zeJ]
 rw [← hT1]
 refine ⟨_, hq, ?_⟩
 refine map1 fNm (L3.small (by rw [List.length_map]; omega)) (fun M' sb => sb _ _ hq) (fun x hx M' C sb h1 => ?_) (New.frz ?_)
 ·obtain ⟨c, hc, rfl⟩ := List.mem_map.mp hx
  rw [zpc] at h1
  simp? only []
  refine ⟨c, rfl, ?_⟩
  cases c with
  | wd t => simp? only [Tr.isNd, Tr.w]; exact ⟨t, rfl, hk _ hc, h1⟩
  | nd n c => simp? only [Tr.isNd, Tr.w]; exact h1
 ·have eb : (tw ch).map fNm = bools (ch.map Tr.isNm) := by
   unfold bools
   rw [List.map_map, List.map_map]
   exact List.map_congr_left fun c _ => zpc c
  simp? only [L3.rAny, eb]
  refine ⟨_, rfl, ?_⟩
  have ea : (ch.map Tr.isNm).any id = ch.any Tr.isNm := by rw [List.any_map]; rfl
  rw [ea]
  by_cases hany : ch.any Tr.isNm = true
  ·rw [if_pos hany]
   simp? only [L3.zcc]
   exact ⟨_, Sub.refl _, r0 (by unfold knot; rw [if_pos hany])⟩
  ·rw [if_neg hany]
   subst hT1
   simp? only [zdd]
   refine ⟨_, hq, ?_⟩
   refine map1 (rest := [some (rlW rs)]) (fLab rs) (L3.small (by rw [List.length_map]; omega)) (fun M' sb => sb _ _ hq) (fun x hx M' C sb h1 => ?_) (New.frz ?_)
   ·obtain ⟨c, hc, rfl⟩ := List.mem_map.mp hx
    rw [zm0] at h1
    simp? only []
    refine ⟨c, rfl, ?_⟩
    cases c with
    | wd t => simp? only [Tr.isNd, Tr.w]; exact h1
    | nd n c =>
     obtain ⟨j, q', rfl, hj⟩ := hk _ hc
     rw [Tr.lab, zcw hj] at h1
     simp? only [Tr.isNd, Tr.w, rlW, zcl hj, zbh]
     exact h1
   ·have el : (tw ch).map (fLab rs) = (ch.map (Tr.lab rs)).map W.str := by
     rw [List.map_map, List.map_map]
     exact List.map_congr_left fun c _ => zm0 rs c
    simp? only [el]
    have ret : ∀ t, nm = .wd t → zcZ rs ch t ≠ none → zct P w (zaP R) [some (rlW rs), some (.ref a), some nm.w, some (.ref q), some (.tup ((ch.map (Tr.lab rs)).map W.str))] M := by
     rintro t rfl hn
     unfold zcZ at hn
     cases hf : frst t (ch.map (Tr.lab rs)) rs 0 with
     | none => rw [hf] at hn; exact absurd rfl hn
     | some k =>
      simp? only [zct, L3.zjl, L3.rIxN, Tr.w]
      refine ⟨a, _, nkey t (ch.map (Tr.lab rs)), .int k, rfl, ha, (zmX _ _).symm, by rw [zmZ, hf]; rfl, _, hq, ztu _, _, Sub.refl _, ?_⟩
      have := r1 (.nd k ch) (by unfold knot; rw [if_neg hany]; simp only [zcZ, hf])
      rw [Tr.w, zdu] at this
      exact this
    simp? only [zde]
    refine ⟨nm, rfl, ?_⟩
    cases nm with
    | nd n c =>
     simp? only [Tr.isNd, L3.zcc]
     exact ⟨_, Sub.refl _, r0 (by unfold knot; rw [if_neg hany])⟩
    | wd t =>
     simp? only [Tr.isNd, Tr.w, L3.rInN]
     refine ⟨a, _, nkey t (ch.map (Tr.lab rs)), rfl, ha, (zmX _ _).symm, ?_⟩
     rw [zmZ]
     cases hf : frst t (ch.map (Tr.lab rs)) rs 0 with
     | none =>
      simp? only [L3.zcc, Option.map_none, Option.isSome_none]
      exact ⟨_, Sub.refl _, r0 (by unfold knot; rw [if_neg hany]; simp only [zcZ, hf])⟩
     | some k =>
      exact ret t rfl (by unfold zcZ; rw [hf]; simp)
end Rg
namespace Rg
open PySem PySem.Spec PyProof.Rows L2 L3
def shw (rs : List Rule) : List Tr → List Nat
 | [] => []
 | c :: r => c.sh rs ++ shw rs r
theorem zm1 (rs : List Rule) : ∀ a b : List Tr, shw rs (a ++ b) = shw rs a ++ shw rs b
 | [], b => rfl
 | c :: a, b => by rw [List.cons_append, shw, shw, zm1 rs a b, List.append_assoc]
mutual
def Tr.ms : Tr → Nat
 | .wd _ => 1
 | .nd _ c => 2 + Tr.mss c
def Tr.mss : List Tr → Nat
 | [] => 0
 | c :: r => c.ms + 1 + Tr.mss r
end
def msW : List Tr → Nat
 | [] => 0
 | c :: r => c.ms + msW r
theorem zpd : ∀ c : Tr, 0 < c.ms
 | .wd _ => by simp [Tr.ms]
 | .nd _ _ => by rw [Tr.ms]; omega
theorem zm2 : ∀ l : List Tr, l.length ≤ msW l
 | [] => Nat.le_refl _
 | c :: r => by have := zpd c; have := zm2 r; rw [msW, List.length_cons]; omega
theorem zjB : ∀ a b : List Tr, msW (a ++ b) = msW a + msW b
 | [], b => by simp [msW]
 | c :: a, b => by rw [List.cons_append, msW, msW, zjB a b]; omega
def spc : List Tr → List Tr
 | [] => []
 | c :: r => .wd " " :: c :: spc r
theorem ztv : cs (" " : Str) = [32] := by decide +kernel
theorem zm3 (rs : List Rule) : ∀ c : List Tr, shw rs (spc c) = Tr.shr rs c
 | [] => rfl
 | c :: r => by rw [spc, shw, shw, zm3 rs r, Tr.shr, Tr.sh, ztv]; rfl
theorem zoy (rs : List Rule) : ∀ c : List Tr, shw rs ((spc c).drop 1) = (Tr.shr rs c).drop 1
 | [] => rfl
 | c :: r => by rw [spc, List.drop_succ_cons, List.drop_zero, shw, zm3, Tr.shr]; rfl
theorem zm4 : ∀ c : List Tr, msW (spc c) = Tr.mss c
 | [] => rfl
 | c :: r => by rw [spc, msW, msW, zm4 r, Tr.mss, Tr.ms]; omega
theorem zoz : ∀ c : List Tr, msW ((spc c).drop 1) ≤ Tr.mss c
 | [] => Nat.le_refl _
 | c :: r => by rw [spc, List.drop_succ_cons, List.drop_zero, msW, zm4, Tr.mss]; omega
theorem zm5 {rs : List Rule} : ∀ c : List Tr, (∀ x ∈ c, x.ms ≤ 2 * (x.sh rs).length) → Tr.mss c ≤ 2 * (Tr.shr rs c).length
 | [], _ => Nat.zero_le _
 | c :: r, h => by
  have h1 := h c (by simp)
  have h2 := zm5 r fun x hx => h x (List.mem_cons_of_mem _ hx)
  rw [Tr.mss, Tr.shr, List.length_cons, List.length_append]
  omega
mutual
theorem ztw {rs : List Rule} (g : Gr rs) : ∀ c : Tr, Byr rs c → c.ms ≤ 2 * (c.sh rs).length
 | .wd t, h => by
  cases h with
  | wd h => rw [Tr.ms, Tr.sh, zjr t h]; omega
 | .nd n c, h => by
  cases h with
  | @nd n r _ hr hp hc =>
   have h1 := zm5 c (zpe g c hc)
   have h2 : 0 < (cs r.name).length := by
    have := (zko _ (g.nm r (List.mem_of_getElem? hr))).2
    exact List.length_pos_iff.mpr this
   rw [Tr.ms, Tr.sh, zcw hr]
   simp only [List.length_append, List.length_cons, List.length_drop, List.length_nil]
   omega
theorem zpe {rs : List Rule} (g : Gr rs) : ∀ c : List Tr, (∀ x ∈ c, Byr rs x) → ∀ x ∈ c, x.ms ≤ 2 * (x.sh rs).length
 | [], _ => fun x hx => nomatch hx
 | c :: r, h => fun x hx => by
  have h1 := ztw g c (h c (by simp))
  have h2 := zpe g r fun x hx => h x (List.mem_cons_of_mem _ hx)
  rcases List.mem_cons.mp hx with q | q
  ·rw [q]; exact h1
  ·exact h2 x q
end
def Wi (rs : List Rule) : Tr → Prop
 | .wd s => s.length ≤ 8
 | .nd n c => Byr rs (.nd n c)
theorem ztx {rs : List Rule} : ∀ {c : Tr}, Byr rs c → Wi rs c
 | .wd t, h => by
  cases h with
  | wd h =>
   have := zjr t h
   rw [zaS] at this
   show t.length ≤ 8
   omega
 | .nd n c, h => h
theorem zm6 {rs : List Rule} : ∀ {c : List Tr}, (∀ x ∈ c, Byr rs x) → ∀ x ∈ spc c, Wi rs x
 | [], _, x, h => nomatch h
 | c :: r, hc, x, h => by
  rw [spc] at h
  rcases List.mem_cons.mp h with q | h
  ·rw [q]; show (" " : Str).length ≤ 8; decide +kernel
  ·rcases List.mem_cons.mp h with q | h
   ·rw [q]; exact ztx (hc c (by simp))
   ·exact zm6 (fun x hx => hc x (List.mem_cons_of_mem _ hx)) x h
abbrev rw_ (l : List Tr) : List W := tw l.reverse
theorem zjC (c : Tr) (l : List Tr) : rw_ l ++ [c.w] = rw_ (c :: l) := by
 unfold rw_ tw
 rw [List.reverse_cons, List.map_append]; rfl
theorem zpf (s : Str) (l : List Tr) : rw_ l ++ [W.str s] = rw_ (.wd s :: l) := by rw [← zjC, Tr.w]
theorem zm7 (l : List Tr) : (rw_ l).length = l.length := by simp
def csl (ds : List Str) : List Nat := (ds.map cs).flatten
theorem zm8 (a : List Str) (s : Str) : csl (a ++ [s]) = csl a ++ cs s := by simp [csl]
theorem zia : ∀ l : List (List Nat), (l.intersperse []).flatten = l.flatten
 | [] => rfl
 | [x] => rfl
 | x :: y :: r => by
  have := zia (y :: r)
  simp only [List.intersperse, List.flatten_cons, List.nil_append] at this ⊢
  rw [this]
theorem zrp : cs ("" : Str) = [] := by decide +kernel
theorem zoA (ds : List Str) : Str.join "" ds = toS (csl ds) := by
 refine zfr ?_
 rw [zgW, zbL, zrp, zia]; rfl
theorem zty {c : List Tr} {k : Nat} {x : Tr} (h : c[k]? = some x) : atI (Tr.ws c) (k : Int) = some x.w := zeo (by rw [zdu, List.getElem?_map, h]; rfl)
theorem zm9 {lo : Int} {n i : Nat} {w : W} (h : (zge lo n)[i]? = some w) : i < n ∧ w = .int (lo - i) := by
 unfold zge at h
 rw [List.getElem?_map] at h
 obtain ⟨j, hj, rfl⟩ := Option.map_eq_some_iff.mp h
 obtain ⟨h1, h2⟩ := List.getElem?_eq_some_iff.mp hj
 simp at h1 h2
 subst h2
 exact ⟨h1, by congr 1; omega⟩
def lift (c : List Tr) (i : Nat) : List Tr := if i = c.length then (spc c).drop 1 else spc (c.drop (c.length - i))
theorem zuE (c : List Tr) : lift c 0 = [] := by
 unfold lift
 split
 ·rename_i h
  have : c = [] := List.length_eq_zero_iff.mp h.symm
  rw [this]; rfl
 ·rw [Nat.sub_zero, List.drop_length]; rfl
theorem zna {c : List Tr} {i : Nat} (hi : i < c.length) {x : Tr} (hx : c[c.length - 1 - i]? = some x) : lift c (i + 1) = (if 0 < c.length - 1 - i then .wd " " :: x :: lift c i else x :: lift c i) := by
 obtain ⟨h1, h2⟩ := List.getElem?_eq_some_iff.mp hx
 have hd : c.drop (c.length - 1 - i) = x :: c.drop (c.length - i) := by
  rw [List.drop_eq_getElem_cons h1, h2, show c.length - 1 - i + 1 = c.length - i by omega]
 unfold lift
 rw [if_neg (Nat.ne_of_lt hi)]
 by_cases hk : 0 < c.length - 1 - i
 ·rw [if_neg (by omega), if_pos hk, show c.length - (i + 1) = c.length - 1 - i by omega, hd, spc]
 ·rw [if_pos (by omega), if_neg hk]
  have h0 : c.length - 1 - i = 0 := by omega
  rw [h0, List.drop_zero] at hd
  have h3 : (spc c).drop 1 = x :: spc (c.drop (c.length - i)) := by
   conv => lhs; rw [hd, spc]
   rfl
  exact h3
theorem zoB {rs : List Rule} {c : List Tr} (hc : ∀ x ∈ c, Byr rs x) (i : Nat) : ∀ x ∈ lift c i, Wi rs x := fun x hx => by
 unfold lift at hx
 split at hx
 ·exact zm6 hc x (List.mem_of_mem_drop hx)
 ·exact zm6 (fun y hy => hc y (List.mem_of_mem_drop hy)) x hx
theorem zjD : ∀ c : List Tr, (spc c).length = 2 * c.length
 | [] => rfl
 | c :: r => by rw [spc, List.length_cons, List.length_cons, zjD r, List.length_cons]; omega
theorem zoC (c : List Tr) (i : Nat) : (lift c i).length ≤ 2 * c.length := by
 unfold lift
 split
 ·rw [List.length_drop, zjD]; omega
 ·rw [zjD, List.length_drop]; omega
theorem zfX {ws : List W} {M : Mm} {R : K3} (h : zbm ws M R) : zbT (zaP R) (zbe zc9 ws) M := by
 obtain ⟨rs, n0, c0, rfl, g, hb, hl, r⟩ := h
 generalize ht : Tr.nd n0 c0 = t at *
 show zbT (zaP R) [some (rlW rs), some t.w, none, none, none, none] M
 have hms := ztw g t hb
 simp? only [zbT, zda, zdb]
 intro p hp q hq
 have hpq : p ≠ q := fun e => by subst e; rw [zaj] at hq; cases hq
 have hqM : M q = none := by rw [za7 (Ne.symm hpq)] at hq; exact hq
 refine ⟨fun m τ M' => ∃ (done : List Str) (wait : List Tr) (o4 o5 : Option W), τ = [some (rlW rs), some t.w, some (.ref p), some (.ref q), o4, o5] ∧ M' = put (put M p (.lst (done.map W.str))) q (.lst (rw_ wait)) ∧
   csl done ++ shw rs wait = t.sh rs ∧ msW wait = m ∧ done.length + msW wait ≤ 2000000 ∧ (∀ x ∈ wait, Wi rs x) ∧ ∀ s ∈ done, s.length ≤ 8,
  ⟨_, [], [t], none, none, rfl, rfl, by simp [csl, shw], rfl, by simp only [msW, List.length_nil]; omega, fun x hx => by rw [List.mem_singleton.mp hx]; exact ztx hb, fun s hs => nomatch hs⟩, ?_⟩
 rintro m τ M' ⟨done, wait, o4, o5, rfl, rfl, h1, h2, h3, h4, h5⟩
 simp? only []
 cases wait with
 | nil =>
  simp? only [rw_, tw, List.reverse_nil, List.isEmpty_nil]
  simp? only [zdc, L3.zms, za7 hpq]
  rw [shw, List.append_nil] at h1
  refine ⟨done, rfl, ⟨8, h5, ?_⟩, ?_⟩
  ·have : ("" : Str).length = 0 := by decide +kernel
   rw [this]; omega
  ·rw [zoA, h1]
   exact ⟨_, (Sub.new hp).trans (Sub.new (by rw [za7 (Ne.symm hpq)]; exact hqM)), r⟩
 | cons c wait =>
  rw [← zjC, if_pos (by cases rw_ wait <;> rfl)]
  have hcw := h4 c (by simp)
  have hww : ∀ x ∈ wait, Wi rs x := fun x hx => h4 x (List.mem_cons_of_mem _ hx)
  have hwl := zm2 wait
  rw [msW] at h2 h3
  rw [shw] at h1
  have hmp := zpd c
  simp? only [zcW]
  refine ⟨_, _, rfl, c, rfl, ?_⟩
  cases c with
  | wd x =>
   rw [Tr.sh] at h1
   rw [Tr.ms] at h2 h3
   simp? only [Tr.isNd, Tr.w, za7 hpq, zka hpq]
   refine ⟨L3.zmd (by rw [List.length_map]; omega), _, _, ?_, Sub.refl _, done ++ [x], wait, _, _, rfl, by rw [List.map_append]; rfl, by rw [zm8, List.append_assoc]; exact h1, rfl, by rw [List.length_append, List.length_singleton]; omega, hww, fun s hs => ?_⟩
   ·omega
   ·rcases List.mem_append.mp hs with z | z
    ·exact h5 s z
    ·rw [List.mem_singleton.mp z]; exact hcw
  | nd n k =>
   rw [Tr.ms] at h2 h3
   cases (show Byr rs (.nd n k) from hcw) with
   | @nd j q0 _ hj hpt hck =>
    have hn7 : q0.name.length ≤ 7 := by have := zmS _ (g.nm q0 (List.mem_of_getElem? hj)); rw [zaS] at this; exact this
    have hop : ("(" : Str).length = 1 := by decide +kernel
    have hna : (q0.name ++ ("(" : Str)).length = q0.name.length + 1 := by rw [strLen_append, hop]
    simp? only [Tr.isNd, Tr.w, rlW, zcl hj, zbh, za7 hpq, zka hpq]
    have h31 : k.length ≤ 3 := by
     have := g.few q0 (List.mem_of_getElem? hj)
     rw [← hpt, List.length_map] at this
     exact this
    refine ⟨by rw [hop]; omega, by rw [List.length_map]; omega, by rw [zm7]; omega, ?_⟩
    simp? only [L3.iRD]
    have hkl : (Tr.ws k).length = k.length := by rw [zdu, List.length_map]
    refine ⟨((Tr.ws k).length : Int) - 1, -1, rfl, ⟨by omega, by omega, by omega, by omega⟩, ?_⟩
    have hmd : zgd (((Tr.ws k).length : Int) - 1) (-1) = k.length := by unfold zgd; omega
    rw [hmd, zpf]
    refine for3 (fun i τ M' => ∃ o5, τ = [some (.rl (rs.map zbh)), some t.w, some (.ref p), some (.ref q), some (.tup [.int j, .tup (Tr.ws k)]), o5] ∧
     M' = put (put M p (.lst (done.map W.str ++ [.str (q0.name ++ ("(" : Str))]))) q (.lst (rw_ (lift k i ++ .wd ")" :: wait)))) ⟨_, rfl, by rw [zuE]; rfl⟩ (fun _ _ _ _ _ => trivial) ?_ ?_
    ·rintro i w' τ M' hw ⟨o5, rfl, rfl⟩
     obtain ⟨hi, rfl⟩ := zm9 hw
     rw [hkl]
     obtain ⟨x, hx⟩ : ∃ x, k[k.length - 1 - i]? = some x := ⟨_, List.getElem?_eq_getElem (by omega)⟩
     have ek : ((k.length : Nat) : Int) - 1 - (i : Nat) = ((k.length - 1 - i : Nat) : Int) := by omega
     have ea : atI (Tr.ws k) ((k.length - 1 - i : Nat) : Int) = some x.w := zty hx
     have hll := zoC k i
     rw [ek]
     simp? only [ea]
     refine ⟨by rw [zm7, List.length_append, List.length_cons]; omega, ?_⟩
     rw [zjC, zna hi hx]
     by_cases hk0 : 0 < k.length - 1 - i
     ·rw [if_pos (by omega), if_pos hk0]
      refine ⟨by rw [zm7, List.length_cons, List.length_append, List.length_cons]; omega, _, Sub.refl _, _, rfl, ?_⟩
      rw [zpf]; rfl
     ·rw [if_neg (by omega), if_neg hk0]
      exact ⟨_, Sub.refl _, _, rfl, rfl⟩
    ·rintro τ M' ⟨o5, rfl, rfl⟩
     have hln : (zge (((Tr.ws k).length : Int) - 1) k.length).length = k.length := by simp [zge]
     rw [hln]
     have hlf : lift k k.length = (spc k).drop 1 := by unfold lift; rw [if_pos rfl]
     have hm1 := zoz k
     have hcl : cs (")" : Str) = [41] := by decide +kernel
     have hcp : cs ("(" : Str) = [40] := by decide +kernel
     refine ⟨_, _, ?_, Sub.refl _, done ++ [q0.name ++ ("(" : Str)], lift k k.length ++ .wd ")" :: wait, _, _, rfl, by rw [List.map_append]; rfl, ?_, rfl, ?_, fun x hx => ?_, fun s hs => ?_⟩
     ·rw [hlf, zjB, msW, Tr.ms]; omega
     ·rw [zm8, hlf, zm1, zoy, shw, Tr.sh, zbO, hcl, hcp, ← h1, Tr.sh, zcw hj]
      simp
     ·rw [List.length_append, List.length_singleton, hlf, zjB, msW, Tr.ms]; omega
     ·rcases List.mem_append.mp hx with z | z
      ·exact zoB hck _ x z
      ·rcases List.mem_cons.mp z with z | z
       ·rw [z]; show (")" : Str).length ≤ 8; decide +kernel
       ·exact hww x z
     ·rcases List.mem_append.mp hs with z | z
      ·exact h5 s z
      ·rw [List.mem_singleton.mp z, hna]; omega
end Rg
namespace Rg
open PySem PySem.Spec PyProof.Rows L2 L3
theorem zjE (rs : List Rule) : ∀ a b : List Tr, Tr.tks rs (a ++ b) = Tr.tks rs a ++ Tr.tks rs b
 | [], b => rfl
 | c :: a, b => by rw [List.cons_append, Tr.tks, Tr.tks, zjE rs a b, List.append_assoc]
def zfb (rs : List Rule) : List (List Tr) → List Str
 | [] => []
 | [row] => Tr.tks rs row
 | row :: r2 :: st => zfb rs (r2 :: st) ++ OP :: Tr.tks rs row
theorem zfY (rs : List Rule) (a b : List Tr) : ∀ st : List (List Tr), zfb rs ((a ++ b) :: st) = zfb rs (a :: st) ++ Tr.tks rs b
 | [] => by simp [zfb, zjE]
 | r2 :: st => by simp [zfb, zjE]
theorem zk4 {rs : List Rule} {st st' : List (List Tr)} {p : Str} (hs : st ≠ []) (h : zco rs st p = some st') : zfb rs st' = zfb rs st ++ [p] ∧ st' ≠ [] := by
 unfold zco at h
 split at h
 ·rename_i e
  cases h
  cases st with
  | nil => exact absurd rfl hs
  | cons row st => simp [zfb, Tr.tks, e]
 ·split at h
  ·rename_i e
   split at h
   ·rename_i ch row st2
    split at h
    ·cases h
    ·rename_i nm e1
     split at h
     ·cases h
     ·rename_i t e2
      cases h
      refine ⟨?_, by simp⟩
      unfold knot at e2
      split at e2
      ·cases e2
      ·cases nm with
       | nd n c => cases e2
       | wd x =>
        simp only [zcZ] at e2
        split at e2
        ·cases e2
        ·rename_i k ef
         cases e2
         obtain ⟨r, h1, h2, h3, h4⟩ := zex ef
         have hr : row = row.dropLast ++ [.wd x] := by
          obtain ⟨ys, e3⟩ := List.getLast?_eq_some_iff.mp e1
          rw [e3, List.dropLast_concat]
         rw [zfY, zfb]
         conv => rhs; rw [hr, zfY]
         simp [Tr.tks, Tr.tk, zcw h1, h3, e]
   ·cases h
  ·split at h
   ·cases h
    rw [zfY]
    exact ⟨by simp [Tr.tks, Tr.tk], by simp⟩
   ·cases h
theorem zib {rs : List Rule} : ∀ {ps : List Str} {st st' : List (List Tr)}, st ≠ [] → prun rs ps st = some st' → zfb rs st' = zfb rs st ++ ps
 | [], st, st', _, h => by cases h; simp
 | p :: ps, st, st', hs, h => by
  rw [prun] at h
  split at h
  ·cases h
  ·rename_i st2 e
   obtain ⟨h1, h2⟩ := zk4 hs e
   rw [zib h2 h, h1]; simp
theorem znb {rs : List Rule} {ps : List Str} {t : Tr} (h : zey rs ps = some t) : ps = t.tk rs := by
 unfold zey at h
 split at h
 ·cases h
 ·rename_i st e
  have := zib (by simp) e
  unfold pend at h
  split at h
  ·cases h
   simp [zfb, Tr.tks] at this
   exact this.symm
  ·cases h
def sumP (ps : List Str) : Nat := (ps.map fun p => (cs p).length + 1).sum
theorem zkD (a b : List Str) : sumP (a ++ b) = sumP a + sumP b := by simp [sumP]
theorem zdk (p : Str) (b : List Str) : sumP (p :: b) = (cs p).length + 1 + sumP b := by simp [sumP]
mutual
theorem zpg (rs : List Rule) : ∀ t : Tr, (t.sh rs).length + 1 ≤ sumP (t.tk rs)
 | .wd x => by simp [Tr.sh, Tr.tk, sumP]
 | .nd n c => by
  have := znc rs c
  rw [Tr.sh, Tr.tk, zdk, zdk, zkD, zdk]
  simp only [List.length_append, List.length_cons, List.length_drop, List.length_nil]
  omega
theorem znc (rs : List Rule) : ∀ c : List Tr, (Tr.shr rs c).length ≤ sumP (Tr.tks rs c)
 | [] => Nat.zero_le _
 | c :: r => by
  have h1 := zpg rs c
  have h2 := znc rs r
  rw [Tr.shr, Tr.tks, zkD, List.length_cons, List.length_append]
  omega
end
theorem zph (c : Nat) : ∀ l : List Nat, ((sp c l).map fun p => p.length + 1).sum = l.length + 1
 | [] => rfl
 | a :: l => by
  have ih := zph c l
  rw [sp]
  split
  ·simp [ih]; omega
  ·obtain ⟨p, ps, e⟩ := ze8 c l
   rw [e] at ih ⊢
   simp at ih ⊢; omega
def fE : W → Option W
 | .str t => if t = "" then none else some (.str t)
 | _ => none
theorem zdl {p : List Nat} : toS p = "" ↔ p = [] := by
 constructor
 ·intro h
  have := congrArg cs h
  rw [zbL, zrp] at this
  exact this
 ·intro h; rw [h]; exact zfr (by rw [zbL, zrp])
theorem znd : ∀ l : List (List Nat), ((l.map toS).map W.str).filterMap fE = ((l.filter fun p => !p.isEmpty).map toS).map W.str
 | [] => rfl
 | p :: l => by
  have ih := znd l
  rw [List.map_cons, List.map_cons, List.filterMap_cons, List.filter_cons]
  by_cases h : p = []
  ·have : fE (.str (toS p)) = none := by rw [fE, if_pos (zdl.mpr h)]
   rw [this, ih, h]; rfl
  ·have : fE (.str (toS p)) = some (.str (toS p)) := by rw [fE, if_neg (fun e => h (zdl.mp e))]
   rw [this, ih]
   cases p with
   | nil => exact absurd rfl h
   | cons a p => rfl
theorem zgv (f : List Nat → Bool) : ∀ l : List (List Nat), ((l.filter f).map fun p => p.length + 1).sum ≤ (l.map fun p => p.length + 1).sum
 | [] => Nat.le_refl _
 | p :: l => by
  have := zgv f l
  rw [List.filter_cons]
  split
  ·simp only [List.map_cons, List.sum_cons]; omega
  ·simp only [List.map_cons, List.sum_cons]; omega
theorem zdq : ∀ l : List Nat, (zbf l).length ≤ 3 * l.length
 | [] => Nat.le_refl _
 | a :: l => by
  have ih := zdq l
  have h1 : (zbf [a]).length ≤ 3 := by
   by_cases h40 : a = 40
   ·subst h40; rw [zo8, zmP]; decide
   ·by_cases h41 : a = 41
    ·subst h41; rw [zo9, zmP]; decide
    ·rw [zfy (fun c hc => by rw [List.mem_singleton.mp hc]; exact ⟨h40, h41⟩)]; simp
  rw [show a :: l = [a] ++ l from rfl, zgU, List.length_append, List.length_append, List.length_singleton]
  omega
theorem zk5 (l : List Nat) : sumP (zfz l) ≤ 3 * l.length + 1 := by
 have h1 := zgv (fun p => !p.isEmpty) (sp 32 (zbf l))
 have h2 := zph 32 (zbf l)
 have h3 := zdq l
 have h4 : sumP (zfz l) = ((toks l).map fun p => p.length + 1).sum := by
  unfold sumP zfz
  rw [List.map_map]
  congr 1
 rw [h4]
 unfold toks
 omega
theorem zkE : ∀ ps : List Str, ps.length ≤ sumP ps
 | [] => Nat.le_refl _
 | p :: ps => by have := zkE ps; rw [zdk, List.length_cons]; omega
theorem zkF {p : Str} : ∀ {ps : List Str}, p ∈ ps → p.length ≤ sumP ps
 | q :: ps, h => by
  rw [zdk]
  rcases List.mem_cons.mp h with z | z
  ·rw [z, ← zaS]; omega
  ·have := zkF z; omega
theorem zg6 {rs : List Rule} : ∀ {t : Tr}, Okt rs t → Byr rs t
 | .wd t, h => by cases h with | wd h => exact .wd h
 | .nd n c, h => by
  cases h with
  | @nd n r _ hr hf hc =>
   obtain ⟨r', h1, h2, h3, h4⟩ := zex hf
   rw [hr] at h1; cases h1
   exact .nd hr h4.symm fun x hx => zg6 (hc x hx)
theorem zfZ {ws : List W} {M : Mm} {R : K3} (h : zby ws M R) : zbU (zaP R) (zbe zdQ ws) M := by
 obtain ⟨rs, x, rfl, g, hl, ha, r0, r1⟩ := h
 show zbU (zaP R) [some (rlW rs), some (.str x), none, none] M
 have hz1 : cs (" ( " : Str) = [32, 40, 32] := by decide +kernel
 have hz2 : cs (" ) " : Str) = [32, 41, 32] := by decide +kernel
 have hx1 : cs (Txt.replace x "(" " ( ") = pad1 40 (cs x) := zpb (by decide +kernel) hz1
 have hx2 : cs (Txt.replace (Txt.replace x "(" " ( ") ")" " ) ") = zbf (cs x) := by rw [zpb (c := 41) (by decide +kernel) hz2, hx1]; rfl
 have hl1 : (Txt.replace x "(" " ( ").length ≤ 450000 := by
  rw [← zaS, hx1]
  have := zou 40 (cs x)
  rw [zaS] at this; omega
 have hl2 : (Txt.replace (Txt.replace x "(" " ( ") ")" " ) ").length ≤ 450000 := by
  rw [← zaS, hx2]
  have := zdq (cs x)
  rw [zaS] at this; omega
 have h3 : (" ( " : Str).length = 3 := by decide +kernel
 have h4 : (" ) " : Str).length = 3 := by decide +kernel
 have hpm : ∀ a ∈ zbf (cs x), a < 256 := fun a h => by
  rcases zkr h with q | q
  ·rcases zkr q with q | q
   ·exact ha a q
   ·omega
  ·omega
 have hsum := zk5 (cs x)
 rw [zaS] at hsum
 simp? only [zbU, zdy, zdz, L3.vRep, L3.zq5, L3.zeI, L3.zjk]
 refine ⟨by rw [h3]; omega, by rw [h4]; omega, 32, rfl, by omega, by rw [hx2]; exact hpm, by decide, New.frz ?_⟩
 have hpc : pcs 32 (Txt.replace (Txt.replace x "(" " ( ") ")" " ) ") = (sp 32 (zbf (cs x))).map toS := by unfold pcs; rw [hx2]
 have hpl : (pcs 32 (Txt.replace (Txt.replace x "(" " ( ") ")" " ) ")).length ≤ 450001 := by
  rw [hpc, List.length_map]
  have h5 := L3.zmu 32 (zbf (cs x))
  have h6 := zdq (cs x)
  rw [zaS] at h6; omega
 simp? only []
 refine znW fE (L3.small (by rw [List.length_map]; omega)) (fun _ _ => trivial) (fun y hy M' C D sb h1 h2 => ?_) (New.frz ?_)
 ·obtain ⟨z, hz, rfl⟩ := List.mem_map.mp hy
  simp? only []
  by_cases hz0 : z = ""
  ·have hf : fE (.str z) = none := by rw [fE, if_pos hz0]
   rw [if_neg (by simp [hz0])]
   simpa using h2 hf
  ·have hf : fE (.str z) = some (.str z) := by rw [fE, if_neg hz0]
   rw [if_pos hz0]
   simpa using h1 _ hf
 ·rw [hpc, znd]
  have hl5 := zkE (zfz (cs x))
  refine ⟨rs, zfz (cs x), rfl, g, by omega, fun q hq => by have := zkF hq; omega, fun e => .inr ⟨⟨_, rfl⟩, _, Sub.refl _, r0 (by unfold reads; rw [e])⟩, fun t e => .inl ⟨nm_w t, ?_⟩⟩
  obtain ⟨hok, n, c, rfl⟩ := zki g.gr e
  have hsl := zpg rs (.nd n c)
  rw [← znb e] at hsl
  simp? only [zdA]
  refine ⟨rs, n, c, rfl, g.gr, zg6 hok, by omega, ?_⟩
  simp? only []
  by_cases hs : toS ((Tr.nd n c).sh rs) = x
  ·rw [if_neg (by simp [hs])]
   simp? only [zdB, L3.zjl]
   refine ⟨nm_w _, _, Sub.refl _, r1 _ ?_⟩
   unfold reads
   rw [e]
   simp only
   rw [if_pos (by rw [← hs, zbL])]
  ·rw [if_pos hs]
   simp? only [L3.zcc]
   refine ⟨_, Sub.refl _, r0 ?_⟩
   unfold reads
   rw [e]
   simp only
   rw [if_neg (fun e2 => hs (by rw [e2, zfu]))]
end Rg
namespace Rg
open PySem PySem.Spec PyProof.Rows L2 L3
structure Stk (M M' : Mm) (b : Addr) (st : List (List Tr)) (as : List Addr) : Prop where
 bs : M' b = some (.lst ((as.map W.ref).reverse))
 rows : Paired (fun x row => M' x = some (.lst (tw row))) as st
 nd : (b :: as).Nodup
 new : ∀ x ∈ b :: as, M x = none
 sub : L3.Sub M M'
theorem zcQ {M M' : Mm} {b : Addr} {o : MO} (h : L3.Sub M M') (n : M b = none) : L3.Sub M (put M' b o) := fun a u e => by
 rw [za7 (fun z => by rw [z, n] at e; cases e)]; exact h a u e
theorem zdr {M' : Mm} {b : Addr} {o : MO} : ∀ {as : List Addr} {st : List (List Tr)}, b ∉ as → Paired (fun x row => M' x = some (.lst (tw row))) as st → Paired (fun x row => put M' b o x = some (.lst (tw row))) as st
 | _, _, _, .nil => .nil
 | _, _, h, .cons r t => .cons (by rw [za7 (fun z => h (by rw [z]; exact List.mem_cons_self))]; exact r) (zdr (fun z => h (List.mem_cons_of_mem _ z)) t)
theorem zg7 {M' : Mm} : ∀ {as : List Addr} {st : List (List Tr)}, Paired (fun x row => M' x = some (.lst (tw row))) as st → ∀ x ∈ as, ∃ o, M' x = some o
 | _, _, .nil, x, h => nomatch h
 | _, _, .cons r t, x, h => by
  rcases List.mem_cons.mp h with z | z
  ·rw [z]; exact ⟨_, r⟩
  ·exact zg7 t x z
section
variable {M M' : Mm} {b p x : Addr} {st : List (List Tr)} {as : List Addr} {row row' : List Tr}
theorem Stk.push (h : Stk M M' b st as) (hp : M' p = none) : Stk M (put (put M' p (.lst (tw row))) b (.lst ((as.map W.ref).reverse ++ [.ref p]))) b (row :: st) (p :: as) := by
 have hpb : p ≠ b := fun z => by rw [z, h.bs] at hp; cases hp
 have hpa : p ∉ as := fun z => by obtain ⟨o, e⟩ := zg7 h.rows p z; rw [hp] at e; cases e
 obtain ⟨n1, n2⟩ := List.nodup_cons.mp h.nd
 have hpM : M p = none := h.sub.non hp
 refine ⟨by rw [zaj, List.map_cons, List.reverse_cons], .cons (by rw [za7 hpb, zaj]) (zdr n1 (zdr hpa h.rows)), ?_, fun y hy => ?_, zcQ (zcQ h.sub hpM) (h.new b (by simp))⟩
 ·refine List.nodup_cons.mpr ⟨fun z => ?_, List.nodup_cons.mpr ⟨hpa, n2⟩⟩
  rcases List.mem_cons.mp z with z | z
  ·exact hpb z.symm
  ·exact n1 z
 ·rcases List.mem_cons.mp hy with z | z
  ·rw [z]; exact h.new b (by simp)
  ·rcases List.mem_cons.mp z with z | z
   ·rw [z]; exact hpM
   ·exact h.new y (List.mem_cons_of_mem _ z)
theorem Stk.top_at (h : Stk M M' b (row :: st) (x :: as)) : M' x = some (.lst (tw row)) := by
 cases h.rows with | cons r _ => exact r
theorem Stk.top (h : Stk M M' b (row :: st) (x :: as)) : Stk M (put M' x (.lst (tw row'))) b (row' :: st) (x :: as) := by
 obtain ⟨n1, n2⟩ := List.nodup_cons.mp h.nd
 obtain ⟨n3, n4⟩ := List.nodup_cons.mp n2
 have hxb : b ≠ x := fun z => n1 (by rw [z]; exact List.mem_cons_self)
 refine ⟨by rw [za7 hxb]; exact h.bs, ?_, h.nd, h.new, zcQ h.sub (h.new x (by simp))⟩
 cases h.rows with
 | cons r t => exact .cons zaj (zdr n3 t)
theorem Stk.pop (h : Stk M M' b (row :: st) (x :: as)) : Stk M (put M' b (.lst ((as.map W.ref).reverse))) b st as ∧ x ≠ b ∧ x ∉ as := by
 obtain ⟨n1, n2⟩ := List.nodup_cons.mp h.nd
 obtain ⟨n3, n4⟩ := List.nodup_cons.mp n2
 have n5 : b ∉ as := fun z => n1 (List.mem_cons_of_mem _ z)
 refine ⟨⟨zaj, ?_, List.nodup_cons.mpr ⟨n5, n4⟩, fun y hy => ?_, zcQ h.sub (h.new b (by simp))⟩, fun z => n1 (by rw [z]; exact List.mem_cons_self), n3⟩
 ·cases h.rows with
  | cons r t => exact zdr n5 t
 ·rcases List.mem_cons.mp hy with z | z
  ·rw [z]; exact h.new b (by simp)
  ·exact h.new y (by simp [z])
theorem Stk.cons (h : Stk M M' b (row :: st) as) : ∃ x as', as = x :: as' := by
 have := h.rows
 cases this with
 | cons r t => exact ⟨_, _, rfl⟩
theorem Stk.len (h : Stk M M' b st as) : as.length = st.length := Paired.length h.rows
end
theorem zej {α : Type} {l : List α} {w : α} : atI (l ++ [w]) (-1) = some w := by
 unfold atI ixN
 rw [if_neg (by decide), if_pos (by simp; omega)]
 have e : (-1 + ((l ++ [w]).length : Int)).toNat = l.length := by rw [List.length_append, List.length_singleton]; omega
 simp only [Option.bind_some, e]
 simp
theorem zcR (x : Addr) (as : List Addr) : ((x :: as).map W.ref).reverse = (as.map W.ref).reverse ++ [.ref x] := by rw [List.map_cons, List.reverse_cons]
theorem zg8 {rs : List Rule} : ∀ (a c : List Str) (st : List (List Tr)), prun rs (a ++ c) st = (prun rs a st).bind (prun rs c)
 | [], c, st => rfl
 | p :: a, c, st => by
  rw [List.cons_append, prun, prun]
  cases zco rs st p with
  | none => rfl
  | some st' => exact zg8 a c st'
theorem zoD {rs : List Rule} {p : Str} {st : List (List Tr)} : prun rs [p] st = zco rs st p := by
 rw [prun]
 cases zco rs st p <;> rfl
theorem zic {rs : List Rule} {ch : List Tr} {t : Str} {x : Tr} (h : zcZ rs ch t = some x) : Kid rs x ∧ ∃ n c, x = .nd n c := by
 unfold zcZ at h
 split at h
 ·cases h
 ·rename_i k e
  cases h
  obtain ⟨r, h1, _⟩ := zex e
  exact ⟨⟨k, r, rfl, h1⟩, _, _, rfl⟩
theorem zoE {rs : List Rule} {nm : Tr} {ch : List Tr} {x : Tr} (h : knot rs nm ch = some x) : Kid rs x := by
 unfold knot at h
 split at h
 ·cases h
 ·cases nm with
  | nd n c => cases h
  | wd t => exact (zic h).1
theorem pcl1 {rs : List Rule} {row : List Tr} : zco rs [row] CL = none := by
 unfold zco
 rw [if_neg zoo, if_pos rfl]
theorem pcl0 {rs : List Rule} {row : List Tr} {st : List (List Tr)} : zco rs (row :: [] :: st) CL = none := by
 unfold zco
 rw [if_neg zoo, if_pos rfl]; rfl
theorem pcl {rs : List Rule} {row ini : List Tr} {nm : Tr} {st : List (List Tr)} : zco rs (row :: (ini ++ [nm]) :: st) CL = (knot rs nm row).map fun t => (ini ++ [t]) :: st := by
 unfold zco
 rw [if_neg zoo, if_pos rfl]
 simp only [List.getLast?_append, List.getLast?_singleton, Option.some_or, List.dropLast_concat]
 cases knot rs nm row <;> rfl
theorem zds {P : Program} {w : World} {ws : List W} {M : Mm} {R : K3} (h : zaX ws M R) : za9 P w (zaP R) (zbe zcb ws) M := by
 obtain ⟨rs, ps, rfl, g, hl, hpl, r0, r1⟩ := h
 show za9 P w (zaP R) [some (rlW rs), some (.rl (ps.map W.str)), none, none, none, none, none] M
 obtain ⟨T3, hT3⟩ : ∃ x, x = vSeq (zbJ P w) (zbK P w) := ⟨_, rfl⟩
 simp? only [za9, zci, zcj, zck]
 rw [← hT3]
 refine ⟨rs, rfl, g.few, fun a ha => ?_⟩
 simp? only []
 intro p hp b hb
 obtain ⟨Ma, hMa⟩ : ∃ x, x = put M a (.dn P w [] (zgu rs)) := ⟨_, rfl⟩
 rw [← hMa] at hp hb ⊢
 have sMa : L3.Sub M Ma := by rw [hMa]; exact Sub.new ha
 have hMaa : Ma a = some (.dn P w [] (zgu rs)) := by rw [hMa]; exact zaj
 have hpb : p ≠ b := fun e => by subst e; rw [zaj] at hb; cases hb
 have hbM : Ma b = none := by rw [za7 (Ne.symm hpb)] at hb; exact hb
 have start : Stk Ma (put (put Ma p (.lst [])) b (.lst [W.ref p])) b [[]] [p] := by
  refine ⟨zaj, .cons (by rw [za7 hpb, zaj]; rfl) .nil, by simp [Ne.symm hpb], fun x hx => ?_, zcQ (zcQ (Sub.refl _) hp) hbM⟩
  rcases List.mem_cons.mp hx with z | z
  ·rw [z]; exact hbM
  ·rw [List.mem_singleton.mp z]; exact hp
 have none_of : ∀ i, prun rs (ps.take i) [[]] = none → zey rs ps = none := fun i e => by
  unfold zey
  rw [← List.take_append_drop i ps, zg8, e]; rfl
 obtain ⟨Pv, hPv⟩ : ∃ Pv : Nat → S3 → Mm → Prop, Pv = fun i τ M' => ∃ (st : List (List Tr)) (as : List Addr) (o4 o5 o6 : Option W), τ = [some (rlW rs), some (.rl (ps.map W.str)), some (.ref a), some (.ref b), o4, o5, o6] ∧ prun rs (ps.take i) [[]] = some st ∧ Stk Ma M' b st as ∧
   (∀ row ∈ st, ∀ c ∈ row, Kid rs c) ∧ st.length ≤ i + 1 ∧ (∀ row ∈ st, row.length ≤ i) ∧ st ≠ [] := ⟨_, rfl⟩
 refine for3 Pv (by rw [hPv]; exact ⟨_, _, _, _, _, rfl, rfl, start, by simp, by simp, by simp, by simp⟩) (fun _ _ _ _ _ => trivial) ?_ ?_
 ·intro i w' τ M' hw hpv
  rw [hPv] at hpv
  obtain ⟨st, as, o4, o5, o6, rfl, h1, h2, h3, h4, h5, h6⟩ := hpv
  rw [List.getElem?_map] at hw
  obtain ⟨pc, hpc, rfl⟩ := Option.map_eq_some_iff.mp hw
  have hi := (List.getElem?_eq_some_iff.mp hpc).1
  have hpcl := hpl pc (List.mem_of_getElem? hpc)
  have ht : ps.take (i + 1) = ps.take i ++ [pc] := by rw [List.take_add_one, hpc]; rfl
  have hnext : prun rs (ps.take (i + 1)) [[]] = zco rs st pc := by rw [ht, zg8, h1]; exact zoD
  obtain ⟨row, st', rfl⟩ : ∃ row st', st = row :: st' := by
   cases st with
   | nil => exact absurd rfl h6
   | cons row st' => exact ⟨_, _, rfl⟩
  obtain ⟨x, as', rfl⟩ := h2.cons
  have hal := h2.len
  simp only [List.length_cons] at hal h4
  have hrow := h5 row (by simp)
  have fail : zco rs (row :: st') pc = none → ∀ M'', L3.Sub Ma M'' → ∃ M3, L3.Sub M3 M'' ∧ R (.ty "NoText") M3 := fun e M'' sb => ⟨M, sMa.trans sb, r0 (none_of (i + 1) (by rw [hnext, e]))⟩
  have good : ∀ st2 as2 o5' o6' M'', zco rs (row :: st') pc = some st2 → Stk Ma M'' b st2 as2 → (∀ row ∈ st2, ∀ c ∈ row, Kid rs c) → st2.length ≤ i + 2 → (∀ row ∈ st2, row.length ≤ i + 1) → st2 ≠ [] →
    ∃ M3, L3.Sub M3 M'' ∧ Pv (i + 1) [some (rlW rs), some (.rl (ps.map W.str)), some (.ref a), some (.ref b), some (.str pc), o5', o6'] M3 := fun st2 as2 o5' o6' M'' e q1 q2 q3 q4 q5 => by
   refine ⟨M'', Sub.refl _, ?_⟩
   rw [hPv]
   exact ⟨st2, as2, _, _, _, rfl, by rw [hnext, e], q1, q2, q3, q4, q5⟩
  obtain ⟨T6, hT6⟩ : ∃ x, x = vSeq (vSet 6 (vBM0 "list" rPop (vOp rIx (vVar 3) (vUn rNeg (vC (.int 1))))))
   (zkf (fun r0 => (vBM1 "list" rApp (vOp rIx (vVar 3) (vUn rNeg (vC (.int 1)))) (zeI (zbH P w) (zac (vVar 0) (zac (vVar 2) (zac (vVar 6) (zac (vVar 5) aNil)))) r0)))) := ⟨_, rfl⟩
  simp only [zcd]
  rw [← hT6]
  simp? only []
  by_cases hop : pc = OP
  ·rw [if_pos (show pc = ("(" : Str) from hop)]
   refine ⟨⟨_, h2.bs⟩, fun p' hp' => ⟨_, by rw [za7 (fun e => by rw [← e, h2.bs] at hp'; cases hp')]; exact h2.bs, by rw [List.length_reverse, List.length_map, List.length_cons]; omega, ?_⟩⟩
   refine good ([] :: row :: st') (p' :: x :: as') _ _ _ (by unfold zco; rw [if_pos hop]) (h2.push (row := []) hp') (fun r hr c hc => ?_) (by simp only [List.length_cons]; omega) (fun r hr => ?_) (by simp)
   ·rcases List.mem_cons.mp hr with z | z
    ·rw [z] at hc; cases hc
    ·exact h3 r z c hc
   ·rcases List.mem_cons.mp hr with z | z
    ·rw [z]; simp
    ·have := h5 r z; omega
  ·rw [if_neg (show ¬ pc = ("(" : Str) from hop)]
   by_cases hcl : pc = CL
   ·rw [if_pos (show pc = (")" : Str) from hcl)]
    subst hcl
    obtain ⟨h7, h8, h9⟩ := h2.pop
    obtain ⟨B2, hB2⟩ : ∃ x, x = (as'.map W.ref).reverse := ⟨_, rfl⟩
    obtain ⟨M2, hM2⟩ : ∃ x, x = put M' b (.lst B2) := ⟨_, rfl⟩
    have hBl : B2.length = as'.length := by rw [hB2, List.length_reverse, List.length_map]
    have hM2b : M2 b = some (.lst B2) := by rw [hM2]; exact zaj
    have hM2x : M2 x = some (.lst (tw row)) := by rw [hM2, za7 h8]; exact h2.top_at
    refine ⟨⟨_, h2.bs⟩, B2, .ref x, by rw [h2.bs, zcR, hB2], ?_⟩
    rw [← hB2, ← hM2] at h7
    rw [← hM2]
    cases st' with
    | nil =>
     have : as' = [] := List.length_eq_zero_iff.mp (by simpa using hal)
     subst this
     rw [if_pos (by rw [hBl]; rfl)]
     simp? only [L3.zcc]
     exact fail pcl1 _ h7.sub
    | cons r2 st2 =>
     obtain ⟨x2, as2, rfl⟩ := h7.cons
     have hr2 := h5 r2 (by simp)
     have hx2 := h7.top_at
     have hat : atI B2 (-1) = some (.ref x2) := by rw [hB2, zcR]; exact zej
     rw [if_neg (by rw [hBl, List.length_cons]; omega)]
     refine .inl ⟨_, .ref x2, rfl, hat, ?_⟩
     simp? only [hx2]
     rcases List.eq_nil_or_concat r2 with he | ⟨ini, nm, he⟩
     ·subst he
      rw [if_pos (by rfl)]
      simp? only [L3.zcc]
      exact fail pcl0 _ h7.sub
     ·rw [List.concat_eq_append] at he
      subst he
      rw [if_neg (by simp; omega)]
      subst hT6
      have et : tw (ini ++ [nm]) = tw ini ++ [nm.w] := by unfold tw; rw [List.map_append]; rfl
      have h7' := h7.top (row' := ini)
      have hx2b : x2 ≠ b := (h7.pop).2.1
      have hxx : x ≠ x2 := fun z => h9 (by rw [z]; exact List.mem_cons_self)
      rw [List.length_append, List.length_singleton] at hr2
      simp? only [L3.zkf, L3.vBM1, L3.zeI, hM2b]
      refine .inl ⟨_, .ref x2, rfl, hat, ?_⟩
      simp? only [hx2, et]
      refine ⟨_, _, rfl, .inl ⟨_, .ref x2, by rw [za7 (Ne.symm hx2b)]; exact hM2b, hat, ?_⟩⟩
      simp? only []
      refine ⟨rs, a, x, nm, row, rfl, h7'.sub a _ hMaa, by rw [za7 hxx]; exact hM2x, fun c hc => h3 row (by simp) c hc, by omega, fun e => .inr ⟨⟨_, rfl⟩, fail (by rw [pcl, e]; rfl) _ h7'.sub⟩, fun t e => .inl ⟨nm_w t, ?_⟩⟩
      refine ⟨_, zaj, by rw [List.length_map]; omega, ?_⟩
      have e2 : tw ini ++ [t.w] = tw (ini ++ [t]) := by unfold tw; rw [List.map_append]; rfl
      rw [zeq, e2]
      refine good ((ini ++ [t]) :: st2) (x2 :: as2) _ _ _ (by rw [pcl, e]; rfl) h7.top (fun r hr c hc => ?_) (by simp only [List.length_cons] at *; omega) (fun r hr => ?_) (by simp)
      ·rcases List.mem_cons.mp hr with z | z
       ·rw [z] at hc
        rcases List.mem_append.mp hc with z | z
        ·exact h3 (ini ++ [nm]) (by simp) c (List.mem_append_left _ z)
        ·rw [List.mem_singleton.mp z]; exact zoE e
       ·exact h3 r (by simp [z]) c hc
      ·rcases List.mem_cons.mp hr with z | z
       ·rw [z, List.length_append, List.length_singleton]; omega
       ·have := h5 r (by simp [z]); omega
   ·rw [if_neg (show ¬ pc = (")" : Str) from hcl)]
    have htop := h2.top_at
    refine .inl ⟨_, .ref x, h2.bs, by rw [zcR]; exact zej, ?_⟩
    simp? only [htop]
    refine ⟨by rw [List.length_map]; omega, ?_⟩
    have ew : tw row ++ [W.str pc] = tw (row ++ [.wd pc]) := by unfold tw; rw [List.map_append]; rfl
    rw [ew]
    refine good ((row ++ [.wd pc]) :: st') (x :: as') _ _ _ (by unfold zco; rw [if_neg hop, if_neg hcl]) h2.top (fun r hr c hc => ?_) (by simp only [List.length_cons]; omega) (fun r hr => ?_) (by simp)
    ·rcases List.mem_cons.mp hr with z | z
     ·rw [z] at hc
      rcases List.mem_append.mp hc with z | z
      ·exact h3 row (by simp) c z
      ·rw [List.mem_singleton.mp z]; exact hpcl
     ·exact h3 r (by simp [z]) c hc
    ·rcases List.mem_cons.mp hr with z | z
     ·rw [z, List.length_append, List.length_singleton]; omega
     ·have := h5 r (by simp [z]); omega
 ·intro τ M' hpv
  rw [hPv] at hpv
  obtain ⟨st, as, o4, o5, o6, rfl, h1, h2, h3, h4, h5, h6⟩ := hpv
  rw [List.length_map] at h1 h4 h5
  rw [List.take_length] at h1
  have hpr : zey rs ps = pend st := by unfold zey; rw [h1]
  have fail : pend st = none → ∃ M3, L3.Sub M3 M' ∧ R (.ty "NoText") M3 := fun e => ⟨M, sMa.trans h2.sub, r0 (by rw [hpr, e])⟩
  have hal := h2.len
  have hbs := h2.bs
  subst hT3
  simp? only [zbJ, hbs]
  match st, as, h2, hal, hpr, fail, h6, hbs with
  | [], _, _, _, _, _, h6, _ => exact absurd rfl h6
  | row :: r2 :: st2, x :: as2, h2, hal, hpr, fail, _, hbs =>
   rw [if_pos (by simp only [List.length_reverse, List.length_map, List.length_cons] at *; omega)]
   simp? only [L3.zcc]
   refine fail ?_
   unfold pend
   cases row with
   | nil => rfl
   | cons c r => cases r <;> cases c <;> rfl
  | [row], [x], h2, hal, hpr, fail, _, hbs =>
   have hx := h2.top_at
   simp only [List.map_cons, List.map_nil, List.reverse_cons, List.reverse_nil, List.nil_append] at hbs ⊢
   rw [if_neg (by simp)]
   refine .inl ⟨_, .ref x, rfl, rfl, ?_⟩
   simp? only [hx]
   match row, hx, hpr, fail with
   | [], hx, hpr, fail =>
    rw [if_pos (by decide)]
    simp? only [L3.zcc]
    exact fail rfl
   | c :: c2 :: r, hx, hpr, fail =>
    rw [if_pos (by simp only [tw, List.length_map, List.length_cons]; omega)]
    simp? only [L3.zcc]
    refine fail ?_
    unfold pend
    cases c <;> rfl
   | [c], hx, hpr, fail =>
    have hx1 : M' x = some (.lst [c.w]) := hx
    rw [if_neg (by simp)]
    refine .inl ⟨_, .ref x, hbs, rfl, ?_⟩
    simp? only [hx1]
    refine .inl ⟨_, c.w, rfl, rfl, c, rfl, ?_⟩
    cases c with
    | wd t =>
     simp? only [Tr.isNd, L3.zcc]
     exact fail rfl
    | nd n k =>
     simp? only [Tr.isNd]
     simp? only [zbK, L3.zjl, hbs]
     refine .inl ⟨_, .ref x, rfl, rfl, ?_⟩
     simp? only [hx1]
     exact .inl ⟨_, _, rfl, rfl, nm_w _, M, sMa.trans h2.sub, r1 _ (by rw [hpr]; rfl)⟩
end Rg
namespace Rg
open PySem PySem.Spec PyProof.Rows L2 L3
theorem zkG : lmt 9 = 137775 := by decide
theorem kidB {rs : List Rule} {c : Tr} (h : Byr rs c) : (∃ t, c = .wd t ∧ t ∈ ABC) ∨ ∃ (j : Nat) (r : Rule) (k : List Tr), c = .nd j k ∧ rs[j]? = some r ∧ k.map (Tr.lab rs) = r.parts ∧ ∀ x ∈ k, Byr rs x := by
 cases h with
 | wd h => exact .inl ⟨_, rfl, h⟩
 | nd h1 h2 h3 => exact .inr ⟨_, _, _, rfl, h1, h2, h3⟩
theorem jn32 (rs : List Rule) : ∀ c : List Tr, jn 32 (c.map (Tr.sh rs)) = (Tr.shr rs c).drop 1
 | [] => rfl
 | [c] => by simp [jn, Tr.shr]
 | c :: d :: r => by
  have := jn32 rs (d :: r)
  rw [List.map_cons, List.map_cons, jn, ← List.map_cons, this, Tr.shr, Tr.shr]
  simp [Tr.shr]
theorem zid {n : Nat} {ws : List W} {M : Mm} {R : K3} (h : zbI (n + 1) ws M R) : zcF (zbI n) (zaP R) (zbe zfH ws) M := by
 obtain ⟨rs, k0, c, rfl, g, hb, hd, hn, r⟩ := h
 obtain ⟨j, q, c', e, hj, hp, hc⟩ : ∃ (j : Nat) (q : Rule) (c' : List Tr), Tr.nd k0 c = .nd j c' ∧ rs[j]? = some q ∧ c'.map (Tr.lab rs) = q.parts ∧ ∀ x ∈ c', Byr rs x := by
  rcases kidB hb with ⟨t, e, _⟩ | ⟨j, q, c', e, h⟩
  ·cases e
  ·exact ⟨j, q, c', e, h⟩
 cases e
 show zcF (zbI n) (zaP R) [some (rlW rs), some (Tr.nd j c).w, none, none] M
 have h3 : c.length ≤ 3 := by
  have := g.gr.few q (List.mem_of_getElem? hj)
  rw [← hp, List.length_map] at this
  exact this
 rw [Tr.dp] at hd
 simp? only [zcF, zeT, zeU, Tr.w]
 intro p hp'
 rw [zdu]
 refine for3 (fun i τ M' => ∃ o3, τ = [some (rlW rs), some (.tup [.int j, .tup (c.map Tr.w)]), some (.ref p), o3] ∧ M' = put M p (.lst (((c.take i).map fun x => toS (x.sh rs)).map W.str))) ⟨_, rfl, rfl⟩ (fun _ _ _ _ _ => trivial) ?_ ?_
 ·rintro i w τ M' hw ⟨o3, rfl, rfl⟩
  rw [List.getElem?_map] at hw
  obtain ⟨x, hx, rfl⟩ := Option.map_eq_some_iff.mp hw
  have hi := (List.getElem?_eq_some_iff.mp hx).1
  have hxm := List.mem_of_getElem? hx
  have ht : c.take (i + 1) = c.take i ++ [x] := by rw [List.take_add_one, hx]; rfl
  have fin : ∃ M'', L3.Sub M'' (put M p (.lst (((c.take i).map fun x => toS (x.sh rs)).map W.str ++ [.str (toS (x.sh rs))]))) ∧ ∃ o3, [some (rlW rs), some (W.tup [.int j, .tup (c.map Tr.w)]), some (.ref p), some x.w] = [some (rlW rs), some (.tup [.int j, .tup (c.map Tr.w)]), some (.ref p), o3] ∧ M'' = put M p (.lst (((c.take (i + 1)).map fun x => toS (x.sh rs)).map W.str)) :=
   ⟨_, Sub.refl _, _, rfl, by rw [ht, List.map_append, List.map_append]; rfl⟩
  have hlen : (((c.take i).map fun x => toS (x.sh rs)).map W.str).length < 16777216 := by rw [List.length_map, List.length_map, List.length_take]; omega
  have hdx := zd9 hxm
  rcases kidB (hc x hxm) with ⟨t, rfl, htm⟩ | ⟨j2, q2, c2, rfl, _⟩
  ·simp? only [zcN, rIsi, Tr.w]
   refine ⟨_, _, rfl, by rfl, ?_⟩
   simp? only []
   refine ⟨hlen, ?_⟩
   rw [Tr.sh, zfu] at fin
   exact fin
  ·have h2 : Tr.dp (.nd j2 c2) ≤ n := by omega
   rw [Tr.dp] at h2
   obtain ⟨n', rfl⟩ : ∃ n', n = n' + 1 := ⟨n - 1, by omega⟩
   simp? only [zcN, rIsi, Tr.w]
   refine ⟨_, _, rfl, by rfl, ?_⟩
   simp? only []
   refine ⟨rs, j2, c2, by rw [Tr.w], g, hc _ hxm, by rw [Tr.dp]; omega, by omega, ?_⟩
   simp? only []
   exact ⟨hlen, fin⟩
 ·rintro τ M' ⟨o3, rfl, rfl⟩
  rw [List.length_map, List.take_length]
  have hL : ∀ x ∈ c, (x.sh rs).length ≤ 137775 := fun x hx => by
   have h1 := zmT g.gr n x (hc x hx) (by have := zd9 hx; omega)
   have h2 := zkq (show n ≤ 9 by omega)
   rw [zkG] at h2; omega
  have hn7 := zmS _ (g.gr.nm q (List.mem_of_getElem? hj))
  rw [zaS] at hn7
  have hcl : cs (")" : Str) = [41] := by decide +kernel
  have hcp : cs ("(" : Str) = [40] := by decide +kernel
  have e1 : ("(" : Str).length = 1 := by decide +kernel
  have e2 : (")" : Str).length = 1 := by decide +kernel
  have e3 : (" " : Str).length = 1 := by decide +kernel
  have hj1 : cs (Str.join " " (c.map fun x => toS (x.sh rs))) = (Tr.shr rs c).drop 1 := by
   rw [zmq ztv, List.map_map, ← jn32]
   congr 1
  have hjl : (Str.join " " (c.map fun x => toS (x.sh rs))).length ≤ 413331 := by
   rw [← zaS, hj1, List.length_drop]
   have h5 := zjq (L := 137775) c hL
   have h6 : c.length * (137775 + 1) ≤ 3 * (137775 + 1) := Nat.mul_le_mul_right _ h3
   omega
  simp? only [zeV, rlW, zcl hj, zbh, L3.zms]
  refine ⟨by rw [e1]; omega, _, rfl, ⟨137775, fun y hy => ?_, ?_⟩, ?_⟩
  ·obtain ⟨x, hx, rfl⟩ := List.mem_map.mp hy
   rw [← zaS, zbL]; exact hL x hx
  ·rw [List.length_map, e3]; omega
  ·refine ⟨by rw [strLen_append, e1]; omega, by rw [strLen_append, strLen_append, e1, e2]; omega, _, Sub.new hp', ?_⟩
   have : q.name ++ ("(" : Str) ++ Str.join " " (c.map fun x => toS (x.sh rs)) ++ (")" : Str) = toS ((Tr.nd j c).sh rs) := by
    refine zfr ?_
    rw [zbO, zbO, zbO, hj1, hcl, hcp, zbL, Tr.sh, zcw hj]
    simp
   rw [this]; exact r
theorem zie {nm : Str} {ps : List Str} : ∀ {rs : List Rule} {k i : Nat} {r : Rule}, rs[i]? = some r → frst nm ps (rs.drop i) k = (if r.name = nm ∧ r.parts = ps then some k else frst nm ps (rs.drop (i + 1)) (k + 1)) := by
 intro rs k i r h
 obtain ⟨h1, h2⟩ := List.getElem?_eq_some_iff.mp h
 rw [List.drop_eq_getElem_cons h1, h2, frst]
theorem zpi : ∀ t ∈ ABC, PyData.strOk t = true := by decide +kernel
theorem zrq : ∀ t ∈ H3, PyData.strOk t = true := by decide +kernel
theorem zg9 {rs : List Rule} (g : Gr rs) {r : Rule} (hr : r ∈ rs) : Pl 1 (.tup (r.parts.map W.str)) := fun w hw => by
 obtain ⟨t, ht, rfl⟩ := List.mem_map.mp hw
 rcases g.pt r hr t ht with q | q
 ·exact zpi t q
 ·exact zrq t q
theorem zkH {a b : List Str} : W.tup (a.map W.str) = W.tup (b.map W.str) ↔ a = b := by
 constructor
 ·intro h
  rw [W.tup.injEq] at h
  have key : ∀ {a b : List Str}, a.map W.str = b.map W.str → a = b := by
   intro a
   induction a with
   | nil => intro b h; cases b with
    | nil => rfl
    | cons y b => cases h
   | cons x a ih => intro b h; cases b with
    | nil => cases h
    | cons y b =>
     rw [List.map_cons, List.map_cons, List.cons.injEq, W.str.injEq] at h
     rw [h.1, ih h.2]
  exact key h
 ·intro h; rw [h]
theorem zif {n : Nat} {ws : List W} {M : Mm} {R : K3} (h : zbn (n + 1) ws M R) : zcG (zbn n) (zaP R) (zbe zfI ws) M := by
 obtain ⟨rs, k0, c, rfl, g, hb, hd, r⟩ := h
 obtain ⟨j, q, c', e, hj, hp, hc⟩ : ∃ (j : Nat) (q : Rule) (c' : List Tr), Tr.nd k0 c = .nd j c' ∧ rs[j]? = some q ∧ c'.map (Tr.lab rs) = q.parts ∧ ∀ x ∈ c', Byr rs x := by
  rcases kidB hb with ⟨t, e, _⟩ | ⟨j, q, c', e, h⟩
  ·cases e
  ·exact ⟨j, q, c', e, h⟩
 cases e
 show zcG (zbn n) (zaP R) [some (rlW rs), some (Tr.nd j c).w, none, none, none] M
 have h3 : c.length ≤ 3 := by
  have := g.gr.few q (List.mem_of_getElem? hj)
  rw [← hp, List.length_map] at this
  exact this
 obtain ⟨kf, hkf, hfs⟩ := zrk (c := c) hj
 rw [Tr.dp] at hd
 obtain ⟨T2, hT2⟩ : ∃ x, x = vSeq (zdg (zbn n)) (zeY (zbn n)) := ⟨_, rfl⟩
 simp? only [zcG, zeW, zeX, Tr.w]
 rw [← hT2]
 intro p hp'
 rw [zdu]
 refine for3 (fun i τ M' => ∃ o3, τ = [some (rlW rs), some (.tup [.int j, .tup (c.map Tr.w)]), some (.ref p), o3, none] ∧ M' = put M p (.lst (tw ((c.take i).map (Tr.fs rs))))) ⟨_, rfl, rfl⟩ (fun _ _ _ _ _ => trivial) ?_ ?_
 ·rintro i w τ M' hw ⟨o3, rfl, rfl⟩
  rw [List.getElem?_map] at hw
  obtain ⟨x, hx, rfl⟩ := Option.map_eq_some_iff.mp hw
  have hi := (List.getElem?_eq_some_iff.mp hx).1
  have hxm := List.mem_of_getElem? hx
  have ht : c.take (i + 1) = c.take i ++ [x] := by rw [List.take_add_one, hx]; rfl
  have fin : ∃ M'', L3.Sub M'' (put M p (.lst (tw ((c.take i).map (Tr.fs rs)) ++ [(x.fs rs).w]))) ∧ ∃ o3, [some (rlW rs), some (W.tup [.int j, .tup (c.map Tr.w)]), some (.ref p), some x.w, none] = [some (rlW rs), some (.tup [.int j, .tup (c.map Tr.w)]), some (.ref p), o3, none] ∧ M'' = put M p (.lst (tw ((c.take (i + 1)).map (Tr.fs rs)))) :=
   ⟨_, Sub.refl _, _, rfl, by unfold tw; rw [ht, List.map_append, List.map_append]; rfl⟩
  have hlen : (tw ((c.take i).map (Tr.fs rs))).length < 16777216 := by rw [List.length_map, List.length_map, List.length_take]; omega
  have hdx := zd9 hxm
  rcases kidB (hc x hxm) with ⟨t, rfl, htm⟩ | ⟨j2, q2, c2, rfl, _⟩
  ·simp? only [zcO, rIsi, Tr.w]
   refine ⟨_, _, rfl, by rfl, ?_⟩
   simp? only []
   refine ⟨hlen, ?_⟩
   simp only [Tr.fs, Tr.w] at fin
   exact fin
  ·have h2 : Tr.dp (.nd j2 c2) ≤ n := by omega
   rw [Tr.dp] at h2
   obtain ⟨n', rfl⟩ : ∃ n', n = n' + 1 := ⟨n - 1, by omega⟩
   simp? only [zcO, rIsi, Tr.w]
   refine ⟨_, _, rfl, by rfl, ?_⟩
   simp? only []
   refine ⟨rs, j2, c2, by rw [Tr.w], g, hc _ hxm, by rw [Tr.dp]; omega, ?_⟩
   simp? only []
   exact ⟨hlen, fin⟩
 ·rintro τ M' ⟨o3, rfl, rfl⟩
  rw [List.length_map, List.take_length]
  subst hT2
  have h7 := g.few
  simp? only [zdg, rlW]
  refine ⟨_, rfl, by rw [List.length_map]; omega, by rw [List.length_map]; omega, ?_⟩
  rw [List.length_map, Int.toNat_natCast]
  refine for3 (fun i τ M' => ∃ o4, τ = [some (.rl (rs.map zbh)), some (.tup [.int j, .tup (c.map Tr.w)]), some (.ref p), o3, o4] ∧ M' = put M p (.lst (tw (c.map (Tr.fs rs)))) ∧ frst q.name q.parts (rs.drop i) i = some kf) ⟨_, rfl, rfl, hkf⟩ (fun _ _ _ _ _ => trivial) ?_ ?_
  ·rintro i w τ M' hw ⟨o4, rfl, rfl, hf⟩
   obtain ⟨hi, rfl⟩ := zbx hw
   rw [Int.zero_add]
   obtain ⟨qi, hqi⟩ : ∃ qi, rs[i]? = some qi := ⟨_, List.getElem?_eq_getElem hi⟩
   rw [zie hqi] at hf
   simp? only [zed, zcl hqi, zcl hj, zbh]
   have next : ¬ (qi.name = q.name ∧ qi.parts = q.parts) → ∃ M'', L3.Sub M'' (put M p (.lst (tw (c.map (Tr.fs rs))))) ∧ ∃ o4, [some (W.rl (rs.map zbh)), some (W.tup [.int j, .tup (c.map Tr.w)]), some (.ref p), o3, some (.int (i : Nat))] = [some (.rl (rs.map zbh)), some (.tup [.int j, .tup (c.map Tr.w)]), some (.ref p), o3, o4] ∧ M'' = put M p (.lst (tw (c.map (Tr.fs rs)))) ∧ frst q.name q.parts (rs.drop (i + 1)) (i + 1) = some kf := fun hn => by
    rw [if_neg hn] at hf
    exact ⟨_, Sub.refl _, _, rfl, rfl, hf⟩
   by_cases h1 : qi.name = q.name
   ·rw [if_pos h1]
    refine zhL 1 (by decide) (zg9 g.gr (List.mem_of_getElem? hqi)) (zg9 g.gr (List.mem_of_getElem? hj)) fun b hb => ?_
    have hb' : b = true ↔ qi.parts = q.parts := by rw [hb]; exact zkH
    by_cases h2 : qi.parts = q.parts
    ·have hbt := hb'.mpr h2
     subst hbt
     rw [if_pos ⟨h1, h2⟩] at hf
     cases hf
     simp? only []
     refine ⟨_, Sub.new hp', ?_⟩
     rw [hfs, Tr.w, zdu, zjp] at r
     exact r
    ·have hbf : b = false := by
      cases b with
      | false => rfl
      | true => exact absurd (hb'.mp rfl) h2
     subst hbf
     simp? only []
     exact next fun z => h2 z.2
   ·rw [if_neg h1]
    exact next fun z => h1 z.1
  ·rintro τ M' ⟨o4, rfl, rfl, hf⟩
   rw [zbX, List.drop_length] at hf
   cases hf
end Rg
namespace Rg
open PySem PySem.Spec PyProof.Rows L2 L3
theorem zjF {w : W} {ws : List W} : cutW (w :: ws) (some 1) none = ws := by
 unfold cutW
 have e : HT.sIx (w :: ws).length 0 (some 1) = 1 := by
  have := HT.sIx_nat (w :: ws).length 0 1
  simp at this ⊢
  omega
 have e2 : HT.sIx (w :: ws).length (w :: ws).length none = (w :: ws).length := rfl
 rw [e, e2]
 simp
theorem ztz {rs : List Rule} (g : Gr rs) {c : Tr} (hk : Kid rs c) (hs : ∀ x, c = .wd x → PyData.strOk x = true) : PyData.strOk (c.lab rs) = true := by
 cases c with
 | wd t => exact hs t rfl
 | nd n k =>
  obtain ⟨j, r, rfl, hj⟩ := hk
  rw [Tr.lab, zcw hj]
  exact zrq _ (g.nm r (List.mem_of_getElem? hj))
theorem zjG {ws : List W} {M : Mm} {R : K3} (h : zc7 ws M R) : zdi (zaP R) (zbe zgX ws) M := by
 obtain ⟨rs, q0, nm, ch, rfl, g, hq, hk, hs, hl, r0, r1⟩ := h
 show zdi (zaP R) [some (rlW rs), some (.ref q0), none, none, none] M
 have hq' : M q0 = some (.lst (.str nm :: tw ch)) := hq
 obtain ⟨T2, hT2⟩ : ∃ x, x = vSeq zdS zdT := ⟨_, rfl⟩
 simp? only [zdi, zfJ, zfK]
 rw [← hT2]
 intro p hp'
 have hpq : q0 ≠ p := zpX hq hp'
 have hqp : ∀ o, put M p o q0 = some (.lst (.str nm :: tw ch)) := fun o => by rw [za7 hpq]; exact hq'
 simp? only [hqp]
 rw [zjF]
 refine for3 (fun i τ M' => ∃ o3, τ = [some (rlW rs), some (.ref q0), some (.ref p), o3, none] ∧ M' = put M p (.lst (((ch.take i).map (Tr.lab rs)).map W.str))) ⟨_, rfl, rfl⟩ (fun _ _ _ _ _ => trivial) ?_ ?_
 ·rintro i w τ M' hw ⟨o3, rfl, rfl⟩
  rw [List.getElem?_map] at hw
  obtain ⟨x, hx, rfl⟩ := Option.map_eq_some_iff.mp hw
  have hi := (List.getElem?_eq_some_iff.mp hx).1
  have hxm := List.mem_of_getElem? hx
  have ht : ch.take (i + 1) = ch.take i ++ [x] := by rw [List.take_add_one, hx]; rfl
  have fin : ∃ M'', L3.Sub M'' (put M p (.lst (((ch.take i).map (Tr.lab rs)).map W.str ++ [.str (x.lab rs)]))) ∧ ∃ o3, [some (rlW rs), some (.ref q0), some (.ref p), some x.w, none] = [some (rlW rs), some (.ref q0), some (.ref p), o3, none] ∧ M'' = put M p (.lst (((ch.take (i + 1)).map (Tr.lab rs)).map W.str)) :=
   ⟨_, Sub.refl _, _, rfl, by rw [ht, List.map_append, List.map_append]; rfl⟩
  have hlen : (((ch.take i).map (Tr.lab rs)).map W.str).length < 16777216 := by rw [List.length_map, List.length_map, List.length_take]; omega
  cases x with
  | wd t =>
   simp? only [zdh, rIsi, Tr.w]
   refine ⟨_, _, rfl, by rfl, ?_⟩
   simp? only []
   exact ⟨hlen, fin⟩
  | nd n k =>
   obtain ⟨j, r, rfl, hj⟩ := hk _ hxm
   rw [Tr.lab, zcw hj] at fin
   simp? only [zdh, rIsi, Tr.w]
   refine ⟨_, _, rfl, by rfl, ?_⟩
   simp? only [rlW, zcl hj, zbh]
   exact ⟨hlen, fin⟩
 ·rintro τ M' ⟨o3, rfl, rfl⟩
  rw [List.length_map, List.take_length]
  subst hT2
  have h7 := g.few
  have hpl : Pl 1 (.tup ((ch.map (Tr.lab rs)).map W.str)) := fun w hw => by
   obtain ⟨t, ht, rfl⟩ := List.mem_map.mp hw
   obtain ⟨c, hc, rfl⟩ := List.mem_map.mp ht
   exact ztz g.gr (hk c hc) fun x e => hs x (by rw [← e]; exact hc)
  simp? only [zdS, rlW]
  refine ⟨_, rfl, by rw [List.length_map]; omega, by rw [List.length_map]; omega, ?_⟩
  rw [List.length_map, Int.toNat_natCast]
  refine for3 (fun i τ M' => ∃ o4, τ = [some (.rl (rs.map zbh)), some (.ref q0), some (.ref p), o3, o4] ∧ M' = put M p (.lst ((ch.map (Tr.lab rs)).map W.str)) ∧ frst nm (ch.map (Tr.lab rs)) rs 0 = frst nm (ch.map (Tr.lab rs)) (rs.drop i) i) ⟨_, rfl, rfl, rfl⟩ (fun _ _ _ _ _ => trivial) ?_ ?_
  ·rintro i w τ M' hw ⟨o4, rfl, rfl, hf⟩
   obtain ⟨hi, rfl⟩ := zbx hw
   rw [Int.zero_add]
   obtain ⟨qi, hqi⟩ : ∃ qi, rs[i]? = some qi := ⟨_, List.getElem?_eq_getElem hi⟩
   rw [zie hqi] at hf
   simp? only [zeZ, zcl hqi, hqp, zbh]
   have next : ¬ (qi.name = nm ∧ qi.parts = ch.map (Tr.lab rs)) → ∃ M'', L3.Sub M'' (put M p (.lst ((ch.map (Tr.lab rs)).map W.str))) ∧ ∃ o4, [some (W.rl (rs.map zbh)), some (.ref q0), some (.ref p), o3, some (.int (i : Nat))] = [some (.rl (rs.map zbh)), some (.ref q0), some (.ref p), o3, o4] ∧ M'' = put M p (.lst ((ch.map (Tr.lab rs)).map W.str)) ∧ frst nm (ch.map (Tr.lab rs)) rs 0 = frst nm (ch.map (Tr.lab rs)) (rs.drop (i + 1)) (i + 1) := fun hn => by
    rw [if_neg hn] at hf
    exact ⟨_, Sub.refl _, _, rfl, rfl, hf⟩
   refine .inl ⟨_, .str nm, rfl, atI0 _ _, ?_⟩
   simp? only []
   by_cases h1 : qi.name = nm
   ·rw [if_pos h1]
    refine zhL 1 (by decide) (zg9 g.gr (List.mem_of_getElem? hqi)) hpl fun b hb => ?_
    have hb' : b = true ↔ qi.parts = ch.map (Tr.lab rs) := by rw [hb]; exact zkH
    by_cases h2 : qi.parts = ch.map (Tr.lab rs)
    ·have hbt := hb'.mpr h2
     subst hbt
     rw [if_pos ⟨h1, h2⟩] at hf
     simp? only [hqp]
     rw [zjF]
     refine ⟨_, Sub.new hp', ?_⟩
     have := r1 (.nd i ch) (by unfold zcZ; rw [hf])
     rw [Tr.w, zdu] at this
     exact this
    ·have hbf : b = false := by
      cases b with
      | false => rfl
      | true => exact absurd (hb'.mp rfl) h2
     subst hbf
     simp? only []
     exact next fun z => h2 z.2
   ·rw [if_neg h1]
    exact next fun z => h1 z.1
  ·rintro τ M' ⟨o4, rfl, rfl, hf⟩
   rw [zbX, List.drop_length] at hf
   simp? only [zdT]
   exact ⟨_, Sub.new hp', r0 (by unfold zcZ; rw [hf]; rfl)⟩
end Rg
namespace Rg
open PySem PySem.Spec PyProof.Rows L2 L3
def zig (pv : Nat) : List Nat → Nat
 | [] => pv
 | c :: r => zig c r
theorem zih (rs : List Rule) (c : Nat) : ∀ (a : List Nat) (pv : Nat) (st : List (List Tr)) (w : List Nat), lrun rs (a ++ [c]) pv st w = (lrun rs a pv st w).bind fun q => zbY rs q.1 q.2 (zig pv a) c
 | [], pv, st, w => by
  rw [List.nil_append, lrun]
  cases h : zbY rs st w pv c with
  | none => simp [lrun, zig, h]
  | some q => simp [lrun, zig, h]
 | x :: a, pv, st, w => by
  rw [List.cons_append, lrun, lrun]
  cases h : zbY rs st w pv x with
  | none => rfl
  | some q => exact zih rs c a x q.1 q.2
theorem zii (rs : List Rule) : ∀ (a b : List Nat) (pv : Nat) (st : List (List Tr)) (w : List Nat), lrun rs a pv st w = none → lrun rs (a ++ b) pv st w = none
 | [], b, pv, st, w, h => by cases h
 | x :: a, b, pv, st, w, h => by
  rw [List.cons_append, lrun]
  rw [lrun] at h
  cases e : zbY rs st w pv x with
  | none => rfl
  | some q => rw [e] at h; exact zii rs a b x q.1 q.2 h
theorem zgw : ∀ {l : List Nat} {i pv : Nat} {c : Nat}, l[i]? = some c → zig pv (l.take (i + 1)) = c
 | a :: l, 0, pv, c, h => by simp at h; simp [zig, h]
 | a :: l, i + 1, pv, c, h => by
  rw [List.take_succ_cons, zig]
  exact zgw (by simpa using h)
theorem zne : ∀ h : Nat, h < 256 → (small h = true ↔ h ∈ cs zua) := by decide +kernel
theorem sgn (c d : Nat) : ((⟨#[c]⟩ : Str) = ⟨#[d]⟩) ↔ c = d := by
 constructor
 ·intro h; have := congrArg cs h; rw [zjj, zjj] at this; simpa using this
 ·intro h; rw [h]
theorem s40 : ("(" : Str) = ⟨#[40]⟩ := by decide +kernel
theorem s41 : (")" : Str) = ⟨#[41]⟩ := by decide +kernel
theorem s32 : (" " : Str) = ⟨#[32]⟩ := by decide +kernel
theorem zrr (w : List Nat) (c : Nat) : toS w ++ (⟨#[c]⟩ : Str) = toS (w ++ [c]) := zfr (by rw [zbO, zbL, zbL]; rfl)
theorem zjH (w : List Nat) : (toS w).length = w.length := by rw [← zaS, zbL]
theorem zij {t : Str} (h : ∀ c ∈ cs t, c < 256) : PyData.strOk t = true := by
 unfold PyData.strOk
 rw [Array.all_eq_true']
 intro c hc
 have := h c (by unfold cs; exact Array.mem_toList_iff.mpr hc)
 exact decide_eq_true (by omega)
def Shp : List (List Tr) → Prop
 | [] => True
 | [_] => True
 | row :: r2 :: st => (∃ nm ch, row = .wd nm :: ch) ∧ Shp (r2 :: st)
structure zdm (rs : List Rule) (st : List (List Tr)) : Prop where
 kid : ∀ row ∈ st, ∀ c ∈ row, Kid rs c
 str : ∀ row ∈ st, ∀ x, Tr.wd x ∈ row → PyData.strOk x = true
theorem zdm.cons {rs : List Rule} {st : List (List Tr)} {row : List Tr} (h : zdm rs st) (h1 : ∀ c ∈ row, Kid rs c) (h2 : ∀ x, Tr.wd x ∈ row → PyData.strOk x = true) : zdm rs (row :: st) :=
 ⟨fun r hr c hc => (List.mem_cons.mp hr).elim (fun z => h1 c (z ▸ hc)) fun z => h.kid r z c hc, fun r hr x hx => (List.mem_cons.mp hr).elim (fun z => h2 x (z ▸ hx)) fun z => h.str r z x hx⟩
theorem zdm.tail {rs : List Rule} {st : List (List Tr)} {row : List Tr} (h : zdm rs (row :: st)) : zdm rs st := ⟨fun r hr => h.kid r (List.mem_cons_of_mem _ hr), fun r hr => h.str r (List.mem_cons_of_mem _ hr)⟩
theorem zkI (t : Str) : inW (.str t) [.str "S", .str "T_1", .str "UP_2034"] = decide (t ∈ H3) := by
 have := zof (t := t) (ts := H3)
 exact this
def StP (rs : List Rule) (x : Str) (M : Mm) (i : Nat) (τ : S3) (M' : Mm) : Prop := ∃ (st : List (List Tr)) (w : List Nat) (b : Addr) (as : List Addr) (o4 o5 o6 : Option W), τ = [some (rlW rs), some (.str x), some (.ref b), some (.str (toS w)), o4, o5, o6] ∧
 lrun rs ((cs x).take i) 0 [[]] [] = some (st, w) ∧ Stk M M' b st as ∧ zdm rs st ∧ Shp st ∧ st.length ≤ i + 1 ∧ (∀ row ∈ st, row.length ≤ i + 1) ∧ st ≠ [] ∧ w.length ≤ i ∧ ∀ c ∈ w, c < 256
theorem Stk.cut {M M' : Mm} {b b2 x : Addr} {st : List (List Tr)} {as : List Addr} {row : List Tr} (h : Stk M M' b (row :: st) (x :: as)) (hb : M' b2 = none) : Stk M (put M' b2 (.lst ((as.map W.ref).reverse))) b2 st as := by
 obtain ⟨n1, n2⟩ := List.nodup_cons.mp h.nd
 obtain ⟨n3, n4⟩ := List.nodup_cons.mp n2
 have hbM : M b2 = none := h.sub.non hb
 have n5 : b2 ∉ as := fun z => by obtain ⟨o, e⟩ := zg7 h.rows b2 (List.mem_cons_of_mem _ z); rw [hb] at e; cases e
 refine ⟨zaj, ?_, List.nodup_cons.mpr ⟨n5, n4⟩, fun y hy => ?_, zcQ h.sub hbM⟩
 ·cases h.rows with
  | cons r t => exact zdr n5 t
 ·rcases List.mem_cons.mp hy with z | z
  ·rw [z]; exact hbM
  ·exact h.new y (by simp [z])
theorem zoF {l : List W} {w : W} : cutW (l ++ [w]) none (some (-1)) = l := by
 unfold cutW
 have e : HT.sIx (l ++ [w]).length 0 none = 0 := rfl
 have e2 : HT.sIx (l ++ [w]).length (l ++ [w]).length (some (-1)) = l.length := by
  unfold HT.sIx
  simp
  omega
 rw [e, e2]
 simp
theorem e_mt : ("" : Str) = toS [] := (zdl.mpr rfl).symm
section
variable {rs : List Rule} {x : Str} {M M' : Mm} {i : Nat} {D : D3} {row : List Tr} {st' : List (List Tr)} {w : List Nat} {pv c : Nat} {b y : Addr} {as' : List Addr} {o6 : Option W}
theorem ztA (g : GrL rs) (hi : i < x.length) (hl : x.length ≤ 150000) (hprev : 0 < i → atI x.cps.toList ((i : Int) - 1) = some pv) (c2 : c = 41 ∨ c = 32)
  (hfail : zbY rs (row :: st') w pv c = none → ∀ M'', L3.Sub M M'' → D.rt .non M'')
  (hgood : ∀ st2 w2 b2 as2 o4' o5' o6' M'', zbY rs (row :: st') w pv c = some (st2, w2) → Stk M M'' b2 st2 as2 → zdm rs st2 → Shp st2 → st2.length ≤ i + 2 → (∀ row ∈ st2, row.length ≤ i + 2) → st2 ≠ [] → w2.length ≤ i + 1 → (∀ c ∈ w2, c < 256) →
   D.nx [some (rlW rs), some (.str x), some (.ref b2), some (.str (toS w2)), o4', o5', o6'] M'')
  (h2 : Stk M M' b (row :: st') (y :: as')) (h3 : zdm rs (row :: st')) (h4 : Shp (row :: st')) (h5 : st'.length + 1 ≤ i + 1) (h6 : ∀ r ∈ row :: st', r.length ≤ i + 1) (h8 : w.length ≤ i) (h9 : ∀ c ∈ w, c < 256) :
  zfh D [some (rlW rs), some (.str x), some (.ref b), some (.str (toS w)), some (.int (i : Nat)), some (.str ⟨#[c]⟩), o6] M' := by
 have hal := h2.len
 simp only [List.length_cons] at hal
 have hwl : (toS w).length = w.length := zjH w
 have q41 : ((⟨#[c]⟩ : Str) = ")") ↔ c = 41 := by rw [s41]; exact sgn c 41
 have q32 : ((⟨#[c]⟩ : Str) = " ") ↔ c = 32 := by rw [s32]; exact sgn c 32
 have p41 : ((⟨#[pv]⟩ : Str) = ")") ↔ pv = 41 := by rw [s41]; exact sgn pv 41
 have p40 : ((⟨#[pv]⟩ : Str) = "(") ↔ pv = 40 := by rw [s40]; exact sgn pv 40
 have c40 : ¬ c = 40 := by omega
 obtain ⟨L, hL⟩ : ∃ L, L = ((y :: as').map W.ref).reverse := ⟨_, rfl⟩
 have hbs := h2.bs
 rw [← hL] at hbs
 have hLl : L.length = as'.length + 1 := by rw [hL, List.length_reverse, List.length_map, List.length_cons]
 obtain ⟨TB, hTB⟩ : ∃ z, z = vSeq zgZ (vSeq zee (vSeq (vSet 3 (vC (.str ""))) zcH)) := ⟨_, rfl⟩
 cases st' with
 | nil =>
  have hf : zbY rs [row] w pv c = none := by unfold zbY; rw [if_neg c40, if_pos c2]
  simp? only [zfh, zjt, hbs]
  rw [if_pos (by rw [hLl]; simp at hal; rw [hal]; decide)]
  exact hfail hf _ h2.sub
 | cons r2 st2 =>
  obtain ⟨y2, as2, rfl⟩ := h2.pop.1.cons
  have hstep : zbY rs (row :: r2 :: st2) w pv c = zb2 rs w pv c row r2 st2 := by unfold zbY; rw [if_neg c40, if_pos c2]
  obtain ⟨⟨nm, ch, rfl⟩, h4'⟩ := h4
  have hrow := h6 (.wd nm :: ch) List.mem_cons_self
  have hr2 := h6 r2 (List.mem_cons_of_mem _ List.mem_cons_self)
  have hi0 : 0 < i := by simp only [List.length_cons] at h5; omega
  have hpv := hprev hi0
  have kB : ¬ (w ≠ [] ∧ small (w.headD 0) = false) → TB D [some (rlW rs), some (.str x), some (.ref b), some (.str (toS w)), some (.int (i : Nat)), some (.str ⟨#[c]⟩), o6] M' := by
   intro n1
   obtain ⟨TC, hTC⟩ : ∃ z, z = vSeq zee (vSeq (vSet 3 (vC (.str ""))) zcH) := ⟨_, rfl⟩
   have kC : ¬ (w = [] ∧ pv ≠ 41 ∧ (c = 32 ∨ pv ≠ 40)) → TC D [some (rlW rs), some (.str x), some (.ref b), some (.str (toS w)), some (.int (i : Nat)), some (.str ⟨#[c]⟩), o6] M' := by
    intro n2
    have hclA : c = 32 → zb2 rs w pv c (.wd nm :: ch) r2 st2 = some (lrow w (.wd nm :: ch) :: r2 :: st2, []) := fun e => by unfold zb2; rw [if_neg n1, if_neg n2, if_pos e]
    have hclN : ¬ c = 32 → zfx rs (lrow w (.wd nm :: ch)) = none → zb2 rs w pv c (.wd nm :: ch) r2 st2 = none := fun e h => by unfold zb2; rw [if_neg n1, if_neg n2, if_neg e, h]
    have hclS : ¬ c = 32 → ∀ t, zfx rs (lrow w (.wd nm :: ch)) = some t → zb2 rs w pv c (.wd nm :: ch) r2 st2 = some ((r2 ++ [t]) :: st2, []) := fun e t h => by unfold zb2; rw [if_neg n1, if_neg n2, if_neg e, h]
    obtain ⟨ch', hch', hkid, hstr, hlen⟩ : ∃ ch', lrow w (.wd nm :: ch) = .wd nm :: ch' ∧ (∀ c ∈ ch', Kid rs c) ∧ (∀ z, Tr.wd z ∈ ch' → PyData.strOk z = true) ∧ ch'.length ≤ i + 1 := by
     simp only [List.length_cons] at hrow
     unfold lrow
     split
     ·exact ⟨ch, rfl, fun c hc => h3.kid _ List.mem_cons_self c (List.mem_cons_of_mem _ hc), fun z hz => h3.str _ List.mem_cons_self z (List.mem_cons_of_mem _ hz), by omega⟩
     ·refine ⟨ch ++ [.wd (toS w)], rfl, fun c hc => ?_, fun z hz => ?_, by rw [List.length_append, List.length_singleton]; omega⟩
      ·rcases List.mem_append.mp hc with q | q
       ·exact h3.kid _ List.mem_cons_self c (List.mem_cons_of_mem _ q)
       ·rw [List.mem_singleton.mp q]; show (toS w).length ≤ 1000000; omega
      ·rcases List.mem_append.mp hz with q | q
       ·exact h3.str _ List.mem_cons_self z (List.mem_cons_of_mem _ q)
       ·have := List.mem_singleton.mp q
        cases this
        exact zij (by rw [zbL]; exact h9)
    have hnm : PyData.strOk nm = true := h3.str _ List.mem_cons_self nm List.mem_cons_self
    have hkn : Kid rs (.wd nm) := h3.kid _ List.mem_cons_self _ List.mem_cons_self
    have kD : ∀ M2, Stk M M2 b ((Tr.wd nm :: ch') :: r2 :: st2) (y :: y2 :: as2) → vSeq (vSet 3 (vC (.str ""))) zcH D [some (rlW rs), some (.str x), some (.ref b), some (.str (toS w)), some (.int (i : Nat)), some (.str ⟨#[c]⟩), o6] M2 := by
     intro M2 hs
     have hbs2 := hs.bs
     rw [← hL] at hbs2
     have hlast : atI L (-1) = some (.ref y) := by rw [hL, zcR]; exact zej
     have hrok : zdm rs (r2 :: st2) := h3.tail
     have hrl : ∀ r ∈ r2 :: st2, r.length ≤ i + 1 := fun r hr => h6 r (List.mem_cons_of_mem _ hr)
     simp? only [zcH]
     rw [e_mt]
     by_cases c41 : c = 41
     ·have c32 : ¬ c = 32 := by omega
      rw [if_pos (q41.mpr c41)]
      simp? only [hbs2]
      refine .inl ⟨_, .ref y, rfl, hlast, rs, y, nm, ch', rfl, g, hs.top_at, hkid, hstr, by omega, fun e => ?_, fun t e => ?_⟩
      ·simp? only [zju, L3.rIs, isNon]
       exact hfail (by rw [hstep, hclN c32 (by rw [hch', zfx, e])]) _ hs.sub
      ·obtain ⟨hkt, n', c', et⟩ := zic e
       have hnn : isNon t.w = false := by rw [et]; rfl
       simp? only [zju, L3.rIs, hnn, hbs2]
       intro b2 hb2
       obtain ⟨L2, hL2⟩ : ∃ z, z = ((y2 :: as2).map W.ref).reverse := ⟨_, rfl⟩
       have hct : cutW L none (some (-1)) = L2 := by rw [hL, hL2, zcR]; exact zoF
       have hs2 := hs.cut hb2
       obtain ⟨M3, hM3⟩ : ∃ z, z = put M2 b2 (.lst L2) := ⟨_, rfl⟩
       rw [hct, ← hM3]
       rw [← hL2, ← hM3] at hs2
       have hs2t := hs2.top_at
       have hs3 := hs2.top (row' := r2 ++ [t])
       have hM3b : M3 b2 = some (.lst L2) := by rw [hM3]; exact zaj
       refine .inl ⟨_, .ref y2, hM3b, by rw [hL2, zcR]; exact zej, ?_⟩
       simp? only [hs2t]
       refine ⟨by rw [List.length_map]; omega, ?_⟩
       have e2 : tw r2 ++ [t.w] = tw (r2 ++ [t]) := by unfold tw; rw [List.map_append]; rfl
       rw [e2]
       refine hgood ((r2 ++ [t]) :: st2) [] b2 (y2 :: as2) _ _ _ _ (by rw [hstep, hclS c32 t (by rw [hch', zfx, e])]) hs3 (hrok.tail.cons (fun c hc => ?_) fun z hz => ?_) ?_ ?_ (fun r hr => ?_) (by simp) (by simp) (by simp)
       ·rcases List.mem_append.mp hc with q | q
        ·exact hrok.kid r2 List.mem_cons_self c q
        ·rw [List.mem_singleton.mp q]; exact hkt
       ·rcases List.mem_append.mp hz with q | q
        ·exact hrok.str r2 List.mem_cons_self z q
        ·have := List.mem_singleton.mp q
         rw [et] at this; cases this
       ·cases st2 with
        | nil => trivial
        | cons r3 st3 =>
         obtain ⟨⟨nm2, ch2, e3⟩, h4''⟩ := h4'
         exact ⟨⟨nm2, ch2 ++ [t], by rw [e3]; rfl⟩, h4''⟩
       ·simp only [List.length_cons] at h5 ⊢; omega
       ·rcases List.mem_cons.mp hr with q | q
        ·rw [q, List.length_append, List.length_singleton]; omega
        ·have := hrl r (List.mem_cons_of_mem _ q); omega
     ·have c32 : c = 32 := by omega
      have hcA := hclA c32
      rw [hch'] at hcA
      rw [if_neg (fun e => c41 (q41.mp e))]
      refine hgood ((.wd nm :: ch') :: r2 :: st2) [] b (y :: y2 :: as2) _ _ _ _ (by rw [hstep, hcA]) hs (hrok.cons (fun c hc => ?_) fun z hz => ?_) ⟨⟨nm, ch', rfl⟩, h4'⟩ (by simp only [List.length_cons] at h5 ⊢; omega) (fun r hr => ?_) (by simp) (by simp) (by simp)
      ·rcases List.mem_cons.mp hc with q | q
       ·rw [q]; exact hkn
       ·exact hkid c q
      ·rcases List.mem_cons.mp hz with q | q
       ·cases q; exact hnm
       ·exact hstr z q
      ·rcases List.mem_cons.mp hr with q | q
       ·rw [q, List.length_cons]; omega
       ·have := hrl r q; omega
    subst hTC
    have htop := h2.top_at
    have hlast : atI L (-1) = some (.ref y) := by rw [hL, zcR]; exact zej
    obtain ⟨T4, hT4⟩ : ∃ z, z = vSeq (vSet 3 (vC (.str ""))) zcH := ⟨_, rfl⟩
    rw [← hT4] at kD ⊢
    simp? only [zee]
    by_cases hw : w = []
    ·have e1 : toS w = "" := zdl.mpr hw
     rw [if_neg (by simp [e1])]
     refine kD _ ?_
     have e2 : lrow w (.wd nm :: ch) = .wd nm :: ch := by unfold lrow; rw [if_pos hw]
     rw [← hch', e2]; exact h2
    ·rw [if_pos (fun e => hw (zdl.mp e))]
     simp? only [hbs]
     refine .inl ⟨_, .ref y, rfl, hlast, ?_⟩
     obtain ⟨rw0, hrw0⟩ : ∃ z, z = tw (.wd nm :: ch) := ⟨_, rfl⟩
     rw [← hrw0] at htop
     have hrl0 : rw0.length = (Tr.wd nm :: ch).length := by rw [hrw0, List.length_map]
     simp? only [htop]
     refine ⟨by rw [hrl0]; omega, kD _ ?_⟩
     have e2 : lrow w (.wd nm :: ch) = .wd nm :: ch ++ [.wd (toS w)] := by unfold lrow; rw [if_neg hw]
     have e3 : tw (.wd nm :: ch) ++ [W.str (toS w)] = tw (.wd nm :: ch ++ [.wd (toS w)]) := by unfold tw; rw [List.map_append]; rfl
     rw [← hch', e2, hrw0, e3]
     exact h2.top
   subst hTB
   rw [← hTC]
   simp? only [zgZ, hpv]
   by_cases hw : w = []
   ·rw [if_pos (zdl.mpr hw)]
    refine ⟨by omega, ?_⟩
    by_cases h41 : pv = 41
    ·rw [if_neg (by simp [p41.mpr h41])]
     exact kC fun z => z.2.1 h41
    ·rw [if_pos (fun e => h41 (p41.mp e))]
     by_cases h32 : c = 32
     ·rw [if_pos (q32.mpr h32)]
      refine hfail ?_ _ h2.sub
      rw [hstep]; unfold zb2
      rw [if_neg n1, if_pos ⟨hw, h41, .inl h32⟩]
     ·rw [if_neg (fun e => h32 (q32.mp e))]
      refine ⟨by omega, ?_⟩
      by_cases h40 : pv = 40
      ·rw [if_neg (by simp [p40.mpr h40])]
       exact kC fun z => z.2.2.elim h32 fun q => q h40
      ·rw [if_pos (fun e => h40 (p40.mp e))]
       refine hfail ?_ _ h2.sub
       rw [hstep]; unfold zb2
       rw [if_neg n1, if_pos ⟨hw, h41, .inr h40⟩]
   ·rw [if_neg (fun e => hw (zdl.mp e))]
    exact kC fun z => hw z.1
  simp only [zfh]
  rw [← hTB]
  simp? only [zjt, hbs]
  rw [if_neg (by rw [hLl, List.length_cons]; omega)]
  cases w with
  | nil =>
   rw [if_neg (by simp [zdl])]
   exact kB fun z => z.1 rfl
  | cons a w =>
   rw [if_pos (fun e => by have := zdl.mp e; cases this)]
   have ha : atI (toS (a :: w)).cps.toList 0 = some a := atI0 _ _
   simp? only [ha, L3.rIn]
   refine ⟨by omega, ?_⟩
   rw [zmo]
   have hsm := zne a (h9 a List.mem_cons_self)
   cases hs0 : small a with
   | true =>
    rw [if_neg (by rw [decide_eq_true (hsm.mp hs0)]; decide)]
    refine kB fun z => ?_
    have z2 := z.2
    rw [List.headD_cons, hs0] at z2
    cases z2
   | false =>
    have hna : ¬ a ∈ cs ("abcdefghijklmnopqrstuvwxyz" : Str) := fun z => by have := hsm.mpr z; rw [hs0] at this; cases this
    rw [if_pos (decide_eq_false hna)]
    refine hfail ?_ _ h2.sub
    rw [hstep]; unfold zb2
    rw [if_pos ⟨by simp, by rw [List.headD_cons]; exact hs0⟩]
end
theorem zjI {ws : List W} {M : Mm} {R : K3} (h : zc8 ws M R) : zdj (zaP R) (zbe zgY ws) M := by
 obtain ⟨rs, x, rfl, g, hl, h256, r0, r1⟩ := h
 show zdj (zaP R) [some (rlW rs), some (.str x), none, none, none, none, none] M
 simp? only [zdj, zfL, zfM, zfN]
 intro p hp b hb
 refine ⟨by omega, _, rfl, by omega, by omega, ?_⟩
 rw [Int.toNat_natCast]
 have hpb : p ≠ b := fun e => by subst e; rw [zaj] at hb; cases hb
 have hbM : M b = none := by rw [za7 (Ne.symm hpb)] at hb; exact hb
 have start : Stk M (put (put M p (.lst [])) b (.lst [W.ref p])) b [[]] [p] := by
  refine ⟨zaj, .cons (by rw [za7 hpb, zaj]; rfl) .nil, by simp [Ne.symm hpb], fun y hy => ?_, zcQ (zcQ (Sub.refl _) hp) hbM⟩
  rcases List.mem_cons.mp hy with z | z
  ·rw [z]; exact hbM
  ·rw [List.mem_singleton.mp z]; exact hp
 have none_of : ∀ i, lrun rs ((cs x).take i) 0 [[]] [] = none → ze9 rs (cs x) = none := fun i e => by
  unfold ze9
  rw [← List.take_append_drop i (cs x), zii rs _ _ _ _ _ e]
 refine for3 (StP rs x M) ⟨_, [], _, _, _, _, _, rfl, rfl, start, ⟨by simp, by simp⟩, trivial, by simp, by simp, by simp, by simp, by simp⟩ (fun _ _ _ _ _ => trivial) ?_ ?_
 ·rintro i w' τ M' hw ⟨st, w, b, as, o4, o5, o6, rfl, h1, h2, h3, h4, h5, h6, h7, h8, h9⟩
  obtain ⟨hi, rfl⟩ := zbx hw
  rw [Int.zero_add]
  have hic : i < (cs x).length := by rw [zaS]; exact hi
  obtain ⟨c, hc⟩ : ∃ c, (cs x)[i]? = some c := ⟨_, List.getElem?_eq_getElem hic⟩
  have hat : atI x.cps.toList (i : Int) = some c := zeo hc
  have hc256 := h256 c (List.mem_of_getElem? hc)
  obtain ⟨pv, hpv⟩ : ∃ pv, pv = zig 0 ((cs x).take i) := ⟨_, rfl⟩
  have hprev : 0 < i → atI x.cps.toList ((i : Int) - 1) = some pv := fun h0 => by
   obtain ⟨j, rfl⟩ : ∃ j, i = j + 1 := ⟨i - 1, by omega⟩
   obtain ⟨d, hd⟩ : ∃ d, (cs x)[j]? = some d := ⟨_, List.getElem?_eq_getElem (by omega)⟩
   rw [hpv, zgw hd, show ((j + 1 : Nat) : Int) - 1 = (j : Int) by omega]
   exact zeo hd
  have hpv0 : i = 0 → pv = 0 := fun e => by rw [hpv, e]; rfl
  have ht : (cs x).take (i + 1) = (cs x).take i ++ [c] := by rw [List.take_add_one, hc]; rfl
  have hnext : lrun rs ((cs x).take (i + 1)) 0 [[]] [] = zbY rs st w pv c := by rw [ht, zih, h1, hpv]; rfl
  have hsub := h2.sub
  have fail : zbY rs st w pv c = none → ∀ M'', L3.Sub M M'' → ∃ M3, L3.Sub M3 M'' ∧ R .non M3 := fun e M'' sb => ⟨M, sb, r0 (none_of (i + 1) (by rw [hnext, e]))⟩
  have good : ∀ st2 w2 b2 as2 o4' o5' o6' M'', zbY rs st w pv c = some (st2, w2) → Stk M M'' b2 st2 as2 → zdm rs st2 → Shp st2 → st2.length ≤ i + 2 → (∀ row ∈ st2, row.length ≤ i + 2) → st2 ≠ [] → w2.length ≤ i + 1 → (∀ c ∈ w2, c < 256) →
    ∃ M3, L3.Sub M3 M'' ∧ StP rs x M (i + 1) [some (rlW rs), some (.str x), some (.ref b2), some (.str (toS w2)), o4', o5', o6'] M3 := fun st2 w2 b2 as2 o4' o5' o6' M'' e q1 q2 q3 q4 q5 q6 q7 q8 =>
   ⟨M'', Sub.refl _, st2, w2, b2, as2, _, _, _, rfl, by rw [hnext, e], q1, q2, q3, q4, q5, q6, q7, q8⟩
  obtain ⟨row, st', rfl⟩ : ∃ row st', st = row :: st' := by
   cases st with
   | nil => exact absurd rfl h7
   | cons row st' => exact ⟨_, _, rfl⟩
  obtain ⟨y, as', rfl⟩ := h2.cons
  have hal := h2.len
  simp only [List.length_cons] at hal h5
  have hrow := h6 row (by simp)
  have hwl : (toS w).length = w.length := zjH w
  simp? only [ze0, hat]
  refine ⟨by omega, ?_⟩
  have q40 : ((⟨#[c]⟩ : Str) = "(") ↔ c = 40 := by rw [s40]; exact sgn c 40
  have q41 : ((⟨#[c]⟩ : Str) = ")") ↔ c = 41 := by rw [s41]; exact sgn c 41
  have q32 : ((⟨#[c]⟩ : Str) = " ") ↔ c = 32 := by rw [s32]; exact sgn c 32
  by_cases c40 : c = 40
  ·rw [if_pos (q40.mpr c40)]
   simp? only [zks, vKl, aKl, L3.rIn, List.map_cons, List.map_nil, zkI]
   refine ⟨rfl, rfl, ?_⟩
   by_cases hm : toS w ∈ H3
   ·rw [if_neg (by simpa using hm)]
    refine ⟨⟨_, h2.bs⟩, fun p' hp' => ⟨_, by rw [za7 (fun e => by rw [← e, h2.bs] at hp'; cases hp')]; exact h2.bs, by rw [List.length_reverse, List.length_map, List.length_cons]; omega, ?_⟩⟩
    rw [e_mt]
    refine good ([.wd (toS w)] :: row :: st') [] b (p' :: y :: as') _ _ _ _ (by unfold zbY; rw [if_pos c40, if_pos hm]) (h2.push (row := [.wd (toS w)]) hp') (h3.cons (fun z hz => ?_) fun z hz => ?_) ⟨⟨_, _, rfl⟩, h4⟩ (by simp only [List.length_cons]; omega) (fun r hr => ?_) (by simp) (by simp) (by simp)
    ·rw [List.mem_singleton.mp hz]; show (toS w).length ≤ 1000000; omega
    ·have := List.mem_singleton.mp hz
     cases this
     exact zij (by rw [zbL]; exact h9)
    ·rcases List.mem_cons.mp hr with z | z
     ·rw [z]; simp
     ·have := h6 r z; omega
   ·rw [if_pos hm]
    exact fail (by unfold zbY; rw [if_pos c40, if_neg hm]) _ h2.sub
  ·rw [if_neg (fun e => c40 (q40.mp e))]
   by_cases c2 : c = 41 ∨ c = 32
   ·rcases id c2 with c41 | c32
    ·rw [if_pos (q41.mpr c41)]
     exact ztA g hi hl hprev c2 fail good h2 h3 h4 h5 h6 h8 h9
    ·rw [if_neg (fun e => by have := q41.mp e; omega), if_pos (q32.mpr c32)]
     exact ztA g hi hl hprev c2 fail good h2 h3 h4 h5 h6 h8 h9
   ·rw [if_neg (fun e => c2 (.inl (q41.mp e))), if_neg (fun e => c2 (.inr (q32.mp e)))]
    simp? only [zkt]
    have word : pv ≠ 41 → ∃ M3, L3.Sub M3 M' ∧ StP rs x M (i + 1) [some (rlW rs), some (.str x), some (.ref b), some (.str (toS w ++ (⟨#[c]⟩ : Str))), some (.int (i : Nat)), some (.str ⟨#[c]⟩), o6] M3 := fun hp41 => by
     rw [zrr]
     refine good (row :: st') (w ++ [c]) b (y :: as') _ _ _ _ (by unfold zbY; rw [if_neg c40, if_neg c2, if_neg hp41]) h2 h3 h4 (by simp only [List.length_cons]; omega) (fun r hr => by have := h6 r hr; omega) (by simp) (by rw [List.length_append, List.length_singleton]; omega) fun d hd => ?_
     rcases List.mem_append.mp hd with z | z
     ·exact h9 d z
     ·rw [List.mem_singleton.mp z]; exact hc256
    have hone : (⟨#[c]⟩ : Str).length = 1 := rfl
    by_cases hi0 : 0 < i
    ·rw [if_pos (by omega)]
     simp? only [hprev hi0]
     refine ⟨by omega, ?_⟩
     have p41 : ((⟨#[pv]⟩ : Str) = ")") ↔ pv = 41 := by rw [s41]; exact sgn pv 41
     by_cases hp41 : pv = 41
     ·rw [if_pos (p41.mpr hp41)]
      exact fail (by unfold zbY; rw [if_neg c40, if_neg c2, if_pos hp41]) _ h2.sub
     ·rw [if_neg (fun e => hp41 (p41.mp e))]
      exact ⟨by omega, word hp41⟩
    ·rw [if_neg (by omega)]
     exact ⟨by omega, word (by rw [hpv0 (by omega)]; decide)⟩
 ·rintro τ M' ⟨st, w, b, as, o4, o5, o6, rfl, h1, h2, h3, h4, h5, h6, h7, h8, h9⟩
  rw [zbX, ← zaS, List.take_length] at h1
  have hrd : ze9 rs (cs x) = lend st w := by unfold ze9; rw [h1]
  have hal := h2.len
  have hbs := h2.bs
  have hsub := h2.sub
  have fail : lend st w = none → ∃ M3, L3.Sub M3 M' ∧ R .non M3 := fun e => ⟨M, hsub, r0 (by rw [hrd, e])⟩
  simp? only [zfO, hbs]
  match st, as, h2, hal, hrd, fail, h7, hbs with
  | [], _, _, _, _, _, h7, _ => exact absurd rfl h7
  | row :: r2 :: st2, y :: as2, h2, hal, hrd, fail, _, hbs =>
   rw [if_neg (by simp only [List.length_reverse, List.length_map, List.length_cons] at *; omega)]
   refine fail ?_
   unfold lend
   cases row with
   | nil => rfl
   | cons c r => cases r <;> rfl
  | [row], [y], h2, hal, hrd, fail, _, hbs =>
   have hy := h2.top_at
   simp only [List.map_cons, List.map_nil, List.reverse_cons, List.reverse_nil, List.nil_append] at hbs ⊢
   rw [if_pos (by simp)]
   refine .inl ⟨_, .ref y, rfl, rfl, ?_⟩
   simp? only [hy]
   match row, hy, hrd, fail with
   | [], hy, hrd, fail =>
    rw [if_neg (by decide)]
    exact fail rfl
   | c :: c2 :: r, hy, hrd, fail =>
    rw [if_neg (by simp only [tw, List.length_map, List.length_cons]; omega)]
    exact fail rfl
   | [c], hy, hrd, fail =>
    have hy1 : M' y = some (.lst [c.w]) := hy
    rw [if_pos (by simp)]
    cases w with
    | nil =>
     rw [if_pos (zdl.mpr rfl)]
     simp? only [hbs]
     refine .inl ⟨_, .ref y, rfl, rfl, ?_⟩
     simp? only [hy1]
     exact .inl ⟨_, c.w, rfl, rfl, M, hsub, r1 c hrd⟩
    | cons a w =>
     rw [if_neg (fun e => by have := zdl.mp e; cases this)]
     exact fail rfl
end Rg
namespace Rg
open PySem PySem.Spec PyProof.Rows L2 L3
theorem zik {ws : List W} {M : Mm} {R : K3} (h : zbZ ws M R) : zcC (zaP R) (zbe zfE ws) M := by
 obtain ⟨d, hs, rfl, hne, hh, hl, r⟩ := h
 show zcC (zaP R) [some (.int d), some (.rl (hs.map W.str)), none, none, none] M
 have hpos : 0 < hs.length := List.length_pos_iff.mpr hne
 simp? only [zcC, zeK, zeL]
 intro p hp
 have hd0 : 0 ≤ d % 6 := Int.emod_nonneg _ (by decide)
 have hd1 : d % 6 < 6 := Int.emod_lt_of_pos _ (by decide)
 obtain ⟨m, em, _, mm⟩ := zd6 (xs := [W.int 0, W.int 1, W.int 2, W.int 2, W.int 3, W.int 1]) (i := d % 6) hd0 (by simp; omega)
 refine ⟨m, em, ?_⟩
 have hm : ∃ n : Nat, m = .int n ∧ n ≤ 3 := by
  simp at mm
  rcases mm with rfl | rfl | rfl | rfl | rfl
  ·exact ⟨0, rfl, by decide⟩
  ·exact ⟨1, rfl, by decide⟩
  ·exact ⟨2, rfl, by decide⟩
  ·exact ⟨3, rfl, by decide⟩
  ·exact ⟨1, rfl, by decide⟩
 obtain ⟨n, rfl, hn⟩ := hm
 refine ⟨_, rfl, by omega, by omega, ?_⟩
 rw [Int.toNat_natCast]
 refine for3 (fun i τ M' => ∃ (ts : List Str) (o3 o4 : Option W), τ = [some (.int d), some (.rl (hs.map W.str)), some (.ref p), o3, o4] ∧ M' = put M p (.lst (ts.map W.str)) ∧ ts.length = i ∧ ∀ t ∈ ts, t ∈ ABC ∨ t ∈ H3) ⟨[], _, _, rfl, rfl, rfl, by simp⟩ (fun _ _ _ _ _ => trivial) ?_ ?_
 ·rintro i w τ M' hw ⟨ts, o3, o4, rfl, rfl, htl, ht⟩
  obtain ⟨hi, rfl⟩ := zbx hw
  rw [Int.zero_add]
  have fin : ∀ t o, (t ∈ ABC ∨ t ∈ H3) → ∃ M'', L3.Sub M'' (put M p (.lst (ts.map W.str ++ [.str t]))) ∧ ∃ (ts : List Str) (o3 o4 : Option W), [some (W.int d), some (.rl (hs.map W.str)), some (.ref p), some (.int (i : Nat)), o] = [some (.int d), some (.rl (hs.map W.str)), some (.ref p), o3, o4] ∧ M'' = put M p (.lst (ts.map W.str)) ∧ ts.length = i + 1 ∧ ∀ t ∈ ts, t ∈ ABC ∨ t ∈ H3 := fun t o ht' =>
   ⟨_, Sub.refl _, ts ++ [t], _, _, rfl, by rw [List.map_append]; rfl, by rw [List.length_append, htl]; rfl, fun u hu => (List.mem_append.mp hu).elim (ht u) fun q => by rw [List.mem_singleton.mp q]; exact ht'⟩
  have hdv : zl1 d (6 + 90 * (i : Int)) := ⟨by omega, by omega⟩
  simp? only [zea, vKl, aKl, List.map_cons, List.map_nil]
  refine ⟨.inl (.inl ⟨by decide, by decide⟩), hdv, ?_⟩
  generalize d / (6 + 90 * (i : Int)) % 15 = one
  split
  ·obtain ⟨t, e, m⟩ := zff (ts := ABC) (k := one % 3) (Int.emod_nonneg _ (by decide)) (by have := Int.emod_lt_of_pos one (show (0 : Int) < 3 by decide); show one % 3 < 3; exact this)
   exact ⟨_, e, by rw [List.length_map]; omega, fin t _ (.inl m)⟩
  ·have hpos' : (0 : Int) < ((hs.map W.str).length : Int) := by rw [List.length_map]; omega
   obtain ⟨t, e, m⟩ := zff (ts := hs) (k := one % ((hs.map W.str).length : Int)) (Int.emod_nonneg _ (by omega)) (by have := Int.emod_lt_of_pos one hpos'; rw [List.length_map] at this ⊢; exact this)
   exact ⟨hpos', _, e, by rw [List.length_map]; omega, fin t _ (.inr (hh t m))⟩
 ·rintro τ M' ⟨ts, o3, o4, rfl, rfl, htl, ht⟩
  rw [zbX] at htl
  simp? only [zeM]
  exact ⟨_, Sub.new hp, r ts (by omega) ht⟩
theorem zgj {ws : List W} {M : Mm} {R : K3} (h : zb4 ws M R) : zb7 (zaP R) (zbe zdR ws) M := by
 obtain ⟨zs, rfl, hz, hl, r⟩ := h
 show zb7 (zaP R) [some (.sc zs), none, none, none, none, none, none] M
 simp? only [zb7, zdC, zdD, zdE, zdF, vKl, aKl, List.map_cons, List.map_nil]
 refine ⟨zs, 0, .inl rfl, hz, by decide, fun cell => ?_⟩
 simp? only []
 have hc0 : 0 ≤ cell / 2 % 3 := Int.emod_nonneg _ (by decide)
 have hc1 : cell / 2 % 3 < 3 := Int.emod_lt_of_pos _ (by decide)
 have hn0 : 0 ≤ cell / 6 % 5 := Int.emod_nonneg _ (by decide)
 have hn1 : cell / 6 % 5 < 5 := Int.emod_lt_of_pos _ (by decide)
 obtain ⟨hs, ehs⟩ : ∃ hs, hs = H3.take (1 + cell / 2 % 3).toNat := ⟨_, rfl⟩
 have hcut : cutW [W.str "S", W.str "T_1", W.str "UP_2034"] none (some (1 + cell / 2 % 3)) = hs.map W.str := by
  rw [zqi (by omega) (by simp; omega), ehs, List.map_take]; rfl
 have hsl : (hs.length : Int) = 1 + cell / 2 % 3 := by
  rw [ehs, List.length_take]
  have : H3.length = 3 := rfl
  omega
 have hsm : ∀ h ∈ hs, h ∈ H3 := fun h hh => by rw [ehs] at hh; exact List.mem_of_mem_take hh
 rw [hcut]
 intro p hp
 refine ⟨_, rfl, by rw [List.length_map]; omega, by rw [List.length_map]; omega, ?_⟩
 have h3 : hs.length ≤ 3 := by omega
 obtain ⟨n, hn⟩ : ∃ n : Nat, ((hs.map W.str).length : Int) + cell / 6 % 5 = n := ⟨(((hs.map W.str).length : Int) + cell / 6 % 5).toNat, by omega⟩
 rw [hn, Int.toNat_natCast]
 rw [List.length_map] at hn
 refine for3 (fun i τ M' => ∃ (rs : List Rule) (o4 o5 o6 : Option W), τ = [some (.sc zs), some (.int cell), some (.rl (hs.map W.str)), some (.ref p), o4, o5, o6] ∧ M' = put M p (.lst (rs.map zbh)) ∧ rs.length = i ∧ Gr rs) ⟨[], _, _, _, rfl, rfl, rfl, ⟨by simp, by simp, by simp⟩⟩ (fun _ _ _ _ _ => trivial) ?_ ?_
 ·rintro i w τ M' hw ⟨rs, o4, o5, o6, rfl, rfl, hrl, g⟩
  obtain ⟨hi, rfl⟩ := zbx hw
  rw [Int.zero_add]
  obtain ⟨T1, hT1⟩ : ∃ z, z = vSeq (vSet 6 (vOp rIx (vVar 2) (vOp rMod (vVar 5) (vCB rLen (zac (vVar 2) aNil)))))
   (vSeq (vIfS (zaK (vOp rLt (vVar 4) (vCB rLen (zac (vVar 2) aNil))))
    (vSet 6 (vOp rIx (vVar 2) (vVar 4)))
    zbG)
   (zcn (vBM "list" rApp (vVar 3) (zac (vTup (zac (vVar 6) (zac (zbC zbZ (zac (vOp zd2 (vVar 5) (vC (.int 3))) (zac (vVar 2) aNil))) (zac (vOp rMod (vOp zd2 (vVar 5) (vC (.int 900))) (vC (.int 4))) aNil)))) aNil)))) := ⟨_, rfl⟩
  simp only [zdf]
  rw [← hT1]
  simp? only []
  refine ⟨zs, _, .inl rfl, hz, by omega, fun d => ?_⟩
  simp? only []
  have key : ∀ D : D3, (∀ (rs' : List Rule) (o4 o5 o6 : Option W), rs'.length = i + 1 → Gr rs' → D.nx [some (.sc zs), some (.int cell), some (.rl (hs.map W.str)), some (.ref p), o4, o5, o6] (put M p (.lst (rs'.map zbh)))) → ∀ d : Int, T1 D [some (.sc zs), some (.int cell), some (.rl (hs.map W.str)), some (.ref p), some (.int (i : Nat)), some (.int d), o6] (put M p (.lst (rs.map zbh))) := by
   intro D hD d
   subst hT1
   have hpos' : (0 : Int) < ((hs.map W.str).length : Int) := by rw [List.length_map]; omega
   obtain ⟨t1, e1, m1⟩ := zff (ts := hs) (k := d % ((hs.map W.str).length : Int)) (Int.emod_nonneg _ (by omega)) (by have := Int.emod_lt_of_pos d hpos'; rw [List.length_map] at this ⊢; exact this)
   have fin : ∀ t, t ∈ hs → zbZ [.int (d / 3), .rl (hs.map W.str)] (put M p (.lst (rs.map zbh))) fun pw M1 => ∃ ws, M1 p = some (.lst ws) ∧ ws.length < 16777216 ∧ D.nx [some (.sc zs), some (.int cell), some (.rl (hs.map W.str)), some (.ref p), some (.int (i : Nat)), some (.int d), some (.str t)] (put M1 p (.lst (ws ++ [.tup [.str t, pw, .int (d / 900 % 4)]]))) := fun t ht => by
    refine ⟨_, hs, rfl, fun e => by rw [e] at hpos'; simp at hpos', hsm, h3, fun ps hp3 hpm => ⟨_, zaj, by rw [List.length_map]; omega, ?_⟩⟩
    rw [zeq]
    have er : rs.map zbh ++ [W.tup [.str t, .tup (ps.map W.str), .int (d / 900 % 4)]] = (rs ++ [(⟨t, ps, d / 900 % 4⟩ : Rule)]).map zbh := by rw [List.map_append]; rfl
    rw [er]
    refine hD _ _ _ _ (by rw [List.length_append, hrl]; rfl) ⟨fun r hr => ?_, fun r hr => ?_, fun r hr => ?_⟩
    ·rcases List.mem_append.mp hr with z | z
     ·exact g.nm r z
     ·rw [List.mem_singleton.mp z]; exact hsm t ht
    ·rcases List.mem_append.mp hr with z | z
     ·exact g.pt r z
     ·rw [List.mem_singleton.mp z]; exact hpm
    ·rcases List.mem_append.mp hr with z | z
     ·exact g.few r z
     ·rw [List.mem_singleton.mp z]; exact hp3
   simp? only []
   refine ⟨hpos', _, e1, ?_⟩
   split
   ·rename_i hlt
    rw [List.length_map] at hlt
    obtain ⟨t2, e2, m2⟩ := zff (ts := hs) (k := (i : Int)) (by omega) hlt
    exact ⟨_, e2, fin t2 m2⟩
   ·exact fin t1 m1
  have nxt : ∀ (rs' : List Rule) (o4 o5 o6 : Option W), rs'.length = i + 1 → Gr rs' → ∃ M'', L3.Sub M'' (put M p (.lst (rs'.map zbh))) ∧ ∃ (rs : List Rule) (o4' o5' o6' : Option W), [some (W.sc zs), some (.int cell), some (.rl (hs.map W.str)), some (.ref p), o4, o5, o6] = [some (.sc zs), some (.int cell), some (.rl (hs.map W.str)), some (.ref p), o4', o5', o6'] ∧ M'' = put M p (.lst (rs.map zbh)) ∧ rs.length = i + 1 ∧ Gr rs :=
   fun rs' o4 o5 o6 hl' g' => ⟨_, Sub.refl _, rs', _, _, _, rfl, rfl, hl', g'⟩
  split
  ·have a0 : 0 ≤ d % 10 ^ 40 := Int.emod_nonneg _ (by decide)
   have a1 : d % 10 ^ 40 < 10 ^ 40 := Int.emod_lt_of_pos _ (by decide)
   have b1 : (d % 10 ^ 40 + (i : Int)).natAbs < 2 ^ 140 := by omega
   have b2 : (d % 10 ^ 40 + 5 * (i : Int) + 2).natAbs < 2 ^ 140 := by omega
   exact ⟨⟨by decide, by decide, by decide⟩, by decide, ⟨by decide, by decide, by decide⟩, by decide, .inl (.inl ⟨by decide, by decide⟩), .inr ⟨zoT b1 (by decide), zoT b2 (by decide)⟩, key _ nxt _⟩
  ·exact key _ nxt d
 ·rintro τ M' ⟨rs, o4, o5, o6, rfl, rfl, hrl, g⟩
  rw [zbX] at hrl
  simp? only [zdG]
  refine zl7 hp ⟨_, Sub.refl _, r rs ⟨g, fun e => ?_, by omega⟩⟩
  rw [e] at hrl
  simp at hrl; omega
end Rg
namespace Rg
open PySem PySem.Spec PyProof.Rows L2 L3
abbrev RL := List (Str × Int × Int)
theorem zeA (L : RL) (t : Str) : zbg (L.map rkW) (Sum.inr t : Key) = (rk L t).map fun q => W.tup [.int q.1, .int q.2] := by
 induction L with
 | nil => rfl
 | cons q L ih =>
  unfold zbg rk at ih ⊢
  rw [List.map_cons, List.find?_cons, List.find?_cons]
  have e : (rkW q).1 = Sum.inr q.1 := rfl
  by_cases h : q.1 = t
  ·rw [decide_eq_true (show (rkW q).1 = (Sum.inr t : Key) by rw [e, h]), decide_eq_true h]; rfl
  ·rw [decide_eq_false (show ¬ (rkW q).1 = (Sum.inr t : Key) from fun z => h (by rw [e] at z; exact Sum.inr.inj z)), decide_eq_false h]; exact ih
theorem ztB (L : RL) (t : Str) : ((L.map rkW).any fun kv => decide (kv.1 = (Sum.inr t : Key))) = (rk L t).isSome := by
 induction L with
 | nil => rfl
 | cons q L ih =>
  unfold rk at ih ⊢
  rw [List.map_cons, List.any_cons, List.find?_cons, ih]
  have e : (rkW q).1 = Sum.inr q.1 := rfl
  by_cases h : q.1 = t
  ·rw [decide_eq_true (show (rkW q).1 = (Sum.inr t : Key) by rw [e, h]), decide_eq_true h]; rfl
  ·rw [decide_eq_false (show ¬ (rkW q).1 = (Sum.inr t : Key) from fun z => h (by rw [e] at z; exact Sum.inr.inj z)), decide_eq_false h]; rfl
theorem ztC {L : RL} {t : Str} {a k : Int} (h : rk L t = none) : putW (L.map rkW) (Sum.inr t : Key) (.tup [.int a, .int k]) = (L ++ [(t, a, k)]).map rkW := by
 unfold putW
 rw [ztB, h]
 simp [rkW]
theorem zpj (L : RL) (q : Str × Int × Int) (x : Str) : rk (L ++ [q]) x = (rk L x).or (if q.1 = x then some q.2 else none) := by
 unfold rk
 rw [List.find?_append]
 cases L.find? fun z => decide (z.1 = x) with
 | some z => rfl
 | none =>
  by_cases e : q.1 = x
  ·simp [e]
  ·simp [e]
theorem ztD {rs : List Rule} {L : RL} {j : Nat} {r : Rule} {t : Int} (h : RkOk rs L) (hj : rs[j]? = some r) (hp : ∀ p ∈ r.parts, p ∈ H3 → ∃ t' k', rk L p = some (t', k') ∧ t' < t) (hn : rk L r.name = none) : RkOk rs (L ++ [(r.name, t, (j : Int))]) := by
 have keep : ∀ {p q}, rk L p = some q → rk (L ++ [(r.name, t, (j : Int))]) p = some q := fun {p q} e => by rw [zpj, e]; rfl
 refine ⟨fun nm t' k e => ?_⟩
 cases hL : rk L nm with
 | some q =>
  rw [keep hL] at e
  cases e
  obtain ⟨j', r', h1, h2, h3, h4⟩ := h.ok nm t' k hL
  refine ⟨j', r', h1, h2, h3, fun p hp' hh => ?_⟩
  obtain ⟨t2, k2, e2, l2⟩ := h4 p hp' hh
  exact ⟨t2, k2, keep e2, l2⟩
 | none =>
  rw [zpj, hL] at e
  by_cases hx : r.name = nm
  ·subst hx
   simp at e
   obtain ⟨rfl, rfl⟩ := e
   refine ⟨j, r, rfl, hj, rfl, fun p hp' hh => ?_⟩
   obtain ⟨t2, k2, e2, l2⟩ := hp p hp' hh
   exact ⟨t2, k2, keep e2, l2⟩
  ·simp [hx] at e
def f3 : W → Option W
 | .str t => if t ∈ H3 then some (.str t) else none
 | _ => none
theorem znf : ∀ ps : List Str, (ps.map W.str).filterMap f3 = (ps.filter fun t => decide (t ∈ H3)).map W.str
 | [] => rfl
 | p :: ps => by
  rw [List.map_cons, List.filterMap_cons, List.filter_cons, f3, znf ps]
  by_cases h : p ∈ H3
  ·rw [if_pos h, decide_eq_true h]; rfl
  ·rw [if_neg h, decide_eq_false h]; rfl
def zjJ (L : RL) (i : Int) (t : Str) : Bool := match rk L t with
 | some (t', _) => decide (t' < i)
 | none => false
def fG (L : RL) (i : Int) : W → W
 | .str t => .bl (zjJ L i t)
 | _ => .non
theorem zil {ws : List W} {M : Mm} {R : K3} (h : zcx ws M R) : zcD (zaP R) (zbe zfF ws) M := by
 obtain ⟨rs, rfl, g, r⟩ := h
 show zcD (zaP R) [some (rlW rs), none, none, none, none, none] M
 have h7 := g.few
 simp? only [zcD, zeN, zeO, rlW]
 intro p hp
 refine ⟨_, rfl, by rw [List.length_map]; omega, by rw [List.length_map]; omega, ?_⟩
 rw [List.length_map]
 obtain ⟨n1, hn1⟩ : ∃ n1 : Nat, ((rs.length : Int) + 1).toNat = n1 ∧ n1 ≤ 8 := ⟨_, rfl, by omega⟩
 rw [hn1.1]
 refine for3 (fun i τ M' => ∃ (L : RL) (o2 o3 o4 o5 : Option W), τ = [some (.rl (rs.map zbh)), some (.ref p), o2, o3, o4, o5] ∧ M' = put M p (.dK (L.map rkW)) ∧ RkOk rs L ∧ L.length ≤ 7 * i) ⟨[], _, _, _, _, rfl, rfl, ⟨fun nm t k e => by simp [rk] at e⟩, by simp⟩ (fun _ _ _ _ _ => trivial) ?_ ?_
 ·rintro i w τ M' hw ⟨L0, o2, o3, o4, o5, rfl, rfl, hL0, hl0⟩
  obtain ⟨hi, rfl⟩ := zbx hw
  rw [Int.zero_add]
  obtain ⟨B, hB⟩ : ∃ z, z = (vSeq (vSet 4 (vFrz (zdM (iIt rItN (vOp rIx (vOp rIx (vVar 0) (vVar 3)) (vC (.int 1)))) (zbD 0) (zaK (vOp (rIn false) (vVar 0) (vKl ["S", "T_1", "UP_2034"]))) (vVar 0) [none])))
   (vSeq (vSet 5 (vCB rAll (zac (vFrz (zdM (iIt rItN (vVar 4)) (zbD 0) zhH (zf9 (vOp (rIn false) (vVar 0) (vVar 1)) (vOp rLt (vOp rIx (vOp rIx (vVar 1) (vVar 0)) (vC (.int 0))) (vVar 2))) [none, some 1, some 2])) aNil)))
   (vIfS (vAnd (zb1 (vVar 5)) (zaK (vOp (rIn true) (vOp rIx (vOp rIx (vVar 0) (vVar 3)) (vC (.int 0))) (vVar 1))))
    (vAsg (vTup (zac (vVar 2) (zac (vVar 3) aNil))) (wSub (vVar 1) (vOp rIx (vOp rIx (vVar 0) (vVar 3)) (vC (.int 0)))))
    zbG))) := ⟨_, rfl⟩
  simp only [zeb]
  rw [← hB]
  simp? only []
  refine ⟨_, rfl, by rw [List.length_map]; omega, by rw [List.length_map]; omega, ?_⟩
  rw [List.length_map, Int.toNat_natCast]
  refine for3 (fun k τ M' => ∃ (L : RL) (o3 o4 o5 : Option W), τ = [some (.rl (rs.map zbh)), some (.ref p), some (.int (i : Nat)), o3, o4, o5] ∧ M' = put M p (.dK (L.map rkW)) ∧ RkOk rs L ∧ L.length ≤ 7 * i + k) ⟨L0, _, _, _, rfl, rfl, hL0, by omega⟩ (fun _ _ _ _ _ => trivial) ?_ ?_
  ·rintro k w τ M' hw ⟨L, o3, o4, o5, rfl, rfl, hL, hl⟩
   obtain ⟨hk, rfl⟩ := zbx hw
   rw [Int.zero_add]
   obtain ⟨q, hq⟩ : ∃ q, rs[k]? = some q := ⟨_, List.getElem?_eq_getElem hk⟩
   have hqm := List.mem_of_getElem? hq
   have hq3 := g.gr.few q hqm
   subst hB
   simp? only [zcl hq, zbh]
   refine znW f3 (L3.small (by rw [List.length_map]; omega)) (fun _ _ => trivial) (fun y hy M' C D sb h1 h2 => ?_) (New.frz ?_)
   ·obtain ⟨t, ht, rfl⟩ := List.mem_map.mp hy
    simp? only [vKl, aKl, L3.rIn, List.map_cons, List.map_nil, zkI]
    refine ⟨rfl, rfl, ?_⟩
    by_cases hm : t ∈ H3
    ·have hf : f3 (.str t) = some (.str t) := by rw [f3, if_pos hm]
     rw [if_pos hm]
     exact h1 _ hf
    ·have hf : f3 (.str t) = none := by rw [f3, if_neg hm]
     rw [if_neg hm]
     exact h2 hf
   ·rw [znf]
    obtain ⟨fs, hfs⟩ : ∃ z, z = q.parts.filter fun t => decide (t ∈ H3) := ⟨_, rfl⟩
    have hfl : fs.length ≤ 3 := by rw [hfs]; exact Nat.le_trans (List.length_filter_le _ _) hq3
    rw [← hfs]
    simp? only []
    refine map1 (rest := [some (.ref p), some (.int (i : Nat))]) (fG L i) (L3.small (by rw [List.length_map]; omega)) (fun _ _ => trivial) (fun y hy M' C sb h1 => ?_) (New.frz ?_)
    ·obtain ⟨t, ht, rfl⟩ := List.mem_map.mp hy
     have hMp : M' p = some (.dK (L.map rkW)) := sb p _ zaj
     simp? only [L3.rIn, fG, zjJ] at h1 ⊢
     refine .inr ⟨_, .inl ⟨_, Sum.inr t, hMp, rfl, rfl⟩, ?_⟩
     rw [zeA]
     cases hr : rk L t with
     | none =>
      rw [hr] at h1
      simp? only [Option.map_none, Option.isSome_none]
      exact h1
     | some z =>
      obtain ⟨t', k'⟩ := z
      rw [hr] at h1
      simp? only [Option.map_some, Option.isSome_some]
      refine ⟨.tup [.int t', .int k'], .inl ⟨_, Sum.inr t, hMp, rfl, by rw [zeA, hr]; rfl⟩, ?_⟩
      simp? only []
      exact h1
    ·have eb : (fs.map W.str).map (fG L i) = bools (fs.map (zjJ L i)) := by
      unfold bools
      rw [List.map_map, List.map_map]; rfl
     simp? only [L3.rAll, eb]
     refine ⟨_, rfl, ?_⟩
     have nxt : ∀ (L' : RL) o5, RkOk rs L' → L'.length ≤ L.length + 1 → ∃ M'', L3.Sub M'' (put M p (.dK (L'.map rkW))) ∧ ∃ (L'' : RL) (o3' o4' o5' : Option W), [some (W.rl (rs.map zbh)), some (.ref p), some (.int (i : Nat)), some (.int (k : Nat)), some (.rl (fs.map W.str)), o5] = [some (.rl (rs.map zbh)), some (.ref p), some (.int (i : Nat)), o3', o4', o5'] ∧ M'' = put M p (.dK (L''.map rkW)) ∧ RkOk rs L'' ∧ L''.length ≤ 7 * i + (k + 1) :=
      fun L' o5 h1 h2 => ⟨_, Sub.refl _, L', _, _, _, rfl, rfl, h1, by omega⟩
     by_cases hall : (fs.map (zjJ L i)).all id = true
     ·rw [if_pos hall]
      simp? only [L3.rIn]
      refine ⟨_, .inl ⟨_, Sum.inr q.name, zaj, rfl, rfl⟩, ?_⟩
      rw [zeA]
      cases hr : rk L q.name with
      | some z =>
       simp? only [Option.map_some, Option.isSome_some]
       exact nxt L _ hL (by omega)
      | none =>
       simp? only [Option.map_none, Option.isSome_none]
       refine znX zaj (L3.zmd (by rw [List.length_map]; omega)) ?_
       rw [zeq, ztC hr]
       refine nxt _ _ (ztD hL hq (fun t ht hh => ?_) hr) (by simp)
       have h1 : zjJ L i t = true := by
        have := List.all_eq_true.mp hall (zjJ L i t) (List.mem_map.mpr ⟨t, by rw [hfs]; exact List.mem_filter.mpr ⟨ht, decide_eq_true hh⟩, rfl⟩)
        exact this
       unfold zjJ at h1
       cases h2 : rk L t with
       | none => rw [h2] at h1; cases h1
       | some z =>
        obtain ⟨t', k'⟩ := z
        rw [h2] at h1
        exact ⟨t', k', rfl, of_decide_eq_true h1⟩
     ·rw [if_neg hall]
      exact nxt L _ hL (by omega)
  ·rintro τ M' ⟨L, o3, o4, o5, rfl, rfl, hL, hl⟩
   rw [zbX] at hl
   exact ⟨_, Sub.refl _, L, _, _, _, _, rfl, rfl, hL, by omega⟩
 ·rintro τ M' ⟨L, o2, o3, o4, o5, rfl, rfl, hL, hl⟩
  simp? only [zeP]
  exact znP hp ⟨_, Sub.refl _, r L hL⟩
end Rg
namespace Rg
open PySem PySem.Spec PyProof.Rows L2 L3
theorem zjK {α : Type} {P Q : α → Bool} : ∀ {l : List α}, (∀ x ∈ l, P x = true → Q x = true) → (∃ x ∈ l, Q x = true ∧ P x = false) → (l.filter P).length < (l.filter Q).length
 | [], _, h => by obtain ⟨x, hx, _⟩ := h; cases hx
 | a :: l, h1, h2 => by
  have le : (l.filter P).length ≤ (l.filter Q).length := by
   have : ∀ {l : List α}, (∀ x ∈ l, P x = true → Q x = true) → (l.filter P).length ≤ (l.filter Q).length := by
    intro l
    induction l with
    | nil => intro _; exact Nat.le_refl _
    | cons b l ih =>
     intro h
     have ih := ih fun x hx => h x (List.mem_cons_of_mem _ hx)
     rw [List.filter_cons, List.filter_cons]
     cases hP : P b with
     | true => rw [h b List.mem_cons_self hP]; simp; exact ih
     | false => cases Q b <;> simp <;> omega
   exact this fun x hx => h1 x (List.mem_cons_of_mem _ hx)
  rw [List.filter_cons, List.filter_cons]
  obtain ⟨x, hx, hq, hp⟩ := h2
  rcases List.mem_cons.mp hx with z | z
  ·rw [← z, hq, hp]; simp; omega
  ·have ih := zjK (l := l) (fun x hx => h1 x (List.mem_cons_of_mem _ hx)) ⟨x, z, hq, hp⟩
   cases hP : P a with
   | true => rw [h1 a List.mem_cons_self hP]; simp; exact ih
   | false => cases Q a <;> simp <;> omega
def lowB (L : RL) (t : Int) (h : Str) : Bool := match rk L h with
 | some (t', _) => decide (t' < t)
 | none => false
theorem zng {L : RL} {nm : Str} {t k : Int} (h : rk L nm = some (t, k)) : cntR L nm = (H3.filter (lowB L t)).length := by
 unfold cntR
 rw [h]
 rfl
theorem zpk {L : RL} {nm : Str} (hm : nm ∈ H3) : cntR L nm ≤ 2 := by
 cases h : rk L nm with
 | none => unfold cntR; rw [h]; exact Nat.zero_le _
 | some q =>
  obtain ⟨t, k⟩ := q
  rw [zng h]
  have := zjK (l := H3) (P := lowB L t) (Q := fun _ => true) (fun _ _ _ => rfl) ⟨nm, hm, rfl, by unfold lowB; rw [h]; simp⟩
  rw [List.filter_eq_self.mpr fun _ _ => rfl] at this
  have h3 : H3.length = 3 := rfl
  omega
theorem ztE {L : RL} {nm p : Str} {t k t' k' : Int} (h : rk L nm = some (t, k)) (h' : rk L p = some (t', k')) (hp : p ∈ H3) (hl : t' < t) : cntR L p < cntR L nm := by
 rw [zng h, zng h']
 refine zjK (fun x _ hx => ?_) ⟨p, hp, by unfold lowB; rw [h']; simp [hl], by unfold lowB; rw [h']; simp⟩
 unfold lowB at hx ⊢
 cases e : rk L x with
 | none => rw [e] at hx; cases hx
 | some z =>
  obtain ⟨a, b⟩ := z
  rw [e] at hx
  have hx := of_decide_eq_true hx
  exact decide_eq_true (by omega)
def fK (rs : List Rule) (nm : Str) : W → Option W
 | .int k => match rs[k.toNat]? with
  | some r => if r.name = nm then some (.int k) else none
  | none => none
 | _ => none
def fU (L : RL) : W → Option W
 | .str t => if t ∈ H3 ∧ rk L t = none then some (.str t) else none
 | _ => none
theorem zrs {zs : List W} (h : Ints zs) {M : Mm} : Pl 1 (der M (.rl zs)) := fun w hw => by obtain ⟨i, rfl⟩ := h w hw; trivial
theorem zpl {M : Mm} : Pl 1 (der M (.rl [])) := fun w hw => nomatch hw
theorem znh {M : Mm} {L : RL} {nm : Str} {t k : Int} (h : rk L nm = some (t, k)) : dGet M (.dk (L.map rkW)) (.str nm) (some (.tup [.int t, .int k])) := ⟨Sum.inr nm, rfl, by rw [zeA, h]; rfl⟩
theorem ztF {rs : List Rule} {nm : Str} {w : W} (h : w ∈ (zc6 0 rs.length).filterMap (fK rs nm)) : ∃ (j : Nat) (r : Rule), w = .int j ∧ rs[j]? = some r ∧ r.name = nm := by
 obtain ⟨v, hv, e⟩ := List.mem_filterMap.mp h
 obtain ⟨i, hi⟩ := List.getElem?_of_mem hv
 obtain ⟨h1, rfl⟩ := zbx hi
 rw [Int.zero_add] at e
 simp only [fK, Int.toNat_natCast] at e
 split at e
 ·rename_i r hr
  split at e
  ·rename_i hn
   cases e
   exact ⟨i, r, rfl, hr, hn⟩
  ·cases e
 ·cases e
theorem zuF {rs : List Rule} {nm : Str} {j : Nat} {r : Rule} (hj : rs[j]? = some r) (hn : r.name = nm) : (zc6 0 rs.length).filterMap (fK rs nm) ≠ [] := by
 have hm : W.int j ∈ (zc6 0 rs.length).filterMap (fK rs nm) := by
  refine List.mem_filterMap.mpr ⟨.int j, ?_, by simp only [fK, Int.toNat_natCast, hj]; rw [if_pos hn]⟩
  unfold zc6
  exact List.mem_map.mpr ⟨j, List.mem_range.mpr (List.getElem?_eq_some_iff.mp hj).1, by simp⟩
 intro e
 rw [e] at hm; cases hm
theorem zni : ∀ {c : List Tr} {n : Nat}, (∀ x ∈ c, x.dp ≤ n) → Tr.dps c ≤ n
 | [], n, _ => Nat.zero_le _
 | a :: c, n, h => by
  rw [Tr.dps]
  have h1 := h a List.mem_cons_self
  have h2 := zni (c := c) fun x hx => h x (List.mem_cons_of_mem _ hx)
  omega
theorem zim {n : Nat} {ws : List W} {M : Mm} {R : K3} (h : zaD (n + 1) ws M R) : zcE (zaD n) (zaP R) (zbe zfG ws) M := by
 obtain ⟨rs, L, nm, zs, d, rfl, g, hL, hnm, hz, hzl, hdb, r⟩ := h
 show zcE (zaD n) (zaP R) [some (rlW rs), some (.dk (L.map rkW)), some (.str nm), some (.rl zs), some (.int d), none, none, none, none, none] M
 have h7 := g.few
 obtain ⟨q, hq⟩ := Option.isSome_iff_exists.mp hnm
 obtain ⟨t0, k0⟩ := q
 obtain ⟨j0, q0, rfl, hj0, hn0, hp0⟩ := hL.ok nm t0 k0 hq
 -- what a number must keep
 have kE : ∀ (j : Nat) (q : Rule) (zs : List W) (o5 : Option W), rs[j]? = some q → q.name = nm → (∀ p ∈ q.parts, p ∈ H3 → (rk L p).isSome = true ∧ zk1 L p (d + 1) ≤ n) → Ints zs → zs.length ≤ 63 →
   vSeq (zb8 (zaD n)) (vSeq (zb9 (zaD n)) (zca (zaD n))) (zaP R) [some (rlW rs), some (.dk (L.map rkW)), some (.str nm), some (.rl zs), some (.int d), o5, some (.int (j : Nat)), none, none, none] M := by
  intro j q zs o5 hj hqn hqp hz hzl
  have hq3 := g.gr.few q (List.mem_of_getElem? hj)
  simp? only [zb8, zb9, rlW, zcl hj, zbh]
  intro p hp
  refine for3 (fun i τ M' => ∃ (c : List Tr) (zs : List W) (o8 o9 : Option W), τ = [some (.rl (rs.map zbh)), some (.dk (L.map rkW)), some (.str nm), some (.rl zs), some (.int d), o5, some (.int (j : Nat)), some (.ref p), o8, o9] ∧ M' = put M p (.lst (tw c)) ∧ c.map (Tr.lab rs) = q.parts.take i ∧ (∀ x ∈ c, Byr rs x) ∧ (∀ x ∈ c, x.dp ≤ n) ∧ Ints zs ∧ zs.length ≤ 63)
   ⟨[], zs, _, _, rfl, rfl, rfl, by simp, by simp, hz, hzl⟩ (fun _ _ _ _ _ => trivial) ?_ ?_
  ·rintro i w τ M' hw ⟨c, zs, o8, o9, rfl, rfl, hc1, hc2, hc3, hz, hzl⟩
   rw [List.getElem?_map] at hw
   obtain ⟨pt, hpt, rfl⟩ := Option.map_eq_some_iff.mp hw
   have hi := (List.getElem?_eq_some_iff.mp hpt).1
   have hptm := List.mem_of_getElem? hpt
   have hcl : c.length ≤ 3 := by
    have := congrArg List.length hc1
    rw [List.length_map, List.length_take] at this; omega
   have ht : q.parts.take (i + 1) = q.parts.take i ++ [pt] := by rw [List.take_add_one, hpt]; rfl
   have fin : ∀ (x : Tr) (zs' : List W) o9', x.lab rs = pt → Byr rs x → x.dp ≤ n → Ints zs' → zs'.length ≤ 63 → ∃ M'', L3.Sub M'' (put M p (.lst (tw c ++ [x.w]))) ∧ ∃ (c : List Tr) (zs : List W) (o8 o9 : Option W), [some (W.rl (rs.map zbh)), some (.dk (L.map rkW)), some (.str nm), some (.rl zs'), some (.int d), o5, some (.int (j : Nat)), some (.ref p), some (.str pt), o9'] = [some (.rl (rs.map zbh)), some (.dk (L.map rkW)), some (.str nm), some (.rl zs), some (.int d), o5, some (.int (j : Nat)), some (.ref p), o8, o9] ∧ M'' = put M p (.lst (tw c)) ∧ c.map (Tr.lab rs) = q.parts.take (i + 1) ∧ (∀ x ∈ c, Byr rs x) ∧ (∀ x ∈ c, x.dp ≤ n) ∧ Ints zs ∧ zs.length ≤ 63 :=
    fun x zs' o9' e1 e2 e3 e4 e5 => ⟨_, Sub.refl _, c ++ [x], zs', _, _, rfl, by unfold tw; rw [List.map_append]; rfl, by rw [List.map_append, hc1, ht, List.map_singleton, e1], fun y hy => (List.mem_append.mp hy).elim (hc2 y) fun z => by rw [List.mem_singleton.mp z]; exact e2, fun y hy => (List.mem_append.mp hy).elim (hc3 y) fun z => by rw [List.mem_singleton.mp z]; exact e3, e4, e5⟩
   have hlen : (tw c).length < 16777216 := by rw [List.length_map]; omega
   simp? only [zec, vKl, aKl, L3.rIn, List.map_cons, List.map_nil, zkI]
   refine ⟨rfl, rfl, ?_⟩
   by_cases hm : pt ∈ H3
   ·obtain ⟨hsm, hdp⟩ := hqp pt hptm hm
    have hn1 : 0 < n := by unfold zk1 at hdp; split at hdp <;> omega
    obtain ⟨n', rfl⟩ : ∃ n', n = n' + 1 := ⟨n - 1, by omega⟩
    rw [if_pos hm]
    refine ⟨rs, L, pt, zs, d + 1, by simp [rlW], g, hL, hsm, hz, hzl, hdp, fun t zs' e1 e2 e3 e4 e5 e6 => ?_⟩
    simp? only []
    exact ⟨hlen, fin t zs' _ e3 e1 e4 e5 e6⟩
   ·rw [if_neg hm]
    have hab : pt ∈ ABC := by
     rcases g.gr.pt q (List.mem_of_getElem? hj) pt hptm with z | z
     ·exact z
     ·exact absurd z hm
    exact ⟨hlen, fin (.wd pt) zs _ rfl (.wd hab) (Nat.zero_le _) hz hzl⟩
  ·rintro τ M' ⟨c, zs, o8, o9, rfl, rfl, hc1, hc2, hc3, hz, hzl⟩
   rw [List.length_map, List.take_length] at hc1
   simp? only [zca]
   refine ⟨_, Sub.new hp, ?_⟩
   have := r (.nd j c) zs (.nd hj hc1 hc2) ⟨_, _, rfl⟩ (by rw [Tr.lab, zcw hj, hqn]) (by rw [Tr.dp]; have := zni hc3; omega) hz hzl
   rw [Tr.w, zdu] at this
   exact this
 -- the number by the ranks
 have rank : ∀ zs o5, Ints zs → zs.length ≤ 63 → (vSeq (zb8 (zaD n)) (vSeq (zb9 (zaD n)) (zca (zaD n)))) (zaP R) [some (rlW rs), some (.dk (L.map rkW)), some (.str nm), some (.rl zs), some (.int d), o5, some (.int (j0 : Nat)), none, none, none] M := fun zs o5 h1 h2 => by
  refine kE j0 q0 zs o5 hj0 hn0 (fun p hp hh => ?_) h1 h2
  obtain ⟨t', k', e1, e2⟩ := hp0 p hp hh
  refine ⟨by rw [e1]; rfl, ?_⟩
  have h3 := ztE hq e1 hh e2
  have h4 := zpk (L := L) hh
  unfold zk1 at hdb ⊢
  split at hdb
  ·split <;> omega
  ·rw [if_neg (by omega)]; omega
 obtain ⟨T3, hT3⟩ : ∃ z, z = (vSeq (zb8 (zaD n)) (vSeq (zb9 (zaD n)) (zca (zaD n)))) := ⟨_, rfl⟩
 simp only [zcE]
 rw [← hT3] at kE rank ⊢
 simp? only [zeQ, zeR, rlW]
 refine ⟨_, rfl, by rw [List.length_map]; omega, by rw [List.length_map]; omega, ?_⟩
 rw [List.length_map, Int.toNat_natCast]
 refine znW (rest := [some (.str nm), some (.rl (rs.map zbh))]) (fK rs nm) (L3.small (by rw [zbX]; omega)) (fun _ _ => trivial) (fun y hy M' C D sb h1 h2 => ?_) (New.frz ?_)
 ·obtain ⟨i, hi⟩ := List.getElem?_of_mem hy
  obtain ⟨hi1, rfl⟩ := zbx hi
  rw [Int.zero_add] at h1 h2 ⊢
  obtain ⟨qi, hqi⟩ : ∃ qi, rs[i]? = some qi := ⟨_, List.getElem?_eq_getElem hi1⟩
  simp? only [zcl hqi, zbh]
  by_cases hx : qi.name = nm
  ·rw [if_pos hx]
   exact h1 _ (by simp only [fK, Int.toNat_natCast, hqi]; rw [if_pos hx])
  ·rw [if_neg hx]
   exact h2 (by simp only [fK, Int.toNat_natCast, hqi]; rw [if_neg hx])
 ·obtain ⟨sm, hsm⟩ : ∃ z, z = (zc6 0 rs.length).filterMap (fK rs nm) := ⟨_, rfl⟩
  have hsne : sm ≠ [] := by rw [hsm]; exact zuF hj0 hn0
  have hsl : 0 < sm.length := List.length_pos_iff.mpr hsne
  have hsmem : ∀ w ∈ sm, ∃ (j : Nat) (r : Rule), w = .int j ∧ rs[j]? = some r ∧ r.name = nm := fun w hw => ztF (by rw [hsm] at hw; exact hw)
  rw [← hsm]
  refine ⟨_, znh hq, ?_⟩
  simp? only [zeS]
  by_cases hd6 : (d : Int) < 6
  ·rw [if_pos hd6]
   refine zhL 1 (by decide) (zrs hz) zpl fun b hb => ?_
   cases zs with
   | nil =>
    have hbt : b = true := hb.mpr rfl
    subst hbt
    simp? only []
    exact rank [] _ hz hzl
   | cons z zs =>
    have hbf : b = false := by
     cases b with
     | false => rfl
     | true =>
      have := hb.mp rfl
      simp [der] at this
    subst hbf
    obtain ⟨i0, rfl⟩ := hz z List.mem_cons_self
    have hz1 : Ints zs := fun w hw => hz w (List.mem_cons_of_mem _ hw)
    have hzl1 : zs.length ≤ 63 := by simp only [List.length_cons] at hzl; omega
    simp? only [zjF]
    have hpos : (0 : Int) < (sm.length : Int) := by omega
    obtain ⟨w0, e0, _, m0⟩ := zd6 (xs := sm) (i := i0 / 3 % (sm.length : Int)) (Int.emod_nonneg _ (by omega)) (Int.emod_lt_of_pos _ hpos)
    obtain ⟨j, qj, rfl, hj, hqn⟩ := hsmem w0 m0
    have hqm := List.mem_of_getElem? hj
    have hq3 := g.gr.few qj hqm
    refine ⟨hpos, _, e0, ?_⟩
    simp? only [zcl hj, zbh]
    refine znW (rest := [some (.dk (L.map rkW))]) (fU L) (L3.small (by rw [List.length_map]; omega)) (fun _ _ => trivial) (fun y hy M' C D sb h1 h2 => ?_) (New.frz ?_)
    ·obtain ⟨t, ht, rfl⟩ := List.mem_map.mp hy
     simp? only [vKl, aKl, L3.rIn, List.map_cons, List.map_nil, zkI]
     refine ⟨rfl, rfl, ?_⟩
     by_cases hm : t ∈ H3
     ·rw [if_pos hm]
      refine ⟨_, ⟨Sum.inr t, rfl, rfl⟩, ?_⟩
      rw [zeA]
      cases hr : rk L t with
      | none =>
       simp? only [Option.map_none, Option.isSome_none]
       exact h1 _ (by simp only [fU]; rw [if_pos ⟨hm, hr⟩])
      | some z =>
       simp? only [Option.map_some, Option.isSome_some]
       exact h2 (by simp only [fU]; rw [if_neg (fun z => by rw [hr] at z; cases z.2)])
     ·rw [if_neg hm]
      exact h2 (by simp only [fU]; rw [if_neg (fun z => hm z.1)])
    ·have hpl : Pl 1 (der M (.rl ((qj.parts.map W.str).filterMap (fU L)))) := fun w hw => by
      obtain ⟨v, hv, e⟩ := List.mem_filterMap.mp hw
      obtain ⟨t, ht, rfl⟩ := List.mem_map.mp hv
      simp only [fU] at e
      split at e
      ·rename_i hx
       cases e
       exact zrq t hx.1
      ·cases e
     refine zhL 1 (by decide) hpl zpl fun b hb => ?_
     cases b with
     | false =>
      simp? only []
      refine ⟨_, znh hq, ?_⟩
      simp? only []
      exact rank zs _ hz1 hzl1
     | true =>
      simp? only []
      have he : (qj.parts.map W.str).filterMap (fU L) = [] := by
       have := hb.mp rfl
       simpa [der] using this
      refine kE j qj zs _ hj hqn (fun p hp hh => ?_) hz1 hzl1
      have hrk : (rk L p).isSome = true := by
       cases hr : rk L p with
       | some z => rfl
       | none =>
        have hmem : W.str p ∈ (qj.parts.map W.str).filterMap (fU L) := List.mem_filterMap.mpr ⟨.str p, List.mem_map.mpr ⟨p, hp, rfl⟩, by simp only [fU]; rw [if_pos ⟨hh, hr⟩]⟩
        rw [he] at hmem; cases hmem
      refine ⟨hrk, ?_⟩
      have h4 := zpk (L := L) hh
      unfold zk1 at hdb ⊢
      rw [if_pos (by omega)] at hdb
      split <;> omega
  ·rw [if_neg hd6]
   exact rank zs _ hz hzl
end Rg
namespace Rg
open PySem PySem.Spec PyProof.Rows L2 L3
def dlt (c : Nat) : Int := if c = 40 then 1 else if c = 41 then -1 else 0
theorem zin (c : Nat) : dlt c ≤ 1 ∧ -1 ≤ dlt c := by unfold dlt; split <;> (try split) <;> omega
def lvl : List Nat → Int
 | [] => 0
 | c :: l => dlt c + lvl l
theorem zha : ∀ a b : List Nat, lvl (a ++ b) = lvl a + lvl b
 | [], b => by simp [lvl]
 | c :: a, b => by rw [List.cons_append, lvl, lvl, zha a b]; omega
def Low (c d : Int) : List Nat → Prop
 | [] => c ≤ d
 | x :: l => c ≤ d ∧ Low (c + dlt x) d l
theorem Low.start {c d : Int} : ∀ {l : List Nat}, Low c d l → c ≤ d
 | [], h => h
 | _ :: _, h => h.1
theorem zcv {d : Int} : ∀ {a b : List Nat} {c : Int}, Low c d (a ++ b) ↔ Low c d a ∧ Low (c + lvl a) d b
 | [], b, c => by
  rw [List.nil_append, lvl, Int.add_zero]
  exact ⟨fun h => ⟨h.start, h⟩, fun h => h.2⟩
 | x :: a, b, c => by
  rw [List.cons_append, Low, Low, zcv, lvl]
  rw [show c + dlt x + lvl a = c + (dlt x + lvl a) by omega]
  exact ⟨fun h => ⟨⟨h.1, h.2.1⟩, h.2.2⟩, fun h => ⟨h.1.1, h.1.2, h.2⟩⟩
theorem Low.shift {d e c c' : Int} : ∀ {l : List Nat}, Low c d l → c' ≤ c + e → Low c' (d + e) l
 | [], h, h' => by
  have h : c ≤ d := h
  show c' ≤ d + e
  omega
 | x :: l, h, h' => by
  have h1 := h.1
  exact ⟨by omega, Low.shift (l := l) h.2 (by omega)⟩
theorem zcJ {c d : Int} (hc : c ≤ d) : ∀ {l : List Nat}, (∀ x ∈ l, x ≠ 40 ∧ x ≠ 41) → Low c d l ∧ lvl l = 0
 | [], _ => ⟨hc, rfl⟩
 | x :: l, h => by
  have hx : dlt x = 0 := by
   obtain ⟨h1, h2⟩ := h x List.mem_cons_self
   unfold dlt; rw [if_neg h1, if_neg h2]
  obtain ⟨h3, h4⟩ := zcJ hc fun y hy => h y (List.mem_cons_of_mem _ hy)
  refine ⟨⟨hc, by rw [hx, Int.add_zero]; exact h3⟩, by rw [lvl, hx, h4]; rfl⟩
section
variable {rs : List Rule} (g : Gr rs)
include g
mutual
theorem zpm : ∀ t : Tr, Byr rs t → lvl (t.sh rs) = 0
 | .wd t, h => by
  cases h with
  | wd h => rw [Tr.sh]; exact (zcJ (Int.le_refl 0) fun x hx => ((zgV t h).1 x hx).2).2
 | .nd n c, h => by
  cases h with
  | @nd n r _ hr hp hc =>
   have h1 := (zcJ (Int.le_refl 0) fun x hx => ((zko _ (g.nm r (List.mem_of_getElem? hr))).1 x hx).2).2
   have h2 := zjL c hc
   have h3 : lvl ((Tr.shr rs c).drop 1) = 0 := by
    cases c with
    | nil => rfl
    | cons a b => rw [Tr.shr, lvl] at h2; rw [Tr.shr, List.drop_succ_cons, List.drop_zero]; have : dlt 32 = 0 := rfl; omega
   rw [Tr.sh, zcw hr, zha, h1, lvl, zha, h3]; rfl
theorem zjL : ∀ c : List Tr, (∀ x ∈ c, Byr rs x) → lvl (Tr.shr rs c) = 0
 | [], _ => rfl
 | a :: c, h => by
  have h1 := zpm a (h a List.mem_cons_self)
  have h2 := zjL c fun x hx => h x (List.mem_cons_of_mem _ hx)
  rw [Tr.shr, lvl, zha, h1, h2]; rfl
end
theorem zjM {e d : Int} : ∀ c : List Tr, (∀ x ∈ c, Byr rs x) → (Low e d (Tr.shr rs c) ↔ e ≤ d ∧ ∀ x ∈ c, Low e d (x.sh rs))
 | [], _ => by simp [Tr.shr, Low]
 | a :: c, h => by
  have h1 := zpm g a (h a List.mem_cons_self)
  have h2 := zjM (e := e) (d := d) c fun x hx => h x (List.mem_cons_of_mem _ hx)
  rw [Tr.shr, Low, show dlt 32 = 0 from rfl, Int.add_zero, zcv, h1, Int.add_zero, h2]
  constructor
  ·rintro ⟨q1, q2, q3, q4⟩
   exact ⟨q1, fun x hx => (List.mem_cons.mp hx).elim (fun z => z ▸ q2) (q4 x)⟩
  ·rintro ⟨q1, q2⟩
   exact ⟨q1, q2 a List.mem_cons_self, q1, fun x hx => q2 x (List.mem_cons_of_mem _ hx)⟩
theorem zpn {e d : Int} {n : Nat} {r : Rule} {c : List Tr} (hr : rs[n]? = some r) (hc : ∀ x ∈ c, Byr rs x) : Low e d ((Tr.nd n c).sh rs) ↔ e + 1 ≤ d ∧ ∀ x ∈ c, Low (e + 1) d (x.sh rs) := by
 have h3 := zko _ (g.nm r (List.mem_of_getElem? hr))
 have hl := zjL g c hc
 have hl2 : lvl ((Tr.shr rs c).drop 1) = 0 := by
  cases c with
  | nil => rfl
  | cons a b => rw [Tr.shr, lvl] at hl; rw [Tr.shr, List.drop_succ_cons, List.drop_zero]; have : dlt 32 = 0 := rfl; omega
 have hd : ∀ e, e ≤ d → (Low e d ((Tr.shr rs c).drop 1) ↔ Low e d (Tr.shr rs c)) := fun e he => by
  cases c with
  | nil => simp [Tr.shr]
  | cons a b =>
   rw [Tr.shr, List.drop_succ_cons, List.drop_zero, Low, show dlt 32 = 0 from rfl, Int.add_zero]
   exact ⟨fun h => ⟨he, h⟩, fun h => h.2⟩
 have hn := fun he : e ≤ d => zcJ he (l := cs r.name) fun x hx => (h3.1 x hx).2
 have hn0 := (zcJ (Int.le_refl 0) (l := cs r.name) fun x hx => (h3.1 x hx).2).2
 rw [Tr.sh, zcw hr, zcv, hn0, Int.add_zero, Low, show dlt 40 = 1 from rfl, zcv, hl2, Int.add_zero]
 constructor
 ·rintro ⟨q1, q2, q3, q4⟩
  have h1 := q4.start
  exact ⟨h1, ((zjM g c hc).mp ((hd _ h1).mp q3)).2⟩
 ·rintro ⟨q1, q2⟩
  have he : e ≤ d := by omega
  refine ⟨(hn he).1, he, (hd _ q1).mpr ((zjM g c hc).mpr ⟨q1, q2⟩), q1, ?_⟩
  show e + 1 + dlt 41 ≤ d
  rw [show dlt 41 = -1 from rfl]; omega
theorem ztG : ∀ (t : Tr) (e d : Int), Byr rs t → e + t.dp ≤ d → Low e d (t.sh rs) := by
 intro t
 induction h : t.dp using Nat.strongRecOn generalizing t with
 | _ k ih =>
  intro e d hb hd
  cases hb with
  | wd hm => rw [Tr.sh]; exact (zcJ (by omega) fun x hx => ((zgV _ hm).1 x hx).2).1
  | @nd n r c hr hp hc =>
   rw [Tr.dp] at h
   refine (zpn g hr hc).mpr ⟨by omega, fun x hx => ?_⟩
   have := zd9 hx
   exact ih x.dp (by omega) x rfl (e + 1) d (hc x hx) (by omega)
theorem zpo : ∀ (t : Tr) (e d : Int), Byr rs t → Low e d (t.sh rs) → e + t.dp ≤ d := by
 intro t
 induction h : t.dp using Nat.strongRecOn generalizing t with
 | _ k ih =>
  intro e d hb hd
  cases hb with
  | wd hm => have := hd.start; rw [Tr.dp] at h; omega
  | @nd n r c hr hp hc =>
   rw [Tr.dp] at h
   obtain ⟨h1, h2⟩ := (zpn g hr hc).mp hd
   have h3 : Tr.dps c ≤ (d - e - 1).toNat := zni fun x hx => by
    have h4 := zd9 hx
    have := ih x.dp (by omega) x rfl (e + 1) d (hc x hx) (h2 x hx)
    omega
   omega
end
theorem zrt {d : Int} {l : List Nat} (a : Nat) (s : Nat) (h : Low 0 d l) : Low 0 (d + 2) (l.take a ++ ([s] ++ l.drop a)) := by
 rw [← List.take_append_drop a l, zcv] at h
 have hs := zin s
 have h2 := h.2.start
 refine zcv.mpr ⟨h.1.shift (by omega), ?_⟩
 exact ⟨by omega, h.2.shift (e := 2) (by omega)⟩
theorem zru {d : Int} {l : List Nat} (a : Nat) (h : Low 0 d l) : Low 0 (d + 2) (l.take a ++ l.drop (a + 1)) := by
 rw [← List.take_append_drop a l, zcv] at h
 have h2 := h.2.start
 refine zcv.mpr ⟨h.1.shift (by omega), ?_⟩
 rw [← List.drop_drop]
 cases he : l.drop a with
 | nil => show _ ≤ _; omega
 | cons x r =>
  rw [he] at h
  have hx := zin x
  exact h.2.2.shift (e := 2) (by omega)
theorem zrv {d : Int} {l : List Nat} (a s : Nat) (h : Low 0 d l) : Low 0 (d + 2) (l.take a ++ ([s] ++ l.drop (a + 1))) := by
 rw [← List.take_append_drop a l, zcv] at h
 have h2 := h.2.start
 have hs := zin s
 refine zcv.mpr ⟨h.1.shift (by omega), by omega, ?_⟩
 rw [← List.drop_drop]
 cases he : l.drop a with
 | nil => show _ ≤ _; omega
 | cons x r =>
  rw [he] at h
  have hx := zin x
  exact h.2.2.shift (e := 2) (by omega)
theorem znj : ∀ (n : Nat) (t : Tr) {rs : List Rule}, Okt rs t → t.dp ≤ n → Pl (2 * n) t.w
 | n, .wd t, rs, h, _ => by
  cases h with
  | wd h =>
   have := zpi t h
   rw [Tr.w]
   cases n <;> exact this
 | 0, .nd k c, rs, h, hd => by rw [Tr.dp] at hd; omega
 | n + 1, .nd k c, rs, h, hd => by
  cases h with
  | @nd j r _ hr hf hc =>
   rw [Tr.dp] at hd
   rw [Tr.w, zdu]
   show ∀ w ∈ [W.int j, W.tup (c.map Tr.w)], Pl (2 * n + 1) w
   intro w hw
   rcases List.mem_cons.mp hw with z | z
   ·rw [z]; trivial
   ·rw [List.mem_singleton.mp z]
    intro v hv
    obtain ⟨x, hx, rfl⟩ := List.mem_map.mp hv
    exact znj n x (hc x hx) (by have := zd9 hx; omega)
end Rg
namespace Rg
open PySem PySem.Spec PyProof.Rows L2 L3
structure Kx (K : PySem.W.Frag) (c : Cl6) : Prop where
 ft : ExcA K c.t
 vt : PySem.W.kitOne K (.ref c.t) (.type "ValueError") = some true
 tt : PySem.W.kitOne K (.ref c.t) (.ref c.t) = some true
 tg : PySem.W.kitOne K (.ref c.t) (.ref c.g) = some false
 te : PySem.W.kitOne K (.ref c.t) (.ref c.e) = some false
 to : PySem.W.kitOne K (.ref c.t) (.ref c.o) = some false
 tr : PySem.W.kitOne K (.ref c.t) (.ref c.r) = some false
 tm : PySem.W.kitOne K (.ref c.t) (.ref c.m) = some false
theorem isiE {K : PySem.W.Frag} {C D : Addr} {b : Bool} {ea : Addr} {M : Mm} {R : K3} (F : ExcA K C) (h : M ea = some (.exc (.ref C))) (k : PySem.W.kitOne K (.ref C) (.ref D) = some b) (r : R (.bl b) M) : zgS K [.ref ea, .ref D] M R := ⟨C, b, h, F, .inl ⟨D, rfl, k⟩, r⟩
theorem zio {K : PySem.W.Frag} {c : Cl6} (k : Kx K c) {ws : List W} {M : Mm} {R : K3} (h : zcy c ws M R) : zcI K c (zaP R) (zbe zfP ws) M := by
 obtain ⟨ea, rfl, hm, r⟩ := h
 show zcI K c (zaP R) [some (.ref ea)] M
 simp? only [zcI]
 refine isiE k.ft hm k.te ?_
 simp? only []
 refine isiE k.ft hm k.tg ?_
 simp? only []
 refine isiE k.ft hm k.to ?_
 simp? only []
 refine isiE k.ft hm k.tr ?_
 simp? only []
 refine isiE k.ft hm k.tm ?_
 exact ⟨_, Sub.refl _, r⟩
theorem zoG (ns : List Int) : Ints (ns.map W.int) := fun w hw => by obtain ⟨i, _, rfl⟩ := List.mem_map.mp hw; exact ⟨i, rfl⟩
theorem zpp {rs : List Rule} (g : Gr rs) : ∀ (n : Nat) (t : Tr), Byr rs t → t.dp ≤ n → ∀ a ∈ t.sh rs, a < 256
 | n, .wd t, h, _, a, ha => by
  cases h with
  | wd h =>
   rw [Tr.sh] at ha
   rcases zo6 t h with e | e | e <;> rw [e] at ha <;> simp at ha <;> omega
 | 0, .nd k c, h, hd, a, ha => by rw [Tr.dp] at hd; omega
 | n + 1, .nd k c, h, hd, a, ha => by
  cases h with
  | @nd j r _ hr hp hc =>
   rw [Tr.dp] at hd
   have hs : ∀ {c : List Tr}, (∀ x ∈ c, ∀ a ∈ x.sh rs, a < 256) → ∀ a ∈ Tr.shr rs c, a < 256 := by
    intro c
    induction c with
    | nil => intro _ a ha; cases ha
    | cons x c ih =>
     intro h a ha
     rw [Tr.shr] at ha
     rcases List.mem_cons.mp ha with z | z
     ·omega
     ·rcases List.mem_append.mp z with z | z
      ·exact h x List.mem_cons_self a z
      ·exact ih (fun y hy => h y (List.mem_cons_of_mem _ hy)) a z
   have h1 := hs fun x hx => zpp g n x (hc x hx) (by have := zd9 hx; omega)
   rw [Tr.sh, zcw hr] at ha
   rcases List.mem_append.mp ha with z | z
   ·have h3 := ztl _ (g.nm r (List.mem_of_getElem? hr))
    rcases h3 with e | e | e <;> rw [e] at z <;> simp at z <;> omega
   ·rcases List.mem_cons.mp z with z | z
    ·omega
    ·rcases List.mem_append.mp z with z | z
     ·exact h1 a (List.mem_of_mem_drop z)
     ·have := List.mem_singleton.mp z; omega
theorem zpq {a b : Int} (h0 : 0 ≤ a) : sliceRange a b 1 = (List.range (b - a).toNat).map (a.toNat + ·) := by
 unfold sliceRange
 simp only [show ((1 : Int) > 0) = True from by simp, if_true]
 by_cases h : a < b
 ·rw [if_pos h, show ((b - a + 1 - 1) / 1).toNat = (b - a).toNat by rw [Int.ediv_one]; omega]
  exact List.map_congr_left fun k _ => by omega
 ·rw [if_neg h, show (b - a).toNat = 0 by omega]; rfl
theorem zpr {z : Str} {lo hi : Option Int} {i k : Nat} (h : i + k ≤ z.length) (e : Builtin.Str.strSliceIndices lo hi 1 z.length = (List.range k).map (i + ·)) : cs (Txt.slice z lo hi) = ((cs z).drop i).take k := by
 unfold Txt.slice
 split
 ·rename_i hw
  rw [e, List.length_map, List.length_range] at hw
  have hk : k = z.length := by simpa using hw
  have hi0 : i = 0 := by omega
  rw [hi0, hk, List.drop_zero, ← zaS, List.take_length]
 ·have p := StrLaws.picks (cs z) k i (by rw [zaS]; exact h)
  have e2 : (Builtin.Str.strSliceIndices lo hi 1 z.length).filterMap (z.cps[·]?) = ((cs z).drop i).take k := by
   rw [e, ← p]
   unfold cs
   simp
  show ((Builtin.Str.strSliceIndices lo hi 1 z.length).filterMap (z.cps[·]?)) = _
  exact e2
theorem ztH {z : Str} {a : Nat} (h : a ≤ z.length) : cs (Txt.slice z none (some (a : Int))) = (cs z).take a := by
 rw [zpr (i := 0) (k := a) (by omega) ?_, List.drop_zero]
 unfold Builtin.Str.strSliceIndices
 simp only [show ((1 : Int) > 0) = True from by simp, if_true]
 rw [zpq (by omega)]
 congr 2
 ·rw [if_neg (by omega)]; omega
theorem zps {z : Str} {a : Nat} : cs (Txt.slice z (some (a : Int)) none) = (cs z).drop a := by
 rw [zpr (i := min a z.length) (k := z.length - min a z.length) (by omega) ?_]
 ·by_cases h : a ≤ z.length
  ·rw [Nat.min_eq_left h, List.take_of_length_le (by rw [List.length_drop, zaS]; omega)]
  ·rw [Nat.min_eq_right (by omega), Nat.sub_self, List.take_zero, List.drop_of_length_le (by rw [zaS]; omega)]
 ·unfold Builtin.Str.strSliceIndices
  simp only [show ((1 : Int) > 0) = True from by simp, if_true]
  rw [if_neg (by omega), zpq (by omega), show (max 0 (min (a : Int) (z.length : Int))).toNat = min a z.length by omega, show ((z.length : Int) - max 0 (min (a : Int) (z.length : Int))).toNat = z.length - min a z.length by omega]
structure ChT (x : Str) : Prop where
 len : x.length ≤ 150000
 sg : ∀ a ∈ cs x, a < 256
 low : Low 0 11 (cs x)
theorem zoH : ∀ t ∈ (["", "a", "S", "(", ")", " ", "S(", "(a)", "S()a", "a()", "S() ", "T_(a)", "T_1", "()"] : List Str), t.length ≤ 10 ∧ ∀ a ∈ cs t, a < 256 := by decide +kernel
theorem lowD {c d : Int} : ∀ {l : List Nat}, c + l.length ≤ d → Low c d l
 | [], h => by have h : c + 0 ≤ d := h; show c ≤ d; omega
 | x :: l, h => by
  simp only [List.length_cons] at h
  have := zin x
  exact ⟨by omega, lowD (by omega)⟩
theorem zoI {K : PySem.W.Frag} {c : Cl6} (k : Kx K c) {ws : List W} {M : Mm} {R : K3} (h : zmW ws M R) : zh7 K c (zaP R) (zbe zrn ws) M := by
 obtain ⟨ns, rfl, hl, hM, r⟩ := h
 show zh7 K c (zaP R) [some (.sc (ns.map W.int)), none, none, none, none, none, none, none, none, none, none, none, none, none, none, none] M
 have hz := zoG ns
 have hzl : (ns.map W.int).length ≤ 63 := by rw [List.length_map]; exact hl
 have tru : ∀ M', ∃ M'', L3.Sub M'' M' ∧ R (.bl true) M'' := fun M' => ⟨M', Sub.refl _, r M'⟩
 obtain ⟨T14, hT14⟩ : ∃ z, z = (vSeq (zfU K c) (vSeq (zef K c) (vSeq (zeg K c) (vSeq (zeh K c) (vSeq (zei K c) (zfV K c)))))) := ⟨_, rfl⟩
 have kF : ∀ (rs : List Rule) (x : Str) (o2 o3 o4 o5 o6 o7 o8 o9 o11 : Option W) (M' : Mm), GrL rs → ChT x → T14 (zaP R) [some (.sc (ns.map W.int)), some (rlW rs), o2, o3, o4, o5, o6, o7, o8, o9, some (.str x), o11, none, none, none, none] M' := by
  intro rs x o2 o3 o4 o5 o6 o7 o8 o9 o11 M' g hx
  subst hT14
  simp? only [zfU]
  refine ⟨rs, x, rfl, g, hx.len, hx.sg, fun e => ?_, fun t e => ?_⟩
  ·simp? only [zef, zeg, zeh, zmy, rlW]
   refine ⟨rs, x, rfl, g, hx.len, hx.sg, fun _ => .inr ⟨_, rfl, fun C hC ea hea => ?_⟩, fun t e2 => ?_⟩
   ·have ec : C = c.t := by
     have : clOf c "NoText" = some c.t := rfl
     rw [this] at hC
     exact (Option.some.inj hC).symm
    subst ec
    simp? only [zei, L3.rIs, isNon]
    simp? only [zfV]
    refine isiE k.ft zaj k.tt ?_
    simp? only []
    refine ⟨_, true, zaj, k.ft, .inr ⟨_, rfl, k.vt⟩, ?_⟩
    simp? only []
    exact ⟨ea, rfl, zaj, _, rfl, tru _⟩
   ·rw [zfA g.gr, e] at e2
    cases e2
  ·have hrd : reads rs (cs x) = some t := by rw [zfA g.gr, e]
   obtain ⟨hok, ⟨n, ch, rfl⟩, hsh⟩ := zkl g.gr e
   simp? only [zef, zeg, zeh, zmy, rlW]
   refine ⟨rs, x, rfl, g, hx.len, hx.sg, fun e2 => ?_, fun t e2 => .inl ⟨nm_w t, ?_⟩⟩
   ·rw [hrd] at e2; cases e2
   ·rw [hrd] at e2
    cases e2
    have hlow := hx.low
    rw [hsh] at hlow
    have hdp := zpo g.gr _ 0 11 (zg6 hok) hlow
    have hpl := znj 11 _ hok (by omega)
    have hnn : isNon (Tr.nd n ch).w = false := rfl
    have hn1 : isNon W.non = true := rfl
    simp? only [zei, L3.rIs, hnn, hn1]
    refine zj9 (x := (Tr.nd n ch).w) (y := (Tr.nd n ch).w) 22 (by decide) (by rw [Tr.w] at hpl ⊢; exact hpl) rfl ?_
    exact tru _
 obtain ⟨T8, hT8⟩ : ∃ z, z = (vSeq (zg0 K c) (vSeq (zg1 K c) (vSeq (zfQ K c) (vSeq (zfR K c) (vSeq (zfS K c) (vSeq (zfT K c) T14)))))) := ⟨_, rfl⟩
 simp only [zh7]
 rw [← hT14, ← hT8]
 simp? only [zku, zkv, zkw, zkx]
 refine ⟨_, rfl, hz, hzl, fun rs g => ?_⟩
 simp? only []
 refine ⟨rs, rfl, g, fun L hL => ?_⟩
 simp? only []
 refine ⟨_, 9, .inl rfl, hz, by decide, fun i9 => ?_⟩
 have h7 := g.few
 have hpos : (0 : Int) < (rs.length : Int) := by have := List.length_pos_iff.mpr g.ne; omega
 obtain ⟨q, hq, hqm⟩ : ∃ q, atI (rs.map zbh) (i9 % (rs.length : Int)) = some (zbh q) ∧ q ∈ rs := by
  obtain ⟨w0, e0, e1, m0⟩ := zd6 (xs := rs.map zbh) (i := i9 % (rs.length : Int)) (Int.emod_nonneg _ (by omega)) (by rw [List.length_map]; exact Int.emod_lt_of_pos _ hpos)
  obtain ⟨q, hq, rfl⟩ := List.mem_map.mp m0
  exact ⟨q, e0, hq⟩
 simp? only [rlW, List.length_map, hq, zbh, L3.rIn]
 refine ⟨hpos, _, ⟨Sum.inr q.name, rfl, rfl⟩, ?_⟩
 rw [zeA]
 cases hrk : rk L q.name with
 | none =>
  simp? only [Option.map_none, Option.isSome_none]
  exact tru _
 | some z =>
  simp? only [Option.map_some, Option.isSome_some]
  simp? only [zky, zkz]
  have hcut : ∀ w ∈ cutW (ns.map W.int) (some 11) (some 22), w ∈ ns.map W.int := fun w hw => by
   unfold cutW at hw
   exact List.mem_of_mem_drop (List.mem_of_mem_take hw)
  have hcutl : (cutW (ns.map W.int) (some 11) (some 22)).length ≤ 63 := by
   unfold cutW
   rw [List.length_take, List.length_drop]; omega
  refine ⟨rs, L, q.name, _, 0, by simp [rlW], g, hL, by rw [hrk]; rfl, fun w hw => hz w (hcut w hw), hcutl, by unfold zk1; rw [if_pos (by decide)]; decide, fun t zs' hb htn hlab hdp hz' hzl' => ?_⟩
  obtain ⟨n, ch, rfl⟩ := htn
  have hdp : (Tr.nd n ch).dp ≤ 9 := hdp
  have hlen := zmT g.gr 9 _ hb hdp
  rw [zkG] at hlen
  obtain ⟨hfo, hfsh⟩ := ztp _ hb
  have hlow : Low 0 9 ((Tr.nd n ch).sh rs) := ztG g.gr _ 0 9 hb (by omega)
  have hsg := zpp g.gr 9 _ hb hdp
  obtain ⟨l, hlx⟩ : ∃ l, l = (Tr.nd n ch).sh rs := ⟨_, rfl⟩
  have hcl : cs (toS l) = l := zbL l
  have hll : (toS l).length = l.length := zjH l
  simp? only []
  refine ⟨rs, n, ch, rfl, g.gr, hb, by omega, ?_⟩
  simp? only [zkA, rIsi]
  refine ⟨_, _, rfl, by rfl, ?_⟩
  simp? only []
  refine ⟨rs, n, ch, rfl, g, hb, hdp, by decide, ?_⟩
  simp? only []
  rw [← hlx] at hlow hsg hlen hfsh ⊢
  simp? only [zkB, rlW]
  rw [if_neg (by simp)]
  obtain ⟨j, q', c', ej, hj, hp', hc'⟩ : ∃ (j : Nat) (q : Rule) (c' : List Tr), Tr.nd n ch = .nd j c' ∧ rs[j]? = some q ∧ c'.map (Tr.lab rs) = q.parts ∧ ∀ x ∈ c', Byr rs x := by
   rcases kidB hb with ⟨t, e, _⟩ | ⟨j, q, c', e, h⟩
   ·cases e
   ·exact ⟨j, q, c', e, h⟩
  obtain ⟨kf, hkf, hfs⟩ := zrk (c := c') hj
  rw [← ej] at hfs
  have hreads : reads rs (cs (toS l)) = some ((Tr.nd n ch).fs rs) := by
   rw [hcl, ← hfsh, hfs]
   rw [hfs] at hfo
   exact zot g.gr hfo
  refine ⟨rs, toS l, rfl, g, by omega, by rw [hcl]; exact hsg, fun e => (by rw [hreads] at e; cases e), fun t e => ⟨nm_w t, ?_⟩⟩
  rw [hreads] at e
  cases e
  refine ⟨rs, n, ch, rfl, g, hb, hdp, ?_⟩
  have hfdp := zpo g.gr _ 0 9 (zg6 hfo) (by rw [hfsh]; exact hlow)
  have hfpl := znj 9 _ hfo (by omega)
  refine zj9 (x := ((Tr.nd n ch).fs rs).w) (y := ((Tr.nd n ch).fs rs).w) 18 (by decide) (by rw [hfs, Tr.w] at hfpl ⊢; exact hfpl) rfl ?_
  simp? only []
  subst hT8
  simp? only [zg0, zg1, zfQ, zfR]
  refine ⟨_, 10, .inl rfl, hz, by decide, fun cell => ?_⟩
  simp? only [L3.vSlG, L3.rSlG]
  have hS17 : (cs ("abcSTUP() A_1203x" : Str)).length = 17 := by decide +kernel
  have hS256 : ∀ a ∈ cs ("abcSTUP() A_1203x" : Str), a < 256 := by decide +kernel
  obtain ⟨s, es, _, ms⟩ := zd6 (xs := cs ("abcSTUP() A_1203x" : Str)) (i := cell / 3000 % 17) (Int.emod_nonneg _ (by decide)) (by rw [hS17]; exact Int.emod_lt_of_pos _ (by decide))
  have hs256 := hS256 s ms
  obtain ⟨a, ha, hal⟩ : ∃ a : Nat, cell / 3 % (((toS l).length : Int) + 1) = (a : Int) ∧ a ≤ (toS l).length := by
   have h0 := Int.emod_nonneg (cell / 3) (show ((toS l).length : Int) + 1 ≠ 0 by omega)
   have h1 := Int.emod_lt_of_pos (cell / 3) (show (0 : Int) < ((toS l).length : Int) + 1 by omega)
   exact ⟨(cell / 3 % (((toS l).length : Int) + 1)).toNat, by omega, by omega⟩
  refine ⟨by omega, by omega, by decide +kernel, s, es, by omega, ?_⟩
  rw [ha]
  have e1 : cs (Txt.slice (toS l) none (some (a : Int))) = l.take a := by rw [ztH hal, hcl]
  have e2 : cs (Txt.slice (toS l) (some (a : Int)) none) = l.drop a := by rw [zps, hcl]
  have e3 : cs (Txt.slice (toS l) (some ((a : Int) + 1)) none) = l.drop (a + 1) := by
   have := zps (z := toS l) (a := a + 1)
   rw [hcl] at this
   exact this
  obtain ⟨A, hA⟩ : ∃ z, z = Txt.slice (toS l) none (some (a : Int)) := ⟨_, rfl⟩
  obtain ⟨B, hB⟩ : ∃ z, z = Txt.slice (toS l) (some (a : Int)) none := ⟨_, rfl⟩
  obtain ⟨C, hC⟩ : ∃ z, z = Txt.slice (toS l) (some ((a : Int) + 1)) none := ⟨_, rfl⟩
  rw [← hA] at e1 ⊢
  rw [← hB] at e2
  rw [← hC] at e3
  have hone : (⟨#[s]⟩ : Str).length = 1 := rfl
  have lA : A.length ≤ l.length := by rw [← zaS, e1, List.length_take]; omega
  have lB : B.length ≤ l.length := by rw [← zaS, e2, List.length_drop]; omega
  have lC : C.length ≤ l.length := by rw [← zaS, e3, List.length_drop]; omega
  have lAB : A.length + B.length ≤ l.length := by rw [← zaS, ← zaS, e1, e2, List.length_take, List.length_drop]; omega
  have lAC : A.length + C.length ≤ l.length := by rw [← zaS, ← zaS, e1, e3, List.length_take, List.length_drop]; omega
  have lAs : (A ++ (⟨#[s]⟩ : Str)).length = A.length + 1 := by rw [strLen_append, hone]
  have csS : cs (⟨#[s]⟩ : Str) = [s] := zjj s
  have sgA : ∀ z ∈ cs A, z < 256 := fun z hz => hsg z (List.mem_of_mem_take (by rw [← e1]; exact hz))
  have sgB : ∀ z ∈ cs B, z < 256 := fun z hz => hsg z (List.mem_of_mem_drop (by rw [← e2]; exact hz))
  have sgC : ∀ z ∈ cs C, z < 256 := fun z hz => hsg z (List.mem_of_mem_drop (by rw [← e3]; exact hz))
  have t1 : ChT (A ++ (⟨#[s]⟩ : Str) ++ B) := by
   refine ⟨by rw [strLen_append, lAs]; omega, fun z hz => ?_, ?_⟩
   ·rw [zbO, zbO, csS] at hz
    rcases List.mem_append.mp hz with q | q
    ·rcases List.mem_append.mp q with q | q
     ·exact sgA z q
     ·rw [List.mem_singleton.mp q]; exact hs256
    ·exact sgB z q
   ·rw [zbO, zbO, csS, e1, e2, List.append_assoc]
    exact zrt a s hlow
  have t2 : ChT (A ++ C) := by
   refine ⟨by rw [strLen_append]; omega, fun z hz => ?_, ?_⟩
   ·rw [zbO] at hz
    rcases List.mem_append.mp hz with q | q
    ·exact sgA z q
    ·exact sgC z q
   ·rw [zbO, e1, e3]
    exact zru a hlow
  have t3 : ChT (A ++ (⟨#[s]⟩ : Str) ++ C) := by
   refine ⟨by rw [strLen_append, lAs]; omega, fun z hz => ?_, ?_⟩
   ·rw [zbO, zbO, csS] at hz
    rcases List.mem_append.mp hz with q | q
    ·rcases List.mem_append.mp q with q | q
     ·exact sgA z q
     ·rw [List.mem_singleton.mp q]; exact hs256
    ·exact sgC z q
   ·rw [zbO, zbO, csS, e1, e3, List.append_assoc]
    exact zrv a s hlow
  simp? only [zfS, L3.vSlG, L3.rSlG]
  rw [← hB, ← hC]
  refine ⟨by omega, by omega, by rw [lAs]; omega, by omega, by omega, by omega, by omega, by rw [lAs]; omega, ?_⟩
  have hm0 : 0 ≤ cell % 3 := Int.emod_nonneg _ (by decide)
  have hm1 : cell % 3 < 3 := Int.emod_lt_of_pos _ (by decide)
  obtain ⟨w0, e0, _, m0⟩ := zd6 (xs := [W.str (A ++ (⟨#[s]⟩ : Str) ++ B), W.str (A ++ C), W.str (A ++ (⟨#[s]⟩ : Str) ++ C)]) (i := cell % 3) hm0 (by simp; omega)
  refine ⟨w0, e0, ?_⟩
  obtain ⟨x, rfl, hx⟩ : ∃ x, w0 = .str x ∧ ChT x := by
   simp at m0
   rcases m0 with z | z | z
   ·exact ⟨_, z, t1⟩
   ·exact ⟨_, z, t2⟩
   ·exact ⟨_, z, t3⟩
  simp? only [zfT, vKl, aKl, List.map_cons, List.map_nil]
  split
  ·obtain ⟨w1, e1', _, m1⟩ := zd6 (xs := (["", "a", "S", "(", ")", " ", "S(", "(a)", "S()a", "a()", "S() ", "T_(a)", "T_1", "()"] : List Str).map W.str) (i := cell / 180000 % 14) (Int.emod_nonneg _ (by decide)) (by have := Int.emod_lt_of_pos (cell / 180000) (show (0 : Int) < 14 by decide); simp; omega)
   obtain ⟨y, hy, rfl⟩ := List.mem_map.mp m1
   obtain ⟨k1, k2⟩ := zoH y hy
   refine ⟨_, e1', ?_⟩
   exact kF rs y _ _ _ _ _ _ _ _ _ _ g ⟨by omega, k2, lowD (by rw [zaS]; omega)⟩
  ·exact kF rs x _ _ _ _ _ _ _ _ _ _ g hx
end Rg
namespace Rg
open PySem PySem.Spec PyProof.Rows L2 L3
noncomputable def top (i : Nat) : Stmt := PySem.Challenge.pw_readgrove_k82_trees_written.main.body.getD i (.Pass ⟨0, 0, 0, 0⟩)
noncomputable abbrev zau : Stmt := top 11
noncomputable abbrev zaw : Stmt := top 12
noncomputable abbrev zaF : Stmt := top 14
noncomputable abbrev zar : Stmt := top 16
noncomputable abbrev zai : Stmt := top 17
noncomputable abbrev zaT : Stmt := top 18
noncomputable abbrev zah : Stmt := top 19
noncomputable abbrev zaH : Stmt := top 20
noncomputable abbrev zaB : Stmt := top 22
noncomputable abbrev zaZ : Stmt := top 23
noncomputable abbrev zaI : Stmt := top 24
noncomputable abbrev zjN : Stmt := top 25
noncomputable abbrev za5 : Stmt := top 26
noncomputable abbrev zaU : Stmt := top 27
noncomputable abbrev zaV : Stmt := top 28
noncomputable abbrev zaW : Stmt := top 29
noncomputable abbrev zbj : Stmt := top 30
noncomputable abbrev zbo : Stmt := top 31
noncomputable abbrev za6 : Stmt := top 32
noncomputable abbrev zeB : Stmt := top 33
structure Zx (K : PySem.W.Frag) (mg : Str → Option Value) (c : Cl6) (Cg : Addr) : Prop where
 t : XCls K mg "NoText" c.t
 grove : mg "GroveError" = some (.ref Cg)
 mn : mg "NoGrammar" = some (.ref c.g)
 me : mg "Endless" = some (.ref c.e)
 mo : mg "NoOrder" = some (.ref c.o)
 mr : mg "NoReading" = some (.ref c.r)
 mm : mg "TooMany" = some (.ref c.m)
 yt : PySem.W.exmOne K (.ref c.t) (.ref Cg) = some true
 kx : Kx K c
theorem Zx.ex {K : PySem.W.Frag} {mg : Str → Option Value} {c : Cl6} {Cg : Addr} (Z : Zx K mg c Cg) : ∀ n C, clOf c n = some C → PySem.W.exmOne K (.ref C) (.ref Cg) = some true := fun n C h => by
 unfold clOf at h
 split at h
 ·cases h; exact Z.yt
 ·cases h
theorem znk {A : Around} {k : Nat} (hr : Room k A) : A.units + 2 < cLine := by have := hr.un; omega
theorem zhb : bootBuiltins "ValueError" = some (.type "ValueError") := by decide +kernel
structure Tx (mg : Str → Option Value) : Prop where
 c_FIGURES : ∃ t, mg "FIGURES" = some (.str "0123456789" t)
 c_GREAT_LETTERS : ∃ t, mg "GREAT_LETTERS" = some (.str "ABCDEFGHIJKLMNOPQRSTUVWXYZ" t)
 ValueError_ : mg "ValueError" = none
 all_ : mg "all" = none
 any_ : mg "any" = none
 enumerate_ : mg "enumerate" = none
 isinstance_ : mg "isinstance" = none
 len_ : mg "len" = none
 list_ : mg "list" = none
 range_ : mg "range" = none
 str_ : mg "str" = none
 tuple_ : mg "tuple" = none
section
variable {P : Program} {w : World} {K : PySem.W.Frag} {mg : Str → Option Value} {base : Heap}
seal L2.PE L2.PA L2.PS L2.PSs L2.PT L2.PG L2.PI L2.PO
theorem ze2 : zaR zdO ["text", "signs"] (zaa zau) := ⟨rfl, rfl, rfl, by decide +kernel, rfl, by decide +kernel, by decide +kernel⟩
theorem ziq {f : Addr} {cdv : Value} {A : Around} {outer : List Env} {s : Shared} {H : Hp} {E : XK} (T : Tx mg) (hr : Room 0 (A.deeper (envOfC "made_of" (zaa zau) s.heap.objs.size f cdv))) :
  Ps3 (cxOf CX0 P w K mg base zdO "made_of" (zaa zau) f cdv A outer s H E).nox (zaf zau) zb5 := by
 have nd := ze2.nd
 have hu := zcM hr
 exact (zak (zbQ (ziY (ziX (o_ne hr.units) (v 0) zbq (by first | exact zan _ | with_unfolding_all rfl)) (zhF (zav (zsn rfl) (by rfl) T.all_ zo3 (zab (zhC (zgs ["sign", "signs"] [none, some 1] (zcU (v 0)) (fun B => (zbp (i := 0) (show (["sign", "signs"] : List Str).Nodup by decide +kernel) rfl (by first | exact Or.inl rfl | exact Or.inr rfl))) (fun B => zj6) (fun B => (ziX (o_in hu) (v 0) (v 1) (by first | exact zan _ | with_unfolding_all rfl))))) zae))))))
theorem zir (T : Tx mg) {f_q_made_of : Addr} {zas : FuncData} (F_q_made_of : Df K mg "made_of" zau ["text", "signs"] f_q_made_of zas) : FnOk P w K mg base CX0 1 f_q_made_of zas ["text", "signs"] (upSp K zbM) :=
 ok3 F_q_made_of.fn ze2 zg2 fun cdv A outer s H E ws M R hr h => ⟨zb5, ziq T hr, zgh h⟩
theorem ze3 : zaR zdP ["part"] (zaa zaw) := ⟨rfl, rfl, rfl, by decide +kernel, rfl, by decide +kernel, by decide +kernel⟩
theorem zis {f : Addr} {cdv : Value} {A : Around} {outer : List Env} {s : Shared} {H : Hp} {E : XK} (T : Tx mg) {f_q_made_of : Addr} {zas : FuncData} (F_q_made_of : Df K mg "made_of" zau ["text", "signs"] f_q_made_of zas) (G_q_made_of : FnOk P w K mg base CX0 1 f_q_made_of zas ["text", "signs"] (upSp K zbM)) (hr : Room 1 (A.deeper (envOfC "is_name" (zaa zaw) s.heap.objs.size f cdv))) :
  Ps3 (cxOf CX0 P w K mg base zdP "is_name" (zaa zaw) f cdv A outer s H E).nox (zaf zaw) zb6 := by
 obtain ⟨t_GREAT_LETTERS, h_GREAT_LETTERS⟩ := T.c_GREAT_LETTERS
 obtain ⟨t_FIGURES, h_FIGURES⟩ := T.c_FIGURES
 have nd := ze3.nd
 have hu := zcM hr
 exact (zad (zaO (i := 1) nd rfl (by first | exact Or.inl rfl | exact Or.inr rfl) (v_bm PySem.F.plainAttrs_str PySem.F.slot_str_partition PySem.F.type_str_partition zi1 (v 0) (zab zbq zae)))
   (zad (zaO (i := 2) nd rfl (by first | exact Or.inl rfl | exact Or.inr rfl) (v_or (ziX (o_eq hr.units) (v_ix hu (v 1) zag) zbq (by first | exact zan _ | with_unfolding_all rfl)) (zhF (zbd G_q_made_of (hr.mono (by decide)) (by rfl) F_q_made_of.at_ F_q_made_of.fn.kp F_q_made_of.bi (zab (v_ix hu (v 1) zag) (zab (zl8 (y := V.str "0123456789") (by rfl) h_FIGURES ⟨_, rfl⟩ (fun _ _ => .str _)) zae))))))
   (zak (zbQ (ziY (v 2) (zhF (zbd G_q_made_of (hr.mono (by decide)) (by rfl) F_q_made_of.at_ F_q_made_of.fn.kp F_q_made_of.bi (zab (v_ix hu (v 1) zag) (zab (zl8 (y := V.str "ABCDEFGHIJKLMNOPQRSTUVWXYZ") (by rfl) h_GREAT_LETTERS ⟨_, rfl⟩ (fun _ _ => .str _)) zae)))))))))
theorem zit (T : Tx mg) {f_q_is_name : Addr} {zaC : FuncData} (F_q_is_name : Df K mg "is_name" zaw ["part"] f_q_is_name zaC) {f_q_made_of : Addr} {zas : FuncData} (F_q_made_of : Df K mg "made_of" zau ["text", "signs"] f_q_made_of zas) : FnOk P w K mg base CX0 2 f_q_is_name zaC ["part"] (upSp K zb3) :=
 ok3 F_q_is_name.fn ze3 zg3 fun cdv A outer s H E ws M R hr h => ⟨zb6, zis T F_q_made_of (zir T F_q_made_of) hr, zgi h⟩
theorem zgx : zaR zfB ["child"] (zaa zaF) := ⟨rfl, rfl, rfl, by decide +kernel, rfl, by decide +kernel, by decide +kernel⟩
theorem zk6 {f : Addr} {cdv : Value} {A : Around} {outer : List Env} {s : Shared} {H : Hp} {E : XK} (T : Tx mg) (hr : Room 0 (A.deeper (envOfC "is_tree" (zaa zaF) s.heap.objs.size f cdv))) :
  Ps3 (cxOf CX0 P w K mg base zfB "is_tree" (zaa zaF) f cdv A outer s H E).nox (zaf zaF) zce := by
 have nd := zgx.nd
 have hu := zcM hr
 exact (zak (zbQ (zav zmb (by rfl) T.isinstance_ zaG (zab (v 0) (zab (zgr (by rfl) T.tuple_ zbS (y := .ty "tuple") rfl (fun _ _ => .ty _)) zae)))))
theorem zeC (T : Tx mg) {f_is_tree : Addr} {zao : FuncData} (F_is_tree : Df K mg "is_tree" zaF ["child"] f_is_tree zao) : FnOk P w K mg base CX0 1 f_is_tree zao ["child"] (upSp K zbk) :=
 ok3 F_is_tree.fn zgx zjs fun cdv A outer s H E ws M R hr h => ⟨zce, zk6 T hr, zh5 h⟩
theorem zek : zaR zc9 ["grammar", "tree"] (zaa zar) := ⟨rfl, rfl, rfl, by decide +kernel, rfl, by decide +kernel, by decide +kernel⟩
theorem zhc {f : Addr} {cdv : Value} {A : Around} {outer : List Env} {s : Shared} {H : Hp} {E : XK} (T : Tx mg) {f_is_tree : Addr} {zao : FuncData} (F_is_tree : Df K mg "is_tree" zaF ["child"] f_is_tree zao) (G_is_tree : FnOk P w K mg base CX0 1 f_is_tree zao ["child"] (upSp K zbk)) (hr : Room 1 (A.deeper (envOfC "shown_tree" (zaa zar) s.heap.objs.size f cdv))) :
  Ps3 (cxOf CX0 P w K mg base zc9 "shown_tree" (zaa zar) f cdv A outer s H E).nox (zaf zar) zbT := by
 have nd := zek.nd
 have hu := zcM hr
 exact (zad (zaO (i := 2) nd rfl (by first | exact Or.inl rfl | exact Or.inr rfl) (zd1 zae))
   (zad (zaO (i := 3) nd rfl (by first | exact Or.inl rfl | exact Or.inr rfl) (zd1 (zab (v 1) zae)))
   (zad (zqa PassesOwn.never (zdZ (v 3))
    (zad (zaO (i := 4) nd rfl (by first | exact Or.inl rfl | exact Or.inr rfl) (zpZ PySem.F.plainAttrs_list PySem.F.slot_list_pop PySem.F.type_list_pop zp5 (v 3)))
   (zak (s_if (zpY (zdZ (zbd G_is_tree (hr.mono (by decide)) (by rfl) F_is_tree.at_ F_is_tree.fn.kp F_is_tree.bi (zab (v 4) zae))))
    (zak (zbP (v_bm PySem.F.plainAttrs_list PySem.F.slot_list_append PySem.F.type_list_append za1 (v 2) (zab (v 4) zae))))
    (zad (zbP (v_bm PySem.F.plainAttrs_list PySem.F.slot_list_append PySem.F.type_list_append za1 (v 2) (zab (v_op zbF (v_ix hu (v_ix hu (v 0) (v_ix hu (v 4) zag)) zag) zbq) zae)))
   (zad (zbP (v_bm PySem.F.plainAttrs_list PySem.F.slot_list_append PySem.F.type_list_append za1 (v 3) (zab zbq zae)))
   (zak (zes PassesOwn.never rfl (zow (by rfl) T.range_ (zab (v_op znS (zav zcm (by rfl) T.len_ zbB (zab (v_ix hu (v 4) zag) zae)) zag) (zab (v_un zgb zag) (zab (v_un zgb zag) zae)))) (zbp (i := 5) nd rfl (by first | exact Or.inl rfl | exact Or.inr rfl))
    (zad (zbP (v_bm PySem.F.plainAttrs_list PySem.F.slot_list_append PySem.F.type_list_append za1 (v 3) (zab (v_ix hu (v_ix hu (v 4) zag) (v 5)) zae)))
   (zak (s_if (zaY o_gt (v 5) zag (by first | exact zan _ | with_unfolding_all rfl))
    (zak (zbP (v_bm PySem.F.plainAttrs_list PySem.F.slot_list_append PySem.F.type_list_append za1 (v 3) (zab zbq zae))))
    zbE)))))))))))
   (zak (zbQ (v_bm PySem.F.plainAttrs_str PySem.F.slot_str_join PySem.F.type_str_join zo4 zbq (zab (v 2) zae)))))))
theorem zel (T : Tx mg) {f_shown_tree : Addr} {zax : FuncData} (F_shown_tree : Df K mg "shown_tree" zar ["grammar", "tree"] f_shown_tree zax) {f_is_tree : Addr} {zao : FuncData} (F_is_tree : Df K mg "is_tree" zaF ["child"] f_is_tree zao) : FnOk P w K mg base CX0 2 f_shown_tree zax ["grammar", "tree"] (upSp K zbm) :=
 ok3 F_shown_tree.fn zek zgf fun cdv A outer s H E ws M R hr h => ⟨zbT, zhc T F_is_tree (zeC T F_is_tree) hr, zfX h⟩
theorem zdn : zaR zcu ["grammar"] (zaa zai) := ⟨rfl, rfl, rfl, by decide +kernel, rfl, by decide +kernel, by decide +kernel⟩
theorem zf0 {f : Addr} {cdv : Value} {A : Around} {outer : List Env} {s : Shared} {H : Hp} {E : XK} (T : Tx mg) (hr : Room 0 (A.deeper (envOfC "rule_numbers" (zaa zai) s.heap.objs.size f cdv))) :
  Ps3 (cxOf CX0 P w K mg base zcu "rule_numbers" (zaa zai) f cdv A outer s H E).nox (zaf zai) (zbu P w) := by
 have nd := zdn.nd
 have hu := zcM hr
 exact (zad (zaO (i := 1) nd rfl (by first | exact Or.inl rfl | exact Or.inr rfl) (zra (tl := [])))
   (zad (zes PassesOwn.never rfl (zji (by rfl) T.enumerate_ (zab (v 0) zae)) (zsp rfl (zj2 (zbp (i := 2) nd rfl (by first | exact Or.inl rfl | exact Or.inr rfl)) (zj2 (zbp (i := 3) nd rfl (by first | exact Or.inl rfl | exact Or.inr rfl)) zso)))
    (zak (zbP (ztg (tl := []) (znk hr) (v 1) (zga (zab (v_ix hu (v 3) zag) (zab (v_ix hu (v 3) zag) zae))) (v 2)))))
   (zak (zbQ (v 1)))))
theorem zf1 (T : Tx mg) {f_rule_numbers : Addr} {zap : FuncData} (F_rule_numbers : Df K mg "rule_numbers" zai ["grammar"] f_rule_numbers zap) : FnOk P w K mg base CX0 1 f_rule_numbers zap ["grammar"] (upSp K (zbt P w)) :=
 ok3 F_rule_numbers.fn zdn zfa fun cdv A outer s H E ws M R hr h => ⟨(zbu P w), zf0 T hr, zez h⟩
theorem zgy : zaR zfD ["grammar", "numbers", "name", "children"] (zaa zaT) := ⟨rfl, rfl, rfl, by decide +kernel, rfl, by decide +kernel, by decide +kernel⟩
theorem zjO {f : Addr} {cdv : Value} {A : Around} {outer : List Env} {s : Shared} {H : Hp} {E : XK} {M : Mm} {r0 : K3} {c : Cl6} {Cg : Addr} (T : Tx mg) (Z : Zx K mg c Cg) {f_is_tree : Addr} {zao : FuncData} (F_is_tree : Df K mg "is_tree" zaF ["child"] f_is_tree zao) (G_is_tree : FnOk P w K mg base CX0 1 f_is_tree zao ["child"] (upSp K zbk)) {f_q_is_name : Addr} {zaC : FuncData} (F_q_is_name : Df K mg "is_name" zaw ["part"] f_q_is_name zaC) (G_q_is_name : FnOk P w K mg base CX0 2 f_q_is_name zaC ["part"] (upSp K zb3))
  (hr : Room 2 (A.deeper (envOfC "knot_by" (zaa zaT) s.heap.objs.size f cdv))) (hx : ∀ n D H' M', clOf c n = some D → Kp H M H' M' → AM K H' M' → r0 (.ty n) M' → E (.ref D) none H') :
  Xs3 (cxOf (CXr P w) P w K mg base zfD "knot_by" (zaa zaT) f cdv A outer s H E) H M r0 (zaf zaT) (zch P w) := by
 have nd := zgy.nd
 have hu := zcM hr
 exact (zcV (x_if (zdZ (zav (zum rfl) (by rfl) T.any_ zsG (zab (zhC (zgs ["child"] [none] (zcU (v 3)) (fun B => (zbp (i := 0) (show (["child"] : List Str).Nodup by decide +kernel) rfl (by first | exact Or.inl rfl | exact Or.inr rfl))) (fun B => zj6) (fun B => (ziY (zsg (zbd G_is_tree (hr.mono (by decide)) (by rfl) F_is_tree.at_ F_is_tree.fn.kp F_is_tree.bi (zab (v 0) zae))) (zhF (zbd G_q_is_name (hr.mono (by decide)) (by rfl) F_q_is_name.at_ F_q_is_name.fn.kp F_q_is_name.bi (zab (v 0) zae))))))) zae)))
    (zeu (zfv hx hr.hd Z.t (by rfl) (by rfl) zbq))
    zmx)
   (zcV (x_st (zaO (i := 4) nd rfl (by first | exact Or.inl rfl | exact Or.inr rfl) (zb0 zdL (by rfl) T.tuple_ zbS (zab (zhC (zgs ["child", "grammar"] [none, some 0] (zcU (v 3)) (fun B => (zbp (i := 0) (show (["child", "grammar"] : List Str).Nodup by decide +kernel) rfl (by first | exact Or.inl rfl | exact Or.inr rfl))) (fun B => zj6) (fun B => (v_if (zdZ (zbd G_is_tree (hr.mono (by decide)) (by rfl) F_is_tree.at_ F_is_tree.fn.kp F_is_tree.bi (zab (v 0) zae))) (v_ix hu (v_ix hu (v 1) (v_ix hu (v 0) zag)) zag) (v 0))))) zae))) (fun _ _ _ _ h => h))
   (zcV (x_if (PW.pt (t_or (zdZ (zbd G_is_tree (hr.mono (by decide)) (by rfl) F_is_tree.at_ F_is_tree.fn.kp F_is_tree.bi (zab (v 2) zae))) (zhE (zaY (zom (tl := []) (znk hr)) (zga (zab (v 2) (zab (v 4) zae))) (v 1) (by first | exact zan _ | with_unfolding_all rfl)))))
    (zeu (zfv hx hr.hd Z.t (by rfl) (by rfl) zbq))
    zmx)
   (zeu (zq2 (zga (zab (zus (tl := []) (znk hr) (v 1) (zga (zab (v 2) (zab (v 4) zae)))) (zab (zb0 zdL (by rfl) T.tuple_ zbS (zab (v 3) zae)) zae))))))))
theorem zjP {c : Cl6} {Cg : Addr} (T : Tx mg) (Z : Zx K mg c Cg) {f_knot_by : Addr} {za3 : FuncData} (F_knot_by : Df K mg "knot_by" zaT ["grammar", "numbers", "name", "children"] f_knot_by za3) {f_q_made_of : Addr} {zas : FuncData} (F_q_made_of : Df K mg "made_of" zau ["text", "signs"] f_q_made_of zas) {f_q_is_name : Addr} {zaC : FuncData} (F_q_is_name : Df K mg "is_name" zaw ["part"] f_q_is_name zaC) {f_is_tree : Addr} {zao : FuncData} (F_is_tree : Df K mg "is_tree" zaF ["child"] f_is_tree zao) : FnOk P w K mg base (CXr P w) 3 f_knot_by za3 ["grammar", "numbers", "name", "children"] (zev K (clOf c) (zbH P w)) :=
 okX F_knot_by.fn zgy zh8 fun cdv A outer s H E ws M R hr h hx => ⟨(zch P w), zjO T Z F_is_tree (zeC T F_is_tree) F_q_is_name (zit T F_q_is_name F_q_made_of) hr hx, zg5 h⟩
theorem zcK : zaR zcb ["grammar", "pieces"] (zaa zah) := ⟨rfl, rfl, rfl, by decide +kernel, rfl, by decide +kernel, by decide +kernel⟩
theorem zem {f : Addr} {cdv : Value} {A : Around} {outer : List Env} {s : Shared} {H : Hp} {E : XK} {M : Mm} {r0 : K3} {c : Cl6} {Cg : Addr} (T : Tx mg) (Z : Zx K mg c Cg) {f_rule_numbers : Addr} {zap : FuncData} (F_rule_numbers : Df K mg "rule_numbers" zai ["grammar"] f_rule_numbers zap) (G_rule_numbers : FnOk P w K mg base CX0 1 f_rule_numbers zap ["grammar"] (upSp K (zbt P w))) {f_is_tree : Addr} {zao : FuncData} (F_is_tree : Df K mg "is_tree" zaF ["child"] f_is_tree zao) (G_is_tree : FnOk P w K mg base CX0 1 f_is_tree zao ["child"] (upSp K zbk)) {f_knot_by : Addr} {za3 : FuncData} (F_knot_by : Df K mg "knot_by" zaT ["grammar", "numbers", "name", "children"] f_knot_by za3) (G_knot_by : FnOk P w K mg base (CXr P w) 3 f_knot_by za3 ["grammar", "numbers", "name", "children"] (zev K (clOf c) (zbH P w)))
  (hr : Room 3 (A.deeper (envOfC "tree_by_pieces" (zaa zah) s.heap.objs.size f cdv))) (hx : ∀ n D H' M', clOf c n = some D → Kp H M H' M' → AM K H' M' → r0 (.ty n) M' → E (.ref D) none H') :
  Xs3 (cxOf (CXr P w) P w K mg base zcb "tree_by_pieces" (zaa zah) f cdv A outer s H E) H M r0 (zaf zah) (za9 P w) := by
 have nd := zcK.nd
 have hu := zcM hr
 exact (zcV (x_st (zaO (i := 2) nd rfl (by first | exact Or.inl rfl | exact Or.inr rfl) (zbd G_rule_numbers (hr.mono (by decide)) (by rfl) F_rule_numbers.at_ F_rule_numbers.fn.kp F_rule_numbers.bi (zab (v 0) zae))) (fun _ _ _ _ h => h))
   (zcV (x_st (zaO (i := 3) nd rfl (by first | exact Or.inl rfl | exact Or.inr rfl) (zd1 (zab (zd1 zae) zae))) (fun _ _ _ _ h => h))
   (zcV (zup zs9 rfl (zcU (v 1)) (zbp (i := 4) nd rfl (by first | exact Or.inl rfl | exact Or.inr rfl))
    (zeu (x_if (zaY (o_eq hr.units) (v 4) zbq (by first | exact zan _ | with_unfolding_all rfl))
    (zeu (x_st (zbP (v_bm PySem.F.plainAttrs_list PySem.F.slot_list_append PySem.F.type_list_append za1 (v 3) (zab (zd1 zae) zae))) (fun _ _ _ _ h => h)))
    (zeu (x_if (zaY (o_eq hr.units) (v 4) zbq (by first | exact zan _ | with_unfolding_all rfl))
    (zcV (x_st (zaO (i := 5) nd rfl (by first | exact Or.inl rfl | exact Or.inr rfl) (zpZ PySem.F.plainAttrs_list PySem.F.slot_list_pop PySem.F.type_list_pop zp5 (v 3))) (fun _ _ _ _ h => h))
   (zcV (x_if (PW.pt (t_or (zaY (o_eq hr.units) (zav zcm (by rfl) T.len_ zbB (zab (v 3) zae)) zag (by first | exact zan _ | with_unfolding_all rfl)) (zhE (zaY (o_eq hr.units) (zav zcm (by rfl) T.len_ zbB (zab (v_ix hu (v 3) (v_un zgb zag)) zae)) zag (by first | exact zan _ | with_unfolding_all rfl)))))
    (zeu (zfv hx hr.hd Z.t (by rfl) (by rfl) zbq))
    zmx)
   (zcV (x_st (zaO (i := 6) nd rfl (by first | exact Or.inl rfl | exact Or.inr rfl) (zpZ PySem.F.plainAttrs_list PySem.F.slot_list_pop PySem.F.type_list_pop zp5 (v_ix hu (v 3) (v_un zgb zag)))) (fun _ _ _ _ h => h))
   (zeu (zrd (te := fun r0 => (vBM1 "list" rApp (vOp rIx (vVar 3) (vUn rNeg (vC (.int 1)))) (zeI (zbH P w) (zac (vVar 0) (zac (vVar 2) (zac (vVar 6) (zac (vVar 5) aNil)))) r0))) (zur PySem.F.plainAttrs_list PySem.F.slot_list_append PySem.F.type_list_append za1 (v_ix hu (v 3) (v_un zgb zag)) (zmE (zmw fun _ _ _ z => z) hx G_knot_by (hr.mono (by decide)) (by rfl) F_knot_by.at_ F_knot_by.fn.kp F_knot_by.bi (zab (v 0) (zab (v 2) (zab (v 6) (zab (v 5) zae)))))))))))
    (zeu (x_st (zbP (v_bm PySem.F.plainAttrs_list PySem.F.slot_list_append PySem.F.type_list_append za1 (v_ix hu (v 3) (v_un zgb zag)) (zab (v 4) zae))) (fun _ _ _ _ h => h))))))))
   (zcV (x_if (PW.pt (t_or (zaY (o_ne hr.units) (zav zcm (by rfl) T.len_ zbB (zab (v 3) zae)) zag (by first | exact zan _ | with_unfolding_all rfl)) (t_or (zaY (o_ne hr.units) (zav zcm (by rfl) T.len_ zbB (zab (v_ix hu (v 3) zag) zae)) zag (by first | exact zan _ | with_unfolding_all rfl)) (zhE (zpY (zdZ (zbd G_is_tree (hr.mono (by decide)) (by rfl) F_is_tree.at_ F_is_tree.fn.kp F_is_tree.bi (zab (v_ix hu (v_ix hu (v 3) zag) zag) zae))))))))
    (zeu (zfv hx hr.hd Z.t (by rfl) (by rfl) zbq))
    zmx)
   (zeu (zq2 (v_ix hu (v_ix hu (v 3) zag) zag)))))))
theorem zen {c : Cl6} {Cg : Addr} (T : Tx mg) (Z : Zx K mg c Cg) {f_tree_by_pieces : Addr} {zaq : FuncData} (F_tree_by_pieces : Df K mg "tree_by_pieces" zah ["grammar", "pieces"] f_tree_by_pieces zaq) {f_q_made_of : Addr} {zas : FuncData} (F_q_made_of : Df K mg "made_of" zau ["text", "signs"] f_q_made_of zas) {f_q_is_name : Addr} {zaC : FuncData} (F_q_is_name : Df K mg "is_name" zaw ["part"] f_q_is_name zaC) {f_is_tree : Addr} {zao : FuncData} (F_is_tree : Df K mg "is_tree" zaF ["child"] f_is_tree zao) {f_rule_numbers : Addr} {zap : FuncData} (F_rule_numbers : Df K mg "rule_numbers" zai ["grammar"] f_rule_numbers zap) {f_knot_by : Addr} {za3 : FuncData} (F_knot_by : Df K mg "knot_by" zaT ["grammar", "numbers", "name", "children"] f_knot_by za3) : FnOk P w K mg base (CXr P w) 4 f_tree_by_pieces zaq ["grammar", "pieces"] (zev K (clOf c) zaX) :=
 okX F_tree_by_pieces.fn zcK zdU fun cdv A outer s H E ws M R hr h hx => ⟨(za9 P w), zem T Z F_rule_numbers (zf1 T F_rule_numbers) F_is_tree (zeC T F_is_tree) F_knot_by (zjP T Z F_knot_by F_q_made_of F_q_is_name F_is_tree) hr hx, zds h⟩
theorem ze4 : zaR zdQ ["grammar", "text"] (zaa zaH) := ⟨rfl, rfl, rfl, by decide +kernel, rfl, by decide +kernel, by decide +kernel⟩
theorem zhd {f : Addr} {cdv : Value} {A : Around} {outer : List Env} {s : Shared} {H : Hp} {E : XK} {M : Mm} {r0 : K3} {c : Cl6} {Cg : Addr} (T : Tx mg) (Z : Zx K mg c Cg) {f_tree_by_pieces : Addr} {zaq : FuncData} (F_tree_by_pieces : Df K mg "tree_by_pieces" zah ["grammar", "pieces"] f_tree_by_pieces zaq) (G_tree_by_pieces : FnOk P w K mg base (CXr P w) 4 f_tree_by_pieces zaq ["grammar", "pieces"] (zev K (clOf c) zaX)) {f_shown_tree : Addr} {zax : FuncData} (F_shown_tree : Df K mg "shown_tree" zar ["grammar", "tree"] f_shown_tree zax) (G_shown_tree : FnOk P w K mg base CX0 2 f_shown_tree zax ["grammar", "tree"] (upSp K zbm))
  (hr : Room 4 (A.deeper (envOfC "read_tree" (zaa zaH) s.heap.objs.size f cdv))) (hx : ∀ n D H' M', clOf c n = some D → Kp H M H' M' → AM K H' M' → r0 (.ty n) M' → E (.ref D) none H') :
  Xs3z (cxOf (CXr P w) P w K mg base zdQ "read_tree" (zaa zaH) f cdv A outer s H E) H M r0 (zaf zaH) zbU := by
 have nd := ze4.nd
 have hu := zcM hr
 exact (zrl (ztr (i := 2) nd rfl (by first | exact Or.inl rfl | exact Or.inr rfl) (zuz (z_bm PySem.F.plainAttrs_str PySem.F.slot_str_split PySem.F.type_str_split zoi (ztq (ztq (zuy 1))) (zab zbq zae))))
   (zcV (ztc (i := 3) (te := fun r0 => (zeI zaX (zac (vVar 0) (zac (vFrz (zdM (iIt rItN (vVar 2)) (zbD 0) (zaK (vOp (rEq true) (vVar 0) (vC (.str "")))) (vVar 0) [none])) aNil)) r0)) nd rfl (by first | exact Or.inl rfl | exact Or.inr rfl) (zmE (zmw fun _ _ _ z => z) hx G_tree_by_pieces (hr.mono (by decide)) (by rfl) F_tree_by_pieces.at_ F_tree_by_pieces.fn.kp F_tree_by_pieces.bi (zab (v 0) (zab (zhC (zgs ["piece"] [none] (zcU (v 2)) (fun B => (zbp (i := 0) (show (["piece"] : List Str).Nodup by decide +kernel) rfl (by first | exact Or.inl rfl | exact Or.inr rfl))) (fun B => (zj7 (zaY (o_ne hr.units) (v 0) zbq (by first | exact zan _ | with_unfolding_all rfl)))) (fun B => (v 0)))) zae))))
   (zcV (x_if (zaY (o_ne hr.units) (zbd G_shown_tree (hr.mono (by decide)) (by rfl) F_shown_tree.at_ F_shown_tree.fn.kp F_shown_tree.bi (zab (v 0) (zab (v 3) zae))) (v 1) (by first | exact zan _ | with_unfolding_all rfl))
    (zeu (zfv hx hr.hd Z.t (by rfl) (by rfl) zbq))
    zmx)
   (zeu (zq2 (v 3))))))
theorem zhe {c : Cl6} {Cg : Addr} (T : Tx mg) (Z : Zx K mg c Cg) {f_read_tree : Addr} {zba : FuncData} (F_read_tree : Df K mg "read_tree" zaH ["grammar", "text"] f_read_tree zba) {f_q_made_of : Addr} {zas : FuncData} (F_q_made_of : Df K mg "made_of" zau ["text", "signs"] f_q_made_of zas) {f_q_is_name : Addr} {zaC : FuncData} (F_q_is_name : Df K mg "is_name" zaw ["part"] f_q_is_name zaC) {f_is_tree : Addr} {zao : FuncData} (F_is_tree : Df K mg "is_tree" zaF ["child"] f_is_tree zao) {f_shown_tree : Addr} {zax : FuncData} (F_shown_tree : Df K mg "shown_tree" zar ["grammar", "tree"] f_shown_tree zax) {f_rule_numbers : Addr} {zap : FuncData} (F_rule_numbers : Df K mg "rule_numbers" zai ["grammar"] f_rule_numbers zap) {f_knot_by : Addr} {za3 : FuncData} (F_knot_by : Df K mg "knot_by" zaT ["grammar", "numbers", "name", "children"] f_knot_by za3) {f_tree_by_pieces : Addr} {zaq : FuncData} (F_tree_by_pieces : Df K mg "tree_by_pieces" zah ["grammar", "pieces"] f_tree_by_pieces zaq) : FnOk P w K mg base (CXr P w) 5 f_read_tree zba ["grammar", "text"] (zev K (clOf c) zby) :=
 okXz F_read_tree.fn ze4 zgg (fun _ => rfl) (by decide +kernel) (by decide +kernel) (by decide) fun cdv A outer s H E ws M R hr h hx => ⟨zbU, zhd T Z F_tree_by_pieces (zen T Z F_tree_by_pieces F_q_made_of F_q_is_name F_is_tree F_rule_numbers F_knot_by) F_shown_tree (zel T F_shown_tree F_is_tree) hr hx, zfZ h⟩
theorem ze5 : zaR zdN ["script", "k"] (zaa zaB) := ⟨rfl, rfl, rfl, by decide +kernel, rfl, by decide +kernel, by decide +kernel⟩
theorem ziu {f : Addr} {cdv : Value} {A : Around} {outer : List Env} {s : Shared} {H : Hp} {E : XK} (T : Tx mg) (hr : Room 0 (A.deeper (envOfC "_law_cell_at" (zaa zaB) s.heap.objs.size f cdv))) :
  Ps3 (cxOf CX0 P w K mg base zdN "_law_cell_at" (zaa zaB) f cdv A outer s H E).nox (zaf zaB) zbs := by
 have nd := ze5.nd
 have hu := zcM hr
 exact (zad (s_if (zaY o_lt (v 1) (zav zcm (by rfl) T.len_ zbB (zab (v 0) zae)) (by first | exact zan _ | with_unfolding_all rfl))
    (zak (zbQ (v_ix hu (v 0) (v 1))))
    zbE)
   (zak (zbQ zag)))
theorem ze6 (T : Tx mg) {f_l_cell_at : Addr} {zaE : FuncData} (F_l_cell_at : Df K mg "_law_cell_at" zaB ["script", "k"] f_l_cell_at zaE) : FnOk P w K mg base CX0 1 f_l_cell_at zaE ["script", "k"] (upSp K za8) :=
 ok3 F_l_cell_at.fn ze5 zgR fun cdv A outer s H E ws M R hr h => ⟨zbs, ziu T hr, zgc h⟩
theorem zgz : zaR zfE ["d", "heads"] (zaa zaZ) := ⟨rfl, rfl, rfl, by decide +kernel, rfl, by decide +kernel, by decide +kernel⟩
theorem zk7 {f : Addr} {cdv : Value} {A : Around} {outer : List Env} {s : Shared} {H : Hp} {E : XK} (T : Tx mg) (hr : Room 0 (A.deeper (envOfC "_law_parts" (zaa zaZ) s.heap.objs.size f cdv))) :
  Ps3 (cxOf CX0 P w K mg base zfE "_law_parts" (zaa zaZ) f cdv A outer s H E).nox (zaf zaZ) zcC := by
 have nd := zgz.nd
 have hu := zcM hr
 exact (zad (zaO (i := 2) nd rfl (by first | exact Or.inl rfl | exact Or.inr rfl) (zd1 zae))
   (zad (zes PassesOwn.never rfl (zcr (by rfl) T.range_ (zab (v_ix hu (zhJ (zab zag (zab zag (zab zag (zab zag (zab zag (zab zag zae))))))) (v_op zcY (v 0) zag)) zae)) (zbp (i := 3) nd rfl (by first | exact Or.inl rfl | exact Or.inr rfl))
    (zad (zaO (i := 4) nd rfl (by first | exact Or.inl rfl | exact Or.inr rfl) (v_op zcY (v_op zc3 (v 0) (v_op zbF zag (v_op zmc zag (v 3)))) zag))
   (zak (s_if (zaY o_lt (v 4) zag (by first | exact zan _ | with_unfolding_all rfl))
    (zak (zbP (v_bm PySem.F.plainAttrs_list PySem.F.slot_list_append PySem.F.type_list_append za1 (v 2) (zab (v_ix hu (v_kl rfl) (v_op zcY (v 4) zag)) zae))))
    (zak (zbP (v_bm PySem.F.plainAttrs_list PySem.F.slot_list_append PySem.F.type_list_append za1 (v 2) (zab (v_ix hu (v 1) (v_op zcY (v 4) (zav zcm (by rfl) T.len_ zbB (zab (v 1) zae)))) zae))))))))
   (zak (zbQ (zb0 zdL (by rfl) T.tuple_ zbS (zab (v 2) zae))))))
theorem zk8 (T : Tx mg) {f_l_parts : Addr} {zbl : FuncData} (F_l_parts : Df K mg "_law_parts" zaZ ["d", "heads"] f_l_parts zbl) : FnOk P w K mg base CX0 1 f_l_parts zbl ["d", "heads"] (upSp K zbZ) :=
 ok3 F_l_parts.fn zgz zjv fun cdv A outer s H E ws M R hr h => ⟨zcC, zk7 T hr, zik h⟩
theorem ze7 : zaR zdR ["script"] (zaa zaI) := ⟨rfl, rfl, rfl, by decide +kernel, rfl, by decide +kernel, by decide +kernel⟩
theorem ziv {f : Addr} {cdv : Value} {A : Around} {outer : List Env} {s : Shared} {H : Hp} {E : XK} (T : Tx mg) {f_l_cell_at : Addr} {zaE : FuncData} (F_l_cell_at : Df K mg "_law_cell_at" zaB ["script", "k"] f_l_cell_at zaE) (G_l_cell_at : FnOk P w K mg base CX0 1 f_l_cell_at zaE ["script", "k"] (upSp K za8)) {f_l_parts : Addr} {zbl : FuncData} (F_l_parts : Df K mg "_law_parts" zaZ ["d", "heads"] f_l_parts zbl) (G_l_parts : FnOk P w K mg base CX0 1 f_l_parts zbl ["d", "heads"] (upSp K zbZ)) (hr : Room 1 (A.deeper (envOfC "_law_grammar" (zaa zaI) s.heap.objs.size f cdv))) :
  Ps3 (cxOf CX0 P w K mg base zdR "_law_grammar" (zaa zaI) f cdv A outer s H E).nox (zaf zaI) zb7 := by
 have nd := ze7.nd
 have hu := zcM hr
 exact (zad (zaO (i := 1) nd rfl (by first | exact Or.inl rfl | exact Or.inr rfl) (zbd G_l_cell_at (hr.mono (by decide)) (by rfl) F_l_cell_at.at_ F_l_cell_at.fn.kp F_l_cell_at.bi (zab (v 0) (zab zag zae))))
   (zad (zaO (i := 2) nd rfl (by first | exact Or.inl rfl | exact Or.inr rfl) (zd5 (v_kl rfl) zd3 (zc4 (v_op zbF zag (v_op zcY (v_op zc3 (v 1) zag) zag)))))
   (zad (zaO (i := 3) nd rfl (by first | exact Or.inl rfl | exact Or.inr rfl) (zd1 zae))
   (zad (zes PassesOwn.never rfl (zcr (by rfl) T.range_ (zab (v_op zbF (zav zcm (by rfl) T.len_ zbB (zab (v 2) zae)) (v_op zcY (v_op zc3 (v 1) zag) zag)) zae)) (zbp (i := 4) nd rfl (by first | exact Or.inl rfl | exact Or.inr rfl))
    (zad (zaO (i := 5) nd rfl (by first | exact Or.inl rfl | exact Or.inr rfl) (zbd G_l_cell_at (hr.mono (by decide)) (by rfl) F_l_cell_at.at_ F_l_cell_at.fn.kp F_l_cell_at.bi (zab (v 0) (zab (v_op zbF zag (v 4)) zae))))
   (zad (s_if (zaY (o_eq hr.units) (v_op zcY (v 1) zag) zag (by first | exact zan _ | with_unfolding_all rfl))
    (zak (zaO (i := 5) nd rfl (by first | exact Or.inl rfl | exact Or.inr rfl) (v_op zc3 (v_op zmc (v_op zbF (v_op zcY (v 5) (v_op zsj zag zag)) (v 4)) (v_op zbF (v_op zbF (v_op zcY (v 5) (v_op zsj zag zag)) (v_op zmc zag (v 4))) zag)) zag)))
    zbE)
   (zad (zaO (i := 6) nd rfl (by first | exact Or.inl rfl | exact Or.inr rfl) (v_ix hu (v 2) (v_op zcY (v 5) (zav zcm (by rfl) T.len_ zbB (zab (v 2) zae)))))
   (zad (s_if (zaY o_lt (v 4) (zav zcm (by rfl) T.len_ zbB (zab (v 2) zae)) (by first | exact zan _ | with_unfolding_all rfl))
    (zak (zaO (i := 6) nd rfl (by first | exact Or.inl rfl | exact Or.inr rfl) (v_ix hu (v 2) (v 4))))
    zbE)
   (zak (zbP (v_bm PySem.F.plainAttrs_list PySem.F.slot_list_append PySem.F.type_list_append za1 (v 3) (zab (zga (zab (v 6) (zab (zbd G_l_parts (hr.mono (by decide)) (by rfl) F_l_parts.at_ F_l_parts.fn.kp F_l_parts.bi (zab (v_op zc3 (v 5) zag) (zab (v 2) zae))) (zab (v_op zcY (v_op zc3 (v 5) zag) zag) zae)))) zae)))))))))
   (zak (zbQ (zhC (v 3))))))))
theorem ziw (T : Tx mg) {f_l_grammar : Addr} {zbb : FuncData} (F_l_grammar : Df K mg "_law_grammar" zaI ["script"] f_l_grammar zbb) {f_l_cell_at : Addr} {zaE : FuncData} (F_l_cell_at : Df K mg "_law_cell_at" zaB ["script", "k"] f_l_cell_at zaE) {f_l_parts : Addr} {zbl : FuncData} (F_l_parts : Df K mg "_law_parts" zaZ ["d", "heads"] f_l_parts zbl) : FnOk P w K mg base CX0 2 f_l_grammar zbb ["script"] (upSp K zb4) :=
 ok3 F_l_grammar.fn ze7 zg4 fun cdv A outer s H E ws M R hr h => ⟨zb7, ziv T F_l_cell_at (ze6 T F_l_cell_at) F_l_parts (zk8 T F_l_parts) hr, zgj h⟩
theorem zgA : zaR zfF ["rules"] (zaa za5) := ⟨rfl, rfl, rfl, by decide +kernel, rfl, by decide +kernel, by decide +kernel⟩
theorem zk9 {f : Addr} {cdv : Value} {A : Around} {outer : List Env} {s : Shared} {H : Hp} {E : XK} (T : Tx mg) (hr : Room 0 (A.deeper (envOfC "_law_ranks" (zaa za5) s.heap.objs.size f cdv))) :
  Ps3 (cxOf CX0 P w K mg base zfF "_law_ranks" (zaa za5) f cdv A outer s H E).nox (zaf za5) zcD := by
 have nd := zgA.nd
 have hu := zcM hr
 exact (zad (zaO (i := 1) nd rfl (by first | exact Or.inl rfl | exact Or.inr rfl) zp7)
   (zad (zes PassesOwn.never rfl (zcr (by rfl) T.range_ (zab (v_op zbF (zav zcm (by rfl) T.len_ zbB (zab (v 0) zae)) zag) zae)) (zbp (i := 2) nd rfl (by first | exact Or.inl rfl | exact Or.inr rfl))
    (zak (zes PassesOwn.never rfl (zcr (by rfl) T.range_ (zab (zav zcm (by rfl) T.len_ zbB (zab (v 0) zae)) zae)) (zbp (i := 3) nd rfl (by first | exact Or.inl rfl | exact Or.inr rfl))
    (zad (zgt (i := 4) nd rfl (by first | exact Or.inl rfl | exact Or.inr rfl) ["part"] [none] (zcU (v_ix hu (v_ix hu (v 0) (v 3)) zag)) (fun B => (zbp (i := 0) (show (["part"] : List Str).Nodup by decide +kernel) rfl (by first | exact Or.inl rfl | exact Or.inr rfl))) (fun B => (zj7 (zaY (o_in hu) (v 0) (v_kl rfl) (by first | exact zan _ | with_unfolding_all rfl)))) (fun B => (v 0)))
   (zad (zaO (i := 5) nd rfl (by first | exact Or.inl rfl | exact Or.inr rfl) (zav (zsn rfl) (by rfl) T.all_ zo3 (zab (zhC (zgs ["part", "ranks", "turn"] [none, some 1, some 2] (zcU (v 4)) (fun B => (zbp (i := 0) (show (["part", "ranks", "turn"] : List Str).Nodup by decide +kernel) rfl (by first | exact Or.inl rfl | exact Or.inr rfl))) (fun B => zj6) (fun B => (ziY (ziX (o_in hu) (v 0) (v 1) (by first | exact zan _ | with_unfolding_all rfl)) (zhF (ziX o_lt (v_ix hu (v_ix hu (v 1) (v 0)) zag) (v 2) (by first | exact zan _ | with_unfolding_all rfl))))))) zae)))
   (zak (s_if (PW.pt (zfs (zdZ (v 5)) (zd0 (zaY (zft hu) (v_ix hu (v_ix hu (v 0) (v 3)) zag) (v 1) (by first | exact zan _ | with_unfolding_all rfl)))))
    (zak (zsq (zga (zab (v 2) (zab (v 3) zae))) (zuh hu (v 1) (v_ix hu (v_ix hu (v 0) (v 3)) zag))))
    zbE)))))))
   (zak (zbQ (zhC (v 1))))))
theorem zla (T : Tx mg) {f_l_ranks : Addr} {zbz : FuncData} (F_l_ranks : Df K mg "_law_ranks" za5 ["rules"] f_l_ranks zbz) : FnOk P w K mg base CX0 1 f_l_ranks zbz ["rules"] (upSp K zcx) :=
 ok3 F_l_ranks.fn zgA zjw fun cdv A outer s H E ws M R hr h => ⟨zcD, zk9 T hr, zil h⟩
theorem zeD : zaR zfG ["rules", "ranks", "name", "cells", "deep"] (zaa zaU) := ⟨rfl, rfl, rfl, by decide +kernel, rfl, by decide +kernel, by decide +kernel⟩
theorem zlb {f : Addr} {cdv : Value} {A : Around} {outer : List Env} {s : Shared} {H : Hp} {E : XK} (T : Tx mg) {n : Nat} {zat : Sp3} {f_l_grown : Addr} {zaL : FuncData} (F_l_grown : Df K mg "_law_grown" zaU ["rules", "ranks", "name", "cells", "deep"] f_l_grown zaL) (G_l_grown : FnOk P w K mg base CX0 (1 + n) f_l_grown zaL ["rules", "ranks", "name", "cells", "deep"] (upSp K zat)) (hr : Room (1 + n) (A.deeper (envOfC "_law_grown" (zaa zaU) s.heap.objs.size f cdv))) :
  Ps3 (cxOf CX0 P w K mg base zfG "_law_grown" (zaa zaU) f cdv A outer s H E).nox (zaf zaU) (zcE zat) := by
 have nd := zeD.nd
 have hu := zcM hr
 exact (zad (zgt (i := 5) nd rfl (by first | exact Or.inl rfl | exact Or.inr rfl) ["k", "name", "rules"] [none, some 2, some 0] (zcr (by rfl) T.range_ (zab (zav zcm (by rfl) T.len_ zbB (zab (v 0) zae)) zae)) (fun B => (zbp (i := 0) (show (["k", "name", "rules"] : List Str).Nodup by decide +kernel) rfl (by first | exact Or.inl rfl | exact Or.inr rfl))) (fun B => (zj7 (zaY (o_eq hr.units) (v_ix hu (v_ix hu (v 2) (v 0)) zag) (v 1) (by first | exact zan _ | with_unfolding_all rfl)))) (fun B => (v 0)))
   (zad (zaO (i := 6) nd rfl (by first | exact Or.inl rfl | exact Or.inr rfl) (v_ix hu (v_ix hu (v 1) (v 2)) zag))
   (zad (s_if (PW.pt (zfs (zaY o_lt (v 4) zag (by first | exact zan _ | with_unfolding_all rfl)) (zd0 (zaY (o_ne hr.units) (v 3) (zhJ zae) (by first | exact zan _ | with_unfolding_all rfl)))))
    (zad (zaO (i := 6) nd rfl (by first | exact Or.inl rfl | exact Or.inr rfl) (v_ix hu (v 5) (v_op zcY (v_op zc3 (v_ix hu (v 3) zag) zag) (zav zcm (by rfl) T.len_ zbB (zab (v 5) zae)))))
   (zad (zaO (i := 3) nd rfl (by first | exact Or.inl rfl | exact Or.inr rfl) (zd5 (v 3) (zc4 zag) zd3))
   (zak (s_if (zaY (o_ne hr.units) (zhC (zgs ["part", "ranks"] [none, some 1] (zcU (v_ix hu (v_ix hu (v 0) (v 6)) zag)) (fun B => (zbp (i := 0) (show (["part", "ranks"] : List Str).Nodup by decide +kernel) rfl (by first | exact Or.inl rfl | exact Or.inr rfl))) (fun B => (zj7 (PW.pt (zfs (zaY (o_in hu) (v 0) (v_kl rfl) (by first | exact zan _ | with_unfolding_all rfl)) (zd0 (zaY (zft hu) (v 0) (v 1) (by first | exact zan _ | with_unfolding_all rfl))))))) (fun B => (v 0)))) (zhJ zae) (by first | exact zan _ | with_unfolding_all rfl))
    (zak (zaO (i := 6) nd rfl (by first | exact Or.inl rfl | exact Or.inr rfl) (v_ix hu (v_ix hu (v 1) (v 2)) zag)))
    zbE))))
    zbE)
   (zad (zaO (i := 7) nd rfl (by first | exact Or.inl rfl | exact Or.inr rfl) (zd1 zae))
   (zad (zes PassesOwn.never rfl (zcU (v_ix hu (v_ix hu (v 0) (v 6)) zag)) (zbp (i := 8) nd rfl (by first | exact Or.inl rfl | exact Or.inr rfl))
    (zak (s_if (zaY (o_in hu) (v 8) (v_kl rfl) (by first | exact zan _ | with_unfolding_all rfl))
    (zad (zsq (zbd G_l_grown (hr.mono (by omega)) (by rfl) F_l_grown.at_ F_l_grown.fn.kp F_l_grown.bi (zab (v 0) (zab (v 1) (zab (v 8) (zab (v 3) (zab (v_op zbF (v 4) zag) zae)))))) (zsp rfl (zj2 (zbp (i := 9) nd rfl (by first | exact Or.inl rfl | exact Or.inr rfl)) (zj2 (zbp (i := 3) nd rfl (by first | exact Or.inl rfl | exact Or.inr rfl)) zso))))
   (zak (zbP (v_bm PySem.F.plainAttrs_list PySem.F.slot_list_append PySem.F.type_list_append za1 (v 7) (zab (v 9) zae)))))
    (zak (zbP (v_bm PySem.F.plainAttrs_list PySem.F.slot_list_append PySem.F.type_list_append za1 (v 7) (zab (v 8) zae)))))))
   (zak (zbQ (zga (zab (zga (zab (v 6) (zab (zb0 zdL (by rfl) T.tuple_ zbS (zab (v 7) zae)) zae))) (zab (v 3) zae))))))))))
theorem zf2 (T : Tx mg) {f_l_grown : Addr} {zaL : FuncData} (F_l_grown : Df K mg "_law_grown" zaU ["rules", "ranks", "name", "cells", "deep"] f_l_grown zaL) : ∀ n, FnOk P w K mg base CX0 (1 + n) f_l_grown zaL ["rules", "ranks", "name", "cells", "deep"] (upSp K (zaD n))
 | 0 => ok3 (k := 0) F_l_grown.fn zeD (fun _ _ _ h => h.elim) fun cdv A outer s H E ws M R hr h => h.elim
 | n + 1 => ok3 (k := 1 + n) F_l_grown.fn zeD (zjx (n + 1)) fun cdv A outer s H E ws M R hr h => ⟨zcE (zaD n), zlb T F_l_grown (zf2 T F_l_grown n) hr, zim h⟩
theorem zlc (T : Tx mg) {f_l_grown : Addr} {zaL : FuncData} (F_l_grown : Df K mg "_law_grown" zaU ["rules", "ranks", "name", "cells", "deep"] f_l_grown zaL) : FnOk P w K mg base CX0 10 f_l_grown zaL ["rules", "ranks", "name", "cells", "deep"] (upSp K zat) := zf2 T F_l_grown 9
theorem zeE : zaR zfH ["rules", "tree"] (zaa zaV) := ⟨rfl, rfl, rfl, by decide +kernel, rfl, by decide +kernel, by decide +kernel⟩
theorem zld {f : Addr} {cdv : Value} {A : Around} {outer : List Env} {s : Shared} {H : Hp} {E : XK} (T : Tx mg) {n : Nat} {zaJ : Sp3} {f_l_shown : Addr} {zaM : FuncData} (F_l_shown : Df K mg "_law_shown" zaV ["rules", "tree"] f_l_shown zaM) (G_l_shown : FnOk P w K mg base CX0 (1 + n) f_l_shown zaM ["rules", "tree"] (upSp K zaJ)) (hr : Room (1 + n) (A.deeper (envOfC "_law_shown" (zaa zaV) s.heap.objs.size f cdv))) :
  Ps3 (cxOf CX0 P w K mg base zfH "_law_shown" (zaa zaV) f cdv A outer s H E).nox (zaf zaV) (zcF zaJ) := by
 have nd := zeE.nd
 have hu := zcM hr
 exact (zad (zaO (i := 2) nd rfl (by first | exact Or.inl rfl | exact Or.inr rfl) (zd1 zae))
   (zad (zes PassesOwn.never rfl (zcU (v_ix hu (v 1) zag)) (zbp (i := 3) nd rfl (by first | exact Or.inl rfl | exact Or.inr rfl))
    (zak (zbP (v_bm PySem.F.plainAttrs_list PySem.F.slot_list_append PySem.F.type_list_append za1 (v 2) (zab (v_if (zdZ (zav zmb (by rfl) T.isinstance_ zaG (zab (v 3) (zab (zgr (by rfl) T.tuple_ zbS (y := .ty "tuple") rfl (fun _ _ => .ty _)) zae)))) (zbd G_l_shown (hr.mono (by omega)) (by rfl) F_l_shown.at_ F_l_shown.fn.kp F_l_shown.bi (zab (v 0) (zab (v 3) zae))) (v 3)) zae)))))
   (zak (zbQ (v_op zsh (v_op zbF (v_op zbF (v_ix hu (v_ix hu (v 0) (v_ix hu (v 1) zag)) zag) zbq) (v_bm PySem.F.plainAttrs_str PySem.F.slot_str_join PySem.F.type_str_join zo4 zbq (zab (v 2) zae))) zbq)))))
theorem zf3 (T : Tx mg) {f_l_shown : Addr} {zaM : FuncData} (F_l_shown : Df K mg "_law_shown" zaV ["rules", "tree"] f_l_shown zaM) : ∀ n, FnOk P w K mg base CX0 (1 + n) f_l_shown zaM ["rules", "tree"] (upSp K (zbI n))
 | 0 => ok3 (k := 0) F_l_shown.fn zeE (fun _ _ _ h => h.elim) fun cdv A outer s H E ws M R hr h => h.elim
 | n + 1 => ok3 (k := 1 + n) F_l_shown.fn zeE (zjy (n + 1)) fun cdv A outer s H E ws M R hr h => ⟨zcF (zbI n), zld T F_l_shown (zf3 T F_l_shown n) hr, zid h⟩
theorem zle (T : Tx mg) {f_l_shown : Addr} {zaM : FuncData} (F_l_shown : Df K mg "_law_shown" zaV ["rules", "tree"] f_l_shown zaM) : FnOk P w K mg base CX0 10 f_l_shown zaM ["rules", "tree"] (upSp K zaJ) := zf3 T F_l_shown 9
theorem zeF : zaR zfI ["rules", "tree"] (zaa zaW) := ⟨rfl, rfl, rfl, by decide +kernel, rfl, by decide +kernel, by decide +kernel⟩
theorem zlf {f : Addr} {cdv : Value} {A : Around} {outer : List Env} {s : Shared} {H : Hp} {E : XK} (T : Tx mg) {n : Nat} {zay : Sp3} {f_l_first : Addr} {zaN : FuncData} (F_l_first : Df K mg "_law_first" zaW ["rules", "tree"] f_l_first zaN) (G_l_first : FnOk P w K mg base CX0 (1 + n) f_l_first zaN ["rules", "tree"] (upSp K zay)) (hr : Room (1 + n) (A.deeper (envOfC "_law_first" (zaa zaW) s.heap.objs.size f cdv))) :
  Ps3 (cxOf CX0 P w K mg base zfI "_law_first" (zaa zaW) f cdv A outer s H E).nox (zaf zaW) (zcG zay) := by
 have nd := zeF.nd
 have hu := zcM hr
 exact (zad (zaO (i := 2) nd rfl (by first | exact Or.inl rfl | exact Or.inr rfl) (zd1 zae))
   (zad (zes PassesOwn.never rfl (zcU (v_ix hu (v 1) zag)) (zbp (i := 3) nd rfl (by first | exact Or.inl rfl | exact Or.inr rfl))
    (zak (zbP (v_bm PySem.F.plainAttrs_list PySem.F.slot_list_append PySem.F.type_list_append za1 (v 2) (zab (v_if (zdZ (zav zmb (by rfl) T.isinstance_ zaG (zab (v 3) (zab (zgr (by rfl) T.tuple_ zbS (y := .ty "tuple") rfl (fun _ _ => .ty _)) zae)))) (zbd G_l_first (hr.mono (by omega)) (by rfl) F_l_first.at_ F_l_first.fn.kp F_l_first.bi (zab (v 0) (zab (v 3) zae))) (v 3)) zae)))))
   (zad (zes PassesOwn.never rfl (zcr (by rfl) T.range_ (zab (zav zcm (by rfl) T.len_ zbB (zab (v 0) zae)) zae)) (zbp (i := 4) nd rfl (by first | exact Or.inl rfl | exact Or.inr rfl))
    (zak (s_if (PW.pt (zfs (zaY (o_eq hr.units) (v_ix hu (v_ix hu (v 0) (v 4)) zag) (v_ix hu (v_ix hu (v 0) (v_ix hu (v 1) zag)) zag) (by first | exact zan _ | with_unfolding_all rfl)) (zd0 (zaY (o_eq hr.units) (v_ix hu (v_ix hu (v 0) (v 4)) zag) (v_ix hu (v_ix hu (v 0) (v_ix hu (v 1) zag)) zag) (by first | exact zan _ | with_unfolding_all rfl)))))
    (zak (zbQ (zga (zab (v 4) (zab (zb0 zdL (by rfl) T.tuple_ zbS (zab (v 2) zae)) zae)))))
    zbE)))
   (zak (zbQ zer)))))
theorem zf4 (T : Tx mg) {f_l_first : Addr} {zaN : FuncData} (F_l_first : Df K mg "_law_first" zaW ["rules", "tree"] f_l_first zaN) : ∀ n, FnOk P w K mg base CX0 (1 + n) f_l_first zaN ["rules", "tree"] (upSp K (zbn n))
 | 0 => ok3 (k := 0) F_l_first.fn zeF (fun _ _ _ h => h.elim) fun cdv A outer s H E ws M R hr h => h.elim
 | n + 1 => ok3 (k := 1 + n) F_l_first.fn zeF (zjz (n + 1)) fun cdv A outer s H E ws M R hr h => ⟨zcG (zbn n), zlf T F_l_first (zf4 T F_l_first n) hr, zif h⟩
theorem zlg (T : Tx mg) {f_l_first : Addr} {zaN : FuncData} (F_l_first : Df K mg "_law_first" zaW ["rules", "tree"] f_l_first zaN) : FnOk P w K mg base CX0 10 f_l_first zaN ["rules", "tree"] (upSp K zay) := zf4 T F_l_first 9
theorem zix : zaR zgX ["rules", "row"] (zaa zbj) := ⟨rfl, rfl, rfl, by decide +kernel, rfl, by decide +kernel, by decide +kernel⟩
theorem znl {f : Addr} {cdv : Value} {A : Around} {outer : List Env} {s : Shared} {H : Hp} {E : XK} (T : Tx mg) (hr : Room 0 (A.deeper (envOfC "_law_knot" (zaa zbj) s.heap.objs.size f cdv))) :
  Ps3 (cxOf CX0 P w K mg base zgX "_law_knot" (zaa zbj) f cdv A outer s H E).nox (zaf zbj) zdi := by
 have nd := zix.nd
 have hu := zcM hr
 exact (zad (zaO (i := 2) nd rfl (by first | exact Or.inl rfl | exact Or.inr rfl) (zd1 zae))
   (zad (zes PassesOwn.never rfl (zcU (zd5 (v 1) (zc4 zag) zd3)) (zbp (i := 3) nd rfl (by first | exact Or.inl rfl | exact Or.inr rfl))
    (zak (zbP (v_bm PySem.F.plainAttrs_list PySem.F.slot_list_append PySem.F.type_list_append za1 (v 2) (zab (v_if (zdZ (zav zmb (by rfl) T.isinstance_ zaG (zab (v 3) (zab (zgr (by rfl) T.tuple_ zbS (y := .ty "tuple") rfl (fun _ _ => .ty _)) zae)))) (v_ix hu (v_ix hu (v 0) (v_ix hu (v 3) zag)) zag) (v 3)) zae)))))
   (zad (zes PassesOwn.never rfl (zcr (by rfl) T.range_ (zab (zav zcm (by rfl) T.len_ zbB (zab (v 0) zae)) zae)) (zbp (i := 4) nd rfl (by first | exact Or.inl rfl | exact Or.inr rfl))
    (zak (s_if (PW.pt (zfs (zaY (o_eq hr.units) (v_ix hu (v_ix hu (v 0) (v 4)) zag) (v_ix hu (v 1) zag) (by first | exact zan _ | with_unfolding_all rfl)) (zd0 (zaY (o_eq hr.units) (v_ix hu (v_ix hu (v 0) (v 4)) zag) (zb0 zdL (by rfl) T.tuple_ zbS (zab (v 2) zae)) (by first | exact zan _ | with_unfolding_all rfl)))))
    (zak (zbQ (zga (zab (v 4) (zab (zb0 zdL (by rfl) T.tuple_ zbS (zab (zd5 (v 1) (zc4 zag) zd3) zae)) zae)))))
    zbE)))
   (zak (zbQ zer)))))
theorem znm (T : Tx mg) {f_l_knot : Addr} {zbv : FuncData} (F_l_knot : Df K mg "_law_knot" zbj ["rules", "row"] f_l_knot zbv) : FnOk P w K mg base CX0 1 f_l_knot zbv ["rules", "row"] (upSp K zc7) :=
 ok3 F_l_knot.fn zix zk2 fun cdv A outer s H E ws M R hr h => ⟨zdi, znl T hr, zjG h⟩
theorem ziy : zaR zgY ["rules", "text"] (zaa zbo) := ⟨rfl, rfl, rfl, by decide +kernel, rfl, by decide +kernel, by decide +kernel⟩
theorem znn {f : Addr} {cdv : Value} {A : Around} {outer : List Env} {s : Shared} {H : Hp} {E : XK} (T : Tx mg) {f_l_knot : Addr} {zbv : FuncData} (F_l_knot : Df K mg "_law_knot" zbj ["rules", "row"] f_l_knot zbv) (G_l_knot : FnOk P w K mg base CX0 1 f_l_knot zbv ["rules", "row"] (upSp K zc7)) (hr : Room 1 (A.deeper (envOfC "_law_read" (zaa zbo) s.heap.objs.size f cdv))) :
  Ps3 (cxOf CX0 P w K mg base zgY "_law_read" (zaa zbo) f cdv A outer s H E).nox (zaf zbo) zdj := by
 have nd := ziy.nd
 have hu := zcM hr
 exact (zad (zaO (i := 2) nd rfl (by first | exact Or.inl rfl | exact Or.inr rfl) (zd1 (zab (zd1 zae) zae)))
   (zad (zaO (i := 3) nd rfl (by first | exact Or.inl rfl | exact Or.inr rfl) zbq)
   (zad (zes PassesOwn.never rfl (zcr (by rfl) T.range_ (zab (zav zcm (by rfl) T.len_ zbB (zab (v 1) zae)) zae)) (zbp (i := 4) nd rfl (by first | exact Or.inl rfl | exact Or.inr rfl))
    (zad (zaO (i := 5) nd rfl (by first | exact Or.inl rfl | exact Or.inr rfl) (v_ix hu (v 1) (v 4)))
   (zak (s_if (zaY (o_eq hr.units) (v 5) zbq (by first | exact zan _ | with_unfolding_all rfl))
    (zad (s_if (zaY (zft hu) (v 3) (v_kl rfl) (by first | exact zan _ | with_unfolding_all rfl))
    (zak (zbQ zer))
    zbE)
   (zad (zbP (v_bm PySem.F.plainAttrs_list PySem.F.slot_list_append PySem.F.type_list_append za1 (v 2) (zab (zd1 (zab (v 3) zae)) zae)))
   (zak (zaO (i := 3) nd rfl (by first | exact Or.inl rfl | exact Or.inr rfl) zbq))))
    (zak (s_if (PW.pt (t_or (zaY (o_eq hr.units) (v 5) zbq (by first | exact zan _ | with_unfolding_all rfl)) (zhE (zaY (o_eq hr.units) (v 5) zbq (by first | exact zan _ | with_unfolding_all rfl)))))
    (zad (s_if (PW.pt (t_or (zaY o_lt (zav zcm (by rfl) T.len_ zbB (zab (v 2) zae)) zag (by first | exact zan _ | with_unfolding_all rfl)) (zhE (PW.pt (zfs (zaY (o_ne hr.units) (v 3) zbq (by first | exact zan _ | with_unfolding_all rfl)) (zd0 (zaY (zft hu) (v_ix hu (v 3) zag) zbq (by first | exact zan _ | with_unfolding_all rfl))))))))
    (zak (zbQ zer))
    zbE)
   (zad (s_if (PW.pt (zfs (zaY (o_eq hr.units) (v 3) zbq (by first | exact zan _ | with_unfolding_all rfl)) (zfs (zaY (o_ne hr.units) (v_ix hu (v 1) (v_op znS (v 4) zag)) zbq (by first | exact zan _ | with_unfolding_all rfl)) (zd0 (PW.pt (t_or (zaY (o_eq hr.units) (v 5) zbq (by first | exact zan _ | with_unfolding_all rfl)) (zhE (zaY (o_ne hr.units) (v_ix hu (v 1) (v_op znS (v 4) zag)) zbq (by first | exact zan _ | with_unfolding_all rfl)))))))))
    (zak (zbQ zer))
    zbE)
   (zad (s_if (zaY (o_ne hr.units) (v 3) zbq (by first | exact zan _ | with_unfolding_all rfl))
    (zak (zbP (v_bm PySem.F.plainAttrs_list PySem.F.slot_list_append PySem.F.type_list_append za1 (v_ix hu (v 2) (v_un zgb zag)) (zab (v 3) zae))))
    zbE)
   (zad (zaO (i := 3) nd rfl (by first | exact Or.inl rfl | exact Or.inr rfl) zbq)
   (zak (s_if (zaY (o_eq hr.units) (v 5) zbq (by first | exact zan _ | with_unfolding_all rfl))
    (zad (zaO (i := 6) nd rfl (by first | exact Or.inl rfl | exact Or.inr rfl) (zbd G_l_knot (hr.mono (by decide)) (by rfl) F_l_knot.at_ F_l_knot.fn.kp F_l_knot.bi (zab (v 0) (zab (v_ix hu (v 2) (v_un zgb zag)) zae))))
   (zad (s_if (zaY o_is (v 6) zer (by first | exact zan _ | with_unfolding_all rfl))
    (zak (zbQ zer))
    zbE)
   (zad (zaO (i := 2) nd rfl (by first | exact Or.inl rfl | exact Or.inr rfl) (zp4 (v 2) zd3 (zc4 (v_un zgb zag))))
   (zak (zbP (v_bm PySem.F.plainAttrs_list PySem.F.slot_list_append PySem.F.type_list_append za1 (v_ix hu (v 2) (v_un zgb zag)) (zab (v 6) zae)))))))
    zbE))))))
    (zak (s_if (PW.pt (zfs (zaY o_gt (v 4) zag (by first | exact zan _ | with_unfolding_all rfl)) (zd0 (zaY (o_eq hr.units) (v_ix hu (v 1) (v_op znS (v 4) zag)) zbq (by first | exact zan _ | with_unfolding_all rfl)))))
    (zak (zbQ zer))
    (zak (zaO (i := 3) nd rfl (by first | exact Or.inl rfl | exact Or.inr rfl) (v_op zbF (v 3) (v 5))))))))))))
   (zak (zbQ (v_if (PW.pt (zfs (zaY (o_eq hr.units) (zav zcm (by rfl) T.len_ zbB (zab (v 2) zae)) zag (by first | exact zan _ | with_unfolding_all rfl)) (zfs (zaY (o_eq hr.units) (zav zcm (by rfl) T.len_ zbB (zab (v_ix hu (v 2) zag) zae)) zag (by first | exact zan _ | with_unfolding_all rfl)) (zd0 (zaY (o_eq hr.units) (v 3) zbq (by first | exact zan _ | with_unfolding_all rfl)))))) (v_ix hu (v_ix hu (v 2) zag) zag) zer))))))
theorem zno (T : Tx mg) {f_l_read : Addr} {zbV : FuncData} (F_l_read : Df K mg "_law_read" zbo ["rules", "text"] f_l_read zbV) {f_l_knot : Addr} {zbv : FuncData} (F_l_knot : Df K mg "_law_knot" zbj ["rules", "row"] f_l_knot zbv) : FnOk P w K mg base CX0 2 f_l_read zbV ["rules", "text"] (upSp K zc8) :=
 ok3 F_l_read.fn ziy zk3 fun cdv A outer s H E ws M R hr h => ⟨zdj, znn T F_l_knot (znm T F_l_knot) hr, zjI h⟩
theorem zgB : zaR zfP ["e"] (zaa za6) := ⟨rfl, rfl, rfl, by decide +kernel, rfl, by decide +kernel, by decide +kernel⟩
theorem zlh {f : Addr} {cdv : Value} {A : Around} {outer : List Env} {s : Shared} {H : Hp} {E : XK} (T : Tx mg) {c : Cl6} {Cg : Addr} (Z : Zx K mg c Cg) (hr : Room 0 (A.deeper (envOfC "_law_other" (zaa za6) s.heap.objs.size f cdv))) :
  Ps3 (cxOf CX0 P w K mg base zfP "_law_other" (zaa za6) f cdv A outer s H E).nox (zaf za6) (zcI K c) := by
 have nd := zgB.nd
 have hu := zcM hr
 exact (zad (s_if (PW.pt (t_or (zdZ (zav zfw (by rfl) T.isinstance_ zaG (zab (v 0) (zab (zkZ (by rfl) Z.me) zae)))) (t_or (zdZ (zav zfw (by rfl) T.isinstance_ zaG (zab (v 0) (zab (zkZ (by rfl) Z.mn) zae)))) (zhE (zdZ (zav zfw (by rfl) T.isinstance_ zaG (zab (v 0) (zab (zkZ (by rfl) Z.mo) zae))))))))
    (zak (zbQ v_bl))
    zbE)
   (zak (zbQ (v_or (zav zfw (by rfl) T.isinstance_ zaG (zab (v 0) (zab (zkZ (by rfl) Z.mr) zae))) (zhF (zav zfw (by rfl) T.isinstance_ zaG (zab (v 0) (zab (zkZ (by rfl) Z.mm) zae))))))))
theorem zli (T : Tx mg) {c : Cl6} {Cg : Addr} (Z : Zx K mg c Cg) {f_l_other : Addr} {zbA : FuncData} (F_l_other : Df K mg "_law_other" za6 ["e"] f_l_other zbA) : FnOk P w K mg base CX0 1 f_l_other zbA ["e"] (upSp K (zcy c)) :=
 ok3 F_l_other.fn zgB zjA fun cdv A outer s H E ws M R hr h => ⟨(zcI K c), zlh T Z hr, zio Z.kx h⟩
theorem zpt : zaR zrn ["script"] (zaa zeB) := ⟨rfl, rfl, rfl, by decide +kernel, rfl, by decide +kernel, by decide +kernel⟩
theorem ztI {f : Addr} {cdv : Value} {A : Around} {outer : List Env} {s : Shared} {H : Hp} {E : XK} (T : Tx mg) {c : Cl6} {Cg : Addr} (Z : Zx K mg c Cg) {f_l_grammar : Addr} {zbb : FuncData} (F_l_grammar : Df K mg "_law_grammar" zaI ["script"] f_l_grammar zbb) (G_l_grammar : FnOk P w K mg base CX0 2 f_l_grammar zbb ["script"] (upSp K zb4)) {f_l_ranks : Addr} {zbz : FuncData} (F_l_ranks : Df K mg "_law_ranks" za5 ["rules"] f_l_ranks zbz) (G_l_ranks : FnOk P w K mg base CX0 1 f_l_ranks zbz ["rules"] (upSp K zcx)) {f_shown_tree : Addr} {zax : FuncData} (F_shown_tree : Df K mg "shown_tree" zar ["grammar", "tree"] f_shown_tree zax) (G_shown_tree : FnOk P w K mg base CX0 2 f_shown_tree zax ["grammar", "tree"] (upSp K zbm)) {f_l_cell_at : Addr} {zaE : FuncData} (F_l_cell_at : Df K mg "_law_cell_at" zaB ["script", "k"] f_l_cell_at zaE) (G_l_cell_at : FnOk P w K mg base CX0 1 f_l_cell_at zaE ["script", "k"] (upSp K za8)) {f_l_read : Addr} {zbV : FuncData} (F_l_read : Df K mg "_law_read" zbo ["rules", "text"] f_l_read zbV) (G_l_read : FnOk P w K mg base CX0 2 f_l_read zbV ["rules", "text"] (upSp K zc8)) {f_l_grown : Addr} {zaL : FuncData} (F_l_grown : Df K mg "_law_grown" zaU ["rules", "ranks", "name", "cells", "deep"] f_l_grown zaL) (G_l_grown : FnOk P w K mg base CX0 10 f_l_grown zaL ["rules", "ranks", "name", "cells", "deep"] (upSp K zat)) {f_read_tree : Addr} {zba : FuncData} (F_read_tree : Df K mg "read_tree" zaH ["grammar", "text"] f_read_tree zba) (G_read_tree : FnOk P w K mg base (CXr P w) 5 f_read_tree zba ["grammar", "text"] (zev K (clOf c) zby)) {f_l_first : Addr} {zaN : FuncData} (F_l_first : Df K mg "_law_first" zaW ["rules", "tree"] f_l_first zaN) (G_l_first : FnOk P w K mg base CX0 10 f_l_first zaN ["rules", "tree"] (upSp K zay)) {f_l_shown : Addr} {zaM : FuncData} (F_l_shown : Df K mg "_law_shown" zaV ["rules", "tree"] f_l_shown zaM) (G_l_shown : FnOk P w K mg base CX0 10 f_l_shown zaM ["rules", "tree"] (upSp K zaJ)) {f_l_other : Addr} {zbA : FuncData} (F_l_other : Df K mg "_law_other" za6 ["e"] f_l_other zbA) (G_l_other : FnOk P w K mg base CX0 1 f_l_other zbA ["e"] (upSp K (zcy c))) (hr : Room 10 (A.deeper (envOfC "law" (zaa zeB) s.heap.objs.size f cdv))) :
  Ps3 (cxOf CX0 P w K mg base zrn "law" (zaa zeB) f cdv A outer s H E).nox (zaf zeB) (zh7 K c) := by
 have nd := zpt.nd
 have hu := zcM hr
 exact (zad (zaO (i := 1) nd rfl (by first | exact Or.inl rfl | exact Or.inr rfl) (zbd G_l_grammar (hr.mono (by decide)) (by rfl) F_l_grammar.at_ F_l_grammar.fn.kp F_l_grammar.bi (zab (v 0) zae)))
   (zad (zaO (i := 2) nd rfl (by first | exact Or.inl rfl | exact Or.inr rfl) (zbd G_l_ranks (hr.mono (by decide)) (by rfl) F_l_ranks.at_ F_l_ranks.fn.kp F_l_ranks.bi (zab (v 1) zae)))
   (zad (zaO (i := 3) nd rfl (by first | exact Or.inl rfl | exact Or.inr rfl) (v_ix hu (v_ix hu (v 1) (v_op zcY (zbd G_l_cell_at (hr.mono (by decide)) (by rfl) F_l_cell_at.at_ F_l_cell_at.fn.kp F_l_cell_at.bi (zab (v 0) (zab zag zae))) (zav zcm (by rfl) T.len_ zbB (zab (v 1) zae)))) zag))
   (zad (s_if (zaY (zft hu) (v 3) (v 2) (by first | exact zan _ | with_unfolding_all rfl))
    (zak (zbQ v_bl))
    zbE)
   (zad (zaO (i := 4) nd rfl (by first | exact Or.inl rfl | exact Or.inr rfl) (v_ix hu (zbd G_l_grown (hr.mono (by decide)) (by rfl) F_l_grown.at_ F_l_grown.fn.kp F_l_grown.bi (zab (v 1) (zab (v 2) (zab (v 3) (zab (zd5 (v 0) (zc4 zag) (zc4 zag)) (zab zag zae)))))) zag))
   (zad (zaO (i := 5) nd rfl (by first | exact Or.inl rfl | exact Or.inr rfl) (zbd G_shown_tree (hr.mono (by decide)) (by rfl) F_shown_tree.at_ F_shown_tree.fn.kp F_shown_tree.bi (zab (zb0 (zi3 rfl) (by rfl) T.list_ zi5 (zab (v 1) zae)) (zab (v 4) zae))))
   (zad (s_if (PW.pt (t_or (zpY (zdZ (zav zmb (by rfl) T.isinstance_ zaG (zab (v 5) (zab (zgr (by rfl) T.str_ zsF (y := .ty "str") rfl (fun _ _ => .ty _)) zae))))) (zhE (zaY (o_ne hr.units) (v 5) (zbd G_l_shown (hr.mono (by decide)) (by rfl) F_l_shown.at_ F_l_shown.fn.kp F_l_shown.bi (zab (v 1) (zab (v 4) zae))) (by first | exact zan _ | with_unfolding_all rfl)))))
    (zak (zbQ v_bl))
    zbE)
   (zad (s_if (zaY (o_ne hr.units) (zbd (L3.FnOk.calm G_read_tree) (hr.mono (by decide)) (by rfl) F_read_tree.at_ F_read_tree.fn.kp F_read_tree.bi (zab (zb0 (zi3 rfl) (by rfl) T.list_ zi5 (zab (v 1) zae)) (zab (v 5) zae))) (zbd G_l_first (hr.mono (by decide)) (by rfl) F_l_first.at_ F_l_first.fn.kp F_l_first.bi (zab (v 1) (zab (v 4) zae))) (by first | exact zan _ | with_unfolding_all rfl))
    (zak (zbQ v_bl))
    zbE)
   (zad (zaO (i := 6) nd rfl (by first | exact Or.inl rfl | exact Or.inr rfl) (zbd G_l_cell_at (hr.mono (by decide)) (by rfl) F_l_cell_at.at_ F_l_cell_at.fn.kp F_l_cell_at.bi (zab (v 0) (zab zag zae))))
   (zad (zaO (i := 7) nd rfl (by first | exact Or.inl rfl | exact Or.inr rfl) (v_op zcY (v_op zc3 (v 6) zag) (v_op zbF (zav zcm (by rfl) T.len_ zbB (zab (v 5) zae)) zag)))
   (zad (zaO (i := 8) nd rfl (by first | exact Or.inl rfl | exact Or.inr rfl) (v_ix hu zbq (v_op zcY (v_op zc3 (v 6) zag) zag)))
   (zad (zaO (i := 9) nd rfl (by first | exact Or.inl rfl | exact Or.inr rfl) (zfe (v 5) zd3 (zc4 (v 7))))
   (zad (zaO (i := 10) nd rfl (by first | exact Or.inl rfl | exact Or.inr rfl) (v_ix hu (zhJ (zab (v_op zbF (v_op zbF (v 9) (v 8)) (zfe (v 5) (zc4 (v 7)) zd3)) (zab (v_op zbF (v 9) (zfe (v 5) (zc4 (v_op zbF (v 7) zag)) zd3)) (zab (v_op zbF (v_op zbF (v 9) (v 8)) (zfe (v 5) (zc4 (v_op zbF (v 7) zag)) zd3)) zae)))) (v_op zcY (v 6) zag)))
   (zad (s_if (zaY (o_eq hr.units) (v_op zcY (v_op zc3 (v 6) zag) zag) zag (by first | exact zan _ | with_unfolding_all rfl))
    (zad (zaO (i := 11) nd rfl (by first | exact Or.inl rfl | exact Or.inr rfl) (v_kl rfl))
   (zak (zaO (i := 10) nd rfl (by first | exact Or.inl rfl | exact Or.inr rfl) (v_ix hu (v 11) (v_op zcY (v_op zc3 (v 6) zag) zag)))))
    zbE)
   (zad (zaO (i := 12) nd rfl (by first | exact Or.inl rfl | exact Or.inr rfl) (zbd G_l_read (hr.mono (by decide)) (by rfl) F_l_read.at_ F_l_read.fn.kp F_l_read.bi (zab (v 1) (zab (v 10) zae))))
   (zad (zaO (i := 13) nd rfl (by first | exact Or.inl rfl | exact Or.inr rfl) zer)
   (zad (zaO (i := 14) nd rfl (by first | exact Or.inl rfl | exact Or.inr rfl) zer)
   (zad (ztt (i := 13) (j := 14) (ie := 15) G_read_tree (hr.mono (by decide)) (by rfl) F_read_tree.at_ F_read_tree.fn.kp F_read_tree.bi nd rfl (by first | exact Or.inl rfl | exact Or.inr rfl) (fun E => (zab (zb0 (zi3 rfl) (by rfl) T.list_ zi5 (zab (v 1) zae)) (zab (v 10) zae))) rfl rfl rfl (by rfl) Z.grove Z.ex rfl rfl (by first | exact Or.inl rfl | exact Or.inr rfl))
   (zad (s_if (zaY zp0 (v 12) zer (by first | exact zan _ | with_unfolding_all rfl))
    (zak (zbQ (ziY (ziX o_is (v 14) zer (by first | exact zan _ | with_unfolding_all rfl)) (zhF (ziX (o_eq hr.units) (v 13) (v 12) (by first | exact zan _ | with_unfolding_all rfl))))))
    zbE)
   (zak (zbQ (ziY (zav zfw (by rfl) T.isinstance_ zaG (zab (v 14) (zab (zkZ (by rfl) Z.t.at_) zae))) (ziY (zav zfw (by rfl) T.isinstance_ zaG (zab (v 14) (zab (zgr (by rfl) T.ValueError_ zhb (y := .ty "ValueError") rfl (fun _ _ => .ty _)) zae))) (zhF (zsg (zbd G_l_other (hr.mono (by decide)) (by rfl) F_l_other.at_ F_l_other.fn.kp F_l_other.bi (zab (v 14) zae)))))))))))))))))))))))))))
theorem ztJ (T : Tx mg) {c : Cl6} {Cg : Addr} (Z : Zx K mg c Cg) {f_law : Addr} {ziJ : FuncData} (F_law : Df K mg "law" zeB ["script"] f_law ziJ) {f_q_made_of : Addr} {zas : FuncData} (F_q_made_of : Df K mg "made_of" zau ["text", "signs"] f_q_made_of zas) {f_q_is_name : Addr} {zaC : FuncData} (F_q_is_name : Df K mg "is_name" zaw ["part"] f_q_is_name zaC) {f_is_tree : Addr} {zao : FuncData} (F_is_tree : Df K mg "is_tree" zaF ["child"] f_is_tree zao) {f_shown_tree : Addr} {zax : FuncData} (F_shown_tree : Df K mg "shown_tree" zar ["grammar", "tree"] f_shown_tree zax) {f_rule_numbers : Addr} {zap : FuncData} (F_rule_numbers : Df K mg "rule_numbers" zai ["grammar"] f_rule_numbers zap) {f_knot_by : Addr} {za3 : FuncData} (F_knot_by : Df K mg "knot_by" zaT ["grammar", "numbers", "name", "children"] f_knot_by za3) {f_tree_by_pieces : Addr} {zaq : FuncData} (F_tree_by_pieces : Df K mg "tree_by_pieces" zah ["grammar", "pieces"] f_tree_by_pieces zaq) {f_read_tree : Addr} {zba : FuncData} (F_read_tree : Df K mg "read_tree" zaH ["grammar", "text"] f_read_tree zba) {f_l_cell_at : Addr} {zaE : FuncData} (F_l_cell_at : Df K mg "_law_cell_at" zaB ["script", "k"] f_l_cell_at zaE) {f_l_parts : Addr} {zbl : FuncData} (F_l_parts : Df K mg "_law_parts" zaZ ["d", "heads"] f_l_parts zbl) {f_l_grammar : Addr} {zbb : FuncData} (F_l_grammar : Df K mg "_law_grammar" zaI ["script"] f_l_grammar zbb) {f_l_ranks : Addr} {zbz : FuncData} (F_l_ranks : Df K mg "_law_ranks" za5 ["rules"] f_l_ranks zbz) {f_l_grown : Addr} {zaL : FuncData} (F_l_grown : Df K mg "_law_grown" zaU ["rules", "ranks", "name", "cells", "deep"] f_l_grown zaL) {f_l_shown : Addr} {zaM : FuncData} (F_l_shown : Df K mg "_law_shown" zaV ["rules", "tree"] f_l_shown zaM) {f_l_first : Addr} {zaN : FuncData} (F_l_first : Df K mg "_law_first" zaW ["rules", "tree"] f_l_first zaN) {f_l_knot : Addr} {zbv : FuncData} (F_l_knot : Df K mg "_law_knot" zbj ["rules", "row"] f_l_knot zbv) {f_l_read : Addr} {zbV : FuncData} (F_l_read : Df K mg "_law_read" zbo ["rules", "text"] f_l_read zbV) {f_l_other : Addr} {zbA : FuncData} (F_l_other : Df K mg "_law_other" za6 ["e"] f_l_other zbA) : FnOk P w K mg base CX0 11 f_law ziJ ["script"] (upSp K zmW) :=
 ok3 F_law.fn zpt zro fun cdv A outer s H E ws M R hr h => ⟨(zh7 K c), ztI T Z F_l_grammar (ziw T F_l_grammar F_l_cell_at F_l_parts) F_l_ranks (zla T F_l_ranks) F_shown_tree (zel T F_shown_tree F_is_tree) F_l_cell_at (ze6 T F_l_cell_at) F_l_read (zno T F_l_read F_l_knot) F_l_grown (zlc T F_l_grown) F_read_tree (zhe T Z F_read_tree F_q_made_of F_q_is_name F_is_tree F_shown_tree F_rule_numbers F_knot_by F_tree_by_pieces) F_l_first (zlg T F_l_first) F_l_shown (zle T F_l_shown) F_l_other (zli T Z F_l_other) hr, zoI Z.kx h⟩
end
end Rg
namespace Rg
open PySem PySem.Spec PyProof.Rows L2 L3
noncomputable def en (P : Params) (x : String) (t : Tok) (v : Value) : DictEntry := ⟨PyData.keyHash P (Str.ofString x), .str (Str.ofString x) t, v⟩
noncomputable def hpK : Params → PySem.W.Frag := fun P => [(nat_lit 3, ⟨(.type "dict"), none, .dict [en P "__name__" 165 (.str (Str.ofString "law_readgrove_k82_trees_written") 382), en P "__doc__" 166 .none, en P "__package__" 167 .none, en P "__loader__" 168 (.builtin "__main__.__loader__#opaque"), en P "__spec__" 169 .none, en P "__annotations__" 170 (.ref 6), en P "__builtins__" 171 (.ref 4), en P "__file__" 173 (.str (Str.ofString "/claim/cut.py") 172), en P "__cached__" 174 .none, en P "GroveError" 206 (.ref 24), en P "NoGrammar" 222 (.ref 37), en P "NoReading" 238 (.ref 49), en P "Endless" 254 (.ref 61), en P "TooMany" 270 (.ref 73), en P "NoText" 286 (.ref 85), en P "NoOrder" 302 (.ref 97), en P "GREAT_LETTERS" 306 (.str (Str.ofString "ABCDEFGHIJKLMNOPQRSTUVWXYZ") 305), en P "FIGURES" 308 (.str (Str.ofString "0123456789") 307), en P "made_of" 314 (.ref 104), en P "is_name" 323 (.ref 111), en P "is_tree" 332 (.ref 118), en P "shown_tree" 346 (.ref 125), en P "rule_numbers" 356 (.ref 132), en P "knot_by" 362 (.ref 137), en P "tree_by_pieces" 375 (.ref 144), en P "read_tree" 381 (.ref 149), en P "_law_cell_at" 391 (.ref 156), en P "_law_parts" 402 (.ref 163), en P "_law_grammar" 415 (.ref 170), en P "_law_row" 421 (.ref 175), en P "_law_ranks" 427 (.ref 180), en P "_law_grown" 433 (.ref 185), en P "_law_shown" 443 (.ref 192), en P "_law_first" 454 (.ref 199), en P "_law_knot" 465 (.ref 206), en P "_law_read" 478 (.ref 213), en P "_law_other" 485 (.ref 220), en P "law" 507 (.ref 227)].toArray 38, #[]⟩),
 (nat_lit 23, ⟨(.type "dict"), none, .dict [en P "__module__" 196 (.str (Str.ofString "readgrove.errors") 187), en P "__firstlineno__" 200 (.int 2 199), en P "__static_attributes__" 201 (.ref 22), en P "__weakref__" 203 (.ref 25), en P "__doc__" 204 .none].toArray 3, #[]⟩),
 (nat_lit 24, ⟨(.type "type"), none, .cls ⟨(Str.ofString "GroveError"), [(.type "ValueError")], [(.ref 24), (.type "ValueError"), (.type "Exception"), (.type "BaseException"), (.type "object")], 23, (Str.ofString "GroveError"), true, [], [(.ref 37), (.ref 49), (.ref 61), (.ref 73), (.ref 85), (.ref 97)], false, none, false⟩, #[some (.ref 15), none, some (.str (Str.ofString "GroveError") 189), some (.str (Str.ofString "GroveError") 197), some (.builtin "ValueError.__new__"), some (.bool true)]⟩),
 (nat_lit 36, ⟨(.type "dict"), none, .dict [en P "__module__" 214 (.str (Str.ofString "readgrove.errors") 187), en P "__firstlineno__" 218 (.int 4 217), en P "__static_attributes__" 219 (.ref 35), en P "__doc__" 220 .none].toArray 2, #[]⟩),
 (nat_lit 37, ⟨(.type "type"), none, .cls ⟨(Str.ofString "NoGrammar"), [(.ref 24)], [(.ref 37), (.ref 24), (.type "ValueError"), (.type "Exception"), (.type "BaseException"), (.type "object")], 36, (Str.ofString "NoGrammar"), true, [], [], false, none, false⟩, #[some (.ref 28), none, some (.str (Str.ofString "NoGrammar") 207), some (.str (Str.ofString "NoGrammar") 215), some (.builtin "ValueError.__new__"), some (.bool true)]⟩),
 (nat_lit 48, ⟨(.type "dict"), none, .dict [en P "__module__" 230 (.str (Str.ofString "readgrove.errors") 187), en P "__firstlineno__" 234 (.int 6 233), en P "__static_attributes__" 235 (.ref 47), en P "__doc__" 236 .none].toArray 2, #[]⟩),
 (nat_lit 49, ⟨(.type "type"), none, .cls ⟨(Str.ofString "NoReading"), [(.ref 24)], [(.ref 49), (.ref 24), (.type "ValueError"), (.type "Exception"), (.type "BaseException"), (.type "object")], 48, (Str.ofString "NoReading"), true, [], [], false, none, false⟩, #[some (.ref 40), none, some (.str (Str.ofString "NoReading") 223), some (.str (Str.ofString "NoReading") 231), some (.builtin "ValueError.__new__"), some (.bool true)]⟩),
 (nat_lit 60, ⟨(.type "dict"), none, .dict [en P "__module__" 246 (.str (Str.ofString "readgrove.errors") 187), en P "__firstlineno__" 250 (.int 8 249), en P "__static_attributes__" 251 (.ref 59), en P "__doc__" 252 .none].toArray 2, #[]⟩),
 (nat_lit 61, ⟨(.type "type"), none, .cls ⟨(Str.ofString "Endless"), [(.ref 24)], [(.ref 61), (.ref 24), (.type "ValueError"), (.type "Exception"), (.type "BaseException"), (.type "object")], 60, (Str.ofString "Endless"), true, [], [], false, none, false⟩, #[some (.ref 52), none, some (.str (Str.ofString "Endless") 239), some (.str (Str.ofString "Endless") 247), some (.builtin "ValueError.__new__"), some (.bool true)]⟩),
 (nat_lit 72, ⟨(.type "dict"), none, .dict [en P "__module__" 262 (.str (Str.ofString "readgrove.errors") 187), en P "__firstlineno__" 266 (.int 10 265), en P "__static_attributes__" 267 (.ref 71), en P "__doc__" 268 .none].toArray 2, #[]⟩),
 (nat_lit 73, ⟨(.type "type"), none, .cls ⟨(Str.ofString "TooMany"), [(.ref 24)], [(.ref 73), (.ref 24), (.type "ValueError"), (.type "Exception"), (.type "BaseException"), (.type "object")], 72, (Str.ofString "TooMany"), true, [], [], false, none, false⟩, #[some (.ref 64), none, some (.str (Str.ofString "TooMany") 255), some (.str (Str.ofString "TooMany") 263), some (.builtin "ValueError.__new__"), some (.bool true)]⟩),
 (nat_lit 84, ⟨(.type "dict"), none, .dict [en P "__module__" 278 (.str (Str.ofString "readgrove.errors") 187), en P "__firstlineno__" 282 (.int 12 281), en P "__static_attributes__" 283 (.ref 83), en P "__doc__" 284 .none].toArray 2, #[]⟩),
 (nat_lit 85, ⟨(.type "type"), none, .cls ⟨(Str.ofString "NoText"), [(.ref 24)], [(.ref 85), (.ref 24), (.type "ValueError"), (.type "Exception"), (.type "BaseException"), (.type "object")], 84, (Str.ofString "NoText"), true, [], [], false, none, false⟩, #[some (.ref 76), none, some (.str (Str.ofString "NoText") 271), some (.str (Str.ofString "NoText") 279), some (.builtin "ValueError.__new__"), some (.bool true)]⟩),
 (nat_lit 96, ⟨(.type "dict"), none, .dict [en P "__module__" 294 (.str (Str.ofString "readgrove.errors") 187), en P "__firstlineno__" 298 (.int 14 297), en P "__static_attributes__" 299 (.ref 95), en P "__doc__" 300 .none].toArray 2, #[]⟩),
 (nat_lit 97, ⟨(.type "type"), none, .cls ⟨(Str.ofString "NoOrder"), [(.ref 24)], [(.ref 97), (.ref 24), (.type "ValueError"), (.type "Exception"), (.type "BaseException"), (.type "object")], 96, (Str.ofString "NoOrder"), true, [], [], false, none, false⟩, #[some (.ref 88), none, some (.str (Str.ofString "NoOrder") 287), some (.str (Str.ofString "NoOrder") 295), some (.builtin "ValueError.__new__"), some (.bool true)]⟩),
 (nat_lit 103, ⟨(.type "code"), none, .fields #[(.str (Str.ofString "made_of") 309), (.str (Str.ofString "made_of") 310), (.str (Str.ofString "/claim/cut.py") 311), (.int 19 0), (.int 2 0), (.int 0 0), (.int 0 0), (.int 3 0), (.ref 100), (.bool true), (.int 181 0), (.ref 101), .none, .none, .none, (.ref 102), (.int 312 0), (.int 19 0), (.str (Str.ofString "/claim/cut.py") 313)], #[]⟩),
 (nat_lit 104, ⟨(.type "function"), none, .func (PySem.W.fnOf "made_of" "made_of" (zam zau) (zaf zau) (zaa zau) .none .none .none (.str (Str.ofString "readgrove.grammars") 303) none (.ref 103) .none), #[]⟩),
 (nat_lit 110, ⟨(.type "code"), none, .fields #[(.str (Str.ofString "is_name") 315), (.str (Str.ofString "is_name") 316), (.str (Str.ofString "/claim/cut.py") 317), (.int 21 0), (.int 1 0), (.int 0 0), (.int 0 0), (.int 3 0), (.ref 105), (.bool true), (.int 181 0), (.ref 106), .none, (.ref 107), (.ref 108), (.ref 109), (.int 321 0), (.int 21 0), (.str (Str.ofString "/claim/cut.py") 322)], #[]⟩),
 (nat_lit 111, ⟨(.type "function"), none, .func (PySem.W.fnOf "is_name" "is_name" (zam zaw) (zaf zaw) (zaa zaw) .none .none .none (.str (Str.ofString "readgrove.grammars") 303) none (.ref 110) .none), #[]⟩),
 (nat_lit 117, ⟨(.type "code"), none, .fields #[(.str (Str.ofString "is_tree") 326), (.str (Str.ofString "is_tree") 327), (.str (Str.ofString "/claim/cut.py") 328), (.int 26 0), (.int 1 0), (.int 0 0), (.int 0 0), (.int 3 0), (.ref 112), (.bool true), (.int 181 0), (.ref 113), .none, (.ref 114), (.ref 115), (.ref 116), (.int 330 0), (.int 26 0), (.str (Str.ofString "/claim/cut.py") 331)], #[]⟩),
 (nat_lit 118, ⟨(.type "function"), none, .func (PySem.W.fnOf "is_tree" "is_tree" (zam zaF) (zaf zaF) (zaa zaF) .none .none .none (.str (Str.ofString "readgrove.trees") 324) none (.ref 117) .none), #[]⟩),
 (nat_lit 124, ⟨(.type "code"), none, .fields #[(.str (Str.ofString "shown_tree") 335), (.str (Str.ofString "shown_tree") 336), (.str (Str.ofString "/claim/cut.py") 337), (.int 29 0), (.int 2 0), (.int 0 0), (.int 0 0), (.int 3 0), (.ref 119), (.bool true), (.int 181 0), (.ref 120), .none, (.ref 121), (.ref 122), (.ref 123), (.int 344 0), (.int 29 0), (.str (Str.ofString "/claim/cut.py") 345)], #[]⟩),
 (nat_lit 125, ⟨(.type "function"), none, .func (PySem.W.fnOf "shown_tree" "shown_tree" (zam zar) (zaf zar) (zaa zar) .none .none .none (.str (Str.ofString "readgrove.texts") 333) none (.ref 124) .none), #[]⟩),
 (nat_lit 131, ⟨(.type "code"), none, .fields #[(.str (Str.ofString "rule_numbers") 347), (.str (Str.ofString "rule_numbers") 348), (.str (Str.ofString "/claim/cut.py") 349), (.int 44 0), (.int 1 0), (.int 0 0), (.int 0 0), (.int 3 0), (.ref 126), (.bool true), (.int 181 0), (.ref 127), .none, (.ref 128), (.ref 129), (.ref 130), (.int 354 0), (.int 44 0), (.str (Str.ofString "/claim/cut.py") 355)], #[]⟩),
 (nat_lit 132, ⟨(.type "function"), none, .func (PySem.W.fnOf "rule_numbers" "rule_numbers" (zam zai) (zaf zai) (zaa zai) .none .none .none (.str (Str.ofString "readgrove.texts") 333) none (.ref 131) .none), #[]⟩),
 (nat_lit 136, ⟨(.type "code"), none, .fields #[(.str (Str.ofString "knot_by") 357), (.str (Str.ofString "knot_by") 358), (.str (Str.ofString "/claim/cut.py") 359), (.int 49 0), (.int 4 0), (.int 0 0), (.int 0 0), (.int 3 0), (.ref 133), (.bool true), (.int 181 0), (.ref 134), .none, .none, .none, (.ref 135), (.int 360 0), (.int 49 0), (.str (Str.ofString "/claim/cut.py") 361)], #[]⟩),
 (nat_lit 137, ⟨(.type "function"), none, .func (PySem.W.fnOf "knot_by" "knot_by" (zam zaT) (zaf zaT) (zaa zaT) .none .none .none (.str (Str.ofString "readgrove.texts") 333) none (.ref 136) .none), #[]⟩),
 (nat_lit 143, ⟨(.type "code"), none, .fields #[(.str (Str.ofString "tree_by_pieces") 363), (.str (Str.ofString "tree_by_pieces") 364), (.str (Str.ofString "/claim/cut.py") 365), (.int 56 0), (.int 2 0), (.int 0 0), (.int 0 0), (.int 3 0), (.ref 138), (.bool true), (.int 181 0), (.ref 139), .none, (.ref 140), (.ref 141), (.ref 142), (.int 373 0), (.int 56 0), (.str (Str.ofString "/claim/cut.py") 374)], #[]⟩),
 (nat_lit 144, ⟨(.type "function"), none, .func (PySem.W.fnOf "tree_by_pieces" "tree_by_pieces" (zam zah) (zaf zah) (zaa zah) .none .none .none (.str (Str.ofString "readgrove.texts") 333) none (.ref 143) .none), #[]⟩),
 (nat_lit 148, ⟨(.type "code"), none, .fields #[(.str (Str.ofString "read_tree") 376), (.str (Str.ofString "read_tree") 377), (.str (Str.ofString "/claim/cut.py") 378), (.int 73 0), (.int 2 0), (.int 0 0), (.int 0 0), (.int 3 0), (.ref 145), (.bool true), (.int 181 0), (.ref 146), .none, .none, .none, (.ref 147), (.int 379 0), (.int 73 0), (.str (Str.ofString "/claim/cut.py") 380)], #[]⟩),
 (nat_lit 149, ⟨(.type "function"), none, .func (PySem.W.fnOf "read_tree" "read_tree" (zam zaH) (zaf zaH) (zaa zaH) .none .none .none (.str (Str.ofString "readgrove.texts") 333) none (.ref 148) .none), #[]⟩),
 (nat_lit 155, ⟨(.type "code"), none, .fields #[(.str (Str.ofString "_law_cell_at") 384), (.str (Str.ofString "_law_cell_at") 385), (.str (Str.ofString "/claim/cut.py") 386), (.int 80 0), (.int 2 0), (.int 0 0), (.int 0 0), (.int 3 0), (.ref 150), (.bool true), (.int 181 0), (.ref 151), .none, (.ref 152), (.ref 153), (.ref 154), (.int 389 0), (.int 80 0), (.str (Str.ofString "/claim/cut.py") 390)], #[]⟩),
 (nat_lit 156, ⟨(.type "function"), none, .func (PySem.W.fnOf "_law_cell_at" "_law_cell_at" (zam zaB) (zaf zaB) (zaa zaB) .none .none .none (.str (Str.ofString "law_readgrove_k82_trees_written") 382) none (.ref 155) .none), #[]⟩),
 (nat_lit 162, ⟨(.type "code"), none, .fields #[(.str (Str.ofString "_law_parts") 392), (.str (Str.ofString "_law_parts") 393), (.str (Str.ofString "/claim/cut.py") 394), (.int 84 0), (.int 2 0), (.int 0 0), (.int 0 0), (.int 3 0), (.ref 157), (.bool true), (.int 181 0), (.ref 158), .none, (.ref 159), (.ref 160), (.ref 161), (.int 400 0), (.int 84 0), (.str (Str.ofString "/claim/cut.py") 401)], #[]⟩),
 (nat_lit 163, ⟨(.type "function"), none, .func (PySem.W.fnOf "_law_parts" "_law_parts" (zam zaZ) (zaf zaZ) (zaa zaZ) .none .none .none (.str (Str.ofString "law_readgrove_k82_trees_written") 382) none (.ref 162) .none), #[]⟩),
 (nat_lit 169, ⟨(.type "code"), none, .fields #[(.str (Str.ofString "_law_grammar") 403), (.str (Str.ofString "_law_grammar") 404), (.str (Str.ofString "/claim/cut.py") 405), (.int 93 0), (.int 1 0), (.int 0 0), (.int 0 0), (.int 3 0), (.ref 164), (.bool true), (.int 181 0), (.ref 165), .none, (.ref 166), (.ref 167), (.ref 168), (.int 413 0), (.int 93 0), (.str (Str.ofString "/claim/cut.py") 414)], #[]⟩),
 (nat_lit 170, ⟨(.type "function"), none, .func (PySem.W.fnOf "_law_grammar" "_law_grammar" (zam zaI) (zaf zaI) (zaa zaI) .none .none .none (.str (Str.ofString "law_readgrove_k82_trees_written") 382) none (.ref 169) .none), #[]⟩),
 (nat_lit 174, ⟨(.type "code"), none, .fields #[(.str (Str.ofString "_law_row") 416), (.str (Str.ofString "_law_row") 417), (.str (Str.ofString "/claim/cut.py") 418), (.int 106 0), (.int 2 0), (.int 0 0), (.int 0 0), (.int 3 0), (.ref 171), (.bool true), (.int 181 0), (.ref 172), .none, .none, .none, (.ref 173), (.int 419 0), (.int 106 0), (.str (Str.ofString "/claim/cut.py") 420)], #[]⟩),
 (nat_lit 175, ⟨(.type "function"), none, .func (PySem.W.fnOf "_law_row" "_law_row" (zam zjN) (zaf zjN) (zaa zjN) .none .none .none (.str (Str.ofString "law_readgrove_k82_trees_written") 382) none (.ref 174) .none), #[]⟩),
 (nat_lit 179, ⟨(.type "code"), none, .fields #[(.str (Str.ofString "_law_ranks") 422), (.str (Str.ofString "_law_ranks") 423), (.str (Str.ofString "/claim/cut.py") 424), (.int 108 0), (.int 1 0), (.int 0 0), (.int 0 0), (.int 3 0), (.ref 176), (.bool true), (.int 181 0), (.ref 177), .none, .none, .none, (.ref 178), (.int 425 0), (.int 108 0), (.str (Str.ofString "/claim/cut.py") 426)], #[]⟩),
 (nat_lit 180, ⟨(.type "function"), none, .func (PySem.W.fnOf "_law_ranks" "_law_ranks" (zam za5) (zaf za5) (zaa za5) .none .none .none (.str (Str.ofString "law_readgrove_k82_trees_written") 382) none (.ref 179) .none), #[]⟩),
 (nat_lit 184, ⟨(.type "code"), none, .fields #[(.str (Str.ofString "_law_grown") 428), (.str (Str.ofString "_law_grown") 429), (.str (Str.ofString "/claim/cut.py") 430), (.int 117 0), (.int 5 0), (.int 0 0), (.int 0 0), (.int 3 0), (.ref 181), (.bool true), (.int 181 0), (.ref 182), .none, .none, .none, (.ref 183), (.int 431 0), (.int 117 0), (.str (Str.ofString "/claim/cut.py") 432)], #[]⟩),
 (nat_lit 185, ⟨(.type "function"), none, .func (PySem.W.fnOf "_law_grown" "_law_grown" (zam zaU) (zaf zaU) (zaa zaU) .none .none .none (.str (Str.ofString "law_readgrove_k82_trees_written") 382) none (.ref 184) .none), #[]⟩),
 (nat_lit 191, ⟨(.type "code"), none, .fields #[(.str (Str.ofString "_law_shown") 434), (.str (Str.ofString "_law_shown") 435), (.str (Str.ofString "/claim/cut.py") 436), (.int 133 0), (.int 2 0), (.int 0 0), (.int 0 0), (.int 3 0), (.ref 186), (.bool true), (.int 181 0), (.ref 187), .none, (.ref 188), (.ref 189), (.ref 190), (.int 441 0), (.int 133 0), (.str (Str.ofString "/claim/cut.py") 442)], #[]⟩),
 (nat_lit 192, ⟨(.type "function"), none, .func (PySem.W.fnOf "_law_shown" "_law_shown" (zam zaV) (zaf zaV) (zaa zaV) .none .none .none (.str (Str.ofString "law_readgrove_k82_trees_written") 382) none (.ref 191) .none), #[]⟩),
 (nat_lit 198, ⟨(.type "code"), none, .fields #[(.str (Str.ofString "_law_first") 444), (.str (Str.ofString "_law_first") 445), (.str (Str.ofString "/claim/cut.py") 446), (.int 138 0), (.int 2 0), (.int 0 0), (.int 0 0), (.int 3 0), (.ref 193), (.bool true), (.int 181 0), (.ref 194), .none, (.ref 195), (.ref 196), (.ref 197), (.int 452 0), (.int 138 0), (.str (Str.ofString "/claim/cut.py") 453)], #[]⟩),
 (nat_lit 199, ⟨(.type "function"), none, .func (PySem.W.fnOf "_law_first" "_law_first" (zam zaW) (zaf zaW) (zaa zaW) .none .none .none (.str (Str.ofString "law_readgrove_k82_trees_written") 382) none (.ref 198) .none), #[]⟩),
 (nat_lit 205, ⟨(.type "code"), none, .fields #[(.str (Str.ofString "_law_knot") 455), (.str (Str.ofString "_law_knot") 456), (.str (Str.ofString "/claim/cut.py") 457), (.int 146 0), (.int 2 0), (.int 0 0), (.int 0 0), (.int 3 0), (.ref 200), (.bool true), (.int 181 0), (.ref 201), .none, (.ref 202), (.ref 203), (.ref 204), (.int 463 0), (.int 146 0), (.str (Str.ofString "/claim/cut.py") 464)], #[]⟩),
 (nat_lit 206, ⟨(.type "function"), none, .func (PySem.W.fnOf "_law_knot" "_law_knot" (zam zbj) (zaf zbj) (zaa zbj) .none .none .none (.str (Str.ofString "law_readgrove_k82_trees_written") 382) none (.ref 205) .none), #[]⟩),
 (nat_lit 212, ⟨(.type "code"), none, .fields #[(.str (Str.ofString "_law_read") 466), (.str (Str.ofString "_law_read") 467), (.str (Str.ofString "/claim/cut.py") 468), (.int 154 0), (.int 2 0), (.int 0 0), (.int 0 0), (.int 3 0), (.ref 207), (.bool true), (.int 181 0), (.ref 208), .none, (.ref 209), (.ref 210), (.ref 211), (.int 476 0), (.int 154 0), (.str (Str.ofString "/claim/cut.py") 477)], #[]⟩),
 (nat_lit 213, ⟨(.type "function"), none, .func (PySem.W.fnOf "_law_read" "_law_read" (zam zbo) (zaf zbo) (zaa zbo) .none .none .none (.str (Str.ofString "law_readgrove_k82_trees_written") 382) none (.ref 212) .none), #[]⟩),
 (nat_lit 219, ⟨(.type "code"), none, .fields #[(.str (Str.ofString "_law_other") 479), (.str (Str.ofString "_law_other") 480), (.str (Str.ofString "/claim/cut.py") 481), (.int 183 0), (.int 1 0), (.int 0 0), (.int 0 0), (.int 3 0), (.ref 214), (.bool true), (.int 181 0), (.ref 215), .none, (.ref 216), (.ref 217), (.ref 218), (.int 483 0), (.int 183 0), (.str (Str.ofString "/claim/cut.py") 484)], #[]⟩),
 (nat_lit 220, ⟨(.type "function"), none, .func (PySem.W.fnOf "_law_other" "_law_other" (zam za6) (zaf za6) (zaa za6) .none .none .none (.str (Str.ofString "law_readgrove_k82_trees_written") 382) none (.ref 219) .none), #[]⟩),
 (nat_lit 226, ⟨(.type "code"), none, .fields #[(.str (Str.ofString "law") 486), (.str (Str.ofString "law") 487), (.str (Str.ofString "/claim/cut.py") 488), (.int 187 0), (.int 1 0), (.int 0 0), (.int 0 0), (.int 3 0), (.ref 221), (.bool true), (.int 181 0), (.ref 222), .none, (.ref 223), (.ref 224), (.ref 225), (.int 505 0), (.int 187 0), (.str (Str.ofString "/claim/cut.py") 506)], #[]⟩),
 (nat_lit 227, ⟨(.type "function"), none, .func (PySem.W.fnOf "law" "law" (zam zeB) (zaf zeB) (zaa zeB) .none .none .none (.str (Str.ofString "law_readgrove_k82_trees_written") 382) none (.ref 226) .none), #[]⟩)]
noncomputable def hpA : List Addr := [nat_lit 3, nat_lit 23, nat_lit 24, nat_lit 36, nat_lit 37, nat_lit 48, nat_lit 49, nat_lit 60, nat_lit 61, nat_lit 72, nat_lit 73, nat_lit 84, nat_lit 85, nat_lit 96, nat_lit 97, nat_lit 103, nat_lit 104, nat_lit 110, nat_lit 111, nat_lit 117, nat_lit 118, nat_lit 124, nat_lit 125, nat_lit 131, nat_lit 132, nat_lit 136, nat_lit 137, nat_lit 143, nat_lit 144, nat_lit 148, nat_lit 149, nat_lit 155, nat_lit 156, nat_lit 162, nat_lit 163, nat_lit 169, nat_lit 170, nat_lit 174, nat_lit 175, nat_lit 179, nat_lit 180, nat_lit 184, nat_lit 185, nat_lit 191, nat_lit 192, nat_lit 198, nat_lit 199, nat_lit 205, nat_lit 206, nat_lit 212, nat_lit 213, nat_lit 219, nat_lit 220, nat_lit 226, nat_lit 227]
noncomputable def qv : Program := { PySem.Challenge.pw_readgrove_k82_trees_written with main := { PySem.Challenge.pw_readgrove_k82_trees_written.main with body := [top 1, top 2, top 3, top 4, top 5, top 6, top 7, top 9, top 10, top 11, top 12, top 14, top 16, top 17, top 18, top 19, top 20, top 22, top 23, top 24, top 25, top 26, top 27, top 28, top 29, top 30, top 31, top 32, top 33] } }
noncomputable def hk : PySem.W.Hook := PySem.W.kHook hpK hpA (fun _ => by kernel_rfl)
theorem ar0 {C : List Value → Prop} (h : C []) : ∀ us : List Value, us.length = 0 → C us := fun us e => by cases us with | nil => exact h | cons a l => exact nomatch e
theorem ar1 {C : List Value → Prop} (h : ∀ a0, C [a0]) : ∀ us : List Value, us.length = 1 → C us := fun us e => by cases us with | nil => exact nomatch e | cons a l => exact ar0 (C := fun l => C (a :: l)) (h a) l (Nat.succ.inj e)
theorem ar2 {C : List Value → Prop} (h : ∀ a0 a1, C [a0, a1]) : ∀ us : List Value, us.length = 2 → C us := fun us e => by cases us with | nil => exact nomatch e | cons a l => exact ar1 (C := fun l => C (a :: l)) (h a) l (Nat.succ.inj e)
theorem ar3 {C : List Value → Prop} (h : ∀ a0 a1 a2, C [a0, a1, a2]) : ∀ us : List Value, us.length = 3 → C us := fun us e => by cases us with | nil => exact nomatch e | cons a l => exact ar2 (C := fun l => C (a :: l)) (h a) l (Nat.succ.inj e)
theorem ar4 {C : List Value → Prop} (h : ∀ a0 a1 a2 a3, C [a0, a1, a2, a3]) : ∀ us : List Value, us.length = 4 → C us := fun us e => by cases us with | nil => exact nomatch e | cons a l => exact ar3 (C := fun l => C (a :: l)) (h a) l (Nat.succ.inj e)
theorem ar5 {C : List Value → Prop} (h : ∀ a0 a1 a2 a3 a4, C [a0, a1, a2, a3, a4]) : ∀ us : List Value, us.length = 5 → C us := fun us e => by cases us with | nil => exact nomatch e | cons a l => exact ar4 (C := fun l => C (a :: l)) (h a) l (Nat.succ.inj e)
def zcS (K : Params → PySem.W.Frag) (a : Addr) (x : Str) : Prop := ∀ P, PySem.W.nsIn (K P) mainGlobals x = some (some (.ref a))
section
variable {w : World} {h : Heap} {mg : Str → Option Value}
theorem ziz : zcS hpK 104 "made_of" := fun _ => by kernel_rfl
noncomputable abbrev zas : FuncData := (PySem.W.fnOf "made_of" "made_of" (zam zau) (zaf zau) (zaa zau) .none .none .none (.str (Str.ofString "readgrove.grammars") 303) none (.ref 103) .none)
theorem ziA (X : (hpK w.params).In h) (G : h.Ns mainGlobals mg) : Df (hpK w.params) mg "made_of" zau ["text", "signs"] 104 zas := za2 (ps := ["text", "signs"]) (zbN (st := zau) (oc := .type "function") (od := none) (osl := #[]) (by kernel_rfl) (by kernel_rfl) (by kernel_rfl)) (PySem.W.mg_of X G (ziz _)) fun _ _ _ _ _ _ => ar2 fun _ _ => rfl
theorem ziB : zcS hpK 111 "is_name" := fun _ => by kernel_rfl
noncomputable abbrev zaC : FuncData := (PySem.W.fnOf "is_name" "is_name" (zam zaw) (zaf zaw) (zaa zaw) .none .none .none (.str (Str.ofString "readgrove.grammars") 303) none (.ref 110) .none)
theorem ziC (X : (hpK w.params).In h) (G : h.Ns mainGlobals mg) : Df (hpK w.params) mg "is_name" zaw ["part"] 111 zaC := za2 (ps := ["part"]) (zbN (st := zaw) (oc := .type "function") (od := none) (osl := #[]) (by kernel_rfl) (by kernel_rfl) (by kernel_rfl)) (PySem.W.mg_of X G (ziB _)) fun _ _ _ _ _ _ => ar1 fun _ => rfl
theorem zlj : zcS hpK 118 "is_tree" := fun _ => by kernel_rfl
noncomputable abbrev zao : FuncData := (PySem.W.fnOf "is_tree" "is_tree" (zam zaF) (zaf zaF) (zaa zaF) .none .none .none (.str (Str.ofString "readgrove.trees") 324) none (.ref 117) .none)
theorem zlk (X : (hpK w.params).In h) (G : h.Ns mainGlobals mg) : Df (hpK w.params) mg "is_tree" zaF ["child"] 118 zao := za2 (ps := ["child"]) (zbN (st := zaF) (oc := .type "function") (od := none) (osl := #[]) (by kernel_rfl) (by kernel_rfl) (by kernel_rfl)) (PySem.W.mg_of X G (zlj _)) fun _ _ _ _ _ _ => ar1 fun _ => rfl
theorem zhf : zcS hpK 125 "shown_tree" := fun _ => by kernel_rfl
noncomputable abbrev zax : FuncData := (PySem.W.fnOf "shown_tree" "shown_tree" (zam zar) (zaf zar) (zaa zar) .none .none .none (.str (Str.ofString "readgrove.texts") 333) none (.ref 124) .none)
theorem zhg (X : (hpK w.params).In h) (G : h.Ns mainGlobals mg) : Df (hpK w.params) mg "shown_tree" zar ["grammar", "tree"] 125 zax := za2 (ps := ["grammar", "tree"]) (zbN (st := zar) (oc := .type "function") (od := none) (osl := #[]) (by kernel_rfl) (by kernel_rfl) (by kernel_rfl)) (PySem.W.mg_of X G (zhf _)) fun _ _ _ _ _ _ => ar2 fun _ _ => rfl
theorem zf5 : zcS hpK 132 "rule_numbers" := fun _ => by kernel_rfl
noncomputable abbrev zap : FuncData := (PySem.W.fnOf "rule_numbers" "rule_numbers" (zam zai) (zaf zai) (zaa zai) .none .none .none (.str (Str.ofString "readgrove.texts") 333) none (.ref 131) .none)
theorem zf6 (X : (hpK w.params).In h) (G : h.Ns mainGlobals mg) : Df (hpK w.params) mg "rule_numbers" zai ["grammar"] 132 zap := za2 (ps := ["grammar"]) (zbN (st := zai) (oc := .type "function") (od := none) (osl := #[]) (by kernel_rfl) (by kernel_rfl) (by kernel_rfl)) (PySem.W.mg_of X G (zf5 _)) fun _ _ _ _ _ _ => ar1 fun _ => rfl
theorem zll : zcS hpK 137 "knot_by" := fun _ => by kernel_rfl
noncomputable abbrev za3 : FuncData := (PySem.W.fnOf "knot_by" "knot_by" (zam zaT) (zaf zaT) (zaa zaT) .none .none .none (.str (Str.ofString "readgrove.texts") 333) none (.ref 136) .none)
theorem zlm (X : (hpK w.params).In h) (G : h.Ns mainGlobals mg) : Df (hpK w.params) mg "knot_by" zaT ["grammar", "numbers", "name", "children"] 137 za3 := za2 (ps := ["grammar", "numbers", "name", "children"]) (zbN (st := zaT) (oc := .type "function") (od := none) (osl := #[]) (by kernel_rfl) (by kernel_rfl) (by kernel_rfl)) (PySem.W.mg_of X G (zll _)) fun _ _ _ _ _ _ => ar4 fun _ _ _ _ => rfl
theorem zeG : zcS hpK 144 "tree_by_pieces" := fun _ => by kernel_rfl
noncomputable abbrev zaq : FuncData := (PySem.W.fnOf "tree_by_pieces" "tree_by_pieces" (zam zah) (zaf zah) (zaa zah) .none .none .none (.str (Str.ofString "readgrove.texts") 333) none (.ref 143) .none)
theorem zeH (X : (hpK w.params).In h) (G : h.Ns mainGlobals mg) : Df (hpK w.params) mg "tree_by_pieces" zah ["grammar", "pieces"] 144 zaq := za2 (ps := ["grammar", "pieces"]) (zbN (st := zah) (oc := .type "function") (od := none) (osl := #[]) (by kernel_rfl) (by kernel_rfl) (by kernel_rfl)) (PySem.W.mg_of X G (zeG _)) fun _ _ _ _ _ _ => ar2 fun _ _ => rfl
theorem ziD : zcS hpK 149 "read_tree" := fun _ => by kernel_rfl
noncomputable abbrev zba : FuncData := (PySem.W.fnOf "read_tree" "read_tree" (zam zaH) (zaf zaH) (zaa zaH) .none .none .none (.str (Str.ofString "readgrove.texts") 333) none (.ref 148) .none)
theorem ziE (X : (hpK w.params).In h) (G : h.Ns mainGlobals mg) : Df (hpK w.params) mg "read_tree" zaH ["grammar", "text"] 149 zba := za2 (ps := ["grammar", "text"]) (zbN (st := zaH) (oc := .type "function") (od := none) (osl := #[]) (by kernel_rfl) (by kernel_rfl) (by kernel_rfl)) (PySem.W.mg_of X G (ziD _)) fun _ _ _ _ _ _ => ar2 fun _ _ => rfl
theorem ziF : zcS hpK 156 "_law_cell_at" := fun _ => by kernel_rfl
noncomputable abbrev zaE : FuncData := (PySem.W.fnOf "_law_cell_at" "_law_cell_at" (zam zaB) (zaf zaB) (zaa zaB) .none .none .none (.str (Str.ofString "law_readgrove_k82_trees_written") 382) none (.ref 155) .none)
theorem ziG (X : (hpK w.params).In h) (G : h.Ns mainGlobals mg) : Df (hpK w.params) mg "_law_cell_at" zaB ["script", "k"] 156 zaE := za2 (ps := ["script", "k"]) (zbN (st := zaB) (oc := .type "function") (od := none) (osl := #[]) (by kernel_rfl) (by kernel_rfl) (by kernel_rfl)) (PySem.W.mg_of X G (ziF _)) fun _ _ _ _ _ _ => ar2 fun _ _ => rfl
theorem zln : zcS hpK 163 "_law_parts" := fun _ => by kernel_rfl
noncomputable abbrev zbl : FuncData := (PySem.W.fnOf "_law_parts" "_law_parts" (zam zaZ) (zaf zaZ) (zaa zaZ) .none .none .none (.str (Str.ofString "law_readgrove_k82_trees_written") 382) none (.ref 162) .none)
theorem zlo (X : (hpK w.params).In h) (G : h.Ns mainGlobals mg) : Df (hpK w.params) mg "_law_parts" zaZ ["d", "heads"] 163 zbl := za2 (ps := ["d", "heads"]) (zbN (st := zaZ) (oc := .type "function") (od := none) (osl := #[]) (by kernel_rfl) (by kernel_rfl) (by kernel_rfl)) (PySem.W.mg_of X G (zln _)) fun _ _ _ _ _ _ => ar2 fun _ _ => rfl
theorem ziH : zcS hpK 170 "_law_grammar" := fun _ => by kernel_rfl
noncomputable abbrev zbb : FuncData := (PySem.W.fnOf "_law_grammar" "_law_grammar" (zam zaI) (zaf zaI) (zaa zaI) .none .none .none (.str (Str.ofString "law_readgrove_k82_trees_written") 382) none (.ref 169) .none)
theorem ziI (X : (hpK w.params).In h) (G : h.Ns mainGlobals mg) : Df (hpK w.params) mg "_law_grammar" zaI ["script"] 170 zbb := za2 (ps := ["script"]) (zbN (st := zaI) (oc := .type "function") (od := none) (osl := #[]) (by kernel_rfl) (by kernel_rfl) (by kernel_rfl)) (PySem.W.mg_of X G (ziH _)) fun _ _ _ _ _ _ => ar1 fun _ => rfl
theorem zlp : zcS hpK 180 "_law_ranks" := fun _ => by kernel_rfl
noncomputable abbrev zbz : FuncData := (PySem.W.fnOf "_law_ranks" "_law_ranks" (zam za5) (zaf za5) (zaa za5) .none .none .none (.str (Str.ofString "law_readgrove_k82_trees_written") 382) none (.ref 179) .none)
theorem zlq (X : (hpK w.params).In h) (G : h.Ns mainGlobals mg) : Df (hpK w.params) mg "_law_ranks" za5 ["rules"] 180 zbz := za2 (ps := ["rules"]) (zbN (st := za5) (oc := .type "function") (od := none) (osl := #[]) (by kernel_rfl) (by kernel_rfl) (by kernel_rfl)) (PySem.W.mg_of X G (zlp _)) fun _ _ _ _ _ _ => ar1 fun _ => rfl
theorem zlr : zcS hpK 185 "_law_grown" := fun _ => by kernel_rfl
noncomputable abbrev zaL : FuncData := (PySem.W.fnOf "_law_grown" "_law_grown" (zam zaU) (zaf zaU) (zaa zaU) .none .none .none (.str (Str.ofString "law_readgrove_k82_trees_written") 382) none (.ref 184) .none)
theorem zls (X : (hpK w.params).In h) (G : h.Ns mainGlobals mg) : Df (hpK w.params) mg "_law_grown" zaU ["rules", "ranks", "name", "cells", "deep"] 185 zaL := za2 (ps := ["rules", "ranks", "name", "cells", "deep"]) (zbN (st := zaU) (oc := .type "function") (od := none) (osl := #[]) (by kernel_rfl) (by kernel_rfl) (by kernel_rfl)) (PySem.W.mg_of X G (zlr _)) fun _ _ _ _ _ _ => ar5 fun _ _ _ _ _ => rfl
theorem zlt : zcS hpK 192 "_law_shown" := fun _ => by kernel_rfl
noncomputable abbrev zaM : FuncData := (PySem.W.fnOf "_law_shown" "_law_shown" (zam zaV) (zaf zaV) (zaa zaV) .none .none .none (.str (Str.ofString "law_readgrove_k82_trees_written") 382) none (.ref 191) .none)
theorem zlu (X : (hpK w.params).In h) (G : h.Ns mainGlobals mg) : Df (hpK w.params) mg "_law_shown" zaV ["rules", "tree"] 192 zaM := za2 (ps := ["rules", "tree"]) (zbN (st := zaV) (oc := .type "function") (od := none) (osl := #[]) (by kernel_rfl) (by kernel_rfl) (by kernel_rfl)) (PySem.W.mg_of X G (zlt _)) fun _ _ _ _ _ _ => ar2 fun _ _ => rfl
theorem zlv : zcS hpK 199 "_law_first" := fun _ => by kernel_rfl
noncomputable abbrev zaN : FuncData := (PySem.W.fnOf "_law_first" "_law_first" (zam zaW) (zaf zaW) (zaa zaW) .none .none .none (.str (Str.ofString "law_readgrove_k82_trees_written") 382) none (.ref 198) .none)
theorem zlw (X : (hpK w.params).In h) (G : h.Ns mainGlobals mg) : Df (hpK w.params) mg "_law_first" zaW ["rules", "tree"] 199 zaN := za2 (ps := ["rules", "tree"]) (zbN (st := zaW) (oc := .type "function") (od := none) (osl := #[]) (by kernel_rfl) (by kernel_rfl) (by kernel_rfl)) (PySem.W.mg_of X G (zlv _)) fun _ _ _ _ _ _ => ar2 fun _ _ => rfl
theorem znp : zcS hpK 206 "_law_knot" := fun _ => by kernel_rfl
noncomputable abbrev zbv : FuncData := (PySem.W.fnOf "_law_knot" "_law_knot" (zam zbj) (zaf zbj) (zaa zbj) .none .none .none (.str (Str.ofString "law_readgrove_k82_trees_written") 382) none (.ref 205) .none)
theorem znq (X : (hpK w.params).In h) (G : h.Ns mainGlobals mg) : Df (hpK w.params) mg "_law_knot" zbj ["rules", "row"] 206 zbv := za2 (ps := ["rules", "row"]) (zbN (st := zbj) (oc := .type "function") (od := none) (osl := #[]) (by kernel_rfl) (by kernel_rfl) (by kernel_rfl)) (PySem.W.mg_of X G (znp _)) fun _ _ _ _ _ _ => ar2 fun _ _ => rfl
theorem znr : zcS hpK 213 "_law_read" := fun _ => by kernel_rfl
noncomputable abbrev zbV : FuncData := (PySem.W.fnOf "_law_read" "_law_read" (zam zbo) (zaf zbo) (zaa zbo) .none .none .none (.str (Str.ofString "law_readgrove_k82_trees_written") 382) none (.ref 212) .none)
theorem zns (X : (hpK w.params).In h) (G : h.Ns mainGlobals mg) : Df (hpK w.params) mg "_law_read" zbo ["rules", "text"] 213 zbV := za2 (ps := ["rules", "text"]) (zbN (st := zbo) (oc := .type "function") (od := none) (osl := #[]) (by kernel_rfl) (by kernel_rfl) (by kernel_rfl)) (PySem.W.mg_of X G (znr _)) fun _ _ _ _ _ _ => ar2 fun _ _ => rfl
theorem zlx : zcS hpK 220 "_law_other" := fun _ => by kernel_rfl
noncomputable abbrev zbA : FuncData := (PySem.W.fnOf "_law_other" "_law_other" (zam za6) (zaf za6) (zaa za6) .none .none .none (.str (Str.ofString "law_readgrove_k82_trees_written") 382) none (.ref 219) .none)
theorem zly (X : (hpK w.params).In h) (G : h.Ns mainGlobals mg) : Df (hpK w.params) mg "_law_other" za6 ["e"] 220 zbA := za2 (ps := ["e"]) (zbN (st := za6) (oc := .type "function") (od := none) (osl := #[]) (by kernel_rfl) (by kernel_rfl) (by kernel_rfl)) (PySem.W.mg_of X G (zlx _)) fun _ _ _ _ _ _ => ar1 fun _ => rfl
theorem zpu : zcS hpK 227 "law" := fun _ => by kernel_rfl
noncomputable abbrev ziJ : FuncData := (PySem.W.fnOf "law" "law" (zam zeB) (zaf zeB) (zaa zeB) .none .none .none (.str (Str.ofString "law_readgrove_k82_trees_written") 382) none (.ref 226) .none)
theorem ztK (X : (hpK w.params).In h) (G : h.Ns mainGlobals mg) : Df (hpK w.params) mg "law" zeB ["script"] 227 ziJ := za2 (ps := ["script"]) (zbN (st := zeB) (oc := .type "function") (od := none) (osl := #[]) (by kernel_rfl) (by kernel_rfl) (by kernel_rfl)) (PySem.W.mg_of X G (zpu _)) fun _ _ _ _ _ _ => ar1 fun _ => rfl
theorem zuG (X : (hpK w.params).In h) (G : h.Ns mainGlobals mg) : Tx mg := ⟨⟨307, PySem.W.mg_of (v := .str "0123456789" 307) X G (by kernel_rfl)⟩, ⟨305, PySem.W.mg_of (v := .str "ABCDEFGHIJKLMNOPQRSTUVWXYZ" 305) X G (by kernel_rfl)⟩, PySem.W.mg_none_of X G (by kernel_rfl), PySem.W.mg_none_of X G (by kernel_rfl), PySem.W.mg_none_of X G (by kernel_rfl), PySem.W.mg_none_of X G (by kernel_rfl), PySem.W.mg_none_of X G (by kernel_rfl), PySem.W.mg_none_of X G (by kernel_rfl), PySem.W.mg_none_of X G (by kernel_rfl), PySem.W.mg_none_of X G (by kernel_rfl), PySem.W.mg_none_of X G (by kernel_rfl), PySem.W.mg_none_of X G (by kernel_rfl)⟩
theorem zuH (X : (hpK w.params).In h) (G : h.Ns mainGlobals mg) : Zx (hpK w.params) mg ⟨85, 37, 61, 97, 49, 73⟩ 24 := ⟨⟨PySem.W.mg_of (v := .ref 85) X G (by kernel_rfl), by kernel_rfl⟩, PySem.W.mg_of (v := .ref 24) X G (by kernel_rfl), PySem.W.mg_of (v := .ref 37) X G (by kernel_rfl), PySem.W.mg_of (v := .ref 61) X G (by kernel_rfl), PySem.W.mg_of (v := .ref 97) X G (by kernel_rfl), PySem.W.mg_of (v := .ref 49) X G (by kernel_rfl), PySem.W.mg_of (v := .ref 73) X G (by kernel_rfl), by kernel_rfl, ⟨⟨by kernel_rfl, by kernel_rfl, by kernel_rfl, by kernel_rfl, by kernel_rfl, by kernel_rfl, by kernel_rfl, by kernel_rfl⟩, by kernel_rfl, by kernel_rfl, by kernel_rfl, by kernel_rfl, by kernel_rfl, by kernel_rfl, by kernel_rfl⟩⟩
end
theorem ztL {l : PySem.W.OpenLaw} {w : World} {h : Heap} {mg : Str → Option Value} {fa : Addr} (X : (hpK w.params).In h) (G : h.Ns mainGlobals mg) (hfa : mg "law" = some (.ref fa)) :
  ∃ fd : FuncData, (∀ (s : Shared) (v : Value), BindsTo s fd ⟨[v], []⟩ [("script", v)]) ∧ ∀ base : Heap, (hpK w.params).In base → base.Ns mainGlobals mg → FnOk l.prog w (hpK w.params) mg base CX0 11 fa fd ["script"] (upSp (hpK w.params) zhI) := by
 have e := hfa.symm.trans (PySem.W.mg_of X G (zpu _))
 cases e
 exact ⟨ziJ, fun s v => .of_eq rfl, fun base _ _ => ztJ (zuG X G) (zuH X G) (ztK X G) (ziA X G) (ziC X G) (zlk X G) (zhg X G) (zf6 X G) (zlm X G) (zeH X G) (ziE X G) (ziG X G) (zlo X G) (ziI X G) (zlq X G) (zls X G) (zlu X G) (zlw X G) (znq X G) (zns X G) (zly X G)⟩
theorem walk {l : PySem.W.OpenLaw} {q : Program} {loose : List Str} {XP : (Str → Option Value) → Heap → Prop} {YP : World → Heap → Prop} {d : DefRec} {K : Params → PySem.W.Frag} (hn : l.most = some 63) (hdf : d.params.defaults = [])
  (hY : ∀ (w : World) (h : Heap), YP w h → (K w.params).In h)
  (F : ∀ (w : World) (mg : Str → Option Value) (fa : Addr) (h : Heap), (K w.params).In h → h.Ns mainGlobals mg → mg d.name = some (.ref fa) →
   ∃ fd : FuncData, (∀ (s : Shared) (u : Value), BindsTo s fd ⟨[u], []⟩ [("script", u)]) ∧ ∀ base : Heap, (K w.params).In base → base.Ns mainGlobals mg → FnOk l.prog w (K w.params) mg base CX0 11 fa fd ["script"] (upSp (K w.params) zhI)) :
  PySem.W.WalkO q loose XP YP l.row.toRowW d [] (fun f vs => PySem.call f vs) :=
 L2.zpN (n := 63) (k := 11) (x := "script") (CX := fun _ => CX0) (sp := fun w => upSp (K w.params) zhI) hn (by decide) hdf ⟨rfl, by decide, by decide⟩ hY F (fun _ _ a ns hl ho hS => zsA hl ho hS) fun _ _ _ _ _ z => z
end Rg
open PySem PySem.W PyProof.Rows
set_option maxRecDepth 100000 in
set_option maxHeartbeats 0 in
theorem PySem.Challenge.cw_readgrove_k82_trees_written_holds : PySem.Challenge.rw_readgrove_k82_trees_written.Holds := by
 w_on; o_law
 refine PySem.W.holds_open (r := PySem.Challenge.rw_readgrove_k82_trees_written.row) (q := Rg.qv) (loose := []) (N := 4422)
  (Xt := fun s => xlAt Rg.qv [] s && recOk (RowW.records (OpenRow.toRowW PySem.Challenge.rw_readgrove_k82_trees_written.row)) s)
  (XP := XL Rg.qv []) (Yf := Rg.hk.obs) (Ya := Rg.hk.val) (YP := Rg.hk.says) ?hl Rg.hk.of Rg.hk.keeps
  (fun s e => xl_of s (Bool.and_eq_true_iff.mp e).1) XL.keeps (by rfl) (by rfl) (by rfl) (fun s e => recFacts_of (Bool.and_eq_true_iff.mp e).2)
  (by rfl) (by assumption) (by decide +kernel) ⟨rfl, rfl, rfl, rfl, rfl, by decide +kernel⟩ ?hw ?hc
 case hw => w_witness2
 case hc => exact Rg.walk (l := PySem.Challenge.rw_readgrove_k82_trees_written) rfl rfl (fun w h Y => PySem.W.kIn_of Y) (fun w mg fa h KX G hmg => Rg.ztL KX G hmg)
 case hl => intro w; kernel_rfl
