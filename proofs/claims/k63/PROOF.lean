import PyProof.Rows.All
import Wide.All
import OpenK.AllK
import Wide.FinOn
import Lean
import PyProof.EqAt
import PyProof.EqKinds
import PyProof.TupleCall
import PySem.Challenge.RW_readgrove_k63_two_parts
set_option Elab.async false
set_option linter.all false
set_option maxRecDepth 100000
namespace L2
open PySem PySem.Spec PyProof.Rows
abbrev Key := Sum Int Str
def keyIs : Key → Value → Bool
  | .inl k, v => Value.isInt k v
  | .inr x, v => Value.isStrOf x v
def keyH (w : World) : Key → Int
  | .inl k => hashInt k
  | .inr x => hashStr w x
theorem keyIs_shape : ∀ {k : Key} {v : Value}, keyIs k v = true → (∃ i t, k = Sum.inl i ∧ v = Value.int i t) ∨ (∃ x t, k = Sum.inr x ∧ v = Value.str x t)
  | .inl i, v, h => by
    obtain ⟨t, e⟩ := Value.isInt_shape (k := i) (v := v) h
    exact .inl ⟨i, t, rfl, e⟩
  | .inr x, v, h => by
    obtain ⟨t, e⟩ := Value.isStrOf_shape (x := x) (v := v) h
    exact .inr ⟨x, t, rfl, e⟩
theorem keyIs_int (i : Int) (t : Tok) : keyIs (.inl i) (.int i t) = true := by simp [keyIs, Value.isInt]
theorem keyIs_str (x : Str) (t : Tok) : keyIs (.inr x) (.str x t) = true := by simp [keyIs, Value.isStrOf]
theorem key_ll (a b : Int) : decide ((Sum.inl a : Key) = Sum.inl b) = (a == b) := by
  by_cases e : a = b
  · subst e; simp
  · have h : ¬ (Sum.inl a : Key) = Sum.inl b := fun q => e (Sum.inl.inj q)
    rw [decide_eq_false h]
    exact (beq_eq_false_iff_ne.mpr e).symm
theorem key_rr (a b : Str) : decide ((Sum.inr a : Key) = Sum.inr b) = decide (a = b) := by
  by_cases e : a = b
  · subst e; simp
  · have h : ¬ (Sum.inr a : Key) = Sum.inr b := fun q => e (Sum.inr.inj q)
    rw [decide_eq_false h, decide_eq_false e]
theorem key_lr (a : Int) (b : Str) : decide ((Sum.inl a : Key) = Sum.inr b) = false := decide_eq_false (fun q => nomatch q)
theorem key_rl (a : Str) (b : Int) : decide ((Sum.inr a : Key) = Sum.inl b) = false := decide_eq_false (fun q => nomatch q)
def mixKind (prog : Program) (w : World) : PySem.KeyKind prog w Key where
  is := keyIs
  hash := keyH w
  inj := fun v a b ha hb => by
    rcases keyIs_shape ha with ⟨i, t, rfl, rfl⟩ | ⟨x, t, rfl, rfl⟩
    · rcases keyIs_shape hb with ⟨j, u, rfl, e⟩ | ⟨y, u, rfl, e⟩
      · injection e with e1 _; rw [e1]
      · exact nomatch e
    · rcases keyIs_shape hb with ⟨j, u, rfl, e⟩ | ⟨y, u, rfl, e⟩
      · exact nomatch e
      · injection e with e1 _; rw [e1]
  byValue := fun k v h => by
    rcases keyIs_shape h with ⟨i, t, rfl, rfl⟩ | ⟨x, t, rfl, rfl⟩ <;> rfl
  pyHash := fun hv h => by
    rcases keyIs_shape hv with ⟨i, t, rfl, rfl⟩ | ⟨x, t, rfl, rfl⟩
    · exact wpAny_pyHash_int h
    · exact wpAny_pyHash_str h
  eqBool := fun hu hv h => by
    rcases keyIs_shape hu with ⟨i, t, rfl, rfl⟩ | ⟨x, t, rfl, rfl⟩
    · rcases keyIs_shape hv with ⟨j, u, rfl, rfl⟩ | ⟨y, u, rfl, rfl⟩
      · rw [key_ll] at h; exact wpAny_eqBool_int h
      · rw [key_lr] at h; exact SeqAt.EqAt.int_str i t y u _ _ _ _ h
    · rcases keyIs_shape hv with ⟨j, u, rfl, rfl⟩ | ⟨y, u, rfl, rfl⟩
      · rw [key_rl] at h; exact SeqAt.EqAt.str_int x t j u _ _ _ _ h
      · rw [key_rr] at h; exact wpAny_eqBool_str h
  «strs» := fun k x t v h => by
    rcases keyIs_shape h with ⟨i, u, rfl, e⟩ | ⟨y, u, rfl, e⟩
    · exact nomatch e
    · injection e with e1 _
      subst e1
      cases v <;> rfl
theorem mixKind_int (prog : Program) (w : World) (i : Int) (t : Tok) : (mixKind prog w).is (.inl i) (.int i t) = true := keyIs_int i t
theorem mixKind_str (prog : Program) (w : World) (x : Str) (t : Tok) : (mixKind prog w).is (.inr x) (.str x t) = true := keyIs_str x t
end L2
namespace L2
open PySem PySem.Spec PyProof.Rows
inductive V where
  | non | bl (b : Bool) | int (i : Int) | str (x : Str) | byt (b : Array UInt8) | flt (b : UInt64) | ref (a : Addr) | ty (n : String)
  deriving DecidableEq
def RelV : V → Value → Prop
  | .non, u => u = Value.none
  | .bl b, u => u = Value.bool b
  | .int i, u => ∃ t, u = Value.int i t
  | .str x, u => ∃ t, u = Value.str x t
  | .byt b, u => ∃ t, u = Value.bytes b t
  | .flt b, u => ∃ t, u = Value.float b t
  | .ref a, u => u = Value.ref a
  | .ty n, u => u = Value.type n
abbrev Vals : List V → List Value → Prop := Paired RelV
theorem Vals.length {xs : List V} {us : List Value} (r : Vals xs us) : xs.length = us.length := Paired.length r
theorem Vals.get : ∀ {xs : List V} {us : List Value} {i : Nat} {x : V}, Vals xs us → xs[i]? = some x → ∃ u, us[i]? = some u ∧ RelV x u
  | _, _, _, _, .nil, e => by simp at e
  | _, _, 0, _, .cons r _, e => by simp at e; subst e; exact ⟨_, rfl, r⟩
  | _, _, i + 1, x, .cons _ t, e => by
    obtain ⟨u, h1, h2⟩ := Vals.get (i := i) (x := x) t (by simpa using e)
    exact ⟨u, by simpa using h1, h2⟩
theorem Vals.set {x : V} {u : Value} (r : RelV x u) : ∀ {xs : List V} {us : List Value} (i : Nat), Vals xs us → Vals (xs.set i x) (us.set i u)
  | _, _, _, .nil => .nil
  | _, _, 0, .cons _ t => .cons r t
  | _, _, i + 1, .cons q t => .cons q (Vals.set r i t)
theorem Vals.append : ∀ {xs ys : List V} {us ws : List Value}, Vals xs us → Vals ys ws → Vals (xs ++ ys) (us ++ ws)
  | _, _, _, _, .nil, s => s
  | _, _, _, _, .cons r t, s => .cons r (Vals.append t s)
theorem Vals.take : ∀ {xs : List V} {us : List Value} (n : Nat), Vals xs us → Vals (xs.take n) (us.take n)
  | _, _, 0, _ => .nil
  | _, _, _ + 1, .nil => .nil
  | _, _, n + 1, .cons r t => .cons r (Vals.take n t)
theorem Vals.drop : ∀ {xs : List V} {us : List Value} (n : Nat), Vals xs us → Vals (xs.drop n) (us.drop n)
  | _, _, 0, r => r
  | _, _, _ + 1, .nil => .nil
  | _, _, n + 1, .cons _ t => Vals.drop n t
def RelO : Option V → Option Value → Prop
  | some v, some u => RelV v u
  | none, none => True
  | _, _ => False
def KV {κ : Type} : List (κ × V) → List (κ × Value) → Prop := Paired fun (p : κ × V) (q : κ × Value) => p.1 = q.1 ∧ RelV p.2 q.2
def kV : Key → V
  | .inl i => .int i
  | .inr x => .str x
inductive HO where
  /-- a list -/
  | lst (xs : List V)
  /-- a tuple (never changes) -/
  | tup (xs : List V)
  /-- a dict whose keys are ints and texts; one whose keys are tuples of ints and texts (the empty one is both) -/
  | dK (kvs : List (Key × V)) | dT (kvs : List (List Key × V))
  /-- a set of ints: its members, its size -/
  | set (S : Int → Bool) (n : Nat)
  /-- an instance of the class at C, its dict at dx, its attributes -/
  | ins (C dx : Addr) (fs : List (Str × V))
  /-- the dict of the instance at x -/
  | own (x : Addr)
  /-- the dict of an exception -/
  | xd (fs : List (Str × V))
  /-- a bound method, f of x -/
  | met (f x : Addr)
  /-- a range object lo, lo + 1, .. below hi -/
  | rng (lo hi : Int)
  /-- a thing that is known to the object (the script; a dict while a loop walks it): read, never written while it is so -/
  | frz (o : Obj) (u : HO)
  /-- a code object's table -/
  | tbl (ps : Array Value)
  /-- any other thing, by what is true of its one object (a def of one's own: SetO a S n := HO.ext fun h => ..) -/
  | ext (φ : Heap → Prop)
abbrev Hp := Addr → Option HO
def upd (H : Hp) (a : Addr) (o : HO) : Hp := fun b => if b = a then some o else H b
theorem upd_same {H : Hp} {a : Addr} {o : HO} : upd H a o a = some o := by unfold upd; rw [if_pos rfl]
theorem upd_ne {H : Hp} {a b : Addr} {o : HO} (h : b ≠ a) : upd H a o b = H b := by unfold upd; rw [if_neg h]
theorem ne_of {H : Hp} {a b : Addr} {o u : HO} (h : H a = some o) (h' : H b = some u) (d : o ≠ u) : a ≠ b := by
  intro e; subst e; rw [h] at h'; exact d (Option.some.inj h')
theorem ne_of_none {H : Hp} {a b : Addr} {o : HO} (h : H a = some o) (h' : H b = none) : a ≠ b := by
  intro e; subst e; rw [h] at h'; cases h'
section
variable (P : Program) (w : World)
def ObjOk (H : Hp) (h : Heap) (a : Addr) : HO → Prop
  | .lst xs => xs.length ≤ sizeLine ∧ ∃ (its : List Value) (n : Nat), Vals xs its ∧ h.get? a = some { cls := .type "list", data := .seq its.toArray n }
  | .tup xs => xs.length ≤ sizeLine ∧ ∃ its : List Value, Vals xs its ∧ IsTup h a its.toArray
  | .dK kvs => kvs.length ≤ sizeLine ∧ (a == sysModules) = false ∧ ∃ vs, KV kvs vs ∧ h.DictOf (mixKind P w) a vs
  | .dT kvs => kvs.length ≤ sizeLine ∧ (a == sysModules) = false ∧ ∃ xs : List (List Key × Addr × Value),
      Paired (fun (p : List Key × V) (q : List Key × Addr × Value) => p.1 = q.1 ∧ H q.2.1 = some (.tup (p.1.map kV)) ∧ RelV p.2 q.2.2) kvs xs ∧
      ∃ o es ep, h.get? a = some o ∧ o.ExactDict ∧ o.data = .dict es ep ∧ es.toList = xs.map (entryOfKey (tupleKind (mixKind P w))) ∧ (xs.map (·.1)).Nodup
  | .set S n => h.SetOf (intKind P w) a S n
  | .ins C dx fs => H dx = some (.own a) ∧ fs.length ≤ 1000 ∧ dx ≠ a ∧ h.get? a = some (PySem.W.instObj C dx) ∧
      ∃ mA, h.Ns1 dx mA ∧ (∀ f, RelO (fs.lookup f) (mA f)) ∧ PySem.Within mA (fs.map (·.1))
  | .own _ => ∃ o, h.get? a = some o
  | .xd fs => ∃ mA, h.Ns1 a mA ∧ ∀ f, RelO (fs.lookup f) (mA f)
  | .rng lo hi => ∃ t u v, h.get? a = some { cls := .type "range", data := .fields #[.int lo t, .int hi u, .int 1 v] }
  | .frz o u => h.get? a = some o ∧ ObjOk H h a u
  | .tbl ps => h.get? a = some { cls := .none, data := .fields ps }
  | .met f x => h.get? a = some (PySem.W.methodObj (.ref f) (.ref x))
  | .ext φ => φ h ∧ (∃ o, h.get? a = some o) ∧ ∀ h1 h2 : Heap, φ h1 → (∀ o, h1.get? a = some o → h2.get? a = some o) → φ h2
def HOk (H : Hp) (h : Heap) : Prop := ∀ a o, H a = some o → ObjOk P w H h a o
end
section
variable {P : Program} {w : World} {H H' : Hp} {h h' : Heap} {a : Addr} {o : HO}
theorem ObjOk.lt (x : ObjOk P w H h a o) : a < h.objs.size := by
  cases o with
  | lst xs => obtain ⟨_, _, _, _, e⟩ := x; exact Heap.lt_size e
  | tup xs => obtain ⟨_, _, _, p⟩ := x; exact p.lt
  | dK kvs => obtain ⟨_, _, _, _, o, _, _, e, _⟩ := x; exact Heap.lt_size e
  | dT kvs => obtain ⟨_, _, _, _, o, _, _, e, _⟩ := x; exact Heap.lt_size e
  | set S n => obtain ⟨o, _, _, _, e, _⟩ := x; exact Heap.lt_size e
  | ins C dx fs => obtain ⟨_, _, _, e, _⟩ := x; exact Heap.lt_size e
  | own y => obtain ⟨_, e⟩ := x; exact Heap.lt_size e
  | xd fs => obtain ⟨_, ⟨_, _, _, e, _⟩, _⟩ := x; exact Heap.lt_size e
  | rng lo hi => obtain ⟨_, _, _, e⟩ := x; exact Heap.lt_size e
  | frz ob u => obtain ⟨e, _⟩ := x; exact Heap.lt_size e
  | tbl ps => exact Heap.lt_size (show h.get? a = some _ from x)
  | met f y => exact Heap.lt_size (show h.get? a = some _ from x)
  | ext φ => obtain ⟨_, ⟨_, e⟩, _⟩ := x; exact Heap.lt_size e
theorem Paired.mapP {α β : Type} {F G : α → β → Prop} : ∀ {l₁ : List α} {l₂ : List β}, Paired F l₁ l₂ → (∀ a b, F a b → G a b) → Paired G l₁ l₂
  | _, _, .nil, _ => .nil
  | _, _, .cons r t, f => .cons (f _ _ r) (Paired.mapP t f)
theorem ObjOk.stay (x : ObjOk P w H h a o) (k : ∀ b u, (b = a ∨ H b = some (.own a)) → h.get? b = some u → h'.get? b = some u)
    (ho : ∀ b, H b = some (.own a) → H' b = some (.own a)) (ht : ∀ b xs, H b = some (.tup xs) → H' b = some (.tup xs)) : ObjOk P w H' h' a o := by
  induction o with
  | lst xs => obtain ⟨z, its, n, r, e⟩ := x; exact ⟨z, its, n, r, k _ _ (.inl rfl) e⟩
  | tup xs => obtain ⟨z, its, r, ob, e, c⟩ := x; exact ⟨z, its, r, ob, k _ _ (.inl rfl) e, c⟩
  | dK kvs => obtain ⟨z, y, vs, r, ob, es, ep, e, c⟩ := x; exact ⟨z, y, vs, r, ob, es, ep, k _ _ (.inl rfl) e, c⟩
  | dT kvs =>
    obtain ⟨z, y, xs, r, ob, es, ep, e, c⟩ := x
    exact ⟨z, y, xs, Paired.mapP r fun p q z => ⟨z.1, ht _ _ z.2.1, z.2.2⟩, ob, es, ep, k _ _ (.inl rfl) e, c⟩
  | set S n => obtain ⟨ob, es, ep, t, e, c⟩ := x; exact ⟨ob, es, ep, t, k _ _ (.inl rfl) e, c⟩
  | ins C dx fs =>
    obtain ⟨d, z, ne, e, mA, ⟨od, es, ep, e2, c⟩, r⟩ := x
    exact ⟨ho _ d, z, ne, k _ _ (.inl rfl) e, mA, ⟨od, es, ep, k _ _ (.inr d) e2, c⟩, r⟩
  | own y => obtain ⟨ob, e⟩ := x; exact ⟨ob, k _ _ (.inl rfl) e⟩
  | xd fs => obtain ⟨mA, ⟨od, es, ep, e, c⟩, r⟩ := x; exact ⟨mA, ⟨od, es, ep, k _ _ (.inl rfl) e, c⟩, r⟩
  | rng lo hi => obtain ⟨t, u, v, e⟩ := x; exact ⟨t, u, v, k _ _ (.inl rfl) e⟩
  | frz ob u ih => obtain ⟨e, q⟩ := x; exact ⟨k _ _ (.inl rfl) e, ih q⟩
  | tbl ps =>
    have e : h.get? a = some { cls := .none, data := .fields ps } := x
    show h'.get? a = some { cls := .none, data := .fields ps }
    exact k a _ (.inl rfl) e
  | met f y =>
    have e : h.get? a = some (PySem.W.methodObj (.ref f) (.ref y)) := x
    show h'.get? a = some (PySem.W.methodObj (.ref f) (.ref y))
    exact k a _ (.inl rfl) e
  | ext φ => obtain ⟨p, ⟨o, e⟩, st⟩ := x; exact ⟨st _ _ p fun o q => k _ _ (.inl rfl) q, ⟨o, k _ _ (.inl rfl) e⟩, st⟩
theorem HOk.lt (x : HOk P w H h) (e : H a = some o) : a < h.objs.size := (x a o e).lt
theorem HOk.fresh (x : HOk P w H h) (e : h.objs.size ≤ a) : H a = none := by
  cases q : H a with
  | none => rfl
  | some u => exact absurd (Nat.lt_of_lt_of_le (x.lt q) e) (Nat.lt_irrefl _)
theorem HOk.kept (x : HOk P w H h) (k : ∀ b u, h.get? b = some u → h'.get? b = some u) : HOk P w H h' := fun a o e =>
  (x a o e).stay (fun b u _ q => k b u q) (fun _ q => q) fun _ _ q => q
theorem HOk.laid (x : HOk P w H h) (k : ∀ b u, h.get? b = some u → h'.get? b = some u) (hp : h.objs.size ≤ a) (new : ObjOk P w (upd H a o) h' a o) : HOk P w (upd H a o) h' := fun b u e => by
  have hn := x.fresh hp
  by_cases hb : b = a
  · subst hb; rw [upd_same] at e; cases e; exact new
  · rw [upd_ne hb] at e
    exact (x b u e).stay (fun c v _ q => k c v q) (fun c q => by rw [upd_ne (ne_of_none q hn)]; exact q) fun c xs q => by rw [upd_ne (ne_of_none q hn)]; exact q
end
def Rd (H : Hp) (a : Addr) (u : HO) : Prop := H a = some u ∨ ∃ o, H a = some (.frz o u)
theorem Rd.ok {P : Program} {w : World} {H : Hp} {h : Heap} {a : Addr} {u : HO} (r : Rd H a u) (x : HOk P w H h) : ObjOk P w H h a u := by
  rcases r with r | ⟨o, r⟩
  · exact x a u r
  · obtain ⟨_, q⟩ := x a _ r
    exact q
def Mut : Option HO → Prop
  | some (.lst _) => True
  | some (.dK _) => True
  | some (.dT _) => True
  | some (.set _ _) => True
  | some (.ins _ _ _) => True
  | some (.ext _) => True
  | _ => False
section
variable {P : Program} {w : World} {H : Hp} {h h' : Heap} {x e : Addr} {o' : HO}
theorem HOk.write (ok : HOk P w H h) (mu : Mut (H x)) (he : e = x ∨ H e = some (.own x)) (k : ∀ b u, b ≠ e → h.get? b = some u → h'.get? b = some u) (heo : ∃ u, h'.get? e = some u)
    (new : ObjOk P w (upd H x o') h' x o') : HOk P w (upd H x o') h' := fun b u q => by
  have nown : ∀ c y, H c = some (.own y) → c ≠ x := fun c y r z => by subst z; rw [r] at mu; exact mu
  have ntup : ∀ c xs, H c = some (.tup xs) → c ≠ x := fun c xs r z => by subst z; rw [r] at mu; exact mu
  by_cases hb : b = x
  · subst hb; rw [upd_same] at q; cases q; exact new
  · rw [upd_ne hb] at q
    by_cases hbe : b = e
    · have q' : H b = some (.own x) := by
        rcases he with z | z
        · exact absurd (hbe.trans z) hb
        · rw [hbe]; exact z
      rw [q] at q'; cases q'
      obtain ⟨v, hv⟩ := heo
      exact ⟨v, by rw [hbe]; exact hv⟩
    · refine (ok b u q).stay (fun c v hc r => k c v ?_ r) (fun c r => by rw [upd_ne (nown c b r)]; exact r) fun c xs r => by rw [upd_ne (ntup c xs r)]; exact r
      rcases hc with rfl | hc
      · exact hbe
      · rintro rfl
        rcases he with z | z
        · exact nown c b hc z
        · rw [hc] at z; cases z; exact hb rfl
end
structure Un (fs ex : List Addr) (H H' : Hp) (h h' : Heap) : Prop where
  keep : ∀ b o, h.get? b = some o → H b = none → b ∉ fs → b ∉ ex → h'.get? b = some o
  slot : ∀ b o, h.get? b = some o → H b = none → b ∈ fs → b ∉ ex → ∃ sl, h'.get? b = some { o with slots := sl }
  free : ∀ b o, h.get? b = some o → H b = none → b ∉ ex → H' b = none
  there : ∀ b o, h.get? b = some o → b ∉ ex → ∃ o', h'.get? b = some o'
  tups : ∀ b xs, H b = some (.tup xs) → H' b = some (.tup xs)
  frzs : ∀ b o u, H b = some (.frz o u) → H' b = some (.frz o u)
  tbls : ∀ b ps, H b = some (.tbl ps) → ∃ more, H' b = some (.tbl (ps ++ more))
section
variable {fs fs' ex ex' : List Addr} {H H1 H2 : Hp} {h h1 h2 h' : Heap} {a x e : Addr} {o : HO}
theorem Un.any (u : Un fs ex H H1 h h1) {b : Addr} {ob : Obj} (q : h.get? b = some ob) (n : H b = none) (hx : b ∉ ex) : ∃ sl, h1.get? b = some { ob with slots := sl } := by
  by_cases hb : b ∈ fs
  · exact u.slot b ob q n hb hx
  · exact ⟨ob.slots, u.keep b ob q n hb hx⟩
theorem Un.kept (k : ∀ b u, h.get? b = some u → h'.get? b = some u) : Un fs ex H H h h' :=
  ⟨fun b ob q _ _ _ => k b ob q, fun b ob q _ _ _ => ⟨ob.slots, k b ob q⟩, fun _ _ _ n _ => n, fun b ob q _ => ⟨ob, k b ob q⟩, fun _ _ q => q, fun _ _ _ q => q, fun _ ps q => ⟨#[], by rw [q]; simp⟩⟩
theorem Un.refl : Un fs ex H H h h := Un.kept fun _ _ q => q
theorem Un.laid (k : ∀ b u, h.get? b = some u → h'.get? b = some u) (hp : h.objs.size ≤ a) (hn : H a = none) : Un fs ex H (upd H a o) h h' where
  keep := fun b u q _ _ _ => k b u q
  slot := fun b u q _ _ _ => ⟨u.slots, k b u q⟩
  free := fun b u q n _ => by rw [upd_ne (Nat.ne_of_lt (Nat.lt_of_lt_of_le (Heap.lt_size q) hp))]; exact n
  there := fun b u q _ => ⟨u, k b u q⟩
  tups := fun b xs q => by rw [upd_ne (ne_of_none q hn)]; exact q
  frzs := fun b u xs q => by rw [upd_ne (ne_of_none q hn)]; exact q
  tbls := fun b ps q => ⟨#[], by rw [upd_ne (ne_of_none q hn), q]; simp⟩
theorem Un.write (mu : Mut (H x)) (he : e = x ∨ H e = some (.own x)) (k : ∀ b u, b ≠ e → h.get? b = some u → h'.get? b = some u) (heo : ∃ u, h'.get? e = some u) : Un fs ex H (upd H x o) h h' := by
  have hx : ∀ b, H b = none → b ≠ x := fun b n z => by subst z; rw [n] at mu; exact mu
  have hb : ∀ b, H b = none → b ≠ e := fun b n z => by
    subst z
    rcases he with r | r
    · exact hx b n r
    · rw [n] at r; cases r
  have hm : ∀ b u, H b = some u → ¬ Mut (some u) → b ≠ x := fun b u q nm z => by subst z; rw [q] at mu; exact nm mu
  refine ⟨fun b u q n _ _ => k b u (hb b n) q, fun b u q n _ _ => ⟨u.slots, k b u (hb b n) q⟩, fun b u q n _ => by rw [upd_ne (hx b n)]; exact n, fun b u q _ => ?_,
    fun b xs q => by rw [upd_ne (hm b _ q fun z => z)]; exact q, fun b u xs q => by rw [upd_ne (hm b _ q fun z => z)]; exact q, fun b ps q => ⟨#[], by rw [upd_ne (hm b _ q fun z => z), q]; simp⟩⟩
  by_cases hbe : b = e
  · subst hbe; exact heo
  · exact ⟨u, k b u hbe q⟩
end
def trk (h : Heap) (H : Hp) : List Addr := (List.range h.objs.size).filter fun a => (H a).isSome
def hidT (h : Heap) (H : Hp) : Heap := PySem.W.hideAll h (trk h H)
theorem hidT_size (h : Heap) (H : Hp) : (hidT h H).objs.size = h.objs.size := PySem.W.hideAll_size _ _
theorem hidT_get {h : Heap} {H : Hp} {b : Addr} {o : Obj} (e : h.get? b = some o) (n : H b = none) : (hidT h H).get? b = some o :=
  PySem.W.hideAll_get _ e fun hm => by
    have q : (H b).isSome = true := (List.mem_filter.mp hm).2
    rw [n] at q; simp at q
theorem of_hidT {h : Heap} {H : Hp} {b : Addr} {o : Obj} (e : (hidT h H).get? b = some o) : h.get? b = some o ∧ H b = none := by
  have e' : h.get? b = some o := PySem.W.of_hideAll (trk h H) e
  refine ⟨e', ?_⟩
  cases q : H b with
  | none => rfl
  | some x =>
    have hm : b ∈ trk h H := List.mem_filter.mpr ⟨List.mem_range.mpr (Heap.lt_size e'), by simp [q]⟩
    have z : (hidT h H).get? b = none := PySem.W.hideAll_none (trk h H) hm
    rw [z] at e; cases e
end L2
namespace L2
open PySem PySem.Spec PyProof.Rows
structure Mod (K : PySem.W.Frag) (mg : Str → Option Value) (base : Heap) : Prop where
  kin : K.In base
  glob : base.Ns mainGlobals mg
  blt : ∃ mb, base.Ns builtinsNs mb ∧ ∀ x : Str, x ≠ "__name__" → mb x = bootBuiltins x
  nolimit : base.NoLimit
structure Cx where
  prog : Program
  w : World
  K : PySem.W.Frag
  mg : Str → Option Value
  base : Heap
  A : Around
  N : List Str
  s₀ : Shared
  H₀ : Hp
  env : Env
  outer : List Env
  stack : List Env
  ex : List Addr
  fn : Str → Bool
  calm : Bool
  pn : List (Addr × Obj)
  xe : Value → Shared → Prop
def frs (l : List Env) : List Addr := l.filterMap (·.frame)
abbrev Cx.fs (X : Cx) : List Addr := frs X.outer
def Vis (sc : Scope) (x : Str) : Prop := sc.names.lookup x = some .local ∨ sc.names.lookup x = some .cell ∨ sc.names.lookup x = some .free
def Loc (sc : Scope) (x : Str) : Prop := sc.names.lookup x = some .local ∨ sc.names.lookup x = some .cell
def Look (env : Env) (h : Heap) (m : Str → Option Value) (x : Str) (u : Value) : Prop :=
  (env.kindOf x = some .local ∧ m x = some u) ∨ ((env.kindOf x = some .cell ∨ env.kindOf x = some .free) ∧ ∃ c, env.cells.lookup x = some c ∧ h.IsCell c (some u))
structure Cx.Ok (X : Cx) : Prop where
  mod : Mod X.K X.mg X.base
  kind : X.env.scope.kind = .function
  glob : X.env.globals = mainGlobals
  blt : X.env.builtins = builtinsNs
  above : X.s₀.heap.objs.size ≤ X.env.locals
  inj : ∀ x y c, X.env.cells.lookup x = some c → X.env.cells.lookup y = some c → x = y
  has : ∀ x, (X.env.kindOf x = some .cell ∨ X.env.kindOf x = some .free) → ∃ c, X.env.cells.lookup x = some c
  cab : ∀ x c, X.fn x = true → X.env.cells.lookup x = some c → X.s₀.heap.objs.size ≤ c
  hd : X.calm = true → X.A.handled = none
  frames : X.A.frames = some X.stack
  stk : X.stack = X.outer ∨ (X.stack = X.env :: X.outer ∧ X.env.frame = some X.env.locals)
  exf : ∀ b ∈ X.ex, b ≠ X.env.locals ∧ ∀ x c, X.env.cells.lookup x = some c → c ≠ b
  bs : ∀ b o, X.base.get? b = some o → X.s₀.heap.get? b = some o ∧ X.H₀ b = none
  bsz : X.base.objs.size ≤ X.s₀.heap.objs.size
  noex : ∀ b o, X.base.get? b = some o → b ∉ X.ex
  exfs : ∀ b ∈ X.ex, b ∉ X.fs
  funs : X.s₀.heap.FunFrames X.base X.outer
  frf : ∀ b ∈ X.fs, X.H₀ b = none
structure Inv (X : Cx) (pins : List (Addr × Obj)) (σ : List (Option V)) (H : Hp) (s : Shared) : Prop where
  ok : X.Ok
  os : s.os = X.s₀.os
  bare : AllBare s.gens
  base : Un X.fs X.ex X.H₀ H X.s₀.heap s.heap
  loc : ∃ m, s.heap.Ns X.env.locals m ∧ ∀ (i : Nat) (x : Str) (v : V), X.N[i]? = some x → σ[i]? = some (some v) → Vis X.env.scope x → ∃ u, RelV v u ∧ Look X.env s.heap m x u
  cell : ∀ x c, X.env.cells.lookup x = some c → ∃ v, s.heap.IsCell c v
  free : H X.env.locals = none
  freeC : ∀ x c, X.env.cells.lookup x = some c → H c = none
  pin : ∀ p ∈ X.pn ++ pins, s.heap.get? p.1 = some p.2 ∧ H p.1 = none ∧ p.1 ≠ X.env.locals ∧ p.1 ∉ X.fs ∧ ∀ v, p.2.data ≠ .cell v
  hok : HOk X.prog X.w H s.heap
  len : σ.length = X.N.length
section
variable {X : Cx} {pins : List (Addr × Obj)} {σ : List (Option V)} {H H' : Hp} {s : Shared} {h' : Heap}
theorem Cx.Ok.nofr (ok : X.Ok) {b : Addr} {o : Obj} (e : X.base.get? b = some o) : b ∉ X.fs := fun hb => by
  have := (ok.funs.mem hb).1
  rw [e] at this; cases this
theorem Inv.bs (I : Inv X pins σ H s) : ∀ b o, X.base.get? b = some o → s.heap.get? b = some o ∧ H b = none := fun b o e =>
  ⟨I.base.keep b o (I.ok.bs b o e).1 (I.ok.bs b o e).2 (I.ok.nofr e) (I.ok.noex b o e), I.base.free b o (I.ok.bs b o e).1 (I.ok.bs b o e).2 (I.ok.noex b o e)⟩
theorem Inv.bk (I : Inv X pins σ H s) : ∀ b o, X.base.get? b = some o → s.heap.get? b = some o := fun b o e => (I.bs b o e).1
theorem Inv.mod (I : Inv X pins σ H s) : Mod X.K X.mg X.base := I.ok.mod
theorem Inv.kIn (I : Inv X pins σ H s) : X.K.In s.heap := I.ok.mod.kin.keeps I.bk
theorem Inv.lt (I : Inv X pins σ H s) : X.env.locals < s.heap.objs.size := let ⟨_, hn, _⟩ := I.loc; hn.lt
theorem Inv.sz (I : Inv X pins σ H s) : X.s₀.heap.objs.size ≤ s.heap.objs.size := Nat.le_trans I.ok.above (Nat.le_of_lt I.lt)
theorem Inv.nofs (I : Inv X pins σ H s) {a : Addr} (h : s.heap.objs.size ≤ a) : a ∉ X.fs := fun hb => by
  obtain ⟨_, o, ho, _⟩ := I.ok.funs.mem hb
  exact absurd (Nat.lt_of_lt_of_le (Heap.lt_size ho) (Nat.le_trans I.sz h)) (Nat.lt_irrefl _)
theorem Inv.cne (I : Inv X pins σ H s) : ∀ x c, X.env.cells.lookup x = some c → c ≠ X.env.locals := fun x c e z => by
  obtain ⟨v, o, ho, hd⟩ := I.cell x c e
  obtain ⟨m, ⟨o', es, ep, ho', hd', _⟩, _⟩ := I.loc
  rw [z, ho'] at ho; cases ho; rw [hd'] at hd; cases hd
theorem Inv.funs (I : Inv X pins σ H s) : s.heap.FunFrames X.base X.outer := by
  have all : ∀ (l : List Env), (∀ b ∈ frs l, b ∈ X.fs) → X.s₀.heap.FunFrames X.base l → s.heap.FunFrames X.base l := by
    intro l
    induction l with
    | nil => intro _ _; trivial
    | cons env r ih =>
      intro hs hl
      obtain ⟨hk, ⟨L, o, hf, hn, ho, hd⟩, hr⟩ := hl
      have hL : L ∈ X.fs := hs L (by unfold frs; rw [List.filterMap_cons, hf]; exact List.mem_cons_self)
      obtain ⟨sl, e⟩ := I.base.slot L o ho (I.ok.frf L hL) hL fun z => I.ok.exfs L z hL
      exact ⟨hk, ⟨L, _, hf, hn, e, hd⟩, ih (fun b hb => hs b (by unfold frs; rw [List.filterMap_cons, hf]; exact List.mem_cons_of_mem _ hb)) hr⟩
  exact all X.outer (fun _ hb => hb) I.ok.funs
theorem Inv.stack (I : Inv X pins σ H s) : s.heap.FunFrames X.base X.stack := by
  rcases I.ok.stk with e | ⟨e, hf⟩
  · rw [e]; exact I.funs
  · rw [e]
    obtain ⟨m, hn, _⟩ := I.loc
    refine .cons (by rw [I.ok.kind]; decide) hf hn ?_ I.funs
    exact Heap.get?_none_of_le (Nat.le_trans I.ok.bsz I.ok.above)
theorem Inv.stkSub (I : Inv X pins σ H s) : ∀ b ∈ frs X.stack, b ∈ X.env.locals :: X.fs := fun b hb => by
  rcases I.ok.stk with e | ⟨e, hf⟩
  · rw [e] at hb; exact List.mem_cons_of_mem _ hb
  · rw [e] at hb
    unfold frs at hb
    rw [List.filterMap_cons, hf] at hb
    exact hb
theorem Inv.stkFree (I : Inv X pins σ H s) : ∀ b ∈ frs X.stack, H b = none := fun b hb => by
  rcases List.mem_cons.mp (I.stkSub b hb) with e | hb
  · rw [e]; exact I.free
  · obtain ⟨_, o, ho, _⟩ := I.ok.funs.mem hb
    exact I.base.free b o ho (I.ok.frf b hb) fun z => I.ok.exfs b z hb
theorem Inv.step {g' : Array GenState} {t' : Nat} {d' : Drawn} {ch : List Addr} (I : Inv X pins σ H s)
    (hch : ∀ b ∈ ch, (b ∈ X.ex ∨ X.s₀.heap.objs.size ≤ b) ∧ b ≠ X.env.locals ∧ (∀ x c, X.env.cells.lookup x = some c → c ≠ b) ∧ ∀ p ∈ X.pn ++ pins, p.1 ≠ b)
    (keep : ∀ b o, b ≠ X.env.locals → b ∉ X.fs → b ∉ ch → s.heap.get? b = some o → H b = none → h'.get? b = some o)
    (slot : ∀ b o, b ≠ X.env.locals → b ∈ X.fs → b ∉ ch → s.heap.get? b = some o → H b = none → ∃ sl, h'.get? b = some { o with slots := sl }) (free : ∀ b o, b ∉ ch → s.heap.get? b = some o → H b = none → H' b = none)
    (there : ∀ b o, b ∉ ch → s.heap.get? b = some o → ∃ o', h'.get? b = some o')
    (tups : ∀ b xs, H b = some (.tup xs) → H' b = some (.tup xs)) (frzs : ∀ b o u, H b = some (.frz o u) → H' b = some (.frz o u)) (tbls : ∀ b ps, H b = some (.tbl ps) → ∃ more, H' b = some (.tbl (ps ++ more)))
    (ns : ∀ m, s.heap.Ns X.env.locals m → h'.Ns X.env.locals m) (hok : HOk X.prog X.w H' h') (hg : AllBare g') :
    Inv X pins σ H' { s with heap := h', gens := g', drawn := d', toks := t' } := by
  have neL : ∀ b o, X.s₀.heap.get? b = some o → b ≠ X.env.locals := fun b o e => Nat.ne_of_lt (Nat.lt_of_lt_of_le (Heap.lt_size e) I.ok.above)
  have neC : ∀ b o, X.s₀.heap.get? b = some o → b ∉ X.ex → b ∉ ch := fun b o e hx hb => by
    rcases (hch b hb).1 with z | z
    · exact hx z
    · exact absurd (Nat.lt_of_lt_of_le (Heap.lt_size e) z) (Nat.lt_irrefl _)
  have cellK : ∀ x c, X.env.cells.lookup x = some c → ∀ v, s.heap.IsCell c v → h'.IsCell c v := fun x c e v ⟨o, ho, hd⟩ => by
    have nch : c ∉ ch := fun z => (hch c z).2.2.1 x c e rfl
    by_cases hc : c ∈ X.fs
    · obtain ⟨sl, q⟩ := slot c o (I.cne x c e) hc nch ho (I.freeC x c e)
      exact ⟨_, q, hd⟩
    · exact ⟨o, keep c o (I.cne x c e) hc nch ho (I.freeC x c e), hd⟩
  refine ⟨I.ok, I.os, hg, ⟨fun b o e n hb hx => ?_, fun b o e n hb hx => ?_, fun b o e n hx => ?_, fun b o e hx => ?_, fun b xs e => tups b xs (I.base.tups b xs e), fun b o xs e => frzs b o xs (I.base.frzs b o xs e), fun b ps e => ?_⟩, ?_, fun x c e => ?_, ?_, fun x c e => ?_, fun p hp => ?_, hok, I.len⟩
  · exact keep b o (neL b o e) hb (neC b o e hx) (I.base.keep b o e n hb hx) (I.base.free b o e n hx)
  · obtain ⟨sl, e1⟩ := I.base.slot b o e n hb hx
    obtain ⟨sl', e2⟩ := slot b _ (neL b o e) hb (neC b o e hx) e1 (I.base.free b o e n hx)
    exact ⟨sl', e2⟩
  · obtain ⟨o', e1⟩ := I.base.there b o e hx
    exact free b o' (neC b o e hx) e1 (I.base.free b o e n hx)
  · obtain ⟨o', e1⟩ := I.base.there b o e hx
    exact there b o' (neC b o e hx) e1
  · obtain ⟨m1, e1⟩ := I.base.tbls b ps e
    obtain ⟨m2, e2⟩ := tbls b _ e1
    exact ⟨m1 ++ m2, by rw [e2, Array.append_assoc]⟩
  · obtain ⟨m, hn, hl⟩ := I.loc
    refine ⟨m, ns m hn, fun i x v e1 e2 e3 => ?_⟩
    obtain ⟨u, r, l⟩ := hl i x v e1 e2 e3
    refine ⟨u, r, ?_⟩
    rcases l with l | ⟨k, c, e, z⟩
    · exact .inl l
    · exact .inr ⟨k, c, e, cellK x c e _ z⟩
  · obtain ⟨v, z⟩ := I.cell x c e
    exact ⟨v, cellK x c e v z⟩
  · obtain ⟨m, ⟨o, _, _, ho, _⟩, _⟩ := I.loc
    exact free _ o (fun z => (hch _ z).2.1 rfl) ho I.free
  · obtain ⟨v, o, ho, hd⟩ := I.cell x c e
    exact free c o (fun z => (hch c z).2.2.1 x c e rfl) ho (I.freeC x c e)
  · obtain ⟨e, n, ne, nf, d⟩ := I.pin p hp
    have nch : p.1 ∉ ch := fun z => (hch p.1 z).2.2.2 p hp rfl
    exact ⟨keep p.1 p.2 ne nf nch e n, free p.1 p.2 nch e n, ne, nf, d⟩
theorem Inv.un {t' : Nat} (I : Inv X pins σ H s) (u : Un X.fs [] H H' s.heap h') (hok : HOk X.prog X.w H' h') : Inv X pins σ H' { s with heap := h', toks := t' } := by
  obtain ⟨m, ⟨o, es, ep, ho, r⟩, _⟩ := id I.loc
  obtain ⟨sl, hL⟩ := u.any ho I.free (by simp)
  exact I.step (g' := s.gens) (d' := s.drawn) (ch := []) (fun _ z => nomatch z) (fun b o _ hb _ e n => u.keep b o e n hb (by simp)) (fun b o _ hb _ e n => u.slot b o e n hb (by simp)) (fun b o _ e n => u.free b o e n (by simp)) (fun b o _ e => u.there b o e (by simp)) u.tups u.frzs u.tbls (fun m' hm => by
    obtain ⟨o', es', ep', ho', r'⟩ := hm
    rw [ho] at ho'; cases ho'
    exact ⟨_, es', ep', hL, r'⟩) hok I.bare
theorem Inv.call {g' : Array GenState} {t' : Nat} {d' : Drawn} {ch : List Addr} (I : Inv X pins σ H s) (u : Un (frs X.stack) ch H H' s.heap h') (hok : HOk X.prog X.w H' h') (hg : AllBare g')
    (hch : ∀ b ∈ ch, (b ∈ X.ex ∨ X.s₀.heap.objs.size ≤ b) ∧ b ≠ X.env.locals ∧ (∀ x c, X.env.cells.lookup x = some c → c ≠ b) ∧ ∀ p ∈ X.pn ++ pins, p.1 ≠ b) :
    Inv X pins σ H' { s with heap := h', gens := g', drawn := d', toks := t' } := by
  obtain ⟨m, ⟨o, es, ep, ho, r⟩, _⟩ := id I.loc
  obtain ⟨sl, hL⟩ := u.any ho I.free fun z => (hch _ z).2.1 rfl
  exact I.step (ch := ch) hch (fun b o hL hb hc e n => u.keep b o e n (fun z => (List.mem_cons.mp (I.stkSub b z)).elim hL hb) hc) (fun b o _ _ hc e n => u.any e n hc) (fun b o hc e n => u.free b o e n hc) (fun b o hc e => u.there b o e hc) u.tups u.frzs u.tbls (fun m' hm => by
    obtain ⟨o', es', ep', ho', r'⟩ := hm
    rw [ho] at ho'; cases ho'
    exact ⟨_, es', ep', hL, r'⟩) hok hg
theorem Inv.turned {t' : Nat} {it : Addr} (I : Inv X pins σ H s) (k : ∀ b o, b ≠ it → s.heap.get? b = some o → h'.get? b = some o) (hn : H it = none) (hL : it ≠ X.env.locals)
    (h1 : it ∈ X.ex ∨ X.s₀.heap.objs.size ≤ it) (h2 : ∀ x c, X.env.cells.lookup x = some c → c ≠ it) (h3 : ∀ p ∈ X.pn ++ pins, p.1 ≠ it) : Inv X pins σ H { s with heap := h', toks := t' } := by
  have nit : ∀ b u, H b = some u → b ≠ it := fun b u e z => by rw [z, hn] at e; cases e
  refine I.step (g' := s.gens) (d' := s.drawn) (ch := [it]) (fun b hb => ?_) (fun b o _ _ hc e _ => k b o (fun z => hc (by simp [z])) e) (fun b o _ _ hc e _ => ⟨o.slots, k b o (fun z => hc (by simp [z])) e⟩) (fun _ _ _ _ n => n)
    (fun b o hc e => ⟨o, k b o (fun z => hc (by simp [z])) e⟩) (fun _ _ e => e) (fun _ _ _ e => e) (fun b ps e => ⟨#[], by rw [e]; simp⟩) (fun m hm => ?_) (fun b u e => ?_) I.bare
  · have e : b = it := by simpa using hb
    subst e
    exact ⟨h1, hL, h2, h3⟩
  · obtain ⟨o, es, ep, ho, r⟩ := hm
    exact ⟨o, es, ep, k _ o (Ne.symm hL) ho, r⟩
  · refine (I.hok b u e).stay (fun c v hc q => k c v ?_ q) (fun _ q => q) fun _ _ q => q
    rcases hc with z | z
    · rw [z]; exact nit b u e
    · exact nit c _ z
theorem Inv.tok (I : Inv X pins σ H s) (t : Nat) : Inv X pins σ H { s with toks := t } := I.un (h' := s.heap) (t' := t) Un.refl I.hok
theorem Inv.kept {t' : Nat} (I : Inv X pins σ H s) (k : ∀ b u, s.heap.get? b = some u → h'.get? b = some u) : Inv X pins σ H { s with heap := h', toks := t' } := I.un (Un.kept k) (I.hok.kept k)
theorem Inv.laid {a : Addr} {o : HO} {t' : Nat} (I : Inv X pins σ H s) (k : ∀ b u, s.heap.get? b = some u → h'.get? b = some u) (hp : s.heap.objs.size ≤ a) (new : ObjOk X.prog X.w (upd H a o) h' a o) :
    Inv X pins σ (upd H a o) { s with heap := h', toks := t' } := I.un (Un.laid k hp (I.hok.fresh hp)) (I.hok.laid k hp new)
theorem Inv.write {x e : Addr} {o : HO} {t' : Nat} (I : Inv X pins σ H s) (mu : Mut (H x)) (he : e = x ∨ H e = some (.own x)) (k : ∀ b u, b ≠ e → s.heap.get? b = some u → h'.get? b = some u) (heo : ∃ u, h'.get? e = some u)
    (new : ObjOk X.prog X.w (upd H x o) h' x o) : Inv X pins σ (upd H x o) { s with heap := h', toks := t' } := I.un (Un.write mu he k heo) (I.hok.write mu he k heo new)
theorem Inv.pins_of {pins' : List (Addr × Obj)} (I : Inv X pins σ H s) (h : ∀ p ∈ pins', s.heap.get? p.1 = some p.2 ∧ H p.1 = none ∧ p.1 ≠ X.env.locals ∧ p.1 ∉ X.fs ∧ ∀ v, p.2.data ≠ .cell v) : Inv X pins' σ H s :=
  ⟨I.ok, I.os, I.bare, I.base, I.loc, I.cell, I.free, I.freeC, fun p hp => (List.mem_append.mp hp).elim (fun z => I.pin p (List.mem_append_left _ z)) (h p), I.hok, I.len⟩
theorem nodup_ix {N : List Str} (hN : N.Nodup) {i j : Nat} {x : Str} (a : N[i]? = some x) (b : N[j]? = some x) : i = j := by
  obtain ⟨h1, e1⟩ := List.getElem?_eq_some_iff.mp a
  obtain ⟨h2, e2⟩ := List.getElem?_eq_some_iff.mp b
  exact (List.getElem_inj hN).mp (e1.trans e2.symm)
theorem store_ok2 {M : Model} {A : Around} {E : Value → Shared → Prop} {i : Nat} {x : Str} {v : V} {u : Value} {Q : Unit → Shared → Prop} (I : Inv X pins σ H s) (hN : X.N.Nodup) (hi : X.N[i]? = some x) (hx : Loc X.env.scope x) (r : RelV v u)
    (h : ∀ s', Inv X pins (σ.set i (some v)) H s' → (∃ a, Heap.SameBut a s.heap s'.heap ∧ (a = X.env.locals ∨ X.env.cells.lookup x = some a)) → Q () s') (hf : X.fn x = true ∨ X.env.scope.names.lookup x = some .local := by first | exact .inl rfl | exact .inr rfl | assumption) : wpAny M A (storeName X.env x u) Q E s := by
  obtain ⟨m, hn, hl⟩ := id I.loc
  have hcls : (X.env.scope.kind == .class || (X.env.scope.kind == .module && X.env.locals != X.env.globals)) = false := by rw [I.ok.kind]; rfl
  have hiσ : i < σ.length := by rw [I.len]; exact (List.getElem?_eq_some_iff.mp hi).1
  have cne := I.cne
  have tracked : ∀ {a : Addr} {h' : Heap}, (∃ o, s.heap.get? a = some o ∧ H a = none) → Heap.SameBut a s.heap h' → HOk X.prog X.w H h' := fun {a h'} ha hs b ob e => by
    obtain ⟨_, _, hfree⟩ := ha
    refine (I.hok b ob e).stay (fun c w' hc q => (hs.2 c ?_).trans q) (fun _ q => q) fun _ _ q => q
    rintro rfl
    rcases hc with rfl | hc
    · rw [hfree] at e; cases e
    · rw [hfree] at hc; cases hc
  rcases hx with hk | hk
  · refine wpAny_storeName_local hk hn (fun h' hn' hs => ?_) hcls
    obtain ⟨oL, _, _, hoL, _⟩ := id hn
    refine h _ ⟨I.ok, I.os, I.bare, ⟨fun b o e n hb hx => ?_, fun b o e n hb hx => ?_, I.base.free, fun b o e hx => ?_, I.base.tups, I.base.frzs, I.base.tbls⟩, ⟨_, hn', fun j y v' e1 e2 e3 => ?_⟩, fun y c e => ?_, I.free, I.freeC, fun p hp => ?_, tracked ⟨oL, hoL, I.free⟩ hs, by simpa using I.len⟩ ⟨_, hs, .inl rfl⟩
    · exact (hs.2 b (Nat.ne_of_lt (Nat.lt_of_lt_of_le (Heap.lt_size e) I.ok.above))).trans (I.base.keep b o e n hb hx)
    · obtain ⟨sl, e1⟩ := I.base.slot b o e n hb hx
      exact ⟨sl, (hs.2 b (Nat.ne_of_lt (Nat.lt_of_lt_of_le (Heap.lt_size e) I.ok.above))).trans e1⟩
    · obtain ⟨o', e1⟩ := I.base.there b o e hx
      exact ⟨o', (hs.2 b (Nat.ne_of_lt (Nat.lt_of_lt_of_le (Heap.lt_size e) I.ok.above))).trans e1⟩
    · by_cases hj : j = i
      · subst hj
        rw [hi] at e1; cases e1
        rw [List.getElem?_set_self hiσ] at e2
        cases e2
        exact ⟨u, r, .inl ⟨hk, by simp⟩⟩
      · rw [List.getElem?_set_ne (Ne.symm hj)] at e2
        obtain ⟨u', r', q⟩ := hl j y v' e1 e2 e3
        refine ⟨u', r', ?_⟩
        rcases q with ⟨k, e⟩ | ⟨k, c, e, z⟩
        · refine .inl ⟨k, ?_⟩
          have : y ≠ x := fun e => hj (nodup_ix hN e1 (e ▸ hi))
          simp [this, e]
        · exact .inr ⟨k, c, e, z.sameBut hs (cne y c e)⟩
    · obtain ⟨w', z⟩ := I.cell y c e
      exact ⟨w', z.sameBut hs (cne y c e)⟩
    · obtain ⟨e, n, ne, nf, d⟩ := I.pin p hp
      exact ⟨(hs.2 p.1 ne).trans e, n, ne, nf, d⟩
  · have hfn : X.fn x = true := by
      rcases hf with z | z
      · exact z
      · rw [z] at hk; cases hk
    obtain ⟨c, hc⟩ := I.ok.has x (.inl hk)
    obtain ⟨w', z⟩ := I.cell x c hc
    refine wpAny_storeName_cell I.ok.kind hk hc z (fun h' hc' hs => ?_)
    obtain ⟨oc, hoc, hocd⟩ := id z
    refine h { s with heap := h' } ⟨I.ok, I.os, I.bare, ⟨fun b o e n hb hx => ?_, fun b o e n hb hx => ?_, I.base.free, fun b o e hx => ?_, I.base.tups, I.base.frzs, I.base.tbls⟩, ⟨m, hn.sameBut hs (Ne.symm (cne x c hc)), fun j y v' e1 e2 e3 => ?_⟩, fun y c' e => ?_, I.free, I.freeC, fun p hp => ?_, tracked ⟨oc, hoc, I.freeC x c hc⟩ hs, by simpa using I.len⟩ ⟨c, hs, .inr hc⟩
    · exact (hs.2 b (Nat.ne_of_lt (Nat.lt_of_lt_of_le (Heap.lt_size e) (I.ok.cab x c hfn hc)))).trans (I.base.keep b o e n hb hx)
    · obtain ⟨sl, e1⟩ := I.base.slot b o e n hb hx
      exact ⟨sl, (hs.2 b (Nat.ne_of_lt (Nat.lt_of_lt_of_le (Heap.lt_size e) (I.ok.cab x c hfn hc)))).trans e1⟩
    · obtain ⟨o', e1⟩ := I.base.there b o e hx
      exact ⟨o', (hs.2 b (Nat.ne_of_lt (Nat.lt_of_lt_of_le (Heap.lt_size e) (I.ok.cab x c hfn hc)))).trans e1⟩
    · by_cases hj : j = i
      · subst hj
        rw [hi] at e1; cases e1
        rw [List.getElem?_set_self hiσ] at e2
        cases e2
        exact ⟨u, r, .inr ⟨.inl hk, c, hc, hc'⟩⟩
      · rw [List.getElem?_set_ne (Ne.symm hj)] at e2
        obtain ⟨u', r', q⟩ := hl j y v' e1 e2 e3
        refine ⟨u', r', ?_⟩
        rcases q with q | ⟨k, c', e, z'⟩
        · exact .inl q
        · refine .inr ⟨k, c', e, z'.sameBut hs ?_⟩
          rintro rfl
          exact hj (nodup_ix hN e1 (I.ok.inj _ _ _ e hc ▸ hi))
    · by_cases hcc : c' = c
      · subst hcc; exact ⟨_, hc'⟩
      · obtain ⟨w2, z2⟩ := I.cell y c' e
        exact ⟨w2, z2.sameBut hs hcc⟩
    · obtain ⟨e, n, ne, nf, d⟩ := I.pin p hp
      refine ⟨(hs.2 p.1 ?_).trans e, n, ne, nf, d⟩
      intro q
      rw [q, hoc] at e
      have q' : oc = p.2 := Option.some.inj e
      exact d w' (by rw [← q']; exact hocd)
theorem store_ok {M : Model} {A : Around} {E : Value → Shared → Prop} {i : Nat} {x : Str} {v : V} {u : Value} {Q : Unit → Shared → Prop} (I : Inv X pins σ H s) (hN : X.N.Nodup) (hi : X.N[i]? = some x) (hx : Loc X.env.scope x) (r : RelV v u)
    (h : ∀ s', Inv X pins (σ.set i (some v)) H s' → Q () s') (hf : X.fn x = true ∨ X.env.scope.names.lookup x = some .local := by first | exact .inl rfl | exact .inr rfl | assumption) : wpAny M A (storeName X.env x u) Q E s :=
  store_ok2 I hN hi hx r (fun s' I' _ => h s' I') hf
theorem Inv.call' {s' : Shared} {ch : List Addr} (I : Inv X pins σ H s) (ho : s'.os = s.os) (u : Un (frs X.stack) ch H H' s.heap s'.heap) (hok : HOk X.prog X.w H' s'.heap) (hg : AllBare s'.gens)
    (hch : ∀ b ∈ ch, (b ∈ X.ex ∨ X.s₀.heap.objs.size ≤ b) ∧ b ≠ X.env.locals ∧ (∀ x c, X.env.cells.lookup x = some c → c ≠ b) ∧ ∀ p ∈ X.pn ++ pins, p.1 ≠ b) : Inv X pins σ H' s' := by
  obtain ⟨h', g', d', t', o'⟩ := s'
  have e : o' = s.os := ho
  subst e
  exact I.call (g' := g') (t' := t') (d' := d') u hok hg hch
end
abbrev XK := Value → Option Addr → Hp → Prop
abbrev St := List (Option V)
abbrev VK := V → Hp → Prop
abbrev TE := St → Hp → VK → Prop
abbrev TT := St → Hp → (Bool → Hp → Prop) → Prop
abbrev TA := St → Hp → (List V → Hp → Prop) → Prop
structure Ends where
  nx : St → Hp → Prop
  rt : VK
  bk : St → Hp → Prop := fun _ _ => False
  ct : St → Hp → Prop := fun _ _ => False
abbrev TS := Ends → St → Hp → Prop
def EP (X : Cx) (pins : List (Addr × Obj)) (σ : St) (Q : VK) (u : Value) (s' : Shared) : Prop := ∃ v H', Inv X pins σ H' s' ∧ RelV v u ∧ Q v H'
def TP (X : Cx) (pins : List (Addr × Obj)) (σ : St) (Q : Bool → Hp → Prop) (b : Bool) (s' : Shared) : Prop := ∃ H', Inv X pins σ H' s' ∧ Q b H'
def AP (X : Cx) (pins : List (Addr × Obj)) (σ : St) (Q : List V → Hp → Prop) (us : List Value) (s' : Shared) : Prop := ∃ vs H', Inv X pins σ H' s' ∧ Vals vs us ∧ Q vs H'
def SP (X : Cx) (pins : List (Addr × Obj)) (D : Ends) (f : Flow) (s' : Shared) : Prop :=
  match f with
  | .next => ∃ σ' H', Inv X pins σ' H' s' ∧ D.nx σ' H'
  | .brk => ∃ σ' H', Inv X pins σ' H' s' ∧ D.bk σ' H'
  | .cont => ∃ σ' H', Inv X pins σ' H' s' ∧ D.ct σ' H'
  | .ret u => ∃ v σ' H', Inv X pins σ' H' s' ∧ RelV v u ∧ D.rt v H'
def PE (X : Cx) (e : Expr) (t : TE) : Prop :=
  ∀ (pins : List (Addr × Obj)) (s : Shared) (σ : St) (H : Hp) (Q : VK), Inv X pins σ H s → t σ H Q → wpAny (model X.prog X.w) X.A (eval e X.env) (EP X pins σ Q) X.xe s
def PT (X : Cx) (e : Expr) (t : TT) : Prop :=
  ∀ (pins : List (Addr × Obj)) (s : Shared) (σ : St) (H : Hp) (Q : Bool → Hp → Prop), Inv X pins σ H s → t σ H Q → wpAny (model X.prog X.w) X.A (isTrue e X.env (eval e X.env)) (TP X pins σ Q) X.xe s
def PW (X : Cx) (e : Expr) (t : TT) : Prop :=
  ∀ (whole : Sem Value) (pins : List (Addr × Obj)) (s : Shared) (σ : St) (H : Hp) (Q : Bool → Hp → Prop), Inv X pins σ H s → t σ H Q → wpAny (model X.prog X.w) X.A (isTrue e X.env whole) (TP X pins σ Q) X.xe s
theorem PW.pt {X : Cx} {e : Expr} {t : TT} (h : PW X e t) : PT X e t := h _
def PA (X : Cx) (es : List Expr) (t : TA) : Prop :=
  ∀ (pos : Pos) (pins : List (Addr × Obj)) (s : Shared) (σ : St) (H : Hp) (Q : List V → Hp → Prop), Inv X pins σ H s → t σ H Q → wpAny (model X.prog X.w) X.A (spliced (backTo pos (starEach es X.env))) (AP X pins σ Q) X.xe s
def PS (X : Cx) (st : Stmt) (t : TS) : Prop :=
  ∀ (pins : List (Addr × Obj)) (s : Shared) (σ : St) (H : Hp) (D : Ends), Inv X pins σ H s → t D σ H → wpAny (model X.prog X.w) X.A (exec st X.env) (SP X pins D) X.xe s
def PSs (X : Cx) (st : List Stmt) (t : TS) : Prop :=
  ∀ (pins : List (Addr × Obj)) (s : Shared) (σ : St) (H : Hp) (D : Ends), Inv X pins σ H s → t D σ H → wpAny (model X.prog X.w) X.A (execs st X.env) (SP X pins D) X.xe s
theorem thn {α : Type} {t : Sem α} {Q Q' : α → Shared → Prop} {M : Model} {A : Around} {E : Value → Shared → Prop} {s : Shared} (h : wpAny M A t Q E s) (hQ : ∀ a s, Q a s → Q' a s) : wpAny M A t Q' E s := wpAny_mono h hQ fun _ _ x => x
end L2
namespace L2
open PySem PySem.Spec PyProof.Rows
section
variable {X : Cx}
def tVar (i : Nat) : TE := fun σ H Q => ∃ v, σ[i]? = some (some v) ∧ Q v H
def tC (v : V) : TE := fun _ H Q => Q v H
theorem pe_var {i : Nat} {x : Str} {pos : Pos} (hN : X.N[i]? = some x) (hv : Vis X.env.scope x) (hd : (x == ("__debug__" : Str)) = false := by decide) (hcd : (x == ("__classdict__" : Str)) = false := by decide) : PE X (.Name x pos) (tVar i) := by
  intro pins s σ H Q I h
  obtain ⟨v, e, h⟩ := h
  obtain ⟨m, hn, hl⟩ := I.loc
  obtain ⟨u, r, l⟩ := hl i x v hN e hv
  have fin : EP X pins σ Q u s := ⟨v, H, I, r, h⟩
  rcases l with ⟨hk, hm⟩ | ⟨hk, c, hc, hcell⟩
  · exact wpAny_Name (wpAny_loadName_local I.ok.kind hk hn hm fin) hd
  · rcases hk with hk | hk
    · exact wpAny_Name (wpAny_loadName_cell I.ok.kind hk hc hcell fin) hd
    · exact wpAny_Name (wpAny_loadName_free I.ok.kind hk hc hcell fin hcd) hd
theorem pe_int {i j pos} : PE X (.Constant (.int i) j pos) (tC (.int i)) := fun _ _ _ H _ I h => wpAny_Constant_int ⟨.int i, H, I.tok _, ⟨_, rfl⟩, h⟩
theorem pe_bl {b j pos} : PE X (.Constant (.bool b) j pos) (tC (.bl b)) := fun _ _ _ H _ I h => Constant_bool ⟨.bl b, H, I, rfl, h⟩
theorem pe_str {x j pos} : PE X (.Constant (.str x) j pos) (tC (.str x)) := fun _ _ _ H _ I h => Calls.Constant_str ⟨.str x, H, I.tok _, ⟨_, rfl⟩, h⟩
def Gl (X : Cx) (x : Str) : Prop := X.env.kindOf x = some .globalImplicit
theorem ld_glob {E : Value → Shared → Prop} {pins : List (Addr × Obj)} {s : Shared} {σ : St} {H : Hp} {x : Str} {u : Value} {pos : Pos} {Q : Value → Shared → Prop} (I : Inv X pins σ H s) (hg : Gl X x) (hm : X.mg x = some u) (h : Q u s)
    (hd : (x == ("__debug__" : Str)) = false := by decide) : wpAny (model X.prog X.w) X.A (eval (.Name x pos) X.env) Q E s :=
  Calls.Name_function_global I.ok.kind hg (Calls.loadGlobal_global (by rw [I.ok.glob]; exact I.mod.glob.keeps I.bk) hm h) hd
theorem ld_blt {E : Value → Shared → Prop} {pins : List (Addr × Obj)} {s : Shared} {σ : St} {H : Hp} {x : Str} {u : Value} {pos : Pos} {Q : Value → Shared → Prop} (I : Inv X pins σ H s) (hg : Gl X x) (hm : X.mg x = none) (hv : bootBuiltins x = some u) (h : Q u s)
    (hn : x ≠ "__name__" := by decide) (hd : (x == ("__debug__" : Str)) = false := by decide) : wpAny (model X.prog X.w) X.A (eval (.Name x pos) X.env) Q E s := by
  obtain ⟨mb, h1, h2⟩ := I.mod.blt
  exact Calls.Name_function_global I.ok.kind hg (Calls.loadGlobal_builtin (by rw [I.ok.glob]; exact I.mod.glob.keeps I.bk) hm (by rw [I.ok.blt]; exact h1.keeps I.bk) ((h2 x hn).trans hv) h) hd
theorem pe_glob {x : Str} {v : V} {u : Value} {pos : Pos} (hg : Gl X x) (hm : X.mg x = some u) (r : RelV v u) (hd : (x == ("__debug__" : Str)) = false := by decide) : PE X (.Name x pos) (tC v) :=
  fun _ _ _ H _ I h => ld_glob I hg hm ⟨v, H, I, r, h⟩ hd
theorem pe_bltn {x : Str} {v : V} {u : Value} {pos : Pos} (hg : Gl X x) (hm : X.mg x = none) (hv : bootBuiltins x = some u) (r : RelV v u) (hn : x ≠ "__name__" := by decide) (hd : (x == ("__debug__" : Str)) = false := by decide) : PE X (.Name x pos) (tC v) :=
  fun _ _ _ H _ I h => ld_blt I hg hm hv ⟨v, H, I, r, h⟩ hn hd
variable {a b : Expr} {ta tb : TE} {pos : Pos}
variable {tA tB' : TT} {rest : List Expr}
def tAnd (t u : TT) : TT := fun σ H Q => t σ H fun c H1 => if c = true then u σ H1 Q else Q false H1
def tOr (t u : TT) : TT := fun σ H Q => t σ H fun c H1 => if c = true then Q true H1 else u σ H1 Q
def tNot (t : TT) : TT := fun σ H Q => t σ H fun c H1 => Q (!c) H1
theorem pw_and1 (ha : PT X a tA) : PW X (.BoolOp .And [a] pos) tA := by
  intro wh pins s σ H Q I h
  refine isTrue_and (thn (ha pins s σ H Q I h) fun c s1 e => ?_)
  cases c with
  | true => exact isTrue_and_nil e
  | false => exact e
theorem pw_or1 (ha : PT X a tA) : PW X (.BoolOp .Or [a] pos) tA := by
  intro wh pins s σ H Q I h
  refine isTrue_or (thn (ha pins s σ H Q I h) fun c s1 e => ?_)
  cases c with
  | false => exact isTrue_or_nil e
  | true => exact e
theorem pw_and (ha : PT X a tA) (hb : PW X (.BoolOp .And (b :: rest) pos) tB') : PW X (.BoolOp .And (a :: b :: rest) pos) (tAnd tA tB') := by
  intro wh pins s σ H Q I h
  refine isTrue_and (thn (ha pins s σ H _ I h) fun c s1 ⟨H1, I1, q1⟩ => ?_)
  cases c with
  | true => exact hb wh pins s1 σ H1 Q I1 q1
  | false => exact ⟨H1, I1, q1⟩
theorem pw_or (ha : PT X a tA) (hb : PW X (.BoolOp .Or (b :: rest) pos) tB') : PW X (.BoolOp .Or (a :: b :: rest) pos) (tOr tA tB') := by
  intro wh pins s σ H Q I h
  refine isTrue_or (thn (ha pins s σ H _ I h) fun c s1 ⟨H1, I1, q1⟩ => ?_)
  cases c with
  | true => exact ⟨H1, I1, q1⟩
  | false => exact hb wh pins s1 σ H1 Q I1 q1
theorem pt_not (ha : PT X a tA) : PT X (.UnaryOp .Not a pos) (tNot tA) := by
  intro pins s σ H Q I h
  exact isTrue_not (ha pins s σ H (fun c H1 => Q (!c) H1) I h)
def tAndV (ta tb : TE) : TE := fun σ H Q => ta σ H fun x H1 => ∃ c, x = .bl c ∧ if c = true then tb σ H1 Q else Q (.bl false) H1
def tOrV (ta tb : TE) : TE := fun σ H Q => ta σ H fun x H1 => ∃ c, x = .bl c ∧ if c = true then Q (.bl true) H1 else tb σ H1 Q
theorem pe_one {op} {t : TE} (h : PE X a t) : PE X (.BoolOp op [a] pos) t := fun pins s σ H Q I hw => BoolOp_one (h pins s σ H Q I hw)
theorem pe_and (ha : PE X a ta) (hb : PE X (.BoolOp .And (b :: rest) pos) tb) : PE X (.BoolOp .And (a :: b :: rest) pos) (tAndV ta tb) := by
  intro pins s σ H Q I h
  refine BoolOp_and (thn (ha pins s σ H _ I h) fun v s1 ⟨x, H1, I1, r1, q1⟩ => ?_)
  obtain ⟨c, rfl, q1⟩ := q1
  cases r1
  refine wpAny_truthy_bool ?_
  cases c with
  | true => exact hb pins s1 σ H1 Q I1 q1
  | false => exact ⟨.bl false, H1, I1, rfl, q1⟩
theorem pe_or (ha : PE X a ta) (hb : PE X (.BoolOp .Or (b :: rest) pos) tb) : PE X (.BoolOp .Or (a :: b :: rest) pos) (tOrV ta tb) := by
  intro pins s σ H Q I h
  refine BoolOp_or (thn (ha pins s σ H _ I h) fun v s1 ⟨x, H1, I1, r1, q1⟩ => ?_)
  obtain ⟨c, rfl, q1⟩ := q1
  cases r1
  refine wpAny_truthy_bool ?_
  cases c with
  | false => exact hb pins s1 σ H1 Q I1 q1
  | true => exact ⟨.bl true, H1, I1, rfl, q1⟩
def tIf (t : TT) (ta tb : TE) : TE := fun σ H Q => t σ H fun c H1 => if c = true then ta σ H1 Q else tb σ H1 Q
theorem pe_ifExp {c : Expr} (hc : PT X c tA) (ha : PE X a ta) (hb : PE X b tb) : PE X (.IfExp c a b pos) (tIf tA ta tb) := by
  intro pins s σ H Q I h
  refine wpAny_IfExp (thn (hc pins s σ H _ I h) fun d s1 ⟨H1, I1, q1⟩ => ?_)
  cases d with
  | true => exact ha pins s1 σ H1 Q I1 q1
  | false => exact hb pins s1 σ H1 Q I1 q1
end
end L2
namespace L2
open PySem PySem.Spec PyProof.Rows
def SqL (K : PySem.W.Frag) (H : Hp) (a : Addr) (xs : List V) : Prop :=
  Rd H a (.lst xs) ∨
    ∃ (o : Obj) (its : Array Value) (n : Nat), K.lookup a = some o ∧ o.cls = .type "list" ∧ o.dict = none ∧ o.data = .seq its n ∧ its.size ≤ sizeLine ∧ Vals xs its.toList
def SqT (K : PySem.W.Frag) (H : Hp) (a : Addr) (xs : List V) : Prop :=
  Rd H a (.tup xs) ∨
    ∃ (o : Obj) (its : Array Value) (n : Nat), K.lookup a = some o ∧ o.cls = .type "tuple" ∧ o.data = .seq its n ∧ its.size ≤ sizeLine ∧ Vals xs its.toList
def absV : Value → Option V
  | .none => some .non
  | .bool b => some (.bl b)
  | .int i _ => some (.int i)
  | .str x _ => some (.str x)
  | .bytes b _ => some (.byt b)
  | .float b _ => some (.flt b)
  | .ref a => some (.ref a)
  | .type n => some (.ty n)
  | _ => none
theorem RelV.abs {x : V} {u : Value} (r : RelV x u) : absV u = some x := by
  cases x with
  | non => cases r; rfl
  | bl _ => cases r; rfl
  | int _ => obtain ⟨t, rfl⟩ := r; rfl
  | str _ => obtain ⟨t, rfl⟩ := r; rfl
  | byt _ => obtain ⟨t, rfl⟩ := r; rfl
  | flt _ => obtain ⟨t, rfl⟩ := r; rfl
  | ref _ => cases r; rfl
  | ty _ => cases r; rfl
theorem RelV.inj {x y : V} {u : Value} (r : RelV x u) (q : RelV y u) : x = y := Option.some.inj (r.abs.symm.trans q.abs)
theorem Vals.inj : ∀ {xs ys : List V} {us : List Value}, Vals xs us → Vals ys us → xs = ys
  | _, _, _, .nil, .nil => rfl
  | _, _, _, .cons r t, .cons r' t' => by rw [r.inj r', Vals.inj t t']
section
variable {X : Cx} {pins : List (Addr × Obj)} {σ : St} {H : Hp} {s : Shared} {a : Addr} {xs ys : List V}
theorem SqL.of {K : PySem.W.Frag} (h : H a = some (.lst xs)) : SqL K H a xs := .inl (.inl h)
theorem SqT.of {K : PySem.W.Frag} (h : H a = some (.tup xs)) : SqT K H a xs := .inl (.inl h)
theorem Inv.list (I : Inv X pins σ H s) (h : SqL X.K H a xs) : ∃ its : List Value, Vals xs its ∧ PlainL s.heap a its.toArray ∧ xs.length ≤ sizeLine := by
  rcases h with h | ⟨o, its, n, hk, hc, hd, hs, hz, r⟩
  · obtain ⟨z, its, n, r, e⟩ := h.ok I.hok
    exact ⟨its, r, ⟨_, n, e, rfl, rfl, rfl⟩, z⟩
  · refine ⟨its.toList, r, ⟨o, n, I.kIn a o hk, hc, hd, by simpa using hs⟩, ?_⟩
    have e := r.length
    simp only [Array.length_toList] at e
    omega
theorem Inv.tuple (I : Inv X pins σ H s) (h : SqT X.K H a xs) : ∃ its : List Value, Vals xs its ∧ IsTup s.heap a its.toArray ∧ xs.length ≤ sizeLine := by
  rcases h with h | ⟨o, its, n, hk, hc, hs, hz, r⟩
  · obtain ⟨z, its, r, p⟩ := h.ok I.hok
    exact ⟨its, r, p, z⟩
  · refine ⟨its.toList, r, ⟨o, I.kIn a o hk, hc, n, by simpa using hs⟩, ?_⟩
    have e := r.length
    simp only [Array.length_toList] at e
    omega
theorem Inv.list_inj (I : Inv X pins σ H s) (h : SqL X.K H a xs) (h' : SqL X.K H a ys) : xs = ys := by
  obtain ⟨its, r, ⟨o, n, e, _, _, d⟩, _⟩ := I.list h
  obtain ⟨its', r', ⟨o', n', e', _, _, d'⟩, _⟩ := I.list h'
  rw [e] at e'; cases e'
  rw [d] at d'
  injection d' with d1 _
  have : its = its' := by simpa using congrArg Array.toList d1
  subst this
  exact r.inj r'
theorem Inv.tuple_inj (I : Inv X pins σ H s) (h : SqT X.K H a xs) (h' : SqT X.K H a ys) : xs = ys := by
  obtain ⟨its, r, ⟨o, e, _, n, d⟩, _⟩ := I.tuple h
  obtain ⟨its', r', ⟨o', e', _, n', d'⟩, _⟩ := I.tuple h'
  rw [e] at e'; cases e'
  rw [d] at d'
  injection d' with d1 _
  have : its = its' := by simpa using congrArg Array.toList d1
  subst this
  exact r.inj r'
end
abbrev Cx.wish (X : Cx) (E : Value → Shared → Prop) : Cx := { X with xe := E }
abbrev Cx.nox (X : Cx) : Cx := X.wish fun _ _ => False
theorem Cx.Ok.wish {X : Cx} (ok : X.Ok) (E : Value → Shared → Prop) : (X.wish E).Ok :=
  ⟨ok.mod, ok.kind, ok.glob, ok.blt, ok.above, ok.inj, ok.has, ok.cab, ok.hd, ok.frames, ok.stk, ok.exf, ok.bs, ok.bsz, ok.noex, ok.exfs, ok.funs, ok.frf⟩
theorem Cx.Ok.unwish {X : Cx} {E : Value → Shared → Prop} (ok : (X.wish E).Ok) : X.Ok :=
  ⟨ok.mod, ok.kind, ok.glob, ok.blt, ok.above, ok.inj, ok.has, ok.cab, ok.hd, ok.frames, ok.stk, ok.exf, ok.bs, ok.bsz, ok.noex, ok.exfs, ok.funs, ok.frf⟩
section
variable {X : Cx} {pins : List (Addr × Obj)} {σ : St} {H : Hp} {s : Shared} {E : Value → Shared → Prop}
theorem Inv.wish (I : Inv X pins σ H s) (E : Value → Shared → Prop) : Inv (X.wish E) pins σ H s := ⟨I.ok.wish E, I.os, I.bare, I.base, I.loc, I.cell, I.free, I.freeC, I.pin, I.hok, I.len⟩
theorem Inv.unwish (I : Inv (X.wish E) pins σ H s) : Inv X pins σ H s := ⟨I.ok.unwish, I.os, I.bare, I.base, I.loc, I.cell, I.free, I.freeC, I.pin, I.hok, I.len⟩
theorem SP.unwish {D : Ends} {f : Flow} {s' : Shared} (h : SP (X.wish E) pins D f s') : SP X pins D f s' := by
  cases f with
  | next => obtain ⟨σ', H', I, q⟩ := h; exact ⟨σ', H', I.unwish, q⟩
  | brk => obtain ⟨σ', H', I, q⟩ := h; exact ⟨σ', H', I.unwish, q⟩
  | cont => obtain ⟨σ', H', I, q⟩ := h; exact ⟨σ', H', I.unwish, q⟩
  | ret u => obtain ⟨v, σ', H', I, r, q⟩ := h; exact ⟨v, σ', H', I.unwish, r, q⟩
theorem PSs.nox {st : List Stmt} {t : TS} (h : PSs X.nox st t) : PSs X st t := fun pins s σ H D I hw =>
  wpAny_mono (h pins s σ H D (I.wish _) hw) (fun _ _ q => q.unwish) fun _ _ z => False.elim z
end
section
variable {X : Cx} {st : Stmt} {rest : List Stmt} {t u : TS} {e : Expr} {te : TE} {pos : Pos}
def tNext : TS := fun D σ H => D.nx σ H
def tSeq (t u : TS) : TS := fun D σ H => t { D with nx := u D } σ H
theorem pss_nil : PSs X [] tNext := fun _ _ σ H _ I h => wpAny_execs_nil ⟨σ, H, I, h⟩
theorem pss_cons (h1 : PS X st t) (h2 : PSs X rest u) : PSs X (st :: rest) (tSeq t u) := by
  intro pins s σ H D I h
  refine wpAny_execs_cons (thn (h1 pins s σ H { D with nx := u D } I h) fun f s1 q => ?_)
  cases f with
  | next =>
    obtain ⟨σ', H', I', q⟩ := q
    exact h2 pins s1 σ' H' D I' q
  | ret v => exact q
  | brk => exact q
  | cont => exact q
theorem pss_one (h1 : PS X st t) : PSs X [st] t := by
  intro pins s σ H D I h
  refine wpAny_execs_cons (thn (h1 pins s σ H D I h) fun f s1 q => ?_)
  cases f with
  | next => exact wpAny_execs_nil q
  | ret v => exact q
  | brk => exact q
  | cont => exact q
theorem Inv.quiet {pins : List (Addr × Obj)} {σ : St} {H : Hp} {s : Shared} (I : Inv X pins σ H s) : interactive X.env = false := by simp [interactive, I.ok.kind]
def tDrop (te : TE) : TS := fun D σ H => te σ H fun _ H1 => D.nx σ H1
theorem ps_expr (he : PE X e te) (hs : swapsWith e none pos.line X.env = pure false := by rfl) : PS X (.Expr e pos) (tDrop te) := by
  intro pins s σ H D I h
  exact wpAny_Expr_any (thn (he pins s σ H _ I h) fun v s1 ⟨x, H1, I1, r1, q1⟩ => ⟨σ, H1, I1, q1⟩) I.quiet hs
def tRet (te : TE) : TS := fun D σ H => te σ H D.rt
theorem ps_ret (he : PE X e te) : PS X (.Return (some e) pos) (tRet te) := by
  intro pins s σ H D I h
  exact wpAny_Return_some (thn (he pins s σ H _ I h) fun v s1 ⟨x, H1, I1, r1, q1⟩ => ⟨x, σ, H1, I1, r1, q1⟩)
def tIfS (c : TT) (t u : TS) : TS := fun D σ H => c σ H fun b H1 => if b = true then t D σ H1 else u D σ H1
theorem ps_if {c : Expr} {a b : List Stmt} {tc : TT} (hc : PT X c tc) (ha : PSs X a t) (hb : PSs X b u) : PS X (.If c a b pos) (tIfS tc t u) := by
  intro pins s σ H D I h
  refine wpAny_If (thn (hc pins s σ H _ I h) fun d s1 ⟨H1, I1, q1⟩ => ?_)
  cases d with
  | true => exact ha pins s1 σ H1 D I1 q1
  | false => exact hb pins s1 σ H1 D I1 q1
def tNever : TS := fun _ _ _ => False
theorem ps_never : PS X st tNever := fun _ _ _ _ _ _ h => h.elim
end
abbrev TG := V → St → Hp → (St → Hp → Prop) → Prop
abbrev TGs := List V → St → Hp → (St → Hp → Prop) → Prop
def PG (X : Cx) (target : Expr) (t : TG) : Prop :=
  ∀ (pins : List (Addr × Obj)) (s : Shared) (σ : St) (H : Hp) (v : V) (u : Value) (Q : St → Hp → Prop), Inv X pins σ H s → RelV v u → t v σ H Q →
    wpAny (model X.prog X.w) X.A (assign target X.env u) (fun _ s' => ∃ σ' H', Inv X pins σ' H' s' ∧ Q σ' H') X.xe s
def PGs (X : Cx) (ts : List Expr) (t : TGs) : Prop :=
  ∀ (pins : List (Addr × Obj)) (s : Shared) (σ : St) (H : Hp) (vs : List V) (us : List Value) (Q : St → Hp → Prop), Inv X pins σ H s → Vals vs us → t vs σ H Q →
    wpAny (model X.prog X.w) X.A (assignInOrder ((assignEach ts X.env).map (·.2)) us) (fun _ s' => ∃ σ' H', Inv X pins σ' H' s' ∧ Q σ' H') X.xe s
abbrev TSet := V → V → V → Hp → (Hp → Prop) → Prop
def PSet (X : Cx) (t : TSet) : Prop :=
  ∀ (pins : List (Addr × Obj)) (s : Shared) (σ : St) (H : Hp) (o i v : V) (ov iv u : Value) (Q : Hp → Prop), Inv X pins σ H s → RelV o ov → RelV i iv → RelV v u → t o i v H Q →
    wpAny (model X.prog X.w) X.A (setItem ov iv u) (fun _ s' => ∃ H', Inv X pins σ H' s' ∧ Q H') X.xe s
section
variable {X : Cx} {pos : Pos}
def gName (i : Nat) : TG := fun v σ H Q => Q (σ.set i (some v)) H
theorem pg_name {i : Nat} {x : Str} (hN : X.N.Nodup) (hi : X.N[i]? = some x) (hx : Loc X.env.scope x) (hf : X.fn x = true ∨ X.env.scope.names.lookup x = some .local := by first | exact .inl rfl | exact .inr rfl | assumption) : PG X (.Name x pos) (gName i) := by
  intro pins s σ H v u Q I r h
  exact wpAny_assign_Name (store_ok I hN hi hx r (fun s' I' => ⟨_, H, I', h⟩) hf)
def gNil : TGs := fun vs σ H Q => vs = [] ∧ Q σ H
def gCons (t : TG) (u : TGs) : TGs := fun vs σ H Q => ∃ v r, vs = v :: r ∧ t v σ H fun σ' H' => u r σ' H' Q
theorem pgs_nil : PGs X [] gNil := by
  intro pins s σ H vs us Q I r h
  obtain ⟨e, h⟩ := h
  subst e
  cases r
  exact assignInOrder_nil ⟨σ, H, I, h⟩
theorem pgs_cons {e : Expr} {es : List Expr} {t : TG} {u : TGs} (h1 : PG X e t) (h2 : PGs X es u)
    (hs : (assignEach (e :: es) X.env).map (·.2) = assign e X.env :: (assignEach es X.env).map (·.2) := by rfl) : PGs X (e :: es) (gCons t u) := by
  intro pins s σ H vs us Q I r h
  obtain ⟨v, vr, e1, h⟩ := h
  subst e1
  cases r with
  | cons r rr =>
    rw [hs]
    refine assignInOrder_cons (thn (h1 pins s σ H _ _ _ I r h) fun _ s1 ⟨σ1, H1, I1, q1⟩ => ?_)
    exact h2 pins s1 σ1 H1 _ _ Q I1 rr q1
def gTup (K : PySem.W.Frag) (n : Nat) (t : TGs) : TG := fun v σ H Q => ∃ a xs, v = .ref a ∧ SqT K H a xs ∧ xs.length = n ∧ t xs σ H Q
theorem pg_tup {es : List Expr} {k : Nat} {t : TGs} {n : Nat} (hc : X.calm = true) (h : PGs X es t)
    (hn : (assignEach es X.env).length = n := by rfl) (hst : (assignEach es X.env).findIdx? (·.1) = none := by rfl) : PG X (.Tuple es k pos) (gTup X.K n t) := by
  intro pins s σ H v u Q I r hw
  obtain ⟨a, xs, e1, hq, hl, hw⟩ := hw
  subst e1
  cases r
  obtain ⟨its, rv, ht, hz⟩ := I.tuple hq
  refine assign_Tuple_tuple (I.ok.hd hc) ht (by simp [hn, ← hl, rv.length]) hst fun h' hx => ?_
  have I1 : Inv X pins σ H { s with heap := h' } := I.kept (t' := s.toks) fun b o e => hx b o (Nat.ne_of_lt (Heap.lt_size e)) e
  exact h pins _ σ H xs _ Q I1 (by simpa using rv) hw
def gSub (to ti : TE) (t : TSet) : TG := fun v σ H Q => to σ H fun o H1 => ti σ H1 fun i H2 => t o i v H2 fun H3 => Q σ H3
theorem pg_sub {o i : Expr} {to ti : TE} {t : TSet} (ho : PE X o to) (hi : PE X i ti) (hs : PSet X t)
    (ha : ∀ v, assign (.Subscript o i pos) X.env v = (do
      let ov ← holding [v] (eval o X.env)
      let iv ← holding [v, ov] (eval i X.env)
      standAt pos
      holding [v, ov, iv] (setItem ov iv v)
      release [v, ov, iv] []) := by intro _; rfl) : PG X (.Subscript o i pos) (gSub to ti t) := by
  intro pins s σ H v u Q I r h
  rw [ha]
  refine wpAny_bind (wpAny_holding (thn (ho pins s σ H _ I h) fun ov s1 ⟨x, H1, I1, r1, q1⟩ => ?_))
  refine wpAny_bind (wpAny_holding (thn (hi pins s1 σ H1 _ I1 q1) fun iv s2 ⟨y, H2, I2, r2, q2⟩ => ?_))
  refine wpAny_bind (wpAny_standAt (wpAny_bind (wpAny_holding (thn (hs pins s2 σ H2 x y v ov iv u _ I2 r1 r2 r q2) fun _ s3 ⟨H3, I3, q3⟩ => ?_))))
  exact wpAny_release ⟨σ, H3, I3, q3⟩
def tAsg (te : TE) (g : TG) : TS := fun D σ H => te σ H fun x H1 => g x σ H1 D.nx
theorem ps_asg {tg e : Expr} {te : TE} {g : TG} (he : PE X e te) (hg : PG X tg g) (hs : swapsWithSole [tg] e pos.line X.env = pure false := by rfl) (hw : swappedStores [tg] e X.env = pure none := by rfl)
    (h1 : (assignEach [tg] X.env).map (·.2) = [assign tg X.env] := by rfl) : PS X (.Assign [tg] e pos) (tAsg te g) := by
  intro pins s σ H D I h
  refine wpAny_Assign_stores (thn (he pins s σ H _ I h) fun v s1 ⟨x, H1, I1, r1, q1⟩ => ?_) hs hw
  rw [h1]
  exact thn (hg pins s1 σ H1 x v _ I1 r1 q1) fun _ s2 q => q
theorem ps_set {i : Nat} {x : Str} {e : Expr} {te : TE} {pos' : Pos} (hN : X.N.Nodup) (hi : X.N[i]? = some x) (hx : Loc X.env.scope x) (he : PE X e te) (hs : swapsWith e (some (.Name x pos')) pos.line X.env = pure false := by rfl) (hf : X.fn x = true ∨ X.env.scope.names.lookup x = some .local := by first | exact .inl rfl | exact .inr rfl | assumption) :
    PS X (.Assign [.Name x pos'] e pos) (tAsg te (gName i)) := by
  intro pins s σ H D I h
  refine wpAny_Assign_Name (thn (he pins s σ H _ I h) fun v s1 ⟨y, H1, I1, r1, q1⟩ => ?_) hs
  exact store_ok I1 hN hi hx r1 (fun s2 I2 => ⟨_, H1, I2, q1⟩) hf
end
section
variable {X : Cx} {pos : Pos}
def tWhile (c : TT) (tb : TS) : TS := fun D σ H => ∃ W : Nat → St → Hp → Prop, (∃ m, W m σ H) ∧ ∀ m σ H, W m σ H →
  c σ H fun b H1 => if b = true then ∃ N : St → Hp → Prop, (∀ σ' H', N σ' H' → ∃ m', m' < m ∧ W m' σ' H') ∧ tb { D with nx := N, ct := N, bk := D.nx } σ H1 else D.nx σ H1
theorem ps_while {c : Expr} {body : List Stmt} {tc : TT} {tb : TS} (hp : PassesOwn (model X.prog X.w) X.A X.env X.xe) (hc : PT X c tc) (hb : PSs X body tb) : PS X (.While c body [] pos) (tWhile tc tb) := by
  intro pins s σ H D I h
  obtain ⟨W, ⟨m0, w0⟩, turn⟩ := h
  refine wpAny_While (codeAny_whileLoop (fun n s' => ∃ σ' H', Inv X pins σ' H' s' ∧ W n σ' H') ?_ m0 ⟨σ, H, I, w0⟩)
  rintro n s1 ⟨σ1, H1, I1, w1⟩
  refine wpAny_passesOwn hp (thn (hc pins s1 σ1 H1 _ I1 (turn n σ1 H1 w1)) fun b s2 ⟨H2, I2, q2⟩ => ?_)
  cases b with
  | true =>
    obtain ⟨N, hN, q2⟩ := q2
    rw [if_pos rfl]
    refine wpAny_passesOwn hp (thn (hb pins s2 σ1 H2 _ I2 q2) fun f s3 q3 => ?_)
    cases f with
    | next =>
      obtain ⟨σ3, H3, I3, n3⟩ := q3
      obtain ⟨m', hm, w3⟩ := hN σ3 H3 n3
      exact ⟨m', hm, σ3, H3, I3, w3⟩
    | cont =>
      obtain ⟨σ3, H3, I3, n3⟩ := q3
      obtain ⟨m', hm, w3⟩ := hN σ3 H3 n3
      exact ⟨m', hm, σ3, H3, I3, w3⟩
    | brk => exact q3
    | ret v => exact q3
  | false =>
    rw [if_neg Bool.false_ne_true]
    exact wpAny_execs_nil ⟨σ1, H2, I2, q2⟩
end
structure It where
  go : Nat → Hp → Prop
  yld : Nat → Hp → V → Hp → Prop
  stop : Nat → Hp → Prop
def FpOk (X : Cx) (pins : List (Addr × Obj)) (H : Hp) (b : Addr) : Prop :=
  H b = none ∧ b ≠ X.env.locals ∧ b ∉ X.fs ∧ (b ∈ X.ex ∨ X.s₀.heap.objs.size ≤ b) ∧ (∀ x c, X.env.cells.lookup x = some c → c ≠ b) ∧ ∀ p ∈ X.pn ++ pins, p.1 ≠ b
theorem Inv.fpOk {X : Cx} {pins : List (Addr × Obj)} {σ : St} {H H' : Hp} {s : Shared} {b : Addr} (I : Inv X pins σ H s) (hb : s.heap.objs.size ≤ b) (hn : H' b = none) : FpOk X pins H' b := by
  refine ⟨hn, Nat.ne_of_gt (Nat.lt_of_lt_of_le I.lt hb), I.nofs hb, .inr (Nat.le_trans I.sz hb), fun x c e z => ?_, fun p hp z => ?_⟩
  · obtain ⟨v, q⟩ := I.cell x c e
    exact absurd (Nat.lt_of_lt_of_le q.lt (by rw [z]; exact hb)) (Nat.lt_irrefl _)
  · exact absurd (Nat.lt_of_lt_of_le (Heap.lt_size (I.pin p hp).1) (by rw [z]; exact hb)) (Nat.lt_irrefl _)
structure Turn (P : Program) (w : World) (K : PySem.W.Frag) (tg : Expr) (J : It) (fp : List Addr) (it : Addr) (tn : Nat → Heap → Prop) : Prop where
  mem : it ∈ fp
  obj : ∀ i h, tn i h → ∀ b ∈ fp, ∃ o, h.get? b = some o ∧ ∀ v, o.data ≠ .cell v
  keep : ∀ i h h', tn i h → (∀ b ∈ fp, ∀ o, h.get? b = some o → h'.get? b = some o) → tn i h'
  item : ∀ (X : Cx), X.prog = P → X.w = w → X.K = K → X.calm = true → ∀ (i : Nat) (pins : List (Addr × Obj)) (s : Shared) (σ : St) (H : Hp) (E : Value → Shared → Prop), Inv X pins σ H s → (∀ b ∈ fp, FpOk X pins H b) → tn i s.heap → J.go i H →
    wpAny (model P w) X.A (pyNext (.ref it)) (fun r s1 => ∃ u, r = some u ∧
      wpAny (model P w) X.A (letOwnedTupleGo tg (.ref it) u) (fun _ s2 => ∃ x H', Inv X pins σ H' s2 ∧ RelV x u ∧ J.yld i H x H' ∧ tn (i + 1) s2.heap ∧ ∀ b ∈ fp, H' b = none) E s1) E s
  done : ∀ (X : Cx), X.prog = P → X.w = w → X.K = K → X.calm = true → ∀ (i : Nat) (pins : List (Addr × Obj)) (s : Shared) (σ : St) (H : Hp) (E : Value → Shared → Prop), Inv X pins σ H s → (∀ b ∈ fp, FpOk X pins H b) → tn i s.heap → J.stop i H →
    wpAny (model P w) X.A (pyNext (.ref it)) (fun r s1 => r = none ∧ Inv X pins σ H s1) E s
  self : ∀ (A : Around) (i : Nat) (s : Shared) (Q : Value → Shared → Prop) (E : Value → Shared → Prop), tn i s.heap → Q (.ref it) s → wpAny (model P w) A (pyIter (.ref it)) Q E s
abbrev TI := St → Hp → (It → Hp → Prop) → Prop
def PIE (X : Cx) (pins : List (Addr × Obj)) (σ : St) (tg : Expr) (R : It → Hp → Prop) (itv : Value) (s2 : Shared) : Prop :=
  ∃ (it : Addr) (fp : List Addr) (tn : Nat → Heap → Prop) (J : It) (H' : Hp), itv = .ref it ∧ Inv X pins σ H' s2 ∧ Turn X.prog X.w X.K tg J fp it tn ∧ tn 0 s2.heap ∧ (∀ b ∈ fp, FpOk X pins H' b) ∧ R J H'
def PI (X : Cx) (tg iter : Expr) (wi : TI) : Prop :=
  ∀ (pins : List (Addr × Obj)) (s : Shared) (σ : St) (H : Hp) (R : It → Hp → Prop), Inv X pins σ H s → wi σ H R →
    wpAny (model X.prog X.w) X.A (eval iter X.env) (fun v s1 => wpAny (model X.prog X.w) X.A (pyIter v) (PIE X pins σ tg R) X.xe s1) X.xe s
theorem go_of {M : Model} {A : Around} {E : Value → Shared → Prop} {s : Shared} {tg : Expr} {it : Addr} {u : Value} {o : Obj} {n : String} {vs : Array Value} {Q : Unit → Shared → Prop} (ho : s.heap.get? it = some o) (hc : o.cls = .type n) (hd : o.data = .fields vs)
    (hn : ["enumerate", "zip", "dict_itemiterator", "dict_reverseitemiterator", "odict_iterator", "itertools.zip_longest", "itertools.pairwise"].contains n = false) (hQ : Q () s) : wpAny M A (letOwnedTupleGo tg (.ref it) u) Q E s := by
  unfold letOwnedTupleGo
  cases tg <;> first
    | exact wpAny_pure hQ
    | (cases u <;> first
        | exact wpAny_pure hQ
        | (refine wpAny_bind (wpAny_load ho ?_)
           rw [hc, hd]
           show wpAny M A (if (["enumerate", "zip", "dict_itemiterator", "dict_reverseitemiterator", "odict_iterator", "itertools.zip_longest", "itertools.pairwise"].contains n && vs[0]? == some (rawInt _)) = true then _ else _) Q E s
           rw [if_neg (by intro h; rw [hn, Bool.false_and] at h; cases h)]
           exact wpAny_pure hQ))
def Itl (K : PySem.W.Frag) (a : Addr) : It :=
  ⟨fun i H => ∃ xs x, SqL K H a xs ∧ xs[i]? = some x, fun i H x H' => H' = H ∧ ∀ xs, SqL K H a xs → xs[i]? = some x, fun i H => ∃ xs, SqL K H a xs ∧ xs.length ≤ i⟩
def Itt (K : PySem.W.Frag) (a : Addr) : It :=
  ⟨fun i H => ∃ xs x, SqT K H a xs ∧ xs[i]? = some x, fun i H x H' => H' = H ∧ ∀ xs, SqT K H a xs → xs[i]? = some x, fun i H => ∃ xs, SqT K H a xs ∧ xs.length ≤ i⟩
def Itr (lo : Int) (n : Nat) : It := ⟨fun i _ => i < n, fun i H x H' => H' = H ∧ x = .int (lo + i), fun i _ => n ≤ i⟩
theorem turn_list {P : Program} {w : World} {K : PySem.W.Frag} {tg : Expr} (a it : Addr) : Turn P w K tg (Itl K a) [it] it (fun i h => h.IsListIter it a i) where
  mem := by simp
  obj := fun i h st b hb => by
    have e : b = it := by simpa using hb
    subst e
    obtain ⟨o, e, c, d⟩ := st
    exact ⟨o, e, fun v z => by rw [d] at z; cases z⟩
  keep := fun i h h' st k => st.at fun o e => k it (by simp) o e
  item := by
    intro X hP hw hK hc i pins s σ H E I hf st hg
    subst hP hw hK
    obtain ⟨xs, x, hq, hx⟩ := hg
    obtain ⟨its, rv, p, hz⟩ := I.list hq
    obtain ⟨u, hu, ru⟩ := rv.get hx
    obtain ⟨f0, f1, f2, f3, f4, f5⟩ := hf it (by simp)
    refine wpAny_pyNext_list_item st p.isList (x := u) (by simpa using hu) fun h' st' sb => ?_
    have I1 : Inv X pins σ H { s with heap := h' } := I.turned (t' := s.toks) (fun b o hb e => (sb.2 b hb).trans e) f0 f1 f3 f4 f5
    obtain ⟨o, e, c, d⟩ := id st'
    exact ⟨u, rfl, go_of (s := { s with heap := h' }) e c d (by decide) ⟨x, H, I1, ru, ⟨rfl, fun ys hy => by rw [I.list_inj hy hq]; exact hx⟩, st', fun b hb => (hf b hb).1⟩⟩
  done := by
    intro X hP hw hK hc i pins s σ H E I hf st hg
    subst hP hw hK
    obtain ⟨xs, hq, hx⟩ := hg
    obtain ⟨its, rv, p, hz⟩ := I.list hq
    obtain ⟨f0, f1, f2, f3, f4, f5⟩ := hf it (by simp)
    have hl := rv.length
    exact wpAny_pyNext_list_end (I.ok.hd hc) st p.isList (by simp; omega) fun h' eb => ⟨rfl, I.turned (t' := s.toks) (fun b o hb e => eb b o hb e) f0 f1 f3 f4 f5⟩
  self := fun _ _ _ _ _ st h => wpAny_pyIter_listiter st h
theorem turn_tuple {P : Program} {w : World} {K : PySem.W.Frag} {tg : Expr} (a it : Addr) : Turn P w K tg (Itt K a) [it] it (fun i h => h.IsTupleIter it a i) where
  mem := by simp
  obj := fun i h st b hb => by
    have e : b = it := by simpa using hb
    subst e
    obtain ⟨o, e, c, d⟩ := st
    exact ⟨o, e, fun v z => by rw [d] at z; cases z⟩
  keep := fun i h h' st k => st.at fun o e => k it (by simp) o e
  item := by
    intro X hP hw hK hc i pins s σ H E I hf st hg
    subst hP hw hK
    obtain ⟨xs, x, hq, hx⟩ := hg
    obtain ⟨its, rv, p, hz⟩ := I.tuple hq
    obtain ⟨u, hu, ru⟩ := rv.get hx
    obtain ⟨f0, f1, f2, f3, f4, f5⟩ := hf it (by simp)
    refine wpAny_pyNext_tuple_item st (show s.heap.IsTuple a its.toArray from p) (x := u) (by simpa using hu) fun h' st' sb => ?_
    have I1 : Inv X pins σ H { s with heap := h' } := I.turned (t' := s.toks) (fun b o hb e => (sb.2 b hb).trans e) f0 f1 f3 f4 f5
    obtain ⟨o, e, c, d⟩ := id st'
    exact ⟨u, rfl, go_of (s := { s with heap := h' }) e c d (by decide) ⟨x, H, I1, ru, ⟨rfl, fun ys hy => by rw [I.tuple_inj hy hq]; exact hx⟩, st', fun b hb => (hf b hb).1⟩⟩
  done := by
    intro X hP hw hK hc i pins s σ H E I hf st hg
    subst hP hw hK
    obtain ⟨xs, hq, hx⟩ := hg
    obtain ⟨its, rv, p, hz⟩ := I.tuple hq
    obtain ⟨f0, f1, f2, f3, f4, f5⟩ := hf it (by simp)
    have hl := rv.length
    exact wpAny_pyNext_tuple_end (I.ok.hd hc) st (show s.heap.IsTuple a its.toArray from p) (by simp; omega) fun h' eb => ⟨rfl, I.turned (t' := s.toks) (fun b o hb e => eb b o hb e) f0 f1 f3 f4 f5⟩
  self := fun _ _ _ _ _ st h => wpAny_pyIter_tupleiter st h
theorem turn_range {P : Program} {w : World} {K : PySem.W.Frag} {tg : Expr} (it : Addr) (lo : Int) (n : Nat) : Turn P w K tg (Itr lo n) [it] it (fun i h => IsRangeIter h it (lo + (i : Nat) * 1) ((n : Int) - (i : Nat)) 1) where
  mem := by simp
  obj := fun i h st b hb => by
    have e : b = it := by simpa using hb
    subst e
    exact ⟨_, st, fun v z => by
      have z' : Data.fields _ = Data.cell v := z
      cases z'⟩
  keep := fun i h h' st k => k it (by simp) _ st
  item := by
    intro X hP hw hK hc i pins s σ H E I hf st hg
    subst hP hw hK
    obtain ⟨f0, f1, f2, f3, f4, f5⟩ := hf it (by simp)
    have W := Walks.range (prog := X.prog) (w := X.w) (I.ok.hd hc) it lo 1 n
    refine W.item i s _ _ hg st fun v h' tk hv st' kk => ?_
    obtain ⟨t, rfl⟩ := hv
    have I1 : Inv X pins σ H { s with heap := h', toks := tk } := I.turned (fun b o hb e => kk b o (by simpa using hb) e) f0 f1 f3 f4 f5
    refine ⟨_, rfl, go_of (s := { s with heap := h', toks := tk }) (n := "range_iterator") st' rfl rfl (by decide) ⟨.int (lo + i), H, I1, ⟨t, ?_⟩, ⟨rfl, rfl⟩, st', fun b hb => (hf b hb).1⟩⟩
    rw [Int.mul_one]
  done := by
    intro X hP hw hK hc i pins s σ H E I hf st hg
    subst hP hw hK
    obtain ⟨f0, f1, f2, f3, f4, f5⟩ := hf it (by simp)
    exact wpAny_pyNext_range_end (I.ok.hd hc) st (by have : n ≤ i := hg; omega) fun h' eb => ⟨rfl, I.turned (t' := s.toks) (fun b o hb e => eb b o hb e) f0 f1 f3 f4 f5⟩
  self := fun _ _ _ _ _ st h => wpAny_pyIter_rangeiter st h
end L2
namespace L2
open PySem PySem.Spec PyProof.Rows
section
variable {X : Cx} {tg : Expr}
theorem range_it {pins : List (Addr × Obj)} {σ : St} {H : Hp} {s : Shared} {R : It → Hp → Prop} {E : Value → Shared → Prop} {lo hi : Int} {t u v : Tok} {tk : Nat} (I : Inv X pins σ H s) (h1 : -(2 ^ 62) ≤ lo) (h2 : lo < 2 ^ 62) (h3 : -(2 ^ 62) ≤ hi) (h4 : hi < 2 ^ 62)
    (q : R (Itr lo (hi - lo).toNat) H) : wpAny (model X.prog X.w) X.A (pyIter (.ref s.heap.objs.size)) (PIE X pins σ tg R) E { s with heap := s.heap.push { cls := .type "range", data := .fields #[.int lo t, .int hi u, .int 1 v] }, toks := tk } := by
  refine wpAny_pyIter_range (IsRange.new ..) (small_one h1 h2 h3 h4) ?_
  have I1 : Inv X pins σ H { s with heap := s.heap.push { cls := .type "range", data := .fields #[.int lo t, .int hi u, .int 1 v] }, toks := tk } := I.kept fun b o e => Heap.get?_push_of_some _ e
  refine ⟨(s.heap.push { cls := .type "range", data := .fields #[.int lo t, .int hi u, .int 1 v] }).objs.size, [(s.heap.push { cls := .type "range", data := .fields #[.int lo t, .int hi u, .int 1 v] }).objs.size], _, _, H, rfl,
    I1.kept (t' := tk) fun b o e => Heap.get?_push_of_some _ e, turn_range _ lo (hi - lo).toNat, ?_, fun b hb => ?_, q⟩
  · have e1 : lo + ((0 : Nat) : Int) * 1 = lo := by simp
    have e2 : (((hi - lo).toNat : Nat) : Int) - ((0 : Nat) : Int) = Builtin.Range.rangeSize lo hi 1 := by rw [rangeSize_one]; split <;> omega
    show IsRangeIter _ _ (lo + ((0 : Nat) : Int) * 1) ((((hi - lo).toNat : Nat) : Int) - ((0 : Nat) : Int)) 1
    rw [e1, e2]
    exact Heap.get?_push_size _ rfl
  · have e : b = (s.heap.push { cls := .type "range", data := .fields #[.int lo t, .int hi u, .int 1 v] }).objs.size := by simpa using hb
    subst e
    exact I1.fpOk (Nat.le_refl _) (I1.hok.fresh (Nat.le_refl _))
def iRng1 (ta : TA) : TI := fun σ H R => ta σ H fun vs H1 => ∃ j : Int, vs = [.int j] ∧ -(2 ^ 62) ≤ j ∧ j < 2 ^ 62 ∧ R (Itr 0 j.toNat) H1
def iRng2 (ta : TA) : TI := fun σ H R => ta σ H fun vs H1 => ∃ i j : Int, vs = [.int i, .int j] ∧ (-(2 ^ 62) ≤ i ∧ i < 2 ^ 62 ∧ -(2 ^ 62) ≤ j ∧ j < 2 ^ 62) ∧ R (Itr i (j - i).toNat) H1
theorem pi_range1 {a : Expr} {ta : TA} {p pos : Pos} (hg : Gl X "range") (hm : X.mg "range" = none) (ha : PA X [a] ta) (hs : starEach [a] X.env = [(false, eval a X.env)] := by rfl) : PI X tg (.Call (.Name "range" p) [a] [] pos) (iRng1 ta) := by
  intro pins s σ H R I h
  refine Call_ (ld_blt I hg hm boot_range (PyProof.Rows.callWith_type1 (thn (ha pos pins s σ H _ I h) fun us s1 ⟨vs, H1, I1, r1, q1⟩ => ?_) hs rfl))
  obtain ⟨j, e, q1, q2, q⟩ := q1
  subst e
  cases r1 with
  | cons r rr =>
    cases rr
    obtain ⟨t, rfl⟩ := r
    exact call_range_1 (range_it I1 (by omega) (by omega) q1 q2 (by simpa using q))
theorem pi_range2 {a b : Expr} {ta : TA} {p pos : Pos} (hg : Gl X "range") (hm : X.mg "range" = none) (ha : PA X [a, b] ta) (hs : starEach [a, b] X.env = [(false, eval a X.env), (false, eval b X.env)] := by rfl) (hs2 : starEach [b] X.env = [(false, eval b X.env)] := by rfl) :
    PI X tg (.Call (.Name "range" p) [a, b] [] pos) (iRng2 ta) := by
  intro pins s σ H R I h
  refine Call_ (ld_blt I hg hm boot_range (PyProof.Rows.callWith_type1 (thn (ha pos pins s σ H _ I h) fun us s1 ⟨vs, H1, I1, r1, q1⟩ => ?_) (by rw [hs, hs2]) (by rw [hs2]; rfl)))
  obtain ⟨i, j, e, ⟨q1, q2, q3, q4⟩, q⟩ := q1
  subst e
  cases r1 with
  | cons r rr =>
    cases rr with
    | cons r' rr =>
      cases rr
      obtain ⟨t, rfl⟩ := r
      obtain ⟨t', rfl⟩ := r'
      exact call_range_2 (range_it I1 q1 q2 q3 q4 q)
def tFor (wi : TI) (g : TG) (tb : TS) : TS := fun D σ H => wi σ H fun J H1 => ∃ W : Nat → Nat → St → Hp → Prop, (∃ m, W 0 m σ H1) ∧ ∀ i m σ H, W i m σ H →
  (J.stop i H ∧ D.nx σ H) ∨ (J.go i H ∧ ∃ N : St → Hp → Prop, (∀ σ' H', N σ' H' → ∃ m', m' < m ∧ W (i + 1) m' σ' H') ∧ ∀ x H', J.yld i H x H' → g x σ H' fun σ2 H2 => tb { D with nx := N, ct := N, bk := D.nx } σ2 H2)
def pinsAt (fp : List Addr) (h : Heap) : List (Addr × Obj) := fp.filterMap fun b => (h.get? b).map fun o => (b, o)
theorem mem_pinsAt {fp : List Addr} {h : Heap} {b : Addr} {o : Obj} (hb : b ∈ fp) (e : h.get? b = some o) : (b, o) ∈ pinsAt fp h := List.mem_filterMap.mpr ⟨b, hb, by rw [e]; rfl⟩
theorem of_pinsAt {fp : List Addr} {h : Heap} {p : Addr × Obj} (hp : p ∈ pinsAt fp h) : p.1 ∈ fp ∧ h.get? p.1 = some p.2 := by
  obtain ⟨b, hb, e⟩ := List.mem_filterMap.mp hp
  cases q : h.get? b with
  | none => rw [q] at e; cases e
  | some o =>
    rw [q] at e
    have e' : (b, o) = p := Option.some.inj e
    subst e'
    exact ⟨hb, q⟩
theorem Inv.pinned {pins : List (Addr × Obj)} {σ : St} {H : Hp} {s : Shared} {fp : List Addr} (I : Inv X pins σ H s) (hf : ∀ b ∈ fp, FpOk X pins H b) (ho : ∀ b ∈ fp, ∃ o, s.heap.get? b = some o ∧ ∀ v, o.data ≠ .cell v) : Inv X (pins ++ pinsAt fp s.heap) σ H s :=
  I.pins_of fun p hp => (List.mem_append.mp hp).elim (fun z => I.pin p (List.mem_append_right _ z)) fun z => by
    obtain ⟨hb, e⟩ := of_pinsAt z
    obtain ⟨f0, f1, f2, _⟩ := hf p.1 hb
    obtain ⟨o, e', d⟩ := ho p.1 hb
    rw [e] at e'; cases e'
    exact ⟨e, f0, f1, f2, d⟩
theorem Inv.unpinned {pins pl : List (Addr × Obj)} {σ : St} {H : Hp} {s : Shared} (I : Inv X (pins ++ pl) σ H s) : Inv X pins σ H s := I.pins_of fun p hp => I.pin p (List.mem_append_right _ (List.mem_append_left _ hp))
theorem ps_for {iter : Expr} {body : List Stmt} {wi : TI} {g : TG} {tb : TS} {pos : Pos} (hp : PassesOwn (model X.prog X.w) X.A X.env X.xe) (hc : X.calm = true) (hi : PI X tg iter wi) (hg : PG X tg g) (hb : PSs X body tb)
    (hs : ∀ x, foldedSetIterable iter X.env x = pure x := by intro _; rfl) : PS X (.For tg iter body [] pos) (tFor wi g tb) := by
  intro pins s σ H D I h
  refine wpAny_For (thn (hi pins s σ H _ I h) fun v s1 h1 => thn h1 fun itv s2 h2 => ?_) hs
  obtain ⟨it, fp, tn, J, H2, e, I2, T, st2, f2, W, ⟨m0, w0⟩, turn⟩ := h2
  subst e
  -- what stays true of the iterator's objects through the loop
  have stat : ∀ {H' : Hp}, (∀ b ∈ fp, H' b = none) → ∀ b ∈ fp, FpOk X pins H' b := fun hn b hb => ⟨hn b hb, (f2 b hb).2⟩
  refine codeAny_forLoop_any (fun n s' => ∃ i σ' H', Inv X pins σ' H' s' ∧ tn i s'.heap ∧ (∀ b ∈ fp, H' b = none) ∧ W i n σ' H') ?_ m0 ⟨0, σ, H2, I2, st2, fun b hb => (f2 b hb).1, w0⟩
  rintro n s3 ⟨i, σ3, H3, I3, st3, fr3, w3⟩
  rcases turn i n σ3 H3 w3 with ⟨stop, qn⟩ | ⟨go, N, hN, step⟩
  · refine wpAny_passesOwn hp (thn (T.done X rfl rfl rfl hc i pins s3 σ3 H3 X.xe I3 (stat fr3) st3 stop) fun r s4 ⟨hr, I4⟩ => ?_)
    subst hr
    exact wpAny_execs_nil ⟨σ3, H3, I4, qn⟩
  · refine wpAny_passesOwn hp (thn (T.item X rfl rfl rfl hc i pins s3 σ3 H3 X.xe I3 (stat fr3) st3 go) fun r s4 ⟨u, hr, h4⟩ => ?_)
    subst hr
    refine wpAny_passesOwn hp (thn h4 fun _ s5 ⟨x, H5, I5, r5, y5, st5, fr5⟩ => ?_)
    have I5' := I5.pinned (stat fr5) (T.obj _ _ st5)
    refine wpAny_passesOwn hp (thn (hg _ s5 σ3 H5 x u _ I5' r5 (step x H5 y5)) fun _ s6 ⟨σ6, H6, I6, q6⟩ => ?_)
    refine wpAny_passesOwn hp (thn (hb _ s6 σ6 H6 _ I6 q6) fun f s7 q7 => ?_)
    have again : ∀ {σ7 : St} {H7 : Hp}, Inv X (pins ++ pinsAt fp s5.heap) σ7 H7 s7 → N σ7 H7 → ∃ m, m < n ∧ ∃ i σ' H', Inv X pins σ' H' s7 ∧ tn i s7.heap ∧ (∀ b ∈ fp, H' b = none) ∧ W i m σ' H' := fun {σ7 H7} I7 n7 => by
      obtain ⟨m', hm, w7⟩ := hN σ7 H7 n7
      refine ⟨m', hm, i + 1, σ7, H7, I7.unpinned, T.keep _ _ _ st5 fun b hb o e => (I7.pin (b, o) (List.mem_append_right _ (List.mem_append_right _ (mem_pinsAt hb e)))).1, fun b hb => ?_, w7⟩
      obtain ⟨o, e, d⟩ := T.obj _ _ st5 b hb
      exact (I7.pin (b, o) (List.mem_append_right _ (List.mem_append_right _ (mem_pinsAt hb e)))).2.1
    cases f with
    | next => obtain ⟨σ7, H7, I7, n7⟩ := q7; exact again I7 n7
    | cont => obtain ⟨σ7, H7, I7, n7⟩ := q7; exact again I7 n7
    | brk => obtain ⟨σ7, H7, I7, q7⟩ := q7; exact ⟨σ7, H7, I7.unpinned, q7⟩
    | ret v => obtain ⟨x7, σ7, H7, I7, r7, q7⟩ := q7; exact ⟨x7, σ7, H7, I7.unpinned, r7, q7⟩
end
end L2
namespace L2
open PySem PySem.Spec PyProof.Rows
abbrev R2 := V → V → Hp → VK → Prop
def OpR (X : Cx) (f : Value → Value → Sem Value) (r : R2) : Prop :=
  ∀ (pins : List (Addr × Obj)) (s : Shared) (σ : St) (H : Hp) (x y : V) (v u : Value) (Q : VK), Inv X pins σ H s → RelV x v → RelV y u → r x y H Q →
    wpAny (model X.prog X.w) X.A (f v u) (EP X pins σ Q) X.xe s
def CallR (X : Cx) (f : Value) (r : List V → Hp → VK → Prop) : Prop :=
  ∀ (pins : List (Addr × Obj)) (s : Shared) (σ : St) (H : Hp) (xs : List V) (us : List Value) (Q : VK), Inv X pins σ H s → Vals xs us → r xs H Q →
    wpAny (model X.prog X.w) X.A (call f us) (EP X pins σ Q) X.xe s
def TruR (X : Cx) (r : V → Hp → (Bool → Hp → Prop) → Prop) : Prop :=
  ∀ (pins : List (Addr × Obj)) (s : Shared) (σ : St) (H : Hp) (x : V) (v : Value) (Q : Bool → Hp → Prop), Inv X pins σ H s → RelV x v → r x H Q →
    wpAny (model X.prog X.w) X.A (truthy v) (TP X pins σ Q) X.xe s
def tOp (r : R2) (ta tb : TE) : TE := fun σ H Q => ta σ H fun x H1 => tb σ H1 fun y H2 => r x y H2 Q
def rI (C : Int → Int → Prop) (g : Int → Int → V) : R2 := fun x y H Q => ∃ i j, x = .int i ∧ y = .int j ∧ C i j ∧ Q (g i j) H
def rI0 (g : Int → Int → V) : R2 := fun x y H Q => ∃ i j, x = .int i ∧ y = .int j ∧ Q (g i j) H
section
variable {X : Cx} {a b c : Expr} {ta tb tc : TE} {pos : Pos}
theorem binT (ha : PE X a ta) (hb : PE X b tb) {pins : List (Addr × Obj)} {s : Shared} {σ : St} {H : Hp} {R : V → V → Hp → Prop} (I : Inv X pins σ H s)
    (h : ta σ H fun x H1 => tb σ H1 fun y H2 => R x y H2) {Q : Value → Shared → Prop} {f : Value → Value → Sem Value}
    (hf : ∀ v u s2 x y H2, Inv X pins σ H2 s2 → RelV x v → RelV y u → R x y H2 → wpAny (model X.prog X.w) X.A (f v u) Q X.xe s2) :
    wpAny (model X.prog X.w) X.A (eval a X.env) (fun v s₁ => wpAny (model X.prog X.w) X.A (eval b X.env) (fun u s₂ => wpAny (model X.prog X.w) X.A (f v u) Q X.xe s₂) X.xe s₁) X.xe s := by
  refine thn (ha pins s σ H _ I h) fun v s1 ⟨x, H1, I1, r1, q1⟩ => ?_
  refine thn (hb pins s1 σ H1 _ I1 q1) fun u s2 ⟨y, H2, I2, r2, q2⟩ => ?_
  exact hf v u s2 x y H2 I2 r1 r2 q2
theorem pe_op {op : Operator} {r : R2} (ho : OpR X (binaryOp op) r) (ha : PE X a ta) (hb : PE X b tb) : PE X (.BinOp a op b pos) (tOp r ta tb) := by
  intro pins s σ H Q I h
  exact wpAny_BinOp (binT ha hb I h fun v u s2 x y H2 I2 rx ry q => ho pins s2 σ H2 x y v u Q I2 rx ry q)
theorem opI {f : Value → Value → Sem Value} {C : Int → Int → Prop} {g : Int → Int → Int}
    (rule : ∀ (i j : Int) (t u : Tok) (s : Shared) (Q : Value → Shared → Prop) (E : Value → Shared → Prop), C i j → Q (.int (g i j) s.toks) { s with toks := s.toks + 1 } → wpAny (model X.prog X.w) X.A (f (.int i t) (.int j u)) Q E s) :
    OpR X f (rI C fun i j => .int (g i j)) := by
  intro pins s σ H x y v u Q I rx ry h
  obtain ⟨i, j, rfl, rfl, hc, q⟩ := h
  obtain ⟨t, rfl⟩ := rx
  obtain ⟨t', rfl⟩ := ry
  exact rule i j t t' s _ _ hc ⟨.int (g i j), H, I.tok _, ⟨_, rfl⟩, q⟩
theorem opI0 {f : Value → Value → Sem Value} {g : Int → Int → Int}
    (rule : ∀ (i j : Int) (t u : Tok) (s : Shared) (Q : Value → Shared → Prop) (E : Value → Shared → Prop), Q (.int (g i j) s.toks) { s with toks := s.toks + 1 } → wpAny (model X.prog X.w) X.A (f (.int i t) (.int j u)) Q E s) :
    OpR X f (rI0 fun i j => .int (g i j)) := by
  intro pins s σ H x y v u Q I rx ry h
  obtain ⟨i, j, rfl, rfl, q⟩ := h
  obtain ⟨t, rfl⟩ := rx
  obtain ⟨t', rfl⟩ := ry
  exact rule i j t t' s _ _ ⟨.int (g i j), H, I.tok _, ⟨_, rfl⟩, q⟩
theorem opB0 {f : Value → Value → Sem Value} {g : Int → Int → Bool}
    (rule : ∀ (i j : Int) (t u : Tok) (s : Shared) (Q : Value → Shared → Prop) (E : Value → Shared → Prop), Q (.bool (g i j)) s → wpAny (model X.prog X.w) X.A (f (.int i t) (.int j u)) Q E s) :
    OpR X f (rI0 fun i j => .bl (g i j)) := by
  intro pins s σ H x y v u Q I rx ry h
  obtain ⟨i, j, rfl, rfl, q⟩ := h
  obtain ⟨t, rfl⟩ := rx
  obtain ⟨t', rfl⟩ := ry
  exact rule i j t t' s _ _ ⟨.bl (g i j), H, I, rfl, q⟩
def CPow (i j : Int) : Prop := 0 ≤ j ∧ j ≤ 1000000 ∧ i.natAbs < 2 ^ 64
def CMul (i j : Int) : Prop := (-(2 ^ 64) < i ∧ i < 2 ^ 64) ∨ (-(2 ^ 64) < j ∧ j < 2 ^ 64)
theorem CMul.ok {i j : Int} (h : CMul i j) : IntMulOk i j := by
  rcases h with ⟨h1, h2⟩ | ⟨h1, h2⟩
  · exact .of_left (intBits_le_64 h1 h2)
  · exact .of_right (intBits_le_64 h1 h2)
theorem two_pow_nn (k : Nat) : (0 : Int) ≤ 2 ^ k := by
  rw [two_pow_cast]
  exact Int.natCast_nonneg _
theorem op_add : OpR X (binaryOp .Add) (rI0 fun i j => .int (i + j)) := opI0 fun _ _ _ _ _ _ _ q => add_int q
theorem op_sub : OpR X (binaryOp .Sub) (rI0 fun i j => .int (i - j)) := opI0 fun _ _ _ _ _ _ _ q => sub_int q
theorem op_mul : OpR X (binaryOp .Mult) (rI CMul fun i j => .int (i * j)) := opI fun _ _ _ _ _ _ _ hc q => mul_int q hc.ok
theorem op_mod : OpR X (binaryOp .Mod) (rI (fun _ j => 0 < j) fun i j => .int (i % j)) := opI fun i j _ _ _ _ _ hc q => by
  have h1 : (0 : Int) < j := hc
  exact mod_int' (by omega) (by rw [Int.fmod_eq_emod_of_nonneg i (by omega)]; exact q)
theorem op_pow : OpR X (binaryOp .Pow) (rI CPow fun i j => .int (i ^ j.toNat)) := opI fun _ _ _ _ _ _ _ hc q => pow_int_small hc.1 hc.2.1 hc.2.2 q
theorem op_shr : OpR X (binaryOp .RShift) (rI (fun _ j => 0 ≤ j) fun i j => .int (i / 2 ^ j.toNat)) := opI fun i j _ _ _ _ _ hc q =>
  rshift_int hc (by rw [Int.fdiv_eq_ediv_of_nonneg i (two_pow_nn _)]; exact q)
theorem op_and : OpR X (binaryOp .BitAnd) (rI0 fun i j => .int (Builtin.bitAnd i j)) := opI0 fun _ _ _ _ _ _ _ q => and_int q
end
def scal : V → V → Bool
  | .non, .non => true | .non, .int _ => true | .int _, .non => true | .non, .bl _ => true | .bl _, .non => true | .non, .str _ => true | .str _, .non => true
  | .int _, .int _ => true | .bl _, .bl _ => true | .str _, .str _ => true | .byt _, .byt _ => true
  | .int _, .str _ => true | .str _, .int _ => true | .bl _, .str _ => true | .str _, .bl _ => true
  | _, _ => false
def rEq : R2 := fun x y H Q => scal x y = true ∧ Q (.bl (decide (x = y))) H
def rNe : R2 := fun x y H Q => scal x y = true ∧ Q (.bl (!decide (x = y))) H
theorem dec_int {i j : Int} : decide (V.int i = V.int j) = (i == j) := by
  rw [Bool.eq_iff_iff]
  simp
theorem dec_bl {i j : Bool} : decide (V.bl i = V.bl j) = (i == j) := by
  rw [Bool.eq_iff_iff]
  simp
theorem dec_str {i j : Str} : decide (V.str i = V.str j) = (i == j) := by
  rw [Bool.eq_iff_iff]
  simp
theorem dec_byt {i j : Array UInt8} : decide (V.byt i = V.byt j) = (i.toList == j.toList) := by
  rw [Bool.eq_iff_iff]
  cases i
  cases j
  simp
section
variable {X : Cx} {a b c : Expr} {ta tb tc : TE} {pos : Pos}
theorem fin_bl {pins : List (Addr × Obj)} {σ : St} {H : Hp} {s : Shared} {Q : VK} {k k' : Bool} (I : Inv X pins σ H s) (q : Q (.bl k) H) (e : k = k') : EP X pins σ Q (.bool k') s := by
  subst e
  exact ⟨.bl k, H, I, rfl, q⟩
theorem op_eq : OpR X (compareOp .Eq) rEq := by
  intro pins s σ H x y v u Q I rx ry h
  obtain ⟨hs, q⟩ := h
  cases x with
  | non =>
    cases rx
    cases y with
    | non => cases ry; exact PySem.EqNone.eq_none_none (fin_bl I q (by simp))
    | bl j => cases ry; exact PySem.EqNone.eq_none_bool (fin_bl I q (by simp))
    | int j => obtain ⟨t', rfl⟩ := ry; exact PySem.EqNone.eq_none_int (fin_bl I q (by simp))
    | str j => obtain ⟨t', rfl⟩ := ry; exact PySem.EqNone.eq_none_str (fin_bl I q (by simp))
    | _ => exact absurd (show false = true from hs) Bool.false_ne_true
  | bl i =>
    cases rx
    cases y with
    | non => cases ry; exact PySem.EqNone.eq_bool_none (fin_bl I q (by simp))
    | bl j => cases ry; exact eq_bool (fin_bl I q dec_bl)
    | str j => obtain ⟨t', rfl⟩ := ry; exact PySem.EqMixed.eq_bool_str (fin_bl I q (by simp))
    | _ => exact absurd (show false = true from hs) Bool.false_ne_true
  | int i =>
    obtain ⟨t, rfl⟩ := rx
    cases y with
    | non => cases ry; exact PySem.EqNone.eq_int_none (fin_bl I q (by simp))
    | int j => obtain ⟨t', rfl⟩ := ry; exact eq_int (fin_bl I q dec_int)
    | str j => obtain ⟨t', rfl⟩ := ry; exact PySem.EqMixed.eq_int_str (fin_bl I q (by simp))
    | _ => exact absurd (show false = true from hs) Bool.false_ne_true
  | str i =>
    obtain ⟨t, rfl⟩ := rx
    cases y with
    | non => cases ry; exact PySem.EqNone.eq_str_none (fin_bl I q (by simp))
    | bl j => cases ry; exact PySem.EqMixed.eq_str_bool (fin_bl I q (by simp))
    | int j => obtain ⟨t', rfl⟩ := ry; exact PySem.EqMixed.eq_str_int (fin_bl I q (by simp))
    | str j => obtain ⟨t', rfl⟩ := ry; exact eq_str (fin_bl I q dec_str)
    | _ => exact absurd (show false = true from hs) Bool.false_ne_true
  | byt i =>
    obtain ⟨t, rfl⟩ := rx
    cases y with
    | byt j => obtain ⟨t', rfl⟩ := ry; exact PySem.W.eq_bytes (fin_bl I q dec_byt)
    | _ => exact absurd (show false = true from hs) Bool.false_ne_true
  | _ => cases y <;> exact absurd (show false = true from hs) Bool.false_ne_true
theorem op_ne : OpR X (compareOp .NotEq) rNe := by
  intro pins s σ H x y v u Q I rx ry h
  obtain ⟨hs, q⟩ := h
  cases x with
  | non =>
    cases rx
    cases y with
    | non => cases ry; exact PySem.EqNone.ne_none_none (fin_bl I q (by simp))
    | bl j => cases ry; exact PySem.EqNone.ne_none_bool (fin_bl I q (by simp))
    | int j => obtain ⟨t', rfl⟩ := ry; exact PySem.EqNone.ne_none_int (fin_bl I q (by simp))
    | str j => obtain ⟨t', rfl⟩ := ry; exact PySem.EqNone.ne_none_str (fin_bl I q (by simp))
    | _ => exact absurd (show false = true from hs) Bool.false_ne_true
  | bl i =>
    cases rx
    cases y with
    | non => cases ry; exact PySem.EqNone.ne_bool_none (fin_bl I q (by simp))
    | bl j => cases ry; exact ne_bool (fin_bl I q (congrArg not dec_bl))
    | str j => obtain ⟨t', rfl⟩ := ry; exact PySem.EqMixed.ne_bool_str (fin_bl I q (by simp))
    | _ => exact absurd (show false = true from hs) Bool.false_ne_true
  | int i =>
    obtain ⟨t, rfl⟩ := rx
    cases y with
    | non => cases ry; exact PySem.EqNone.ne_int_none (fin_bl I q (by simp))
    | int j => obtain ⟨t', rfl⟩ := ry; exact ne_int (fin_bl I q (congrArg not dec_int))
    | str j => obtain ⟨t', rfl⟩ := ry; exact PySem.EqMixed.ne_int_str (fin_bl I q (by simp))
    | _ => exact absurd (show false = true from hs) Bool.false_ne_true
  | str i =>
    obtain ⟨t, rfl⟩ := rx
    cases y with
    | non => cases ry; exact PySem.EqNone.ne_str_none (fin_bl I q (by simp))
    | bl j => cases ry; exact PySem.EqMixed.ne_str_bool (fin_bl I q (by simp))
    | int j => obtain ⟨t', rfl⟩ := ry; exact PySem.EqMixed.ne_str_int (fin_bl I q (by simp))
    | str j => obtain ⟨t', rfl⟩ := ry; exact ne_str (fin_bl I q (congrArg not dec_str))
    | _ => exact absurd (show false = true from hs) Bool.false_ne_true
  | byt i =>
    obtain ⟨t, rfl⟩ := rx
    cases y with
    | byt j => obtain ⟨t', rfl⟩ := ry; exact PySem.W.ne_bytes (fin_bl I q (congrArg not dec_byt))
    | _ => exact absurd (show false = true from hs) Bool.false_ne_true
  | _ => cases y <;> exact absurd (show false = true from hs) Bool.false_ne_true
theorem op_lt : OpR X (compareOp .Lt) (rI0 fun i j => .bl (decide (i < j))) := opB0 fun _ _ _ _ _ _ _ q => lt_int q
theorem op_le : OpR X (compareOp .LtE) (rI0 fun i j => .bl (decide (i ≤ j))) := opB0 fun _ _ _ _ _ _ _ q => le_int q
theorem op_gt : OpR X (compareOp .Gt) (rI0 fun i j => .bl (decide (j < i))) := opB0 fun _ _ _ _ _ _ _ q => gt_int q
theorem op_ge : OpR X (compareOp .GtE) (rI0 fun i j => .bl (decide (j ≤ i))) := opB0 fun _ _ _ _ _ _ _ q => ge_int q
theorem op_lt_str : OpR X (compareOp .Lt) (fun x y H Q => ∃ i j, x = .str i ∧ y = .str j ∧ Q (.bl (decide (i.cps.toList < j.cps.toList))) H) := by
  intro pins s σ H x y v u Q I rx ry h
  obtain ⟨i, j, rfl, rfl, q⟩ := h
  obtain ⟨t, rfl⟩ := rx
  obtain ⟨t', rfl⟩ := ry
  exact lt_str (fin_bl I q rfl)
theorem op_in_str : OpR X (compareOp .In) (fun x y H Q => ∃ i j, x = .str i ∧ y = .str j ∧ Q (.bl (!(Builtin.Str.occurrences j i 0 j.length 1).isEmpty)) H) := by
  intro pins s σ H x y v u Q I rx ry h
  obtain ⟨i, j, rfl, rfl, q⟩ := h
  obtain ⟨t, rfl⟩ := rx
  obtain ⟨t', rfl⟩ := ry
  exact in_str (fin_bl I q rfl)
theorem op_notin_str : OpR X (compareOp .NotIn) (fun x y H Q => ∃ i j, x = .str i ∧ y = .str j ∧ Q (.bl (!(!(Builtin.Str.occurrences j i 0 j.length 1).isEmpty))) H) := by
  intro pins s σ H x y v u Q I rx ry h
  obtain ⟨i, j, rfl, rfl, q⟩ := h
  obtain ⟨t, rfl⟩ := rx
  obtain ⟨t', rfl⟩ := ry
  exact notIn_str (fin_bl I q rfl)
theorem nomark (b : Expr) {op : CmpOp} (h : op ≠ .In := by decide) (h2 : op ≠ .NotIn := by decide) : behindInMarks op b = false := by
  have e1 : (op == CmpOp.In) = false := by cases op <;> first | rfl | exact absurd rfl h
  have e2 : (op == CmpOp.NotIn) = false := by cases op <;> first | rfl | exact absurd rfl h2
  cases b <;> simp [behindInMarks, e1, e2]
theorem pe_cmpR {op : CmpOp} {r : R2} (ho : OpR X (compareOp op) r) (ha : PE X a ta) (hb : PE X b tb) (hm : behindInMarks op b = false) : PE X (.Compare a [op] [b] pos) (tOp r ta tb) := by
  intro pins s σ H Q I h
  exact wpAny_Compare1 (binT ha hb I h fun v u s2 x y H2 I2 rx ry q => ho pins s2 σ H2 x y v u Q I2 rx ry q) hm
def tTest (t : TE) : TT := fun σ H Q => t σ H fun x H' => ∃ k, x = .bl k ∧ Q k H'
theorem pt_cmpR {op : CmpOp} {r : R2} (ho : OpR X (compareOp op) r) (ha : PE X a ta) (hb : PE X b tb) (hm : behindInMarks op b = false) : PT X (.Compare a [op] [b] pos) (tTest (tOp r ta tb)) := by
  intro pins s σ H Q I h
  refine wpAny_isTrue_Compare1 (thn (ha pins s σ H _ I h) fun v s1 ⟨x, H1, I1, r1, q1⟩ => thn (hb pins s1 σ H1 _ I1 q1) fun u s2 ⟨y, H2, I2, r2, q2⟩ =>
    thn (ho pins s2 σ H2 x y v u _ I2 r1 r2 q2) fun c s3 ⟨z, H3, I3, r3, k, e, q3⟩ => ?_) hm
  subst e
  cases r3
  exact wpAny_truthy_bool ⟨H3, I3, q3⟩
def tChain (r r' : R2) (ta tb tc : TE) : TE := fun σ H Q => ta σ H fun x H1 => tb σ H1 fun y H2 => r x y H2 fun z H3 => ∃ k, z = .bl k ∧
  (if k = true then tc σ H3 fun w' H4 => r' y w' H4 Q else Q (.bl false) H3)
theorem pt_chain {op op' : CmpOp} {r r' : R2} (ho : OpR X (compareOp op) r) (ho' : OpR X (compareOp op') r') (ha : PE X a ta) (hb : PE X b tb) (hc : PE X c tc)
    (hm : lastMarks [op, op'] [b, c] = false := by with_unfolding_all rfl) : PT X (.Compare a [op, op'] [b, c] pos) (tTest (tChain r r' ta tb tc)) := by
  intro pins s σ H Q I h
  refine isTrue_chain (thn (ha pins s σ H _ I h) fun v s1 ⟨x, H1, I1, r1, q1⟩ => test_link (thn (hb pins s1 σ H1 _ I1 q1) fun u s2 ⟨y, H2, I2, r2, q2⟩ =>
    thn (ho pins s2 σ H2 x y v u _ I2 r1 r2 q2) fun d s3 ⟨z, H3, I3, r3, k, e, q3⟩ => ?_)) hm
  subst e
  cases r3
  refine wpAny_truthy_bool ?_
  cases k with
  | false =>
    obtain ⟨k', e', q'⟩ := q3
    cases e'
    exact ite_ff ⟨H3, I3, q'⟩
  | true =>
    refine ite_tt (test_last (thn (hc pins s3 σ H3 _ I3 q3) fun w' s4 ⟨z', H4, I4, r4, q4⟩ => thn (ho' pins s4 σ H4 y z' u w' _ I4 r2 r4 q4) fun d' s5 ⟨z2, H5, I5, r5, k2, e2, q5⟩ => ?_))
    subst e2
    cases r5
    exact wpAny_truthy_bool ⟨H5, I5, q5⟩
def TruV (K : PySem.W.Frag) (x : V) (H : Hp) (k : Bool) : Prop :=
  match x with
  | .non => k = false
  | .bl b => k = b
  | .int i => k = (i != 0)
  | .str y => y.length ≤ sizeLine ∧ k = ((y.length : Int) != 0)
  | .byt y => y.size ≤ sizeLine ∧ k = ((y.size : Int) != 0)
  | .ref p => (∃ xs, SqL K H p xs ∧ k = !xs.isEmpty) ∨ (∃ xs, SqT K H p xs ∧ k = !xs.isEmpty) ∨ ∃ kvs, H p = some (.dK kvs) ∧ k = !kvs.isEmpty
  | _ => False
theorem isEmpty_kv {κ : Type} {kvs : List (κ × V)} {vs : List (κ × Value)} (r : KV kvs vs) : (!vs.isEmpty) = !kvs.isEmpty := by
  cases r <;> rfl
theorem isEmpty_of {xs : List V} {its : List Value} (r : Vals xs its) : (!its.toArray.isEmpty) = !xs.isEmpty := by
  cases r <;> simp
theorem line63 : (sizeLine : Nat) < 2 ^ 63 := by rw [sizeLine_eq]; decide
theorem tru_ok : TruR X (fun x H Q => ∃ k, TruV X.K x H k ∧ Q k H) := by
  intro pins s σ H x v Q I rx h
  obtain ⟨k, e, q⟩ := h
  have hl := line63
  have hs : sizeLine = 16777216 := sizeLine_eq
  cases x with
  | non =>
    cases rx
    have e' : k = false := e
    subst e'
    exact truthy_none ⟨H, I, q⟩
  | bl b =>
    cases rx
    have e' : k = b := e
    subst e'
    exact wpAny_truthy_bool ⟨H, I, q⟩
  | int i =>
    obtain ⟨t, rfl⟩ := rx
    have e' : k = (i != 0) := e
    subst e'
    exact PySem.P.truthy_int ⟨H, I, q⟩
  | str y =>
    obtain ⟨t, rfl⟩ := rx
    obtain ⟨hy, e'⟩ : y.length ≤ sizeLine ∧ k = ((y.length : Int) != 0) := e
    subst e'
    exact PySem.P.truthy_str (by omega) ⟨H, I.tok _, q⟩
  | byt y =>
    obtain ⟨t, rfl⟩ := rx
    obtain ⟨hy, e'⟩ : y.size ≤ sizeLine ∧ k = ((y.size : Int) != 0) := e
    subst e'
    exact PySem.W.truthy_bytes (by omega) ⟨H, I.tok _, q⟩
  | ref p =>
    cases rx
    have e' : (∃ xs, SqL X.K H p xs ∧ k = !xs.isEmpty) ∨ (∃ xs, SqT X.K H p xs ∧ k = !xs.isEmpty) ∨ ∃ kvs, H p = some (.dK kvs) ∧ k = !kvs.isEmpty := e
    rcases e' with ⟨xs, hx, e'⟩ | ⟨xs, hx, e'⟩ | ⟨kvs, hx, e'⟩
    · subst e'
      obtain ⟨its, r, pl, hz⟩ := I.list hx
      have hlen := r.length
      exact wpAny_truthy_list pl.isList (by simp only [List.size_toArray]; omega) ⟨H, I.tok _, by rw [isEmpty_of r]; exact q⟩
    · subst e'
      obtain ⟨its, r, pl, hz⟩ := I.tuple hx
      have hlen := r.length
      exact truthy_tuple pl (by simp only [List.size_toArray]; omega) ⟨H, I.tok _, by rw [isEmpty_of r]; exact q⟩
    · subst e'
      obtain ⟨hz, hS, vs, r, m⟩ : kvs.length ≤ sizeLine ∧ (p == sysModules) = false ∧ ∃ vs, KV kvs vs ∧ s.heap.DictOf (mixKind X.prog X.w) p vs := I.hok p _ hx
      have hlen : kvs.length = vs.length := Paired.length r
      exact wpAny_truthy_dict hS m (by omega) ⟨H, I.tok _, by rw [isEmpty_kv r]; exact q⟩
  | _ => exact (show False from e).elim
theorem pt_truth (ha : PE X a ta) (he : ∀ whole, isTrue a X.env whole = (do let v ← whole; standAt a.pos; holding [v] (truthy v))) :
    PT X a (fun σ H Q => ta σ H fun x H' => ∃ k, TruV X.K x H' k ∧ Q k H') := by
  intro pins s σ H Q I h
  exact isTrue_plain (thn (ha pins s σ H _ I h) fun v s1 ⟨x, H1, I1, r1, q1⟩ => tru_ok pins s1 σ H1 x v Q I1 r1 q1) (he _)
theorem op_add_str : OpR X (binaryOp .Add) (fun x y H Q => ∃ i j, x = .str i ∧ y = .str j ∧ i.length + j.length ≤ sizeLine ∧ Q (.str (i ++ j)) H) := by
  intro pins s σ H x y v u Q I rx ry h
  obtain ⟨i, j, rfl, rfl, hz, q⟩ := h
  obtain ⟨t, rfl⟩ := rx
  obtain ⟨t', rfl⟩ := ry
  exact add_str (fun t' tk => ⟨.str (i ++ j), H, I.tok _, ⟨_, rfl⟩, q⟩) hz
theorem vals1 {x : V} {us : List Value} (r : Vals [x] us) : ∃ u, us = [u] ∧ RelV x u := by
  cases r with
  | cons r1 r2 => cases r2; exact ⟨_, rfl, r1⟩
theorem vals2 {x y : V} {us : List Value} (r : Vals [x, y] us) : ∃ u w', us = [u, w'] ∧ RelV x u ∧ RelV y w' := by
  cases r with
  | cons r1 r2 =>
    cases r2 with
    | cons r3 r4 => cases r4; exact ⟨_, _, rfl, r1, r3⟩
theorem call_str_int : CallR X (.type "str") (fun xs H Q => ∃ i, xs = [.int i] ∧ i.natAbs.log2 < 1920 ∧ Q (.str (toString i)) H) := by
  intro pins s σ H xs us Q I r h
  obtain ⟨i, rfl, hz, q⟩ := h
  obtain ⟨u, rfl, t, rfl⟩ := vals1 r
  exact PySem.P.str_of_int hz ⟨.str _, H, I.tok _, ⟨_, rfl⟩, q⟩
end
end L2
namespace L2
open PySem PySem.Spec PyProof.Rows
structure ObjM (h : Heap) (x dx C : Addr) (mA : Str → Option Value) : Prop where
  obj : h.get? x = some (PySem.W.instObj C dx)
  ns : h.Ns1 dx mA
  ne : dx ≠ x
theorem lookIn_ns {h : Heap} {dx : Addr} {mA : Str → Option Value} (n : h.Ns1 dx mA) : ∃ od, h.get? dx = some od ∧ ∀ name, PySem.W.lookIn name od = some (mA name) := by
  obtain ⟨o, es, ep, ho, hd, hk, _, hm⟩ := n
  refine ⟨o, ho, fun name => ?_⟩
  have e := hm name
  unfold nsFind findBy at e
  rw [← Array.find?_toList] at e
  unfold PySem.W.lookIn
  rw [hd]
  dsimp only
  split
  · rename_i y q
    rw [q] at e
    exact congrArg some e
  · rename_i q
    rw [q] at e
    have a : es.toList.any (·.refKey) = false := by
      rw [List.any_eq_false]
      intro y hy
      obtain ⟨z, t, hkey⟩ := hk y (Array.mem_toList_iff.mp hy)
      simp [DictEntry.refKey, hkey]
    have a' : ¬ es.toList.any (·.refKey) = true := by rw [a]; exact Bool.false_ne_true
    rw [if_neg a']
    exact congrArg some e
theorem ObjM.look {h : Heap} {x dx C : Addr} {mA : Str → Option Value} (I : ObjM h x dx C mA) : ∃ od, PySem.W.InstAt h x (PySem.W.instObj C dx) C (some od) ∧ ∀ name, PySem.W.lookIn name od = some (mA name) :=
  let ⟨od, ho, hl⟩ := lookIn_ns I.ns
  ⟨od, ⟨I.obj, rfl, rfl, ho⟩, hl⟩
section
variable {prog : Program} {w : World} {A : Around} {E : Value → Shared → Prop} {s : Shared} {K : PySem.W.Frag} {x dx C f : Addr} {mA : Str → Option Value} {name : Str} {v : Value}
theorem get_map {expr : Bool} {Q : Value → Shared → Prop} (X : K.In s.heap) (I : ObjM s.heap x dx C mA) (hg : PySem.W.plainGet K C name = true) (hh : PySem.W.hasDictIn K C = true)
    (ha : PySem.W.findIn K (.ref C) name = some none) (hv : mA name = some v) (hv' : PySem.W.handedIn v = true) (h : Q v { s with toks := s.toks + 1 }) :
    wpAny (model prog w) A (getAttr (.ref x) name expr) Q E s := by
  obtain ⟨od, J, hl⟩ := I.look
  exact PySem.W.get_value X J (PySem.W.plainGet_of hg).1 (PySem.W.findObj_own hh ha rfl (by rw [hl, hv])) hv' h
theorem get_meth {pl : Sem Bool} {Q : Value × List Value → Shared → Prop} (X : K.In s.heap) (I : ObjM s.heap x dx C mA) (hg : PySem.W.plainGet K C name = true)
    (hf : PySem.W.findIn K (.ref C) name = some (some (.ref f))) (ht : PySem.W.isFn K (.ref f) = true) (hv : mA name = none) (h : Q (.ref f, [.ref x]) s) :
    wpAny (model prog w) A (getMethod (.ref x) name pl) Q E s := by
  obtain ⟨od, J, hl⟩ := I.look
  exact PySem.W.method_fn X J (PySem.W.plainGet_of hg).1 (PySem.W.plainGet_of hg).2 hf (beq_iff_eq.mp ht) (by show (PySem.W.lookIn name od).map (·.isSome) = some false; rw [hl, hv]; rfl) h
theorem set_map {ns : List Str} {Q : Unit → Shared → Prop} (X : K.In s.heap) (I : ObjM s.heap x dx C mA)
    (hs : PySem.W.findIn K (.ref C) "__setattr__" = some (some (.builtin "object.__setattr__"))) (hp : PySem.W.plainOver K C = true) (ht : PySem.W.takerIn K C name = some none) (hh : PySem.W.hasDictIn K C = true)
    (hw : PySem.Within mA ns) (hsz : ns.length ≤ sizeLine)
    (h : ∀ h', ObjM h' x dx C (fun y => if y = name then some v else mA y) → Heap.SameBut dx s.heap h' → Q () { s with heap := h', toks := s.toks + 2 }) :
    wpAny (model prog w) A (setAttr (.ref x) name v) Q E s := by
  obtain ⟨od, J, hl⟩ := I.look
  refine PySem.W.set_plain X J hs (PySem.W.osa_open (s := { s with toks := s.toks + 1 }) (r := none) X J hp ht fun b => ?_)
  obtain ⟨cd, hc, hd'⟩ := PySem.W.any_some hh
  have hx : s.heap.get? x = some ⟨.ref C, some dx, .plain, #[]⟩ := I.obj
  refine wpAny_bind (wpAny_pure (wpAny_bind (wpAny_bind (wpAny_loadPart hx (wpAny_bind (PySem.W.Looks.here (s := { s with toks := s.toks + 1 }) (PySem.W.looks_clsIn X hc) ?_))))))
  rw [hd']
  refine wpAny_pure (a := some dx) (wpAny_bind (wpAny_pure (wpAny_bind ?_)))
  refine wpAny_nsSet1 (s := { s with toks := s.toks + 1 }) I.ns fun h' hn2 hs2 => ?_
  obtain ⟨oD, esD, epD, hoD, hdD, hcD⟩ := hn2.count (PySem.Within.cons name v hw)
  refine wpAny_bind (wpAny_lookBehind hoD (by rw [hdD]; exact pastItsLine_dict (Nat.le_trans hcD (by rw [List.length_cons]; omega))) ?_)
  exact wpAny_pure (h _ ⟨(hs2.2 _ (Ne.symm I.ne)).trans I.obj, hn2, I.ne⟩ hs2)
theorem make_map {R : Result → Shared → Prop} {vs : List Value} {kw : List (Str × Value)} (X : K.In s.heap) (hm : PySem.W.makesIn K C = true)
    (hi : PySem.W.findIn K (.ref C) "__init__" = some (some (.ref f))) (hf : PySem.W.typeIn K (.ref f) = some (.type "function"))
    (h : codeAny (model prog w) (A.under (.builtin "type.__call__" ⟨.ref C :: vs, kw⟩)) (.call (.ref f) ⟨.ref (s.heap.objs.size + 1) :: vs, kw⟩) (PySem.W.InitBack (s.heap.objs.size + 1) R)
      { s with heap := (s.heap.push PySem.W.emptyDict).push (PySem.W.instObj C s.heap.objs.size) }) :
    codeAny (model prog w) A (.call (.ref C) ⟨vs, kw⟩) R s := by
  obtain ⟨hh, g, d, t, os⟩ := s
  exact PySem.W.make_core (PySem.W.makes_of X hm) (PySem.W.looks_findIn X hi) (fun self => PySem.W.bind_fn X self hf) (.inl rfl) h
end
def putF (f : Str) (v : V) : List (Str × V) → List (Str × V)
  | [] => [(f, v)]
  | (g, x) :: r => if g = f then (g, v) :: r else (g, x) :: putF f v r
theorem lookup_putF (f g : Str) (v : V) : ∀ fs : List (Str × V), (putF f v fs).lookup g = if g = f then some v else fs.lookup g
  | [] => by
    show List.lookup g [(f, v)] = _
    by_cases h : g = f
    · have hb : (g == f) = true := beq_iff_eq.mpr h
      simp only [List.lookup, hb, if_pos h]
    · have hb : (g == f) = false := beq_eq_false_iff_ne.mpr h
      simp only [List.lookup, hb, if_neg h]
  | (k, x) :: r => by
    have ih := lookup_putF f g v r
    rw [show putF f v ((k, x) :: r) = (if k = f then (k, v) :: r else (k, x) :: putF f v r) from rfl]
    by_cases hk : k = f
    · rw [if_pos hk]
      by_cases h : g = k
      · have hb : (g == k) = true := beq_iff_eq.mpr h
        simp only [List.lookup, hb, if_pos (h.trans hk)]
      · have hb : (g == k) = false := beq_eq_false_iff_ne.mpr h
        simp only [List.lookup, hb, if_neg (fun e : g = f => h (e.trans hk.symm))]
    · rw [if_neg hk]
      by_cases h : g = k
      · have hb : (g == k) = true := beq_iff_eq.mpr h
        simp only [List.lookup, hb, if_neg (fun e : g = f => hk (h.symm.trans e))]
      · have hb : (g == k) = false := beq_eq_false_iff_ne.mpr h
        simp only [List.lookup, hb]
        exact ih
theorem keys_putF (f : Str) (v : V) : ∀ fs : List (Str × V), f ∈ (putF f v fs).map (·.1) ∧ ∀ g, g ∈ fs.map (·.1) → g ∈ (putF f v fs).map (·.1)
  | [] => ⟨by simp [putF], fun g h => by simp at h⟩
  | (k, x) :: r => by
    obtain ⟨i1, i2⟩ := keys_putF f v r
    rw [show putF f v ((k, x) :: r) = (if k = f then (k, v) :: r else (k, x) :: putF f v r) from rfl]
    by_cases hk : k = f
    · rw [if_pos hk]
      subst hk
      exact ⟨by simp, fun g h => by simpa using h⟩
    · rw [if_neg hk]
      refine ⟨?_, fun g h => ?_⟩
      · rw [List.map_cons]
        exact List.mem_cons_of_mem _ i1
      · rw [List.map_cons] at h ⊢
        rcases List.mem_cons.mp h with e | e
        · exact List.mem_cons.mpr (.inl e)
        · exact List.mem_cons_of_mem _ (i2 g e)
theorem length_putF (f : Str) (v : V) : ∀ fs : List (Str × V), (putF f v fs).length ≤ fs.length + 1
  | [] => by simp [putF]
  | (k, x) :: r => by
    have ih := length_putF f v r
    rw [show putF f v ((k, x) :: r) = (if k = f then (k, v) :: r else (k, x) :: putF f v r) from rfl]
    by_cases hk : k = f
    · rw [if_pos hk, List.length_cons, List.length_cons]; omega
    · rw [if_neg hk, List.length_cons, List.length_cons]; omega
theorem RelO.some_of {v : V} {o : Option Value} (r : RelO (some v) o) : ∃ u, o = some u ∧ RelV v u := by
  cases o with
  | none => exact (show False from r).elim
  | some u => exact ⟨u, rfl, r⟩
theorem RelO.none_of {o : Option Value} (r : RelO none o) : o = none := by
  cases o with
  | none => rfl
  | some u => exact (show False from r).elim
theorem handed_of {v : V} {u : Value} (r : RelV v u) : PySem.W.handedIn u = true := by
  cases v with
  | non => cases (show u = Value.none from r); rfl
  | bl b => cases (show u = Value.bool b from r); rfl
  | int i => obtain ⟨t, e⟩ := (show ∃ t, u = Value.int i t from r); cases e; rfl
  | str x => obtain ⟨t, e⟩ := (show ∃ t, u = Value.str x t from r); cases e; rfl
  | byt b => obtain ⟨t, e⟩ := (show ∃ t, u = Value.bytes b t from r); cases e; rfl
  | flt b => obtain ⟨t, e⟩ := (show ∃ t, u = Value.float b t from r); cases e; rfl
  | ref a => cases (show u = Value.ref a from r); rfl
  | ty n => cases (show u = Value.type n from r); rfl
section
variable {P : Program} {w : World} {H H' : Hp} {h h' : Heap} {a C dx : Addr} {fs fs' : List (Str × V)}
theorem ins_get (hok : HOk P w H h) (e : H a = some (.ins C dx fs)) : ∃ mA, ObjM h a dx C mA ∧ (∀ f, RelO (fs.lookup f) (mA f)) ∧ PySem.Within mA (fs.map (·.1)) ∧ fs.length ≤ 1000 ∧ H dx = some (.own a) := by
  obtain ⟨d, z, ne, ob, mA, n, r, q⟩ := (show ObjOk P w H h a (.ins C dx fs) from hok a _ e)
  exact ⟨mA, ⟨ob, n, ne⟩, r, q, z, d⟩
end
structure Cls (K : PySem.W.Frag) (C : Addr) : Prop where
  pg : PySem.W.plainGet K C Str.empty = true
  hd : PySem.W.hasDictIn K C = true
  po : PySem.W.plainOver K C = true
  sa : PySem.W.findIn K (.ref C) "__setattr__" = some (some (.builtin "object.__setattr__"))
theorem Cls.get {K : PySem.W.Frag} {C : Addr} (c : Cls K C) (f : Str) : PySem.W.plainGet K C f = true := c.pg
def NoAttr (K : PySem.W.Frag) (C : Addr) (f : Str) : Prop := PySem.W.findIn K (.ref C) f = some none
theorem NoAttr.taker {K : PySem.W.Frag} {C : Addr} {f : Str} (n : NoAttr K C f) : PySem.W.takerIn K C f = some none := by
  unfold PySem.W.takerIn
  rw [show PySem.W.findIn K (.ref C) f = some none from n]
  rfl
structure Meth (K : PySem.W.Frag) (C : Addr) (m : Str) (f : Addr) : Prop where
  at_ : PySem.W.findIn K (.ref C) m = some (some (.ref f))
  fn : PySem.W.isFn K (.ref f) = true
  kp : PySem.W.keepIn K (.ref f) = true
section
variable {X : Cx} {pins : List (Addr × Obj)} {σ : St} {H : Hp} {s : Shared} {a C dx : Addr} {fs : List (Str × V)} {f : Str} {v : V} {A : Around} {E : Value → Shared → Prop}
theorem getattr_ok {b : Bool} {Q : Value → Shared → Prop} (I : Inv X pins σ H s) (e : H a = some (.ins C dx fs)) (c : Cls X.K C) (n : NoAttr X.K C f) (l : fs.lookup f = some v)
    (h : ∀ u s', Inv X pins σ H s' → RelV v u → Q u s') : wpAny (model X.prog X.w) A (getAttr (.ref a) f b) Q E s := by
  obtain ⟨mA, O, r, _, _, _⟩ := ins_get I.hok e
  obtain ⟨u, hu, ru⟩ := RelO.some_of (v := v) (o := mA f) (by rw [← l]; exact r f)
  exact get_map I.kIn O (c.get f) c.hd n hu (handed_of ru) (h u _ (I.tok _) ru)
theorem getmeth_ok {m : Str} {g : Addr} {pl : Sem Bool} {Q : Value × List Value → Shared → Prop} (I : Inv X pins σ H s) (e : H a = some (.ins C dx fs)) (c : Cls X.K C) (k : Meth X.K C m g) (l : fs.lookup m = none)
    (h : Q (.ref g, [.ref a]) s) : wpAny (model X.prog X.w) A (getMethod (.ref a) m pl) Q E s := by
  obtain ⟨mA, O, r, _, _, _⟩ := ins_get I.hok e
  have hn : mA m = none := RelO.none_of (by rw [← l]; exact r m)
  exact get_meth I.kIn O (c.get m) k.at_ k.fn hn h
theorem setattr_ok {y : V} {u : Value} {Q : Unit → Shared → Prop} (I : Inv X pins σ H s) (e : H a = some (.ins C dx fs)) (c : Cls X.K C) (n : NoAttr X.K C f) (hl : fs.length < 1000) (ry : RelV y u)
    (h : ∀ s', Inv X pins σ (upd H a (.ins C dx (putF f y fs))) s' → Q () s') : wpAny (model X.prog X.w) A (setAttr (.ref a) f u) Q E s := by
  obtain ⟨mA, O, r, wi, _, ho⟩ := ins_get I.hok e
  have hz : (fs.map (·.1)).length ≤ sizeLine := by rw [List.length_map, sizeLine_eq]; omega
  refine set_map I.kIn O c.sa c.po n.taker c.hd wi hz fun h' O' sb => h _ ?_
  have hd : ∃ o, h'.get? dx = some o := let ⟨o, _, _, e', _⟩ := O'.ns; ⟨o, e'⟩
  refine I.write (x := a) (e := dx) (by rw [e]; exact True.intro) (.inr ho) (fun b q hb z => (sb.2 b hb).trans z) hd ?_
  refine ⟨by rw [upd_ne O.ne]; exact ho, ?_, O.ne, O'.obj, _, O'.ns, fun g => ?_, fun g hg => ?_⟩
  · have := length_putF f y fs; omega
  · show RelO ((putF f y fs).lookup g) (if g = f then some u else mA g)
    rw [lookup_putF]
    by_cases q : g = f
    · rw [if_pos q, if_pos q]; exact ry
    · rw [if_neg q, if_neg q]; exact r g
  · by_cases q : g = f
    · rw [q]; exact (keys_putF f y fs).1
    · refine (keys_putF f y fs).2 g (wi g fun z => hg ?_)
      show (if g = f then some u else mA g) = none
      rw [if_neg q]; exact z
theorem Inv.made (I : Inv X pins σ H s) : Inv X pins σ (upd (upd H s.heap.objs.size (.own (s.heap.objs.size + 1))) (s.heap.objs.size + 1) (.ins C s.heap.objs.size []))
    { s with heap := (s.heap.push PySem.W.emptyDict).push (PySem.W.instObj C s.heap.objs.size) } := by
  have e1 : (s.heap.push PySem.W.emptyDict).get? s.heap.objs.size = some PySem.W.emptyDict := Heap.get?_push_size s.heap rfl
  have e2 : ((s.heap.push PySem.W.emptyDict).push (PySem.W.instObj C s.heap.objs.size)).get? (s.heap.objs.size + 1) = some (PySem.W.instObj C s.heap.objs.size) := by
    have := Heap.get?_push_size (s.heap.push PySem.W.emptyDict) (o := PySem.W.instObj C s.heap.objs.size) rfl
    rwa [Heap.size_push] at this
  have e3 : (s.heap.push PySem.W.emptyDict).Ns s.heap.objs.size (fun _ => none) := ⟨PySem.W.emptyDict, #[], _, e1, rfl, (fun e he => absurd he (by simp)), fun _ => rfl⟩
  have I1 := I.laid (a := s.heap.objs.size) (o := .own (s.heap.objs.size + 1)) (h' := s.heap.push PySem.W.emptyDict) (t' := s.toks) (fun b u q => Heap.get?_push_of_some _ q) (Nat.le_refl _) ⟨_, e1⟩
  refine I1.laid (a := s.heap.objs.size + 1) (o := .ins C s.heap.objs.size []) (t' := s.toks) (fun b u q => Heap.get?_push_of_some _ q) (Nat.le_of_eq (Heap.size_push _ _)) ?_
  have ne : s.heap.objs.size ≠ s.heap.objs.size + 1 := Nat.ne_of_lt (Nat.lt_succ_self _)
  refine ⟨by rw [upd_ne ne, upd_same], Nat.zero_le _, ne, e2, fun _ => none, (Heap.Ns1.of_empty e3).at fun o q => Heap.get?_push_of_some _ q, fun _ => True.intro, fun y hy => absurd rfl hy⟩
theorem attr_of {prog : Program} {w : World} {env : Env} {e : Expr} {f : Str} {pos : Pos} {s : Shared} {Q : Value → Shared → Prop} (hb : attributeBase e f env (eval e env) = eval e env)
    (h : wpAny (model prog w) A (eval e env) (fun o s₁ => wpAny (model prog w) A (getAttr o f true) Q E s₁) E s) : wpAny (model prog w) A (eval (.Attribute e f pos) env) Q E s :=
  Attribute_any_ h (by rw [arm_eval_Attribute, hb])
end
def tFld (K : PySem.W.Frag) (ta : TE) (f : Str) : TE := fun σ H Q => ta σ H fun x H1 => ∃ a C dx fs v, x = .ref a ∧ H1 a = some (.ins C dx fs) ∧ Cls K C ∧ NoAttr K C f ∧ fs.lookup f = some v ∧ Q v H1
def sFld (K : PySem.W.Frag) (ta tv : TE) (f : Str) : TS := fun D σ H => tv σ H fun y H1 => ta σ H1 fun x H2 => ∃ a C dx fs, x = .ref a ∧ H2 a = some (.ins C dx fs) ∧ Cls K C ∧ NoAttr K C f ∧ fs.length < 1000 ∧
  D.nx σ (upd H2 a (.ins C dx (putF f y fs)))
section
variable {X : Cx} {o e value : Expr} {f : Str} {pos pos' tpos : Pos} {ta tv : TE}
theorem pe_fld (he : PE X e ta) (hb : attributeBase e f X.env (eval e X.env) = eval e X.env) : PE X (.Attribute e f pos) (tFld X.K ta f) := by
  intro pins s σ H Q I h
  refine attr_of hb (thn (he pins s σ H _ I h) fun u s1 ⟨x, H1, I1, rx, a, C, dx, fs, v, ex, ea, c, n, l, q⟩ => ?_)
  subst ex
  obtain rfl : u = Value.ref a := rx
  exact getattr_ok I1 ea c n l fun u' s2 I2 ru => ⟨v, H1, I2, ru, q⟩
theorem ps_fld (ha : PE X o ta) (hv : PE X value tv) (hs : swapsWith value (some (.Attribute o f pos')) pos.line X.env = pure false) : PS X (.Assign [.Attribute o f pos'] value pos) (sFld X.K ta tv f) := by
  intro pins s σ H D I h
  refine plainObj_wpAny_Assign_Attribute (thn (hv pins s σ H _ I h) fun u s1 ⟨y, H1, I1, ry, q⟩ => thn (ha pins s1 σ H1 _ I1 q) fun ov s2 ⟨x, H2, I2, rx, a, C, dx, fs, ex, ea, c, n, l, q2⟩ => ?_) hs
  subst ex
  obtain rfl : ov = Value.ref a := rx
  exact setattr_ok I2 ea c n l ry fun s3 I3 => ⟨σ, _, I3, q2⟩
end
section
variable {X : Cx} {pins : List (Addr × Obj)} {σ : St} {H : Hp} {s : Shared} {A : Around} {E : Value → Shared → Prop} {Q : Value → Shared → Prop} {c : Value} {b : Bool}
inductive TyOf (K : PySem.W.Frag) (H : Hp) : V → Value → Prop where
  | non : TyOf K H .non (.type "NoneType")
  | bl (x : Bool) : TyOf K H (.bl x) (.type "bool")
  | int (i : Int) : TyOf K H (.int i) (.type "int")
  | str (x : Str) : TyOf K H (.str x) (.type "str")
  | flt (x : UInt64) : TyOf K H (.flt x) (.type "float")
  | lst {a : Addr} {xs : List V} (e : H a = some (.lst xs)) : TyOf K H (.ref a) (.type "list")
  | frz {a : Addr} {o : Obj} {xs : List V} (e : H a = some (.frz o (.lst xs))) : TyOf K H (.ref a) (.type "list")
  | tup {a : Addr} {xs : List V} (e : H a = some (.tup xs)) : TyOf K H (.ref a) (.type "tuple")
  | dK {a : Addr} {kvs : List (Key × V)} (e : H a = some (.dK kvs)) : TyOf K H (.ref a) (.type "dict")
  | dT {a : Addr} {kvs : List (List Key × V)} (e : H a = some (.dT kvs)) : TyOf K H (.ref a) (.type "dict")
  | ins {a C dx : Addr} {fs : List (Str × V)} (e : H a = some (.ins C dx fs)) (cl : Cls K C) (ha : PySem.W.findIn K (.ref C) "__class__" = some (some (.builtin "object.__class__")))
      (hn : PySem.W.specialIn K (.builtin "object.__class__") "__get__" = some (some (.builtin "getset_descriptor.__get__"))) (htk : PySem.W.takesIn K (.builtin "object.__class__") = some true)
      (hm : PySem.W.mroIn K C (.type "object") = some true) : TyOf K H (.ref a) (.ref C)
theorem isinst_ok {x : V} {u t : Value} (I : Inv X pins σ H s) (rx : RelV x u) (ty : TyOf X.K H x t) (e : PySem.W.kitOne X.K t c = some b) (h : ∀ tk, Q (.bool b) { s with toks := tk }) :
    wpAny (model X.prog X.w) A (call (.builtin "isinstance") [u, c]) Q E s := by
  cases ty with
  | non => cases (show u = Value.none from rx); exact PySem.W.kia_one PySem.W.kitx_none I.kIn True.intro e (fun z => nomatch z) h
  | bl y => cases (show u = Value.bool y from rx); exact PySem.W.kia_one PySem.W.kitx_bool I.kIn True.intro e (fun z => nomatch z) h
  | int i => obtain ⟨t, q⟩ := (show ∃ t, u = Value.int i t from rx); cases q; exact PySem.W.kia_one PySem.W.kitx_int I.kIn True.intro e (fun z => nomatch z) h
  | str y => obtain ⟨t, q⟩ := (show ∃ t, u = Value.str y t from rx); cases q; exact PySem.W.kia_one PySem.W.kitx_str I.kIn True.intro e (fun z => nomatch z) h
  | flt y => obtain ⟨t, q⟩ := (show ∃ t, u = Value.float y t from rx); cases q; exact PySem.W.kia_one PySem.W.kitx_float I.kIn True.intro e (fun z => nomatch z) h
  | @lst a xs ea =>
    cases (show u = Value.ref a from rx)
    obtain ⟨_, _, n, _, h1⟩ := (show ObjOk X.prog X.w H s.heap a (.lst xs) from I.hok a _ ea)
    exact PySem.W.kia_one PySem.W.kitx_list I.kIn ⟨_, h1, rfl⟩ e (fun z => nomatch z) h
  | @frz a ob xs ea =>
    cases (show u = Value.ref a from rx)
    obtain ⟨_, _, _, n, _, h1⟩ := (show ObjOk X.prog X.w H s.heap a (.frz ob (.lst xs)) from I.hok a _ ea)
    exact PySem.W.kia_one PySem.W.kitx_list I.kIn ⟨_, h1, rfl⟩ e (fun z => nomatch z) h
  | @tup a xs ea =>
    cases (show u = Value.ref a from rx)
    obtain ⟨_, _, _, p⟩ := (show ObjOk X.prog X.w H s.heap a (.tup xs) from I.hok a _ ea)
    obtain ⟨o, h1, h2, _⟩ := p
    exact PySem.W.kia_one PySem.W.kitx_tuple I.kIn ⟨o, h1, h2⟩ e (fun z => nomatch z) h
  | @dK a kvs ea =>
    cases (show u = Value.ref a from rx)
    obtain ⟨_, _, vs, _, p⟩ := (show ObjOk X.prog X.w H s.heap a (.dK kvs) from I.hok a _ ea)
    obtain ⟨o, es, ep, h1, h2, _⟩ := p
    exact PySem.W.kia_one PySem.W.kitx_dict I.kIn ⟨o, h1, h2.1⟩ e (fun z => nomatch z) h
  | @dT a kvs ea =>
    cases (show u = Value.ref a from rx)
    obtain ⟨_, _, xs, _, o, es, ep, h1, h2, _⟩ := (show ObjOk X.prog X.w H s.heap a (.dT kvs) from I.hok a _ ea)
    exact PySem.W.kia_one PySem.W.kitx_dict I.kIn ⟨o, h1, h2.1⟩ e (fun z => nomatch z) h
  | @ins a C dx fs ea cl ha hn htk hm =>
    cases (show u = Value.ref a from rx)
    obtain ⟨mA, O, _⟩ := ins_get I.hok ea
    obtain ⟨od, J, _⟩ := O.look
    exact PySem.W.kia_one (PySem.W.kitx_own (cl.get _) cl.hd ha hn htk hm) I.kIn J e (fun z => nomatch z) h
end
end L2
namespace L2
open PySem PySem.Spec PyProof.Rows
structure Room (k : Nat) (A : Around) : Prop where
  hd : A.handled = none
  dp : A.depth + 3 * k + 5 < recursionLimit
  un : A.units + 16 * k + 200 < cLine
theorem Room.mono {j k : Nat} {A : Around} (r : Room k A) (h : j ≤ k) : Room j A := ⟨r.hd, by have := r.dp; omega, by have := r.un; omega⟩
theorem Room.deeper {k : Nat} {A : Around} (r : Room (k + 1) A) (env : Env) : Room k (A.deeper env) :=
  ⟨r.hd, by have := r.dp; show A.depth + 1 + 3 * k + 5 < _; omega, by have := r.un; show A.units + 3 + 16 * k + 200 < _; omega⟩
theorem make_depth {A : Around} {C : Addr} {us : List Value} {kw : List (Str × Value)} : (A.under (.builtin "type.__call__" ⟨.ref C :: us, kw⟩)).depth = A.depth + 1 := by
  first | rfl | simp [Around.under, Code.weight, Code.isCreation, Code.isGuard, Code.isCaller, Code.frames, Code.isFrame, guardIds]
theorem make_units {A : Around} {C : Addr} {us : List Value} {kw : List (Str × Value)} : (A.under (.builtin "type.__call__" ⟨.ref C :: us, kw⟩)).units = A.units + 1 := by
  first | rfl | simp [Around.under, Code.cUnits, Code.frames, Code.isFrame]
theorem Room.make {k : Nat} {A : Around} (r : Room (k + 1) A) (C : Addr) (us : List Value) (kw : List (Str × Value)) : Room k (A.under (.builtin "type.__call__" ⟨.ref C :: us, kw⟩)) :=
  ⟨r.hd, by have := r.dp; rw [make_depth]; omega, by have := r.un; rw [make_units]; omega⟩
theorem Room.depth {k : Nat} {A : Around} (r : Room k A) : A.depth < recursionLimit := by have := r.dp; omega
theorem Room.units {k : Nat} {A : Around} (r : Room k A) : A.units + 64 < cLine := by have := r.un; omega
def tNil : TA := fun _ H Q => Q [] H
def tCons (ta : TE) (tr : TA) : TA := fun σ H Q => ta σ H fun x H1 => tr σ H1 fun xs H2 => Q (x :: xs) H2
section
variable {X : Cx} {e : Expr} {es : List Expr} {te : TE} {t : TA} {pos : Pos}
theorem pa_nil : PA X [] tNil := fun _ _ _ _ H Q I h => Calls.spliced_nil ⟨[], H, I, .nil, h⟩
theorem pa_cons (ha : PE X e te) (hr : PA X es t) (hs : starEach (e :: es) X.env = (false, eval e X.env) :: starEach es X.env := by rfl) : PA X (e :: es) (tCons te t) := by
  intro pos pins s σ H Q I h
  rw [hs]
  show wpAny _ _ (spliced ((false, eval e X.env) :: backTo pos (starEach es X.env))) _ _ s
  refine Calls.spliced_cons (thn (ha pins s σ H _ I h) fun u s1 ⟨x, H1, I1, r1, q1⟩ => ?_)
  exact thn (hr pos pins s1 σ H1 _ I1 q1) fun us s2 ⟨xs, H2, I2, r2, q2⟩ => ⟨x :: xs, H2, I2, .cons r1 r2, q2⟩
def tTup (t : TA) : TE := fun σ H Q => t σ H fun xs H1 => xs.length ≤ sizeLine ∧ ∀ p, H1 p = none → Q (.ref p) (upd H1 p (.tup xs))
def tLst (t : TA) : TE := fun σ H Q => t σ H fun xs H1 => xs.length ≤ sizeLine ∧ ∀ p, H1 p = none → Q (.ref p) (upd H1 p (.lst xs))
theorem pe_tup {x1} (h : PA X es t) : PE X (.Tuple es x1 pos) (tTup t) := by
  intro pins s σ H Q I hq
  refine wpAny_Tuple_spliced (thn (h pos pins s σ H _ I hq) fun us s1 ⟨xs, H1, I1, r, z, q⟩ => ⟨by rw [← r.length]; exact z, ?_⟩)
  have hf : H1 s1.heap.objs.size = none := I1.hok.fresh (Nat.le_refl _)
  refine ⟨.ref s1.heap.objs.size, upd H1 s1.heap.objs.size (.tup xs), I1.laid (t' := s1.toks) (fun b u e => Heap.get?_push_of_some _ e) (Nat.le_refl _) ?_, rfl, q _ hf⟩
  exact ⟨z, us, r, ⟨_, Heap.get?_push_size _ rfl, rfl, _, rfl⟩⟩
theorem pe_lst (h : PA X es t) : PE X (.List es pos) (tLst t) := by
  intro pins s σ H Q I hq
  refine wpAny_List_spliced (thn (h pos pins s σ H _ I hq) fun us s1 ⟨xs, H1, I1, r, z, q⟩ => ⟨by rw [← r.length]; exact z, ?_⟩)
  have hf : H1 s1.heap.objs.size = none := I1.hok.fresh (Nat.le_refl _)
  refine ⟨.ref s1.heap.objs.size, upd H1 s1.heap.objs.size (.lst xs), I1.laid (t' := s1.toks) (fun b u e => Heap.get?_push_of_some _ e) (Nat.le_refl _) ?_, rfl, q _ hf⟩
  exact ⟨z, us, 0, r, Heap.get?_push_size _ rfl⟩
end
abbrev Sp := List V → Hp → VK → XK → Prop
abbrev CXT := List Env → Hp → Shared → XK → Value → Shared → Prop
structure Env0 (P : Program) (w : World) (K : PySem.W.Frag) (mg : Str → Option Value) (base : Heap) (A : Around) (outer : List Env) (s : Shared) (H : Hp) : Prop where
  frames : A.frames = some outer
  mod : Mod K mg base
  bs : ∀ b o, base.get? b = some o → s.heap.get? b = some o ∧ H b = none
  bsz : base.objs.size ≤ s.heap.objs.size
  funs : s.heap.FunFrames base outer
  frf : ∀ b ∈ frs outer, H b = none
  hok : HOk P w H s.heap
  bare : AllBare s.gens
def CE (outer : List Env) (P : Program) (w : World) (H : Hp) (s : Shared) (Q : VK) (u : Value) (s' : Shared) : Prop :=
  ∃ v H', s'.os = s.os ∧ AllBare s'.gens ∧ Un (frs outer) [] H H' s.heap s'.heap ∧ HOk P w H' s'.heap ∧ RelV v u ∧ Q v H'
def CR (CX : CXT) (outer : List Env) (P : Program) (w : World) (H : Hp) (s : Shared) (Q : VK) (E : XK) (r : Result) (s' : Shared) : Prop :=
  match r with
  | .ok (.ret u) => CE outer P w H s Q u s'
  | .ok _ => False
  | .error e => CX outer H s E e s'
structure FnOk (P : Program) (w : World) (K : PySem.W.Frag) (mg : Str → Option Value) (base : Heap) (CX : CXT) (k : Nat) (f : Addr) (fd : FuncData) (ps : List Str) (sp : Sp) : Prop where
  len : ∀ vs H Q E, sp vs H Q E → vs.length = ps.length
  run : ∀ (A : Around) (outer : List Env) (s : Shared) (H : Hp) (args : Args) (us : List Value) (vs : List V) (Q : VK) (E : XK), Room k A → Env0 P w K mg base A outer s H → BindsTo s fd args (ps.zip us) → Vals vs us → sp vs H Q E →
    codeAny (model P w) A (.call (.ref f) args) (CR CX outer P w H s Q E) s
theorem Env0.make {P : Program} {w : World} {K : PySem.W.Frag} {mg : Str → Option Value} {base : Heap} {A : Around} {outer : List Env} {s : Shared} {H : Hp} (e : Env0 P w K mg base A outer s H) (C : Addr) (us : List Value) (kw : List (Str × Value)) :
    Env0 P w K mg base (A.under (.builtin "type.__call__" ⟨.ref C :: us, kw⟩)) outer s H := ⟨by first | exact e.frames | (simpa [Around.under, Code.envs, Code.isFrame, pushEnvs] using e.frames), e.mod, e.bs, e.bsz, e.funs, e.frf, e.hok, e.bare⟩
section
variable {X : Cx} {pins : List (Addr × Obj)} {σ : St} {H : Hp} {s s' : Shared}
theorem Inv.env0 (I : Inv X pins σ H s) : Env0 X.prog X.w X.K X.mg X.base X.A X.stack s H :=
  ⟨I.ok.frames, I.ok.mod, I.bs, Nat.le_trans I.ok.bsz I.sz, I.stack, I.stkFree, I.hok, I.bare⟩
theorem Inv.after {Q : VK} {u : Value} (I : Inv X pins σ H s) (h : CE X.stack X.prog X.w H s Q u s') : EP X pins σ Q u s' := by
  obtain ⟨v, H', os, bare, un, hok, r, q⟩ := h
  obtain ⟨hh, g, d, t, os'⟩ := s'
  obtain rfl : os' = s.os := os
  exact ⟨v, H', I.call (h' := hh) (g' := g) (d' := d) (t' := t) (ch := []) un hok bare (fun b z => absurd z (by simp)), r, q⟩
end
def tCall (sp : Sp) (dvs : List V) (E : XK) (t : TA) : TE := fun σ H Q => t σ H fun vs H1 => sp (vs ++ dvs) H1 Q E
def tMeth (C : Addr) (m : Str) (sp : Sp) (dvs : List V) (E : XK) (ta : TE) (t : TA) : TE := fun σ H Q => ta σ H fun x H1 => ∃ a dx fs, x = .ref a ∧ H1 a = some (.ins C dx fs) ∧ fs.lookup m = none ∧
  t σ H1 fun vs H2 => sp (x :: (vs ++ dvs)) H2 Q E
def tMake (C : Addr) (sp : Sp) (dvs : List V) (E : XK) (t : TA) : TE := fun σ H Q => t σ H fun vs H1 => ∀ x dx, H1 x = none → H1 dx = none → dx ≠ x →
  sp (.ref x :: (vs ++ dvs)) (upd (upd H1 dx (.own x)) x (.ins C dx [])) (fun v H2 => v = .non ∧ Q (.ref x) H2) E
def Binds (K : PySem.W.Frag) (fd : FuncData) (ps : List Str) (ds : List Value) : Prop :=
  ∀ (s : Shared) (us : List Value), K.In s.heap → (us ++ ds).length = ps.length → BindsTo s fd ⟨us, []⟩ (ps.zip (us ++ ds))
theorem Binds.all {K : PySem.W.Frag} {fd : FuncData} {ps : List Str} (h : ∀ us : List Value, us.length = ps.length → bindArgs fd ⟨us, []⟩ = pure (ps.zip us)) : Binds K fd ps [] := fun s us _ hl => by
  rw [List.append_nil] at hl ⊢
  exact .of_eq (h us hl)
def Passes (CX : CXT) (X : Cx) (E : XK) : Prop := ∀ (pins : List (Addr × Obj)) (σ : St) (H : Hp) (s : Shared) (e : Value) (s' : Shared), Inv X pins σ H s → CX X.stack H s E e s' → X.xe e s'
section
variable {X : Cx} {CX : CXT} {k : Nat} {f C : Addr} {fd : FuncData} {ps : List Str} {sp : Sp} {dvs : List V} {ds : List Value} {E : XK} {x m : Str} {p pos apos : Pos} {e o : Expr} {es : List Expr} {ta : TE} {t : TA}
theorem run_fn {pins : List (Addr × Obj)} {σ : St} {H : Hp} {s : Shared} {Q : VK} {us : List Value} {vs : List V} (F : FnOk X.prog X.w X.K X.mg X.base CX k f fd ps sp) (hr : Room k X.A) (hb : Binds X.K fd ps ds) (hd : Vals dvs ds) (hx : Passes CX X E)
    (I : Inv X pins σ H s) (r : Vals vs us) (h : sp (vs ++ dvs) H Q E) : wpAny (model X.prog X.w) X.A (call (.ref f) us) (EP X pins σ Q) X.xe s := by
  have r2 : Vals (vs ++ dvs) (us ++ ds) := r.append hd
  have hl : (us ++ ds).length = ps.length := by rw [← r2.length]; exact F.len _ _ _ _ h
  refine wpAny_call (codeAny_mono (F.run X.A X.stack s H ⟨us, []⟩ (us ++ ds) (vs ++ dvs) Q E hr I.env0 (hb s us I.kIn hl) r2 h) fun r s' hq => ?_)
  cases r with
  | error e => exact hx pins σ H s e s' I hq
  | ok fl =>
    cases fl with
    | ret u => exact I.after hq
    | next => exact False.elim hq
    | brk => exact False.elim hq
    | cont => exact False.elim hq
theorem pe_call (F : FnOk X.prog X.w X.K X.mg X.base CX k f fd ps sp) (hr : Room k X.A) (hg : Gl X x) (hm : X.mg x = some (.ref f)) (hk : PySem.W.keepIn X.K (.ref f) = true) (hb : Binds X.K fd ps ds) (hd : Vals dvs ds) (hx : Passes CX X E)
    (ha : PA X (e :: es) t) (hdb : (x == ("__debug__" : Str)) = false := by decide) (he : starEach (e :: es) X.env = (false, eval e X.env) :: starEach es X.env := by rfl) (hpl : (backTo pos (starEach es X.env)).any (·.1) = false := by rfl) :
    PE X (.Call (.Name x p) (e :: es) [] pos) (tCall sp dvs E t) := by
  intro pins s σ H Q I h
  refine wpAny_Call_Name_kw (ld_glob I hg hm ?_ hdb)
  refine PySem.W.callWith_K (h₀ := X.base) I.ok.mod.kin hk (thn (ha pos pins s σ H _ I h) fun us s1 ⟨vs, H1, I1, r, q⟩ => ⟨I1.kIn, ?_⟩) he hpl
  exact run_fn F hr hb hd hx I1 r q
theorem pe_meth {pl : Sem Bool} (he : PE X o ta) (c : Cls X.K C) (hm : Meth X.K C m f) (F : FnOk X.prog X.w X.K X.mg X.base CX k f fd ps sp) (hr : Room k X.A) (hb : Binds X.K fd ps ds) (hd : Vals dvs ds) (hx : Passes CX X E) (ha : PA X (e :: es) t)
    (hst : starEach (e :: es) X.env = (false, eval e X.env) :: starEach es X.env := by rfl) (hpl : (backTo pos (starEach es X.env)).any (·.1) = false := by rfl)
    (ht : eval (.Call (.Attribute o m apos) (e :: es) [] pos) X.env = (do
      let ov ← eval o X.env
      standAt apos.atName
      let (f, first) ← holding [ov] (getMethod ov m pl)
      callWith pos f first (backTo pos (starEach (e :: es) X.env)) (backToKw pos (keywordEach [] X.env))) := by rfl) :
    PE X (.Call (.Attribute o m apos) (e :: es) [] pos) (tMeth C m sp dvs E ta t) := by
  intro pins s σ H Q I h
  refine PySem.W.methodCall_KW (pl := pl) (thn (he pins s σ H _ I h) fun u s1 ⟨x, H1, I1, rx, a, dx, fs, ex, ea, l, q⟩ => ?_) ht
  subst ex
  obtain rfl : u = Value.ref a := rx
  refine getmeth_ok I1 ea c hm l ?_
  refine PySem.W.callWith_K (first := [.ref a]) (h₀ := X.base) I.ok.mod.kin hm.kp (thn (ha pos pins s1 σ H1 _ I1 q) fun us s2 ⟨vs, H2, I2, r, q2⟩ => ⟨I2.kIn, ?_⟩) hst hpl
  exact run_fn (us := .ref a :: us) (vs := .ref a :: vs) F hr hb hd hx I2 (.cons rfl r) q2
theorem pe_meth0 {pl : Sem Bool} (he : PE X o ta) (c : Cls X.K C) (hm : Meth X.K C m f) (F : FnOk X.prog X.w X.K X.mg X.base CX k f fd ps sp) (hr : Room k X.A) (hb : Binds X.K fd ps ds) (hd : Vals dvs ds) (hx : Passes CX X E)
    (ht : eval (.Call (.Attribute o m apos) [] [] pos) X.env = (do
      let ov ← eval o X.env
      standAt apos.atName
      let (f, first) ← holding [ov] (getMethod ov m pl)
      callWith pos f first (backTo pos (starEach [] X.env)) (backToKw pos (keywordEach [] X.env))) := by rfl) :
    PE X (.Call (.Attribute o m apos) [] [] pos) (tMeth C m sp dvs E ta tNil) := by
  intro pins s σ H Q I h
  refine PySem.W.methodCall_KW (pl := pl) (thn (he pins s σ H _ I h) fun u s1 ⟨x, H1, I1, rx, a, dx, fs, ex, ea, l, q⟩ => ?_) ht
  subst ex
  obtain rfl : u = Value.ref a := rx
  refine getmeth_ok I1 ea c hm l ?_
  exact PySem.W.callWith_K0 (first := [.ref a]) I1.kIn hm.kp (run_fn (us := [.ref a]) (vs := [.ref a]) F hr hb hd hx I1 (.cons rfl .nil) q)
structure Mk (K : PySem.W.Frag) (C f : Addr) : Prop where
  makes : PySem.W.makesIn K C = true
  init : PySem.W.findIn K (.ref C) "__init__" = some (some (.ref f))
  fn : PySem.W.isFn K (.ref f) = true
  kp : PySem.W.keepIn K (.ref C) = true
theorem run_make {pins : List (Addr × Obj)} {σ : St} {H : Hp} {s : Shared} {Q : VK} {us : List Value} {vs : List V} (M : Mk X.K C f) (F : FnOk X.prog X.w X.K X.mg X.base CX k f fd ps sp) (hr : Room (k + 1) X.A) (hb : Binds X.K fd ps ds) (hd : Vals dvs ds)
    (hx : Passes CX X E) (I : Inv X pins σ H s) (r : Vals vs us)
    (h : ∀ x dx, H x = none → H dx = none → dx ≠ x → sp (.ref x :: (vs ++ dvs)) (upd (upd H dx (.own x)) x (.ins C dx [])) (fun v H2 => v = .non ∧ Q (.ref x) H2) E) :
    wpAny (model X.prog X.w) X.A (call (.ref C) us) (EP X pins σ Q) X.xe s := by
  have hq := h (s.heap.objs.size + 1) s.heap.objs.size (I.hok.fresh (Nat.le_succ _)) (I.hok.fresh (Nat.le_refl _)) (Nat.ne_of_lt (Nat.lt_succ_self _))
  have I2 := Inv.made (C := C) I
  have r2 : Vals (V.ref (s.heap.objs.size + 1) :: (vs ++ dvs)) (Value.ref (s.heap.objs.size + 1) :: (us ++ ds)) := .cons rfl (r.append hd)
  have hl : (Value.ref (s.heap.objs.size + 1) :: us ++ ds).length = ps.length := by
    have e := r2.length
    rw [F.len _ _ _ _ hq] at e
    exact e.symm
  refine wpAny_call (make_map (f := f) I.kIn M.makes M.init (beq_iff_eq.mp M.fn) (codeAny_mono (F.run _ X.stack _ _ ⟨Value.ref (s.heap.objs.size + 1) :: us, []⟩ (Value.ref (s.heap.objs.size + 1) :: (us ++ ds)) _ _ E (hr.make C us [])
    (I2.env0.make C us []) (hb _ (Value.ref (s.heap.objs.size + 1) :: us) I2.kIn hl) r2 hq) fun r s' hq' => ?_))
  cases r with
  | error e => exact hx pins σ _ _ e s' I2 hq'
  | ok fl =>
    cases fl with
    | ret u =>
      obtain ⟨v, H', I3, rv, ev, q3⟩ := I2.after hq'
      subst ev
      exact ⟨rv, ⟨V.ref (s.heap.objs.size + 1), H', I3, rfl, q3⟩⟩
    | next => exact False.elim hq'
    | brk => exact False.elim hq'
    | cont => exact False.elim hq'
theorem pe_make0 (M : Mk X.K C f) (F : FnOk X.prog X.w X.K X.mg X.base CX k f fd ps sp) (hr : Room (k + 1) X.A) (hg : Gl X x) (hm : X.mg x = some (.ref C)) (hb : Binds X.K fd ps ds) (hd : Vals dvs ds) (hx : Passes CX X E)
    (hdb : (x == ("__debug__" : Str)) = false := by decide) : PE X (.Call (.Name x p) [] [] pos) (tMake C sp dvs E tNil) := by
  intro pins s σ H Q I h
  refine wpAny_Call_Name_kw (ld_glob I hg hm ?_ hdb)
  exact PySem.W.callWith_K0 I.kIn M.kp (run_make (us := []) M F hr hb hd hx I .nil h)
end
section
variable {X : Cx} {CX : CXT} {k : Nat} {f C : Addr} {fd : FuncData} {ps ks : List Str} {sp : Sp} {E : XK} {x m : Str} {p pos apos kpos : Pos} {e o : Expr} {es : List Expr} {kws : List Keyword} {te ta : TE} {t tk : TA} {nm : Option Str}
variable {g : List Value → List Value → List Value} {gV : List V → List V → List V}
end
structure FnScope (N P : List Str) (sc : Scope) : Prop where
  kind : sc.kind = .function
  co : sc.isCoroutine = false
  gen : sc.isGenerator = false
  nd : N.Nodup
  pre : N.take P.length = P
  par : ∀ x ∈ P, sc.names.lookup x = some .local ∨ sc.names.lookup x = some .cell
  nofree : ∀ y ∈ sc.names, y.2 ≠ .free
theorem bindL_out {kindOf : Str → Option NameKind} {x : Str} : ∀ {binds : List (Str × Value)} {m : Str → Option Value}, (∀ v, (x, v) ∉ binds) → bindL kindOf binds m x = m x
  | [], _, _ => rfl
  | (n, v) :: r, m, h => by
    unfold bindL
    rw [bindL_out fun w hw => h w (List.mem_cons_of_mem _ hw)]
    split
    · have : x ≠ n := by rintro rfl; exact h v List.mem_cons_self
      simp [this]
    · rfl
theorem bindC_out {kindOf : Str → Option NameKind} {x : Str} : ∀ {binds : List (Str × Value)} {m : Str → Option Value}, (∀ v, (x, v) ∉ binds) → bindC kindOf binds m x = m x
  | [], _, _ => rfl
  | (n, v) :: r, m, h => by
    unfold bindC
    rw [bindC_out fun w hw => h w (List.mem_cons_of_mem _ hw)]
    split
    · rfl
    · have : x ≠ n := by rintro rfl; exact h v List.mem_cons_self
      simp [this]
theorem bindL_get {kindOf : Str → Option NameKind} {x : Str} {v : Value} : ∀ {P : List Str} {vs : List Value} {i : Nat} {m : Str → Option Value}, P.Nodup → P[i]? = some x → vs[i]? = some v → kindOf x = some .local →
    bindL kindOf (P.zip vs) m x = some v
  | [], _, _, _, _, h, _, _ => by simp at h
  | _ :: _, [], _, _, _, _, h, _ => by simp at h
  | p :: P, w :: vs, 0, m, nd, h1, h2, hk => by
    simp at h1 h2; subst h1; subst h2
    show bindL kindOf ((p, w) :: P.zip vs) m p = _
    unfold bindL
    rw [bindL_out fun v hv => (List.nodup_cons.mp nd).1 (List.of_mem_zip hv).1, if_pos hk]
    simp
  | p :: P, w :: vs, i + 1, m, nd, h1, h2, hk => by
    show bindL kindOf ((p, w) :: P.zip vs) m x = _
    unfold bindL
    exact bindL_get (i := i) (List.nodup_cons.mp nd).2 (by simpa using h1) (by simpa using h2) hk
theorem bindC_get {kindOf : Str → Option NameKind} {x : Str} {v : Value} : ∀ {P : List Str} {vs : List Value} {i : Nat} {m : Str → Option Value}, P.Nodup → P[i]? = some x → vs[i]? = some v → kindOf x ≠ some .local →
    bindC kindOf (P.zip vs) m x = some v
  | [], _, _, _, _, h, _, _ => by simp at h
  | _ :: _, [], _, _, _, _, h, _ => by simp at h
  | p :: P, w :: vs, 0, m, nd, h1, h2, hk => by
    simp at h1 h2; subst h1; subst h2
    show bindC kindOf ((p, w) :: P.zip vs) m p = _
    unfold bindC
    rw [bindC_out fun v hv => (List.nodup_cons.mp nd).1 (List.of_mem_zip hv).1, if_neg hk]
    simp
  | p :: P, w :: vs, i + 1, m, nd, h1, h2, hk => by
    show bindC kindOf ((p, w) :: P.zip vs) m x = _
    unfold bindC
    exact bindC_get (i := i) (List.nodup_cons.mp nd).2 (by simpa using h1) (by simpa using h2) hk
def start (N : List Str) (vs : List V) : St := vs.map some ++ List.replicate (N.length - vs.length) none
def cxOf (CX : CXT) (P : Program) (w : World) (K : PySem.W.Frag) (mg : Str → Option Value) (base : Heap) (N : List Str) (qual : Str) (scope : Scope) (f : Addr) (cd : Value) (A : Around) (outer : List Env) (s : Shared) (H : Hp) (E : XK) : Cx where
  prog := P
  w := w
  K := K
  mg := mg
  base := base
  A := A.deeper (envOfC qual scope s.heap.objs.size f cd)
  N := N
  s₀ := s
  H₀ := H
  env := envOfC qual scope s.heap.objs.size f cd
  outer := outer
  stack := envOfC qual scope s.heap.objs.size f cd :: outer
  ex := []
  calm := true
  fn := fun _ => true
  pn := []
  xe := fun e s' => wpAny (model P w) (A.deeper (envOfC qual scope s.heap.objs.size f cd)) (leaving (envOfC qual scope s.heap.objs.size f cd) e) (fun _ s'' => CX outer H s E e s'') (fun e' s'' => CX outer H s E e' s'') s'
theorem cell_has {sc : Scope} {n : Nat} {x : Str} (h : sc.names.lookup x = some .cell) : ∃ c, (cellsFrom n sc.names []).lookup x = some c := by
  have q := PySem.W.cellsFrom_some sc.names n [] (.inl h)
  exact Option.isSome_iff_exists.mp q
theorem inv_start {CX : CXT} {P : Program} {w : World} {K : PySem.W.Frag} {mg : Str → Option Value} {base : Heap} {N ps : List Str} {qual : Str} {scope : Scope} {f : Addr} {cd : Value} {A : Around} {outer : List Env} {s s1 : Shared} {H : Hp} {E : XK} {us : List Value} {vs : List V}
    (S : FnScope N ps scope) (hd : A.handled = none) (e0 : Env0 P w K mg base A outer s H) (hl : vs.length = ps.length) (r : Vals vs us)
    (x : InCallC s s.heap.objs.size (bindL (envOfC qual scope s.heap.objs.size f cd).kindOf (ps.zip us) fun _ => none) (cellsFrom (s.heap.objs.size + 1) scope.names []) (bindC (envOfC qual scope s.heap.objs.size f cd).kindOf (ps.zip us) fun _ => none) s1) :
    Inv (cxOf CX P w K mg base N qual scope f cd A outer s H E) [] (start N vs) H s1 := by
  have hpl : ps.length ≤ N.length := by have := congrArg List.length S.pre; rw [List.length_take] at this; omega
  obtain ⟨h1, tk, rfl, hk⟩ := x.done
  have noA : ∀ b : Addr, b ∉ (cxOf CX P w K mg base N qual scope f cd A outer s H E).ex := fun b z => absurd (show b ∈ ([] : List Addr) from z) (by simp)
  refine ⟨⟨e0.mod, S.kind, rfl, rfl, Nat.le_refl _, fun y z c h1 h2 => ?_, fun y hy => ?_, fun y c _ h => ?_, fun _ => hd, Around.frames_deeper e0.frames, .inr ⟨rfl, rfl⟩, fun b z => absurd z (noA b), e0.bs, e0.bsz, fun b _ _ => noA b, fun b z => absurd z (noA b), e0.funs, e0.frf⟩,
    rfl, e0.bare, Un.kept hk, ⟨_, x.toInCall.ns, fun i y v h1 h2 h3 => ?_⟩, fun y c h => ⟨_, x.cell y c h⟩, e0.hok.fresh (Nat.le_refl _), fun y c h => ?_, fun p hp => absurd (show p ∈ ([] : List (Addr × Obj)) from hp) (by simp), e0.hok.kept hk, ?_⟩
  · exact name_of_addr x.apart (PySem.mem_of_lookup h1) (PySem.mem_of_lookup h2)
  · have hy : scope.names.lookup y = some .cell ∨ scope.names.lookup y = some .free := hy
    rcases hy with hy | hy
    · exact cell_has hy
    · exact absurd rfl (S.nofree _ (PySem.mem_of_lookup hy))
  · exact Nat.le_of_lt (x.above y c (PySem.mem_of_lookup h))
  · have hi : i < vs.length := by
      unfold start at h2
      by_cases hi : i < vs.length
      · exact hi
      · rw [List.getElem?_append_right (by simpa using hi)] at h2
        rw [List.getElem?_replicate] at h2
        split at h2 <;> cases h2
    have ha : vs[i]? = some v := by
      unfold start at h2
      rw [List.getElem?_append_left (by simpa using hi), List.getElem?_map] at h2
      cases e : vs[i]? with
      | none => rw [e] at h2; cases h2
      | some a => rw [e] at h2; cases h2; rfl
    obtain ⟨u, hu, rv⟩ := r.get ha
    have hp : ps[i]? = some y := by
      rw [← S.pre, List.getElem?_take_of_lt (by omega)]; exact h1
    have ndP : ps.Nodup := by rw [← S.pre]; exact S.nd.sublist (List.take_sublist _ _)
    refine ⟨u, rv, ?_⟩
    rcases S.par y (List.mem_of_getElem? hp) with k | k
    · exact .inl ⟨k, bindL_get ndP hp hu k⟩
    · obtain ⟨c, e⟩ := cell_has (n := s.heap.objs.size + 1) k
      refine .inr ⟨.inl k, c, e, ?_⟩
      have q := x.cell y c e
      rw [bindC_get ndP hp hu (by show scope.names.lookup y ≠ _; rw [k]; decide)] at q
      exact q
  · exact e0.hok.fresh (Nat.le_of_lt (x.above y c (PySem.mem_of_lookup h)))
  · unfold start
    show _ = N.length
    rw [List.length_append, List.length_map, List.length_replicate]
    omega
theorem fn_of {CX : CXT} {P : Program} {w : World} {K : PySem.W.Frag} {mg : Str → Option Value} {base : Heap} {k : Nat} {f : Addr} {name qual : Str} {params : Arguments} {body : List Stmt} {scope : Scope} {dV kV doc pm cdv ct oc : Value} {an od : Option Addr}
    {osl : Array (Option Value)} {N ps : List Str} {sp : Sp} (lk : K.lookup f = some ⟨oc, od, .func (PySem.W.fnOf name qual params body scope dV kV doc pm an cdv ct), osl⟩) (hcd : PySem.W.codeIn K cdv qual = true) (S : FnScope N ps scope)
    (len : ∀ vs H Q E, sp vs H Q E → vs.length = ps.length)
    (hbody : ∀ (A : Around) (outer : List Env) (s : Shared) (H : Hp) (vs : List V) (Q : VK) (E : XK), Room k (A.deeper (envOfC qual scope s.heap.objs.size f cdv)) → sp vs H Q E →
      ∃ t, PSs (cxOf CX P w K mg base N qual scope f cdv A outer s H E) body t ∧ t { nx := fun _ H' => Q .non H', rt := Q } (start N vs) H) :
    FnOk P w K mg base CX (k + 1) f (PySem.W.fnOf name qual params body scope dV kV doc pm an cdv ct) ps sp := by
  refine ⟨len, fun A outer s H args us vs Q E hr e0 hb r hsp => ?_⟩
  have hl := len _ _ _ _ hsp
  have KX : K.In s.heap := e0.mod.kin.keeps fun b o e => (e0.bs b o e).1
  have lim : s.heap.NoLimit := e0.mod.nolimit.keeps fun b o e => (e0.bs b o e).1
  have hkind : ∀ y ∈ ps.zip us, scope.names.lookup y.1 = some .local ∨ (scope.names.lookup y.1 = some .cell ∧ ((cellsFrom (s.heap.objs.size + 1) scope.names []).lookup y.1).isSome = true) := fun ⟨n, v⟩ hy => by
    rcases S.par n (List.of_mem_zip hy).1 with q | q
    · exact .inl q
    · exact .inr ⟨q, PySem.W.cellsFrom_some _ _ _ (.inl q)⟩
  refine codeAny_call_function hr.depth (KX _ _ lk) rfl S.co S.gen rfl (PySem.W.codeRec_of KX hcd) (hb _ _ _ _ ?_)
  refine wpAny_newFunctionEnv_cells S.kind hkind fun env he s1 x => ?_
  subst he
  refine ⟨lim.keeps x.toInCall.keep, codeAny_func ?_⟩
  obtain ⟨t, ht, hq⟩ := hbody A outer s H vs Q E (hr.deeper _) hsp
  have I : Inv (cxOf CX P w K mg base N qual scope f cdv A outer s H E) [] (start N vs) H s1 := inv_start S hr.hd e0 hl r x
  refine wpAny_mono (ht [] s1 (start N vs) H _ I hq) (fun fl s' hs => ?_) fun e s' hs => hs
  have fin : ∀ {σ' : St} {H' : Hp} {v : V} {u : Value}, Inv (cxOf CX P w K mg base N qual scope f cdv A outer s H E) [] σ' H' s' → RelV v u → Q v H' → CE outer P w H s Q u s' :=
    fun {σ' H' v u} J rv q => ⟨v, H', J.os, J.bare, J.base, J.hok, rv, q⟩
  cases fl with
  | ret u =>
    obtain ⟨v, σ', H', J, rv, q⟩ := hs
    exact fin J rv q
  | next =>
    obtain ⟨σ', H', J, q⟩ := hs
    exact fin (v := V.non) (u := Value.none) J rfl q
  | brk =>
    obtain ⟨_, _, _, q⟩ := hs
    exact False.elim q
  | cont =>
    obtain ⟨_, _, _, q⟩ := hs
    exact False.elim q
end L2
namespace L2
open PySem PySem.Spec PyProof.Rows
section
variable {X : Cx} {x : Str} {p pos : Pos} {e : Expr} {es : List Expr} {t : TA} {id T : String} {r : List V → Hp → VK → Prop}
def tCB (r : List V → Hp → VK → Prop) (t : TA) : TE := fun σ H Q => t σ H fun vs H1 => r vs H1 Q
theorem pe_callB (hc : CallR X (.builtin id) r) (hg : Gl X x) (hm : X.mg x = none) (hv : bootBuiltins x = some (.builtin id)) (ha : PA X (e :: es) t) (hn : x ≠ "__name__" := by decide) (hdb : (x == ("__debug__" : Str)) = false := by decide)
    (he : starEach (e :: es) X.env = (false, eval e X.env) :: starEach es X.env := by rfl) (hpl : (backTo pos (starEach es X.env)).any (·.1) = false := by rfl) : PE X (.Call (.Name x p) (e :: es) [] pos) (tCB r t) := by
  intro pins s σ H Q I h
  refine wpAny_Call_Name_kw (ld_blt I hg hm hv ?_ hn hdb)
  exact PyProof.Rows.callWith_builtin1 (thn (ha pos pins s σ H _ I h) fun us s1 ⟨vs, H1, I1, r1, q1⟩ => hc pins s1 σ H1 vs us Q I1 r1 q1) he hpl
theorem pe_callTy (hc : CallR X (.type T) r) (hg : Gl X x) (hm : X.mg x = none) (hv : bootBuiltins x = some (.type T)) (ha : PA X (e :: es) t) (hn : x ≠ "__name__" := by decide) (hdb : (x == ("__debug__" : Str)) = false := by decide)
    (he : starEach (e :: es) X.env = (false, eval e X.env) :: starEach es X.env := by rfl) (hpl : (backTo pos (starEach es X.env)).any (·.1) = false := by rfl) : PE X (.Call (.Name x p) (e :: es) [] pos) (tCB r t) := by
  intro pins s σ H Q I h
  refine wpAny_Call_Name_kw (ld_blt I hg hm hv ?_ hn hdb)
  exact PyProof.Rows.callWith_type1 (thn (ha pos pins s σ H _ I h) fun us s1 ⟨vs, H1, I1, r1, q1⟩ => hc pins s1 σ H1 vs us Q I1 r1 q1) he hpl
end
end L2
namespace HT
open PySem PyProof.Rows
section
open PySem.SeqAt
open PySem.AutoSeq1 (wpAny_loadPart')
open PySem.MeetsSeq PySem.MeetsSeq2 PySem.MeetsSeq3
end
section
variable {prog : Program} {w : World} {A : Around} {E : Value → Shared → Prop} {s : Shared}
theorem cat_tup {t b : Addr} {vs ws : List Value} {Q : Value → Shared → Prop} (ht : IsTup s.heap t vs.toArray) (hb : IsTup s.heap b ws.toArray) (hv : vs ≠ [])
    (h1 : ws = [] → Q (.ref t) s) (h2 : ws ≠ [] → Q (.ref s.heap.objs.size) { s with heap := s.heap.push { cls := .type "tuple", data := .seq (vs ++ ws).toArray } })
    (hsz : vs.length + ws.length ≤ sizeLine) : wpAny (model prog w) A (binaryOp .Add (.ref t) (.ref b)) Q E s := by
  obtain ⟨⟨cls, dd, data, sl⟩, ho, hc, n, hd⟩ := id ht
  obtain ⟨⟨cls2, dd2, data2, sl2⟩, ho2, hc2, n2, hd2⟩ := id hb
  simp only at hc hd hc2 hd2
  subst hc hd hc2 hd2
  have e : vs.toArray ++ ws.toArray = (vs ++ ws).toArray := by simp
  by_cases hw : ws = []
  · exact concat_meets ⟨_, ho, rfl⟩ ⟨_, ho2, rfl⟩ noFill_tuple_add seq_tuple_add PySem.F.slot_tuple_add PySem.F.entry_tuple_add (PySem.F.args_tuple_add_2 _ _)
      (tuple_addW1 t b vs.toArray ws.toArray n n2 dd dd2 sl sl2 (by simpa using hv) (by simp [hw])) ⟨ho, ho2, h1 hw⟩
  · refine concat_meets ⟨_, ho, rfl⟩ ⟨_, ho2, rfl⟩ noFill_tuple_add seq_tuple_add PySem.F.slot_tuple_add PySem.F.entry_tuple_add (PySem.F.args_tuple_add_2 _ _)
      (tuple_addW2 t b vs.toArray ws.toArray n n2 dd dd2 sl sl2 (by simpa using hv) (by simpa using hw) (by rw [List.size_toArray, List.size_toArray]; exact hsz)) ⟨ho, ho2, ?_⟩
    rw [e]
    exact h2 hw
def sIx (n d : Nat) : Option Int → Nat
  | none => d
  | some v => if v < 0 then (v + (n : Int)).toNat else min v.toNat n
theorem sIx_nat (n d k : Nat) : sIx n d (some (k : Int)) = min k n := by
  show (if (k : Int) < 0 then ((k : Int) + (n : Int)).toNat else min (k : Int).toNat n) = min k n
  rw [if_neg (by omega), Int.toNat_natCast]
theorem sIx_le (n d : Nat) (hd : d ≤ n) (o : Option Int) : sIx n d o ≤ n := by
  cases o with
  | none => exact hd
  | some v =>
    show (if v < 0 then (v + (n : Int)).toNat else min v.toNat n) ≤ n
    by_cases hv : v < 0
    · rw [if_pos hv]; omega
    · rw [if_neg hv]; exact Nat.min_le_right _ _
theorem clip_eq (v : Int) (n d : Nat) : (if v < 0 then max (v + (n : Int)) 0 else min v (n : Int)) = ((sIx n d (some v) : Nat) : Int) := by
  show (if v < 0 then max (v + (n : Int)) 0 else min v (n : Int)) = (((if v < 0 then (v + (n : Int)).toNat else min v.toNat n) : Nat) : Int)
  by_cases hv : v < 0
  · simp only [if_pos hv]; omega
  · simp only [if_neg hv]; omega
theorem adjust_gen (lo hi : Option Int) (n : Nat) : Builtin.Slice.sliceAdjust lo hi 1 (n : Int) = (((sIx n 0 lo : Nat) : Int), ((sIx n n hi : Nat) : Int)) := by
  have h1 : ¬ ((1 : Int) < 0) := by omega
  unfold Builtin.Slice.sliceAdjust
  simp only [h1, if_false]
  refine Prod.ext ?_ ?_
  · cases lo with
    | none => rfl
    | some v => exact clip_eq v n 0
  · cases hi with
    | none => rfl
    | some v => exact clip_eq v n n
theorem places_gen (i j : Nat) : Builtin.Slice.slicePlaces (i : Int) (j : Int) 1 = j - i := by
  unfold Builtin.Slice.slicePlaces
  have h1 : (1 : Int) > 0 := by omega
  simp only [h1, if_true, Int.ediv_one]
  split <;> omega
theorem slicePart_ {v : Value} {o : Option Int} {Q : Option Int → Shared → Prop} (p : IsPart v o) (h : Q o s) : wpAny (model prog w) A (Builtin.Slice.slicePartIndex v) Q E s := by
  cases p with
  | none => exact slicePart_none h
  | int i t => exact slicePart_int h
theorem sliceApplied_gen {sl : Addr} {vl vu : Value} {lo hi : Option Int} {n : Nat} {Q : Int × Int × Nat → Shared → Prop} (hs : s.heap.IsSliceOf sl vl vu .none) (pl : IsPart vl lo) (pu : IsPart vu hi)
    (h : Q (((sIx n 0 lo : Nat) : Int), 1, sIx n n hi - sIx n 0 lo) s) : wpAny (model prog w) A (Builtin.Slice.sliceApplied (.ref sl) (pure (n : Int))) Q E s := by
  obtain ⟨os, hos, hcs, hds⟩ := id hs
  unfold Builtin.Slice.sliceApplied Builtin.Slice.sliceFields
  refine wpAny_bind (wpAny_bind (wpAny_field hos hds (x := vl) rfl (wpAny_bind (wpAny_field hos hds (x := vu) rfl (wpAny_bind (wpAny_field hos hds (x := .none) rfl (wpAny_pure ?_)))))))
  refine wpAny_bind (slicePart_none ?_)
  show wpAny _ _ (if ((1 : Int) == 0) = true then _ else _) _ _ s
  rw [if_neg (by decide)]
  refine wpAny_bind (slicePart_ pl (wpAny_bind (slicePart_ pu (wpAny_bind (wpAny_pure ?_)))))
  show wpAny _ _ (match Builtin.Slice.sliceAdjust lo hi 1 (n : Int) with | (lo, hi) => pure (lo, (1 : Int), Builtin.Slice.slicePlaces lo hi 1)) _ _ s
  rw [adjust_gen lo hi n]
  show wpAny _ _ (pure (((sIx n 0 lo : Nat) : Int), (1 : Int), Builtin.Slice.slicePlaces ((sIx n 0 lo : Nat) : Int) ((sIx n n hi : Nat) : Int) 1)) _ _ s
  rw [places_gen]
  exact wpAny_pure h
theorem pick_gen (xs : Array Value) (i k : Nat) : ((List.range k).filterMap fun (m : Nat) => xs[((i : Int) + (m : Int) * 1).toNat]?).toArray = ((xs.toList.drop i).take k).toArray := by
  have e : (fun (m : Nat) => xs[((i : Int) + (m : Int) * 1).toNat]?) = fun m => xs[i + m]? := by
    funext m
    have : ((i : Int) + (m : Int) * 1).toNat = i + m := by omega
    rw [this]
  rw [e]
  have := pick_run xs i k
  rw [List.filterMap_map] at this
  have e2 : ((fun x => xs[x]?) ∘ fun x => i + x) = fun m => xs[i + m]? := rfl
  rw [e2] at this
  rw [this]
theorem getItem_tuple_cut {t sl : Addr} {items : Array Value} {vl vu : Value} {lo hi : Option Int} {Q : Value → Shared → Prop} (ht : IsTup s.heap t items) (hs : s.heap.IsSliceOf sl vl vu .none) (pl : IsPart vl lo) (pu : IsPart vu hi)
    (hw : ¬ (sIx items.size 0 lo = 0 ∧ sIx items.size items.size hi = items.size))
    (h : Q (.ref s.heap.objs.size) { s with heap := s.heap.push { cls := .type "tuple", data := .seq ((items.toList.drop (sIx items.size 0 lo)).take (sIx items.size items.size hi - sIx items.size 0 lo)).toArray } })
    (hsz : items.size ≤ sizeLine) : wpAny (model prog w) A (getItem (.ref t) (.ref sl)) Q E s := by
  have htake : sizeOk (.seq ((items.toList.drop (sIx items.size 0 lo)).take (sIx items.size items.size hi - sIx items.size 0 lo)).toArray) := by
    show ((items.toList.drop (sIx items.size 0 lo)).take (sIx items.size items.size hi - sIx items.size 0 lo)).toArray.size ≤ sizeLine
    rw [List.size_toArray, List.length_take, List.length_drop, Array.length_toList]
    omega
  have hj : sIx items.size items.size hi ≤ items.size := sIx_le _ _ (Nat.le_refl _) hi
  obtain ⟨os, hos, hcs, hds⟩ := id hs
  have hTs : s.TypeIs (.ref sl) "slice" := ⟨os, hos, hcs⟩
  unfold getItem
  try with_reducible refine wpAny_holding ?_
  first | refine wpAny_bind (wpAny_pure ?_) | skip
  refine wpAny_bind (wpAny_sequenceKey ht.typeIs (by decide) ?_)
  refine wpAny_bind (wpAny_callSpecial?_slot (name := Str.ofString "__getitem__") ht.typeIs PyProof.Rows.slot_tuple_getitem
    (wpAny_call_entry PyProof.Rows.slot_tuple_getitem ht.typeIs entry_tuple_getitem ?_ (args_tuple_getitem _ _)))
  show wpAny _ _ (Builtin.Tuple.tupleItemsOf (.ref t) >>= _) _ _ s
  refine wpAny_bind (tupleItemsOf_ ht ?_)
  refine wpAny_bind (wpAny_typeOf hTs ?_)
  rw [if_pos (by decide)]
  refine wpAny_bind (sliceApplied_gen hs pl pu ?_)
  have hno : ¬ ((((sIx items.size 0 lo : Nat) : Int) == 0 && (1 : Int) == 1 && (sIx items.size items.size hi - sIx items.size 0 lo) == items.size) = true) := by
    intro q
    rw [Bool.and_eq_true, Bool.and_eq_true] at q
    have q1 : ((sIx items.size 0 lo : Nat) : Int) = 0 := eq_of_beq q.1.1
    have q2 : sIx items.size items.size hi - sIx items.size 0 lo = items.size := eq_of_beq q.2
    exact hw ⟨by omega, by omega⟩
  show wpAny _ _ (if (((sIx items.size 0 lo : Nat) : Int) == 0 && (1 : Int) == 1 && (sIx items.size items.size hi - sIx items.size 0 lo) == items.size) = true then _ else _) _ _ s
  rw [if_neg hno, pick_gen]
  first
    | exact wpAny_bind (m := Builtin.Tuple.tupleExact _) (wpAny_newObj_type (wpAny_pure ⟨_, rfl, wpAny_pure h⟩) htake)
    | exact wpAny_bind (m := Builtin.Tuple.tupleExact _) (wpAny_newObj_type (wpAny_bind (wpAny_pure (wpAny_pure ⟨_, rfl, wpAny_pure h⟩))) htake)
    | exact wpAny_bind (wpAny_bind (m := Builtin.Tuple.tupleExact _) (wpAny_newObj_type (wpAny_pure (wpAny_pure ⟨_, rfl, wpAny_pure h⟩)) htake))
    | exact wpAny_bind (wpAny_bind (m := Builtin.Tuple.tupleExact _) (wpAny_newObj_type (wpAny_pure ⟨_, rfl, wpAny_pure h⟩) htake))
end
end HT
namespace L2
open PySem PySem.Spec PyProof.Rows
abbrev TO := St → Hp → (Option Int → Hp → Prop) → Prop
def PO (X : Cx) (e : Option Expr) (t : TO) : Prop :=
  ∀ (pins : List (Addr × Obj)) (s : Shared) (σ : St) (H : Hp) (Q : Option Int → Hp → Prop), Inv X pins σ H s → t σ H Q →
    wpAny (model X.prog X.w) X.A (evalPart e X.env) (fun u s' => ∃ o H', Inv X pins σ H' s' ∧ IsPart u o ∧ Q o H') X.xe s
def tNoPart : TO := fun _ H Q => Q none H
def tPart (t : TE) : TO := fun σ H Q => t σ H fun x H1 => ∃ i, x = .int i ∧ Q (some i) H1
section
variable {X : Cx} {e : Expr} {te : TE} {lo hi : Option Expr} {tl th : TO} {pos p2 : Pos}
theorem po_none : PO X none tNoPart := by
  intro pins s σ H Q I h
  rw [evalPart_none]
  exact wpAny_pure ⟨none, H, I, .none, h⟩
theorem po_some (h : PE X e te) : PO X (some e) (tPart te) := by
  intro pins s σ H Q I hw
  rw [evalPart_some]
  refine thn (h pins s σ H _ I hw) fun u s1 ⟨x, H1, I1, r1, q1⟩ => ?_
  obtain ⟨i, rfl, q⟩ := q1
  obtain ⟨t, rfl⟩ := r1
  exact ⟨some i, H1, I1, .int i t, q⟩
def SlR (X : Cx) (r : V → Option Int → Option Int → Hp → VK → Prop) : Prop :=
  ∀ (pins : List (Addr × Obj)) (s : Shared) (σ : St) (H : Hp) (x : V) (v vl vu : Value) (lo hi : Option Int) (sl : Addr) (Q : VK), Inv X pins σ H s → RelV x v → s.heap.IsSliceOf sl vl vu .none → IsPart vl lo → IsPart vu hi → r x lo hi H Q →
    ∃ T id, typeLookup (.type T) "__getitem__" = pure (some (.builtin id)) ∧ s.TypeIs v T ∧ wpAny (model X.prog X.w) X.A (getItem v (.ref sl)) (EP X pins σ Q) X.xe s
def tSl (r : V → Option Int → Option Int → Hp → VK → Prop) (te : TE) (tl th : TO) : TE := fun σ H Q => te σ H fun x H1 => tl σ H1 fun l H2 => th σ H2 fun u H3 => r x l u H3 Q
theorem pe_slice {r : V → Option Int → Option Int → Hp → VK → Prop} (hr : SlR X r) (he : PE X e te) (hl : PO X lo tl) (hu : PO X hi th) : PE X (.Subscript e (.Slice lo hi none p2) pos) (tSl r te tl th) := by
  intro pins s σ H Q I h
  refine Subscript_ (thn (he pins s σ H _ I h) fun v s1 ⟨x, H1, I1, r1, q1⟩ => ?_)
  refine wpAny_Slice (thn (hl pins s1 σ H1 _ I1 q1) fun vl s2 ⟨l, H2, I2, pl, q2⟩ => thn (hu pins s2 σ H2 _ I2 q2) fun vu s3 ⟨u, H3, I3, pu, q3⟩ => ?_)
  rw [evalPart_none]
  refine wpAny_pure ?_
  have I4 : Inv X pins σ H3 { s3 with heap := s3.heap.push { cls := .type "slice", data := .fields #[vl, vu, .none] } } := I3.kept (t' := s3.toks) fun b ob q => Heap.get?_push_of_some _ q
  obtain ⟨T, id, hT, ht, hg⟩ := hr pins { s3 with heap := s3.heap.push { cls := .type "slice", data := .fields #[vl, vu, .none] } } σ H3 x v vl vu l u s3.heap.objs.size Q I4 r1 (Heap.IsSliceOf.new ..) pl pu q3
  show wpAny (model X.prog X.w) X.A (subscriptTail e (.Slice lo hi none p2) v (.ref s3.heap.objs.size)) (EP X pins σ Q) X.xe { s3 with heap := s3.heap.push { cls := .type "slice", data := .fields #[vl, vu, .none] } }
  exact tail_any (ops := [.ref s3.heap.objs.size, v]) ht hT hg (by with_unfolding_all rfl)
def cutV (xs : List V) (lo hi : Option Int) : List V := (xs.drop (HT.sIx xs.length 0 lo)).take (HT.sIx xs.length xs.length hi - HT.sIx xs.length 0 lo)
theorem cutV_length (xs : List V) (lo hi : Option Int) : (cutV xs lo hi).length ≤ xs.length := by
  unfold cutV
  rw [List.length_take, List.length_drop]
  omega
def rSlT (K : PySem.W.Frag) : V → Option Int → Option Int → Hp → VK → Prop := fun x lo hi H Q => ∃ a xs, x = .ref a ∧ SqT K H a xs ∧
  ¬ (HT.sIx xs.length 0 lo = 0 ∧ HT.sIx xs.length xs.length hi = xs.length) ∧ ∀ p, H p = none → Q (.ref p) (upd H p (.tup (cutV xs lo hi)))
theorem sl_tup : SlR X (rSlT X.K) := by
  intro pins s σ H x v vl vu lo hi sl Q I rx hs pl pu h
  obtain ⟨a, xs, rfl, hx, hw, q⟩ := h
  cases rx
  obtain ⟨its, r, ht, hz⟩ := I.tuple hx
  have hlen : its.toArray.size = xs.length := by rw [List.size_toArray]; exact r.length.symm
  refine ⟨"tuple", _, PyProof.Rows.slot_tuple_getitem.lookup, ht.typeIs, ?_⟩
  refine HT.getItem_tuple_cut ht hs pl pu (by rw [hlen]; exact hw) ?_ (by rw [hlen]; exact hz)
  rw [hlen]
  refine ⟨.ref s.heap.objs.size, _, I.laid (t' := s.toks) (o := .tup (cutV xs lo hi)) (fun b ob q => Heap.get?_push_of_some _ q) (Nat.le_refl _) ?_, rfl, q _ (I.hok.fresh (Nat.le_refl _))⟩
  exact ⟨Nat.le_trans (cutV_length xs lo hi) hz, _, (r.drop (HT.sIx xs.length 0 lo)).take (HT.sIx xs.length xs.length hi - HT.sIx xs.length 0 lo), IsTup.new _ _⟩
def rCatT (K : PySem.W.Frag) : R2 := fun x y H Q => ∃ a b xs ys, x = .ref a ∧ y = .ref b ∧ SqT K H a xs ∧ SqT K H b ys ∧ xs ≠ [] ∧ xs.length + ys.length ≤ sizeLine ∧
  (ys = [] → Q (.ref a) H) ∧ (ys ≠ [] → ∀ p, H p = none → Q (.ref p) (upd H p (.tup (xs ++ ys))))
theorem Vals.nil_iff {xs : List V} {us : List Value} (r : Vals xs us) : us = [] ↔ xs = [] := by
  cases r with
  | nil => simp
  | cons _ _ => simp
theorem op_catT : OpR X (binaryOp .Add) (rCatT X.K) := by
  intro pins s σ H x y v u Q I rx ry h
  obtain ⟨a, b, xs, ys, rfl, rfl, ha, hb, hx, hz, q1, q2⟩ := h
  cases rx
  cases ry
  obtain ⟨its, r1, p1, _⟩ := I.tuple ha
  obtain ⟨its2, r2, p2, _⟩ := I.tuple hb
  refine HT.cat_tup p1 p2 (fun z => hx (r1.nil_iff.mp z)) (fun z => ⟨.ref a, H, I, rfl, q1 (r2.nil_iff.mp z)⟩) (fun z => ?_) (by rw [← r1.length, ← r2.length]; exact hz)
  refine ⟨.ref s.heap.objs.size, _, I.laid (t' := s.toks) (o := .tup (xs ++ ys)) (fun b ob q => Heap.get?_push_of_some _ q) (Nat.le_refl _) ?_, rfl, q2 (fun w => z (r2.nil_iff.mpr w)) _ (I.hok.fresh (Nat.le_refl _))⟩
  exact ⟨by rw [List.length_append]; exact hz, _, r1.append r2, IsTup.new _ _⟩
end
end L2
namespace L2
open PySem PySem.Spec PyProof.Rows
def ixN (n : Nat) (i : Int) : Option Nat := if 0 ≤ i then (if i < n then some i.toNat else none) else if -(n : Int) ≤ i then some (i + n).toNat else none
def atI {α : Type} (xs : List α) (i : Int) : Option α := (ixN xs.length i).bind fun j => xs[j]?
theorem ixN_seq {n : Nat} {i : Int} {j : Nat} (h : ixN n i = some j) : seqIndex? i n = some j ∧ j < n ∧ -(n : Int) ≤ i ∧ i < n := by
  unfold ixN at h
  by_cases h0 : 0 ≤ i
  · rw [if_pos h0] at h
    by_cases h1 : i < n
    · rw [if_pos h1] at h
      have e : i.toNat = j := Option.some.inj h
      exact ⟨by rw [seqIndex_of h0 h1, e], by omega, by omega, h1⟩
    · rw [if_neg h1] at h; cases h
  · rw [if_neg h0] at h
    by_cases h1 : -(n : Int) ≤ i
    · rw [if_pos h1] at h
      have e : (i + n).toNat = j := Option.some.inj h
      exact ⟨by rw [seqIndex_neg (by omega) h1, e], by omega, h1, by omega⟩
    · rw [if_neg h1] at h; cases h
theorem atI_get {α : Type} {xs : List α} {i : Int} {v : α} (h : atI xs i = some v) : ∃ j, seqIndex? i xs.length = some j ∧ xs[j]? = some v ∧ j < xs.length ∧ -(xs.length : Int) ≤ i ∧ i < xs.length := by
  unfold atI at h
  cases e : ixN xs.length i with
  | none => rw [e] at h; cases h
  | some j =>
    rw [e] at h
    obtain ⟨h1, h2, h3, h4⟩ := ixN_seq e
    exact ⟨j, h1, h, h2, h3, h4⟩
theorem atI_nat {α : Type} {xs : List α} {j : Nat} {v : α} (h : xs[j]? = some v) : atI xs (j : Int) = some v := by
  have hj : j < xs.length := (List.getElem?_eq_some_iff.mp h).1
  have e : ixN xs.length (j : Int) = some j := by
    unfold ixN
    rw [if_pos (by omega), if_pos (by omega)]; simp
  unfold atI; rw [e]; exact h
def PlainIx (b : Expr) : Prop := ∀ o i, subscripted b false o i = operate [o, i] (getItem o i)
def IxR (X : Cx) (r : R2) : Prop :=
  ∀ (value slice : Expr) (pins : List (Addr × Obj)) (s : Shared) (σ : St) (H : Hp) (x y : V) (v u : Value) (Q : VK), Inv X pins σ H s → RelV x v → RelV y u → r x y H Q →
    subscripted slice false v u = operate [v, u] (getItem v u) → wpAny (model X.prog X.w) X.A (subscriptTail value slice v u) (EP X pins σ Q) X.xe s
def MtR (X : Cx) (id : String) (r : V → List V → Hp → VK → Prop) : Prop :=
  ∀ (pins : List (Addr × Obj)) (s : Shared) (σ : St) (H : Hp) (x : V) (xs : List V) (v : Value) (us : List Value) (Q : VK), Inv X pins σ H s → RelV x v → Vals xs us → r x xs H Q →
    wpAny (model X.prog X.w) X.A (call (.builtin id) (v :: us)) (EP X pins σ Q) X.xe s
section
variable {X : Cx} {a b : Expr} {ta tb : TE} {pos : Pos}
theorem pe_ix {r : R2} (hr : IxR X r) (ha : PE X a ta) (hb : PE X b tb) (hs : PlainIx b) : PE X (.Subscript a b pos) (tOp r ta tb) := by
  intro pins s σ H Q I h
  exact Subscript_ (binT ha hb I h fun v u s2 x y H2 I2 rx ry q => hr a b pins s2 σ H2 x y v u Q I2 rx ry q (hs _ _))
def rIxL (K : PySem.W.Frag) : R2 := fun x y H Q => ∃ p xs i v, x = .ref p ∧ y = .int i ∧ SqL K H p xs ∧ atI xs i = some v ∧ Q v H
def rIxT (K : PySem.W.Frag) : R2 := fun x y H Q => ∃ p xs i v, x = .ref p ∧ y = .int i ∧ SqT K H p xs ∧ atI xs i = some v ∧ Q v H
def rIxS : R2 := fun x y H Q => ∃ z i c, x = .str z ∧ y = .int i ∧ z.length ≤ sizeLine ∧ atI z.cps.toList i = some c ∧ Q (.str ⟨#[c]⟩) H
theorem ix_list : IxR X (rIxL X.K) := by
  intro value slice pins s σ H x y v u Q I rx ry h hs
  obtain ⟨p, xs, i, z, rfl, rfl, hq, he, q⟩ := h
  cases rx
  obtain ⟨t, rfl⟩ := ry
  obtain ⟨its, r, pl, hz⟩ := I.list hq
  obtain ⟨j, h1, h2, h3, h4, h5⟩ := atI_get he
  obtain ⟨w, ew, rw'⟩ := r.get h2
  have hl := r.length
  have hn := line63
  have fin : EP X pins σ Q w s := ⟨z, H, I, rw', q⟩
  by_cases h0 : 0 ≤ i
  · have hj : i.toNat = j := by
      rw [seqIndex_of h0 h5] at h1
      exact Option.some.inj h1
    exact item_listR pl.isList h0 (by omega) (by rw [hj]; simpa using ew) fin hs
  · have hj : (i + (its.toArray.size : Int)).toNat = j := by
      rw [seqIndex_neg (by omega) h4] at h1
      rw [List.size_toArray, ← hl]
      exact Option.some.inj h1
    exact subscriptTail_builtinR (x := w) pl.isList.typeIs slot_list_getitem.lookup
      (wpAny_getItem_list_neg (Q := fun r s' => r = w ∧ EP X pins σ Q r s') pl.isList (by omega) (by rw [List.size_toArray] <;> omega) (by omega) (by rw [hj]; simpa using ew) ⟨rfl, fin⟩) hs
theorem ix_tup : IxR X (rIxT X.K) := by
  intro value slice pins s σ H x y v u Q I rx ry h hs
  obtain ⟨p, xs, i, z, rfl, rfl, hq, he, q⟩ := h
  cases rx
  obtain ⟨t, rfl⟩ := ry
  obtain ⟨its, r, pl, hz⟩ := I.tuple hq
  obtain ⟨j, h1, h2, h3, h4, h5⟩ := atI_get he
  obtain ⟨w, ew, rw'⟩ := r.get h2
  have hl := r.length
  have hn := line63
  have fin : EP X pins σ Q w s := ⟨z, H, I, rw', q⟩
  exact subscriptTail_builtinR (x := w) pl.typeIs slot_tuple_getitem.lookup
    (getItem_tuple (j := j) (Q := fun r s' => r = w ∧ EP X pins σ Q r s') pl (by omega) (by omega) (by rw [List.size_toArray, ← hl]; exact h1) (by simpa using ew) ⟨rfl, fin⟩) hs
theorem ix_str : IxR X rIxS := by
  intro value slice pins s σ H x y v u Q I rx ry h hs
  obtain ⟨z, i, c, rfl, rfl, hz, he, q⟩ := h
  obtain ⟨t, rfl⟩ := rx
  obtain ⟨t', rfl⟩ := ry
  obtain ⟨j, h1, h2, h3, h4, h5⟩ := atI_get he
  have hl : z.cps.toList.length = z.length := by simp [Str.length]
  rw [hl] at h1 h4 h5
  have hn := line63
  exact tail_any (typeIs_str s z t) slot_str_getitem.lookup (getItem_str (c := c) (by
    have e1 : decide (i < -(2 ^ 63 : Int)) = false := decide_eq_false (by omega)
    have e2 : decide (i ≥ 2 ^ 63) = false := decide_eq_false (by omega)
    rw [e1, e2, Bool.or_false]) (by rw [h1]; simpa using h2) ⟨.str ⟨#[c]⟩, H, I.tok _, ⟨_, rfl⟩, q⟩) hs
theorem mapSeq_set (its : List Value) (n j : Nat) (u : Value) : Obj.mapSeq (·.setIfInBounds j u) { cls := .type "list", data := .seq its.toArray n } = { cls := .type "list", data := .seq (its.set j u).toArray n } := by
  simp [Obj.mapSeq]
theorem Inv.lst {pins : List (Addr × Obj)} {σ : St} {H : Hp} {s : Shared} {p : Addr} {xs : List V} (I : Inv X pins σ H s) (h : H p = some (.lst xs)) :
    ∃ (its : List Value) (n : Nat), Vals xs its ∧ s.heap.get? p = some { cls := .type "list", data := .seq its.toArray n } ∧ xs.length ≤ sizeLine := by
  obtain ⟨z, its, n, r, e⟩ := I.hok p _ h
  exact ⟨its, n, r, e, z⟩
theorem Inv.lstUpd {pins : List (Addr × Obj)} {σ : St} {H : Hp} {s : Shared} {p : Addr} {xs ys : List V} {its its' : List Value} {n n' : Nat} {f : Obj → Obj} (I : Inv X pins σ H s) (h : H p = some (.lst xs))
    (ho : s.heap.get? p = some { cls := .type "list", data := .seq its.toArray n }) (hf : f { cls := .type "list", data := .seq its.toArray n } = { cls := .type "list", data := .seq its'.toArray n' }) (r : Vals ys its') (hz : ys.length ≤ sizeLine) (t : Nat) :
    Inv X pins σ (upd H p (.lst ys)) { s with heap := s.heap.update p f, toks := t } := by
  have e : (s.heap.update p f).get? p = some { cls := .type "list", data := .seq its'.toArray n' } := by
    rw [Heap.get?_update_self f ho (by rw [hf] <;> rfl), hf]
  refine I.write (x := p) (e := p) (by rw [h]; trivial) (.inl rfl) (fun b u hb q => (Heap.get?_update_other _ _ (Ne.symm hb)).trans q) ⟨_, e⟩ ?_
  exact ⟨hz, its', n', r, e⟩
def rSetL : V → V → V → Hp → (Hp → Prop) → Prop := fun o i v H Q => ∃ p xs k j, o = .ref p ∧ i = .int k ∧ H p = some (.lst xs) ∧ ixN xs.length k = some j ∧ Q (upd H p (.lst (xs.set j v)))
theorem set_list : PSet X rSetL := by
  intro pins s σ H o i v ov iv u Q I ro ri rv h
  obtain ⟨p, xs, k, j, rfl, rfl, hp, hj, q⟩ := h
  cases ro
  obtain ⟨t, rfl⟩ := ri
  obtain ⟨its, n, r, ho, hz⟩ := I.lst hp
  obtain ⟨h1, h2, h3, h4⟩ := ixN_seq hj
  have hl := r.length
  have hn := line63
  have I' : Inv X pins σ (upd H p (.lst (xs.set j v))) { s with heap := s.heap.update p (Obj.mapSeq (·.setIfInBounds j u)) } :=
    I.lstUpd hp ho (mapSeq_set its n j u) (r.set rv j) (by rw [List.length_set]; exact hz) s.toks
  by_cases h0 : 0 ≤ k
  · have hk : k.toNat = j := by
      rw [seqIndex_of h0 h4] at h1
      exact Option.some.inj h1
    exact PySem.W.ki_setAt ho h0 (by omega) (by rw [List.size_toArray, ← hl]; exact h4) (by rw [hk]; exact ⟨_, I', q⟩)
  · have hk : (k + (its.toArray.size : Int)).toNat = j := by
      rw [seqIndex_neg (by omega) h3] at h1
      rw [List.size_toArray, ← hl]
      exact Option.some.inj h1
    exact PySem.W.ki_setBack ho (by omega) (by rw [List.size_toArray, ← hl]; exact h3) (by omega) (by rw [hk]; exact ⟨_, I', q⟩)
theorem slice_bounds (lo hi : Option Int) (n : Nat) : (sliceBounds lo hi none n).1 = ((HT.sIx n 0 lo : Nat) : Int) ∧ (sliceBounds lo hi none n).2.1 = ((HT.sIx n n hi : Nat) : Int) ∧ (sliceBounds lo hi none n).2.2 = 1 := by
  refine ⟨?_, ?_, rfl⟩
  · cases lo with
    | none => simp [sliceBounds, HT.sIx]
    | some i =>
      simp only [sliceBounds, HT.sIx, Option.getD_none, show (1 : Int) > 0 by decide, if_true]
      by_cases h : i < 0
      · simp only [h, if_true] <;> omega
      · simp only [h, if_false] <;> omega
  · cases hi with
    | none => simp [sliceBounds, HT.sIx]
    | some i =>
      simp only [sliceBounds, HT.sIx, Option.getD_none, show (1 : Int) > 0 by decide, if_true]
      by_cases h : i < 0
      · simp only [h, if_true] <;> omega
      · simp only [h, if_false] <;> omega
theorem slicePick_cut (its : List Value) (lo hi : Option Int) : slicePick its.toArray lo hi none = ((its.drop (HT.sIx its.length 0 lo)).take (HT.sIx its.length its.length hi - HT.sIx its.length 0 lo)).toArray := by
  obtain ⟨h1, h2, h3⟩ := slice_bounds lo hi its.toArray.size
  unfold slicePick
  rw [h1, h2, h3]
  simp only [sliceRange_one, pick_run, List.size_toArray] <;> rfl
def rSlL (K : PySem.W.Frag) : V → Option Int → Option Int → Hp → VK → Prop := fun x lo hi H Q => ∃ a xs, x = .ref a ∧ SqL K H a xs ∧ ∀ p, H p = none → Q (.ref p) (upd H p (.lst (cutV xs lo hi)))
theorem sl_list : SlR X (rSlL X.K) := by
  intro pins s σ H x v vl vu lo hi sl Q I rx hs pl pu h
  obtain ⟨a, xs, rfl, hx, q⟩ := h
  cases rx
  obtain ⟨its, r, ht, hz⟩ := I.list hx
  have hlen := r.length
  refine ⟨"list", _, slot_list_getitem.lookup, ht.isList.typeIs, ?_⟩
  refine wpAny_getItem_list_slice ht.isList hs pl pu .none (by simp) ?_ (by rw [List.size_toArray] <;> omega)
  rw [slicePick_cut, ← hlen]
  refine ⟨.ref s.heap.objs.size, _, I.laid (t' := s.toks) (o := .lst (cutV xs lo hi)) (fun b ob q => Heap.get?_push_of_some _ q) (Nat.le_refl _) ?_, rfl, q _ (I.hok.fresh (Nat.le_refl _))⟩
  exact ⟨Nat.le_trans (cutV_length xs lo hi) hz, _, 0, (r.drop (HT.sIx xs.length 0 lo)).take (HT.sIx xs.length xs.length hi - HT.sIx xs.length 0 lo), Heap.get?_push_size _ rfl⟩
def flatV : V → Bool
  | .non => true
  | .bl _ => true
  | .int _ => true
  | .str _ => true
  | _ => false
def eqV : V → V → Bool
  | .non, .non => true
  | .bl a, .bl b => a == b
  | .bl a, .int b => (if a then 1 else 0) == b
  | .int a, .bl b => a == (if b then 1 else 0)
  | .int a, .int b => a == b
  | .str a, .str b => a == b
  | _, _ => false
theorem eqAt_V {A : Around} {s : Shared} {y x : V} {u v : Value} (ry : RelV y u) (rx : RelV x v) (fy : flatV y = true) (fx : flatV x = true) : SeqAt.EqAt A s u v (eqV y x) := by
  cases y with
  | non =>
    cases ry
    cases x with
    | non => cases rx; exact SeqAt.EqAt.same _
    | bl b => cases rx; exact SeqAt.EqAt.none_bool b
    | int b => obtain ⟨t, rfl⟩ := rx; exact SeqAt.EqAt.none_int b t
    | str b => obtain ⟨t, rfl⟩ := rx; exact SeqAt.EqAt.none_str b t
    | _ => exact absurd (show false = true from fx) Bool.false_ne_true
  | bl a =>
    cases ry
    cases x with
    | non => cases rx; exact SeqAt.EqAt.bool_none a
    | bl b => cases rx; exact SeqAt.EqAt.bool_bool a b
    | int b => obtain ⟨t, rfl⟩ := rx; exact SeqAt.EqAt.bool_int a b t
    | str b => obtain ⟨t, rfl⟩ := rx; exact SeqAt.EqAt.bool_str a b t
    | _ => exact absurd (show false = true from fx) Bool.false_ne_true
  | int a =>
    obtain ⟨t', rfl⟩ := ry
    cases x with
    | non => cases rx; exact SeqAt.EqAt.int_none a t'
    | bl b => cases rx; exact SeqAt.EqAt.int_bool a t' b
    | int b => obtain ⟨t, rfl⟩ := rx; exact SeqAt.EqAt.int_int a t' b t
    | str b => obtain ⟨t, rfl⟩ := rx; exact SeqAt.EqAt.int_str a t' b t
    | _ => exact absurd (show false = true from fx) Bool.false_ne_true
  | str a =>
    obtain ⟨t', rfl⟩ := ry
    cases x with
    | non => cases rx; exact SeqAt.EqAt.str_none a t'
    | bl b => cases rx; exact SeqAt.EqAt.str_bool a t' b
    | int b => obtain ⟨t, rfl⟩ := rx; exact SeqAt.EqAt.str_int a t' b t
    | str b => obtain ⟨t, rfl⟩ := rx; exact SeqAt.EqAt.str_str a t' b t
    | _ => exact absurd (show false = true from fx) Bool.false_ne_true
  | _ => exact absurd (show false = true from fy) Bool.false_ne_true
def eqU (x : V) (u : Value) : Bool := match u with
  | .none => eqV .non x
  | .bool b => eqV (.bl b) x
  | .int i _ => eqV (.int i) x
  | .str z _ => eqV (.str z) x
  | _ => false
theorem eqU_of {x y : V} {u : Value} (r : RelV y u) (f : flatV y = true) : eqU x u = eqV y x := by
  cases y with
  | non => cases r; rfl
  | bl b => cases r; rfl
  | int i => obtain ⟨t, rfl⟩ := r; rfl
  | str z => obtain ⟨t, rfl⟩ := r; rfl
  | _ => exact absurd (show false = true from f) Bool.false_ne_true
theorem any_eqU {x : V} : ∀ {xs : List V} {us : List Value}, Vals xs us → xs.all flatV = true → us.any (eqU x) = xs.any fun y => eqV y x
  | _, _, .nil, _ => rfl
  | y :: xs, u :: us, .cons r t, f => by
    rw [List.all_cons, Bool.and_eq_true] at f
    rw [List.any_cons, List.any_cons, eqU_of r f.1, any_eqU t f.2]
theorem mem_eqAt {A : Around} {s : Shared} {x : V} {v : Value} (rx : RelV x v) (fx : flatV x = true) : ∀ {xs : List V} {us : List Value}, Vals xs us → xs.all flatV = true → ∀ u ∈ us, SeqAt.EqAt A s u v (eqU x u)
  | _, _, .nil, _ => fun u hu => by cases hu
  | y :: xs, u :: us, .cons r t, f => fun u' hu => by
    rw [List.all_cons, Bool.and_eq_true] at f
    rcases List.mem_cons.mp hu with rfl | hu
    · rw [eqU_of r f.1]; exact eqAt_V r rx f.1 fx
    · exact mem_eqAt rx fx t f.2 u' hu
def inV (x : V) (xs : List V) : Bool := xs.any fun y => eqV y x
def rIn (K : PySem.W.Frag) (neg : Bool) : R2 := fun x y H Q => ∃ p xs, y = .ref p ∧ (SqL K H p xs ∨ SqT K H p xs) ∧ flatV x = true ∧ xs.all flatV = true ∧ Q (.bl (if neg then !inV x xs else inV x xs)) H
theorem op_in_seq : OpR X (compareOp .In) (rIn X.K false) := by
  intro pins s σ H x y v u Q I rx ry h
  obtain ⟨p, xs, rfl, hq, fx, fs, q⟩ := h
  cases ry
  rcases hq with hq | hq
  · obtain ⟨its, r, pl, hz⟩ := I.list hq
    refine SeqAt.in_listAt (eqU x) pl.isList (fun w hw => mem_eqAt rx fx r fs w (by simpa using hw)) ⟨.bl _, H, I, rfl, ?_⟩
    rw [show its.toArray.any (eqU x) = its.any (eqU x) by simp, any_eqU r fs]
    exact q
  · obtain ⟨its, r, pl, hz⟩ := I.tuple hq
    refine SeqAt.in_tupleAt (eqU x) pl (fun w hw => mem_eqAt rx fx r fs w (by simpa using hw)) ⟨.bl _, H, I, rfl, ?_⟩
    rw [show its.toArray.any (eqU x) = its.any (eqU x) by simp, any_eqU r fs]
    exact q
theorem op_notIn_seq : OpR X (compareOp .NotIn) (rIn X.K true) := by
  intro pins s σ H x y v u Q I rx ry h
  obtain ⟨p, xs, rfl, hq, fx, fs, q⟩ := h
  cases ry
  rcases hq with hq | hq
  · obtain ⟨its, r, pl, hz⟩ := I.list hq
    refine SeqAt.notIn_listAt (eqU x) pl.isList (fun w hw => mem_eqAt rx fx r fs w (by simpa using hw)) ⟨.bl _, H, I, rfl, ?_⟩
    rw [show its.toArray.any (eqU x) = its.any (eqU x) by simp, any_eqU r fs]
    exact q
  · obtain ⟨its, r, pl, hz⟩ := I.tuple hq
    refine SeqAt.notIn_tupleAt (eqU x) pl (fun w hw => mem_eqAt rx fx r fs w (by simpa using hw)) ⟨.bl _, H, I, rfl, ?_⟩
    rw [show its.toArray.any (eqU x) = its.any (eqU x) by simp, any_eqU r fs]
    exact q
theorem call_len_seq : CallR X (.builtin "len") (fun xs H Q => ∃ p ys, xs = [.ref p] ∧ (SqL X.K H p ys ∨ SqT X.K H p ys) ∧ Q (.int ys.length) H) := by
  intro pins s σ H xs us Q I r h
  obtain ⟨p, ys, rfl, hq, q⟩ := h
  obtain ⟨u, rfl, rx⟩ := vals1 r
  cases rx
  have hn := line63
  rcases hq with hq | hq
  · obtain ⟨its, r', pl, hz⟩ := I.list hq
    have hlen := r'.length
    exact Calls.call_len_list pl.isList (by simp only [List.size_toArray] <;> omega) ⟨.int ys.length, H, I.tok _, ⟨s.toks + 1, by rw [List.size_toArray, hlen]⟩, q⟩
  · obtain ⟨its, r', pl, hz⟩ := I.tuple hq
    have hlen := r'.length
    exact len_tuple pl (by simp only [List.size_toArray] <;> omega) ⟨.int ys.length, H, I.tok _, ⟨s.toks + 1, by rw [List.size_toArray, hlen]⟩, q⟩
theorem call_len_str : CallR X (.builtin "len") (fun xs H Q => ∃ z, xs = [.str z] ∧ z.length ≤ sizeLine ∧ Q (.int z.length) H) := by
  intro pins s σ H xs us Q I r h
  obtain ⟨z, rfl, hz, q⟩ := h
  obtain ⟨u, rfl, t, rfl⟩ := vals1 r
  have hn := line63
  exact len_str (by omega) ⟨.int z.length, H, I.tok _, ⟨_, rfl⟩, q⟩
theorem call_list_of : CallR X (.type "list") (fun xs H Q => ∃ p ys, xs = [.ref p] ∧ (SqL X.K H p ys ∨ SqT X.K H p ys) ∧ ∀ l, H l = none → Q (.ref l) (upd H l (.lst ys))) := by
  intro pins s σ H xs us Q I r h
  obtain ⟨p, ys, rfl, hq, q⟩ := h
  obtain ⟨u, rfl, rx⟩ := vals1 r
  cases rx
  have fin : ∀ (its : List Value), Vals ys its → ys.length ≤ sizeLine → ∀ (h' : Heap) (c' : Nat), (∀ b o', s.heap.get? b = some o' → h'.get? b = some o') →
      h'.get? s.heap.objs.size = some { cls := .type "list", dict := none, data := .seq its.toArray c', slots := #[] } → EP X pins σ Q (.ref s.heap.objs.size) { s with heap := h' } := fun its r' hz h' c' kp e =>
    ⟨.ref s.heap.objs.size, _, I.laid (t' := s.toks) kp (Nat.le_refl _) (show ObjOk X.prog X.w _ h' _ (.lst ys) from ⟨hz, its, c', r', e⟩), rfl, q _ (I.hok.fresh (Nat.le_refl _))⟩
  rcases hq with hq | hq
  · obtain ⟨its, r', pl, hz⟩ := I.list hq
    have hlen := r'.length
    obtain ⟨o, ho, hc, n, hd⟩ := pl.isList
    exact call_list_seq p (.inl rfl) ho hc hd (fun h' c' kp e => fin its r' hz h' c' kp e) (by simp only [List.size_toArray] <;> omega)
  · obtain ⟨its, r', pl, hz⟩ := I.tuple hq
    have hlen := r'.length
    obtain ⟨o, ho, hc, n, hd⟩ := pl
    exact call_list_seq p (.inr rfl) ho hc hd (fun h' c' kp e => fin its r' hz h' c' kp e) (by simp only [List.size_toArray] <;> omega)
theorem call_tuple_of : CallR X (.type "tuple") (fun xs H Q => ∃ p ys, xs = [.ref p] ∧ ((SqL X.K H p ys ∧ ∀ l, H l = none → Q (.ref l) (upd H l (.tup ys))) ∨ (SqT X.K H p ys ∧ Q (.ref p) H))) := by
  intro pins s σ H xs us Q I r h
  obtain ⟨p, ys, rfl, h⟩ := h
  obtain ⟨u, rfl, rx⟩ := vals1 r
  cases rx
  rcases h with ⟨hq, q⟩ | ⟨hq, q⟩
  · obtain ⟨its, r', pl, hz⟩ := I.list hq
    have hlen := r'.length
    refine call_tuple_list pl.isList (fun h' kp => ?_) (by simp only [List.size_toArray] <;> omega)
    have I1 : Inv X pins σ H { s with heap := h' } := I.kept (t' := s.toks) kp
    have I2 : Inv X pins σ (upd H h'.objs.size (.tup ys)) { s with heap := h'.push { cls := .type "tuple", data := .seq its.toArray } } :=
      I1.laid (t' := s.toks) (fun b o e => Heap.get?_push_of_some _ e) (Nat.le_refl _) (show ObjOk X.prog X.w _ _ _ (.tup ys) from ⟨hz, its, r', IsTup.new _ _⟩)
    exact ⟨.ref h'.objs.size, _, I2, rfl, q _ (I1.hok.fresh (Nat.le_refl _))⟩
  · obtain ⟨its, r', pl, hz⟩ := I.tuple hq
    exact call_tuple_same pl ⟨.ref p, H, I, rfl, q⟩
def tyV (K : PySem.W.Frag) (T : String) (x : V) (H : Hp) : Prop := match x with
  | .str _ => T = "str"
  | .int _ => T = "int"
  | .ref p => (T = "list" ∧ ∃ xs, SqL K H p xs) ∨ (T = "tuple" ∧ ∃ o, K.lookup p = some o ∧ o.cls = .type "tuple" ∧ o.dict = none) ∨
      (T = "dict" ∧ ((∃ kvs, H p = some (.dK kvs)) ∨ ∃ kvs, H p = some (.dT kvs))) ∨ (T = "set" ∧ ∃ S n, H p = some (.set S n))
  | _ => False
theorem tyV_is {pins : List (Addr × Obj)} {σ : St} {H : Hp} {s : Shared} {T : String} {x : V} {v : Value} (I : Inv X pins σ H s) (r : RelV x v) (ty : tyV X.K T x H) :
    s.TypeIs v T ∧ ∀ a, v = .ref a → ∃ ob, s.heap.get? a = some ob ∧ ob.dict = none := by
  cases x with
  | str z =>
    obtain ⟨t, rfl⟩ := r
    cases (show T = "str" from ty)
    exact ⟨typeIs_str s z t, fun _ e => nomatch e⟩
  | int i =>
    obtain ⟨t, rfl⟩ := r
    cases (show T = "int" from ty)
    exact ⟨typeIs_int s i t, fun _ e => nomatch e⟩
  | ref p =>
    cases r
    rcases ty with ⟨rfl, xs, hq⟩ | ⟨rfl, o, hk, hc, hd⟩ | ⟨rfl, hk⟩ | ⟨rfl, S, n, hk⟩
    · obtain ⟨its, _, pl, _⟩ := I.list hq
      refine ⟨pl.isList.typeIs, fun a e => ?_⟩
      cases e
      obtain ⟨o, n, e, c, hd, _⟩ := pl
      exact ⟨o, e, hd⟩
    · refine ⟨⟨o, I.kIn p o hk, hc⟩, fun a e => ?_⟩
      cases e
      exact ⟨o, I.kIn _ o hk, hd⟩
    · have z : ∃ o, s.heap.get? p = some o ∧ o.ExactDict := by
        rcases hk with ⟨kvs, hk⟩ | ⟨kvs, hk⟩
        · obtain ⟨_, _, _, _, o, _, _, e, ex, _⟩ := I.hok p _ hk
          exact ⟨o, e, ex⟩
        · obtain ⟨_, _, _, _, o, _, _, e, ex, _⟩ := I.hok p _ hk
          exact ⟨o, e, ex⟩
      obtain ⟨o, e, ex⟩ := z
      refine ⟨⟨o, e, ex.1⟩, fun a e2 => ?_⟩
      cases e2
      exact ⟨o, e, ex.2.1⟩
    · obtain ⟨o, _, _, _, e, ex, _⟩ := I.hok p _ hk
      refine ⟨⟨o, e, ex.1⟩, fun a e2 => ?_⟩
      cases e2
      exact ⟨o, e, ex.2.1⟩
  | _ => exact False.elim ty
def tBM0 (K : PySem.W.Frag) (T : String) (r : V → List V → Hp → VK → Prop) (to : TE) : TE := fun σ H Q => to σ H fun x H1 => tyV K T x H1 ∧ r x [] H1 Q
def tBM (K : PySem.W.Frag) (T : String) (r : V → List V → Hp → VK → Prop) (to : TE) (t : TA) : TE := fun σ H Q => to σ H fun x H1 => tyV K T x H1 ∧ t σ H1 fun xs H2 => r x xs H2 Q
variable {o e : Expr} {es : List Expr} {to : TE} {t : TA} {name : Str} {apos cpos : Pos} {T id : String} {r : V → List V → Hp → VK → Prop}
theorem pe_bm0 (pa : PlainAttrs T) (slot : Slot T name id) (hty : typeOf (.builtin id) = pure (.type "method_descriptor")) (hm : MtR X id r) (ho : PE X o to)
    (hbase : attributeBase o name X.env (eval o X.env) = eval o X.env := by rfl) (hline : (apos.endLine == cpos.line) = true := by rfl) : PE X (.Call (.Attribute o name apos) [] [] cpos) (tBM0 X.K T r to) := by
  intro pins s σ H Q I h
  refine wpAny_Call_method0_late hbase hline (thn (ho pins s σ H _ I h) fun v s1 ⟨x, H1, I1, r1, ty, q1⟩ => ?_)
  obtain ⟨h1, h2⟩ := tyV_is I1 r1 ty
  exact ⟨T, id, pa, slot, hty, h1, h2, Calls.callWith_builtin rfl (PySem.evalArgs_none (hm pins s1 σ H1 x [] v [] Q I1 r1 .nil q1))⟩
theorem pe_bm (pa : PlainAttrs T) (slot : Slot T name id) (hty : typeOf (.builtin id) = pure (.type "method_descriptor")) (hm : MtR X id r) (ho : PE X o to) (ha : PA X (e :: es) t)
    (hbase : attributeBase o name X.env (eval o X.env) = eval o X.env := by rfl)
    (hfew : ((backTo cpos (starEach (e :: es) X.env)).all (fun x => !x.1) && (backToKw cpos (keywordEach [] X.env)).all (fun x => x.1.isSome)
      && decide ((e :: es).length + ([] : List Keyword).length + (if ([] : List Keyword).isEmpty then 0 else 1) < 30)) = true := by rfl)
    (hline : (apos.endLine == cpos.line) = true := by rfl) (hs : starEach (e :: es) X.env = (false, eval e X.env) :: starEach es X.env := by rfl) (hplain : (backTo cpos (starEach es X.env)).any (·.1) = false := by rfl) :
    PE X (.Call (.Attribute o name apos) (e :: es) [] cpos) (tBM X.K T r to t) := by
  intro pins s σ H Q I h
  refine wpAny_Call_method_late hbase hfew hline rfl (thn (ho pins s σ H _ I h) fun v s1 ⟨x, H1, I1, r1, ty, q1⟩ => ?_)
  obtain ⟨h1, h2⟩ := tyV_is I1 r1 ty
  refine ⟨T, id, pa, slot, hty, h1, h2, ?_⟩
  have hA := ha cpos pins s1 σ H1 _ I1 q1
  rw [hs] at hA ⊢
  refine Calls.callWith_builtin (by show (false || (backTo cpos (starEach es X.env)).any (·.1)) = false; rw [hplain] <;> rfl) (Calls.evalArgs_plain ?_)
  exact thn hA fun us s2 ⟨vs, H2, I2, r2, q2⟩ => hm pins s2 σ H2 x vs v us Q I2 r1 r2 q2
end
end L2
namespace L2
open PySem PySem.Spec PyProof.Rows
def MtM (X : Cx) (id : String) (r : V → List V → Hp → VK → Prop) : Prop :=
  ∀ (pins : List (Addr × Obj)) (s : Shared) (σ : St) (H : Hp) (x : V) (xs : List V) (v : Value) (us : List Value) (Q : VK), Inv X pins σ H s → RelV x v → Vals xs us → r x xs H Q →
    wpAny (model X.prog X.w) X.A (call (.builtin id) (v :: us)) (EP X pins σ Q) X.xe s
theorem Vals.one : ∀ {x : V} {us : List Value}, Vals [x] us → ∃ u, us = [u] ∧ RelV x u
  | _, _, .cons r .nil => ⟨_, rfl, r⟩
theorem Vals.zero : ∀ {us : List Value}, Vals [] us → us = []
  | _, .nil => rfl
theorem Vals.rep {xs : List V} {us : List Value} (h : Vals xs us) : ∀ k : Nat, Vals (List.replicate k xs).flatten (List.replicate k us).flatten
  | 0 => .nil
  | k + 1 => by
    rw [List.replicate_succ, List.replicate_succ, List.flatten_cons, List.flatten_cons]
    exact Vals.append h (Vals.rep h k)
theorem foldl_rep (its : List Value) : ∀ (k : Nat) (acc : List Value),
    List.foldl (fun x1 x2 => x1 ++ x2) acc.toArray (List.replicate k its.toArray) = (acc ++ (List.replicate k its).flatten).toArray
  | 0, acc => by simp
  | k + 1, acc => by
    have e : acc.toArray ++ its.toArray = (acc ++ its).toArray := by simp
    have e2 : (acc ++ its) ++ (List.replicate k its).flatten = acc ++ (List.replicate (k + 1) its).flatten := by
      rw [List.replicate_succ, List.flatten_cons, List.append_assoc]
    rw [← e2, ← foldl_rep its k (acc ++ its), ← e, List.replicate_succ, List.foldl_cons]
section
variable {X : Cx} {pins : List (Addr × Obj)} {σ : St} {H : Hp} {s : Shared} {l b : Addr} {xs ys zs : List V}
theorem Inv.lset {its its' : List Value} {n : Nat} {f : Array Value → Array Value} {t' : Nat} (I : Inv X pins σ H s) (hH : H l = some (.lst xs))
    (e : s.heap.get? l = some { cls := .type "list", data := .seq its.toArray n }) (hf : f its.toArray = its'.toArray) (hv : Vals ys its') (hz : ys.length ≤ sizeLine) :
    Inv X pins σ (upd H l (.lst ys)) { s with heap := s.heap.update l (Obj.mapSeq f), toks := t' } := by
  have q := PySem.IsL.update e f
  rw [hf] at q
  refine I.write (x := l) (e := l) (by rw [hH]; exact trivial) (.inl rfl) (fun b' u hb hu => (Heap.get?_update_other s.heap (Obj.mapSeq f) (Ne.symm hb)).trans hu) ⟨_, q⟩ ?_
  exact ⟨hz, its', _, hv, q⟩
theorem Inv.lnew {its : List Value} {t' : Nat} (I : Inv X pins σ H s) (hv : Vals ys its) (hz : ys.length ≤ sizeLine) :
    Inv X pins σ (upd H s.heap.objs.size (.lst ys)) { s with heap := s.heap.push { cls := .type "list", data := .seq its.toArray }, toks := t' } :=
  I.laid (fun _ _ q => Heap.get?_push_of_some _ q) (Nat.le_refl _) ⟨hz, its, 0, hv, Heap.get?_push_size _ rfl⟩
theorem Inv.fresh (I : Inv X pins σ H s) : H s.heap.objs.size = none := I.hok.fresh (Nat.le_refl _)
theorem Inv.lstM (I : Inv X pins σ H s) (hH : H l = some (.lst xs)) : xs.length ≤ sizeLine ∧ ∃ (its : List Value) (n : Nat), Vals xs its ∧ xs.length = its.length ∧ s.heap.get? l = some { cls := .type "list", data := .seq its.toArray n } := by
  obtain ⟨z, its, n, r, e⟩ := I.hok l _ hH
  exact ⟨z, its, n, r, r.length, e⟩
theorem notLongL {n : Nat} (h : n ≤ sizeLine) : Builtin.List.listTooLong n = false := by
  unfold Builtin.List.listTooLong
  exact decide_eq_false (by omega)
end
section
variable {X : Cx}
def rAppend : V → List V → Hp → VK → Prop := fun x vs H Q => ∃ l xs y, x = .ref l ∧ vs = [y] ∧ H l = some (.lst xs) ∧ xs.length < sizeLine ∧ Q .non (upd H l (.lst (xs ++ [y])))
theorem mt_append : MtM X "list.append" rAppend := by
  intro pins s σ H x vs v us Q I rx rv h
  obtain ⟨l, xs, y, rfl, rfl, hH, hz, q⟩ := h
  cases rx
  obtain ⟨u, rfl, ru⟩ := rv.one
  obtain ⟨z, its, n, r, hl, e⟩ := I.lstM hH
  refine call_meets F.slot_list_append ⟨_, e, rfl⟩ F.entry_list_append (F.args_list_append_2 _ _) (PySem.list_append l its.toArray n u (by rw [List.size_toArray]; omega)) ⟨e, ?_⟩
  refine ⟨.non, _, I.lset (its' := its ++ [u]) hH e (by simp) (r.append (.cons ru .nil)) ?_, rfl, q⟩
  rw [List.length_append, List.length_singleton]
  omega
def rClear : V → List V → Hp → VK → Prop := fun x vs H Q => ∃ l xs, x = .ref l ∧ vs = [] ∧ H l = some (.lst xs) ∧ Q .non (upd H l (.lst []))
theorem mt_clear : MtM X "list.clear" rClear := by
  intro pins s σ H x vs v us Q I rx rv h
  obtain ⟨l, xs, rfl, rfl, hH, q⟩ := h
  cases rx
  have hus := rv.zero
  subst hus
  obtain ⟨z, its, n, r, hl, e⟩ := I.lstM hH
  refine call_meets F.slot_list_clear ⟨_, e, rfl⟩ F.entry_list_clear (F.args_list_clear_1 _) (AutoSeq1.list_clear_list_0 l its.toArray n (by rw [List.size_toArray]; omega)) ⟨e, ?_⟩
  exact ⟨.non, _, I.lset (its' := []) (ys := []) hH e rfl .nil (Nat.zero_le _), rfl, q⟩
def rCat : R2 := fun x y H Q => ∃ l b xs zs, x = .ref l ∧ y = .ref b ∧ H l = some (.lst xs) ∧ H b = some (.lst zs) ∧ xs.length + zs.length ≤ sizeLine ∧ ∀ p, H p = none → Q (.ref p) (upd H p (.lst (xs ++ zs)))
theorem op_cat : OpR X (binaryOp .Add) rCat := by
  intro pins s σ H x y v u Q I rx ry h
  obtain ⟨l, b, xs, zs, rfl, rfl, hH, hB, hz, q⟩ := h
  cases rx
  cases ry
  obtain ⟨z, its, n, r, hl, e⟩ := I.lstM hH
  obtain ⟨z2, its2, n2, r2, hl2, e2⟩ := I.lstM hB
  refine PySem.P.add_list e e2 ?_ (by rw [List.size_toArray, List.size_toArray]; omega)
  have ea : its.toArray ++ its2.toArray = (its ++ its2).toArray := by simp
  rw [ea]
  exact ⟨.ref _, _, I.lnew (t' := s.toks) (r.append r2) (by rw [List.length_append]; omega), rfl, q _ I.fresh⟩
def rRep : R2 := fun x y H Q => ∃ l k xs, x = .ref l ∧ y = .int k ∧ H l = some (.lst xs) ∧ -(2 ^ 63) ≤ k ∧ k < 2 ^ 63 ∧ xs.length * k.toNat ≤ sizeLine ∧
  ∀ p, H p = none → Q (.ref p) (upd H p (.lst (List.replicate k.toNat xs).flatten))
theorem len_rep {α : Type} (xs : List α) (k : Nat) : (List.replicate k xs).flatten.length = k * xs.length := by
  induction k with
  | zero => simp
  | succ k ih => rw [List.replicate_succ, List.flatten_cons, List.length_append, ih, Nat.succ_mul, Nat.add_comm]
theorem op_rep : OpR X (binaryOp .Mult) rRep := by
  intro pins s σ H x y v u Q I rx ry h
  obtain ⟨l, k, xs, rfl, rfl, hH, h1, h2, hz, q⟩ := h
  cases rx
  obtain ⟨t, rfl⟩ := ry
  obtain ⟨z, its, n, r, hl, e⟩ := I.lstM hH
  have hlen : its.toArray.size * k.toNat ≤ sizeLine := by rw [List.size_toArray, ← hl]; exact hz
  have hcap : ¬ its.toArray.size * k.toNat > (2 ^ 63 - 1) / 8 := by
    have : (sizeLine : Nat) ≤ (2 ^ 63 - 1) / 8 := by decide
    omega
  have hfit : ¬ (!Builtin.List.listFitsIndex k) = true := by
    rw [fitsIndex_both h1 h2]
    exact Bool.false_ne_true
  have hlong : ¬ Builtin.List.listTooLong (its.toArray.size * k.toNat) = true := by
    rw [notLongL hlen]
    exact Bool.false_ne_true
  have hnew : List.foldl (fun x1 x2 => x1 ++ x2) #[] (List.replicate (if its.toArray.isEmpty = true then 0 else k.toNat) its.toArray) = (List.replicate k.toNat its).flatten.toArray := by
    have f0 : ∀ m : Nat, List.foldl (fun x1 x2 => x1 ++ x2) #[] (List.replicate m its.toArray) = (List.replicate m its).flatten.toArray := fun m => by
      have := foldl_rep its m []
      rw [List.nil_append] at this
      exact this
    rw [f0]
    cases its with
    | nil => simp
    | cons a r' => rw [if_neg (by simp)]
  refine wpAny_binaryOp_repeat_ref (T := "list") (U := "int") (by decide) ⟨_, e, rfl⟩ (fun s' => typeIs_int s' k t) noFill_list_mul F.fills_int_mul F.slot_int_rmul repeat_list F.slot_int_index.lookup
    (call_meets F.slot_int_rmul (typeIs_int s k t) F.entry_int_rmul (F.args_int_rmul_2 _ _) (int___rmul___int_list k t l its.toArray n)
      ⟨e, rfl, ⟨_, e, rfl⟩, call_meets F.slot_list_mul ⟨_, e, rfl⟩ F.entry_list_mul (F.args_list_mul_2 _ _) (AutoListH.list___mul___list_int_3 l its.toArray n k t hfit hcap hlong) ⟨e, ?_⟩⟩)
  rw [hnew]
  exact ⟨.ref _, _, I.lnew (t' := s.toks) (r.rep k.toNat) (by rw [len_rep, Nat.mul_comm]; exact hz), rfl, q _ I.fresh⟩
end
section
variable {prog : Program} {w : World} {A : Around} {E : Value → Shared → Prop} {s : Shared}
end
section
variable {X : Cx}
end
end L2
namespace L2
open PySem PySem.Spec PyProof.Rows
section
variable {κ : Type} [DecidableEq κ]
def valV (kvs : List (κ × V)) (k : κ) : Option V := (kvs.find? fun kv => decide (kv.1 = k)).map (·.2)
def putK (kvs : List (κ × V)) (k : κ) (v : V) : List (κ × V) :=
  if (kvs.any fun kv => decide (kv.1 = k)) = true then kvs.map (fun kv => if kv.1 = k then (kv.1, v) else kv) else kvs ++ [(k, v)]
theorem valV_pos {p : κ × V} {r : List (κ × V)} {k : κ} (e : p.1 = k) : valV (p :: r) k = some p.2 := by simp [valV, List.find?_cons, e]
theorem valV_neg {p : κ × V} {r : List (κ × V)} {k : κ} (e : ¬ p.1 = k) : valV (p :: r) k = valV r k := by simp [valV, List.find?_cons, e]
theorem valV_any (k : κ) : ∀ kvs : List (κ × V), (kvs.any fun kv => decide (kv.1 = k)) = (valV kvs k).isSome
  | [] => rfl
  | p :: r => by
    rw [List.any_cons]
    by_cases e : p.1 = k
    · simp only [valV_pos e, decide_eq_true e, Bool.true_or, Option.isSome_some]
    · rw [valV_neg e, decide_eq_false e, Bool.false_or]; exact valV_any k r
theorem length_putK (kvs : List (κ × V)) (k : κ) (v : V) : (putK kvs k v).length ≤ kvs.length + 1 := by
  unfold putK
  split
  · rw [List.length_map]; omega
  · rw [List.length_append, List.length_cons, List.length_nil]; omega
theorem RelO.isSome_eq {o : Option V} {u : Option Value} (r : RelO o u) : o.isSome = u.isSome := by
  cases o with
  | none => cases u with
    | none => rfl
    | some _ => exact (show False from r).elim
  | some _ => cases u with
    | none => exact (show False from r).elim
    | some _ => rfl
theorem KV.val {kvs : List (κ × V)} {vs : List (κ × Value)} (r : KV kvs vs) (k : κ) : RelO (valV kvs k) (valueAt vs k) := by
  unfold KV at r
  induction r with
  | nil => exact True.intro
  | @cons p q ps qs h t ih =>
    obtain ⟨h1, h2⟩ := h
    by_cases e : p.1 = k
    · have e' : q.1 = k := h1.symm.trans e
      have b : valueAt (q :: qs) k = some q.2 := by simp [valueAt, List.find?_cons, e']
      rw [valV_pos e, b]; exact h2
    · have e' : ¬ q.1 = k := fun z => e (h1.trans z)
      have b : valueAt (q :: qs) k = valueAt qs k := by simp [valueAt, List.find?_cons, e']
      rw [valV_neg e, b]; exact ih
theorem KV.any {kvs : List (κ × V)} {vs : List (κ × Value)} (r : KV kvs vs) (k : κ) : (kvs.any fun kv => decide (kv.1 = k)) = vs.any fun kv => decide (kv.1 = k) := by
  unfold KV at r
  induction r with
  | nil => rfl
  | cons h t ih => rw [List.any_cons, List.any_cons, ih, h.1]
theorem KV.repl {kvs : List (κ × V)} {vs : List (κ × Value)} (r : KV kvs vs) (k : κ) {y : V} {u : Value} (ry : RelV y u) :
    KV (kvs.map fun kv => if kv.1 = k then (kv.1, y) else kv) (vs.map fun kv => if kv.1 = k then (kv.1, u) else kv) := by
  unfold KV at r ⊢
  induction r with
  | nil => exact .nil
  | @cons p q ps qs h t ih =>
    rw [List.map_cons, List.map_cons]
    refine .cons ?_ ih
    obtain ⟨h1, h2⟩ := h
    by_cases e : p.1 = k
    · rw [if_pos e, if_pos (h1.symm.trans e)]; exact ⟨h1, ry⟩
    · rw [if_neg e, if_neg (fun z => e (h1.trans z))]; exact ⟨h1, h2⟩
theorem KV.put {kvs : List (κ × V)} {vs : List (κ × Value)} (r : KV kvs vs) (k : κ) {y : V} {u : Value} (ry : RelV y u) : KV (putK kvs k y) (stored vs k u) := by
  unfold putK stored
  rw [r.any k]
  by_cases e : (vs.any fun kv => decide (kv.1 = k)) = true
  · rw [if_pos e, if_pos e]; exact r.repl k ry
  · rw [if_neg e, if_neg e]; exact Paired.snoc r ⟨rfl, ry⟩
theorem KV.length {kvs : List (κ × V)} {vs : List (κ × Value)} (r : KV kvs vs) : kvs.length = vs.length := Paired.length r
end
theorem kV_is {P : Program} {w : World} {k : Key} {u : Value} (r : RelV (kV k) u) : (mixKind P w).is k u = true := by
  cases k with
  | inl i => obtain ⟨t, e⟩ := (show ∃ t, u = Value.int i t from r); subst e; exact mixKind_int P w i t
  | inr x => obtain ⟨t, e⟩ := (show ∃ t, u = Value.str x t from r); subst e; exact mixKind_str P w x t
theorem items_are {P : Program} {w : World} : ∀ {ks : List Key} {us : List Value}, Vals (ks.map kV) us → ItemsAre (mixKind P w) ks us
  | [], _, r => by rw [List.map_nil] at r; cases r; exact .nil
  | k :: ks, _, r => by
    rw [List.map_cons] at r
    cases r with
    | cons h t => exact .cons (kV_is h) (items_are t)
abbrev KT (H : Hp) : List (List Key × V) → List (List Key × Addr × Value) → Prop := Paired fun p q => p.1 = q.1 ∧ H q.2.1 = some (.tup (p.1.map kV)) ∧ RelV p.2 q.2.2
theorem KT.val {H : Hp} {kvs : List (List Key × V)} {xs : List (List Key × Addr × Value)} (r : KT H kvs xs) (k : List Key) : RelO (valV kvs k) ((atKey xs k).map (·.2)) := by
  induction r with
  | nil => exact True.intro
  | @cons p q ps qs h t ih =>
    obtain ⟨h1, _, h2⟩ := h
    by_cases e : p.1 = k
    · have e' : q.1 = k := h1.symm.trans e
      have b : atKey (q :: qs) k = some q.2 := by simp [atKey, List.find?_cons, e']
      rw [valV_pos e, b]; exact h2
    · have e' : ¬ q.1 = k := fun z => e (h1.trans z)
      have b : atKey (q :: qs) k = atKey qs k := by simp [atKey, List.find?_cons, e']
      rw [valV_neg e, b]; exact ih
theorem KT.repl {H : Hp} {kvs : List (List Key × V)} {xs : List (List Key × Addr × Value)} (r : KT H kvs xs) (k : List Key) {y : V} {u : Value} (ry : RelV y u) :
    KT H (kvs.map fun kv => if kv.1 = k then (kv.1, y) else kv) (xs.map (putAt k u)) := by
  induction r with
  | nil => exact .nil
  | @cons p q ps qs h t ih =>
    rw [List.map_cons, List.map_cons]
    refine .cons ?_ ih
    obtain ⟨h1, h2, h3⟩ := h
    unfold putAt
    by_cases e : p.1 = k
    · rw [if_pos e, if_pos (h1.symm.trans e)]; exact ⟨h1, h2, ry⟩
    · rw [if_neg e, if_neg (fun z => e (h1.trans z))]; exact ⟨h1, h2, h3⟩
theorem KT.put {H : Hp} {kvs : List (List Key × V)} {xs : List (List Key × Addr × Value)} (r : KT H kvs xs) (k : List Key) {b : Addr} {y : V} {u : Value} (hb : H b = some (.tup (k.map kV))) (ry : RelV y u) :
    KT H (putK kvs k y) (storedH xs k b u) := by
  have e : (kvs.any fun kv => decide (kv.1 = k)) = (atKey xs k).isSome := by
    rw [valV_any, (r.val k).isSome_eq, Option.isSome_map]
  unfold putK storedH
  rw [e]
  by_cases q : (atKey xs k).isSome = true
  · rw [if_pos q, if_pos q]; exact r.repl k ry
  · rw [if_neg q, if_neg q]; exact Paired.snoc r ⟨rfl, hb, ry⟩
theorem KT.keeps {H H' : Hp} {kvs : List (List Key × V)} {xs : List (List Key × Addr × Value)} (r : KT H kvs xs) (ht : ∀ b ys, H b = some (.tup ys) → H' b = some (.tup ys)) : KT H' kvs xs :=
  Paired.mapP r fun _ _ z => ⟨z.1, ht _ _ z.2.1, z.2.2⟩
section
variable {P : Program} {w : World} {H : Hp} {h : Heap} {a : Addr}
theorem rd_of {u : HO} (ok : HOk P w H h) (e : Rd H a u) : ObjOk P w H h a u := e.ok ok
theorem dk_rd {kvs : List (Key × V)} (ok : HOk P w H h) (e : Rd H a (.dK kvs)) : kvs.length ≤ sizeLine ∧ (a == sysModules) = false ∧ ∃ vs, KV kvs vs ∧ h.DictOf (mixKind P w) a vs :=
  show ObjOk P w H h a (.dK kvs) from rd_of ok e
theorem dk_of {kvs : List (Key × V)} (ok : HOk P w H h) (e : H a = some (.dK kvs)) : kvs.length ≤ sizeLine ∧ (a == sysModules) = false ∧ ∃ vs, KV kvs vs ∧ h.DictOf (mixKind P w) a vs := dk_rd ok (.inl e)
theorem key_of {ks : List Key} (ok : HOk P w H h) (e : H a = some (.tup (ks.map kV))) : (tupleKind (mixKind P w)).is h ks a := by
  obtain ⟨_, its, r, o, h1, h2, n, h3⟩ := (show ObjOk P w H h a (.tup (ks.map kV)) from ok a _ e)
  exact ⟨o, its.toArray, n, h1, h2, h3, by simpa using items_are r⟩
theorem dt_rd {kvs : List (List Key × V)} (ok : HOk P w H h) (e : Rd H a (.dT kvs)) : kvs.length ≤ sizeLine ∧ (a == sysModules) = false ∧
    ∃ xs, KT H kvs xs ∧ h.DictOfH (tupleKind (mixKind P w)) a xs := by
  obtain ⟨z, y, xs, r, o, es, ep, h1, h2, h3, h4, h5⟩ := (show ObjOk P w H h a (.dT kvs) from rd_of ok e)
  refine ⟨z, y, xs, r, o, es, ep, h1, h2, h3, h4, fun x hx => ?_, h5⟩
  have all : ∀ {l : List (List Key × V)} {m : List (List Key × Addr × Value)}, KT H l m → ∀ x ∈ m, (tupleKind (mixKind P w)).is h x.1 x.2.1 := by
    intro l m q
    induction q with
    | nil => intro x hx; exact nomatch hx
    | @cons p q ps qs hq t ih =>
      intro x hx
      rcases List.mem_cons.mp hx with e | hx
      · subst e
        exact key_of ok (by rw [← hq.1]; exact hq.2.1)
      · exact ih x hx
  exact all r x hx
theorem dt_of {kvs : List (List Key × V)} (ok : HOk P w H h) (e : H a = some (.dT kvs)) : kvs.length ≤ sizeLine ∧ (a == sysModules) = false ∧
    ∃ xs, KT H kvs xs ∧ h.DictOfH (tupleKind (mixKind P w)) a xs := dt_rd ok (.inl e)
end
def DGet (H : Hp) (a : Addr) (y : V) (r : Option V) : Prop :=
  (∃ kvs k, Rd H a (.dK kvs) ∧ y = kV k ∧ r = valV kvs k) ∨ ∃ kvs k b, Rd H a (.dT kvs) ∧ y = .ref b ∧ H b = some (.tup (k.map kV)) ∧ r = valV kvs k
def DPut (H : Hp) (a : Addr) (y v : V) (H' : Hp) : Prop :=
  (∃ kvs k, H a = some (.dK kvs) ∧ y = kV k ∧ kvs.length < sizeLine ∧ H' = upd H a (.dK (putK kvs k v))) ∨
  ∃ kvs k b, H a = some (.dT kvs) ∧ y = .ref b ∧ H b = some (.tup (k.map kV)) ∧ kvs.length < sizeLine ∧ H' = upd H a (.dT (putK kvs k v))
theorem DGet.k {H : Hp} {a : Addr} {kvs : List (Key × V)} {k : Key} (e : H a = some (.dK kvs)) : DGet H a (kV k) (valV kvs k) := .inl ⟨kvs, k, .inl e, rfl, rfl⟩
theorem DGet.t {H : Hp} {a b : Addr} {kvs : List (List Key × V)} {k : List Key} (e : H a = some (.dT kvs)) (eb : H b = some (.tup (k.map kV))) : DGet H a (.ref b) (valV kvs k) := .inr ⟨kvs, k, b, .inl e, rfl, eb, rfl⟩
theorem DPut.k {H : Hp} {a : Addr} {kvs : List (Key × V)} {k : Key} {v : V} (e : H a = some (.dK kvs)) (hl : kvs.length < sizeLine) : DPut H a (kV k) v (upd H a (.dK (putK kvs k v))) := .inl ⟨kvs, k, e, rfl, hl, rfl⟩
theorem DPut.t {H : Hp} {a b : Addr} {kvs : List (List Key × V)} {k : List Key} {v : V} (e : H a = some (.dT kvs)) (eb : H b = some (.tup (k.map kV))) (hl : kvs.length < sizeLine) :
    DPut H a (.ref b) v (upd H a (.dT (putK kvs k v))) := .inr ⟨kvs, k, b, e, rfl, eb, hl, rfl⟩
section
variable {X : Cx} {pins : List (Addr × Obj)} {σ : St} {H : Hp} {s : Shared} {a : Addr} {y v : V} {u r : Value} {o : Option V} {A : Around} {E : Value → Shared → Prop}
theorem Inv.big (I : Inv X pins σ H s) : sysModules < s.heap.objs.size := by
  have h : mainGlobals < s.heap.objs.size := (I.mod.glob.keeps I.bk).lt
  exact Nat.lt_trans (by decide) h
theorem d_getItem {Q : Value → Shared → Prop} (hu : A.units + 1 < cLine) (I : Inv X pins σ H s) (g : DGet H a y (some v)) (ry : RelV y u) (h : ∀ w' s', Inv X pins σ H s' → RelV v w' → Q w' s') :
    wpAny (model X.prog X.w) A (getItem (.ref a) u) Q E s := by
  rcases g with ⟨kvs, k, e, ey, l⟩ | ⟨kvs, k, b, e, ey, eb, l⟩
  · subst ey
    obtain ⟨z, hd, vs, rel, dd⟩ := dk_rd I.hok e
    obtain ⟨w', hw, rw'⟩ := RelO.some_of (v := v) (o := valueAt vs k) (by rw [l]; exact rel.val k)
    exact wpAny_getItem_of (kV_is ry) dd.mapOf hw (h w' _ (I.tok _) rw')
  · subst ey
    cases (show u = Value.ref b from ry)
    obtain ⟨z, hd, xs, rel, dd⟩ := dt_rd I.hok e
    obtain ⟨w', hw, rw'⟩ := RelO.some_of (v := v) (o := (atKey xs k).map (·.2)) (by rw [l]; exact rel.val k)
    obtain ⟨p, hp, hp2⟩ := Option.map_eq_some_iff.mp hw
    refine wpAny_getItem_heap (tupleKind_room_in1 hu) (key_of I.hok eb) dd hp ?_
    rw [hp2]
    exact h w' _ (I.tok _) rw'
theorem d_in {Q : Value → Shared → Prop} (hu : A.units + 1 < cLine) (I : Inv X pins σ H s) (g : DGet H a y o) (ry : RelV y u) (h : ∀ s', Inv X pins σ H s' → Q (.bool o.isSome) s') :
    wpAny (model X.prog X.w) A (compareOp .In u (.ref a)) Q E s := by
  rcases g with ⟨kvs, k, e, ey, l⟩ | ⟨kvs, k, b, e, ey, eb, l⟩
  · subst ey
    obtain ⟨z, hd, vs, rel, dd⟩ := dk_rd I.hok e
    refine wpAny_in_of (kV_is ry) hd dd.mapOf ?_
    rw [← (rel.val k).isSome_eq, ← l]
    exact h _ (I.tok _)
  · subst ey
    cases (show u = Value.ref b from ry)
    obtain ⟨z, hd, xs, rel, dd⟩ := dt_rd I.hok e
    refine wpAny_in_heap (tupleKind_room_in1 hu) (key_of I.hok eb) hd dd ?_
    have q := (rel.val k).isSome_eq
    rw [Option.isSome_map] at q
    rw [← q, ← l]
    exact h _ (I.tok _)
theorem d_notIn {Q : Value → Shared → Prop} (hu : A.units + 1 < cLine) (I : Inv X pins σ H s) (g : DGet H a y o) (ry : RelV y u) (h : ∀ s', Inv X pins σ H s' → Q (.bool (!o.isSome)) s') :
    wpAny (model X.prog X.w) A (compareOp .NotIn u (.ref a)) Q E s := by
  rcases g with ⟨kvs, k, e, ey, l⟩ | ⟨kvs, k, b, e, ey, eb, l⟩
  · subst ey
    obtain ⟨z, hd, vs, rel, dd⟩ := dk_rd I.hok e
    refine wpAny_notIn_of (kV_is ry) hd dd.mapOf ?_
    rw [← (rel.val k).isSome_eq, ← l]
    exact h _ (I.tok _)
  · subst ey
    cases (show u = Value.ref b from ry)
    obtain ⟨z, hd, xs, rel, dd⟩ := dt_rd I.hok e
    refine wpAny_notIn_heap (tupleKind_room_in1 hu) (key_of I.hok eb) hd dd ?_
    have q := (rel.val k).isSome_eq
    rw [Option.isSome_map] at q
    rw [← q, ← l]
    exact h _ (I.tok _)
theorem d_write {h' : Heap} {t' : Nat} {ob : HO} (I : Inv X pins σ H s) (mu : Mut (H a)) (hs : Heap.SameBut a s.heap h') (he : ∃ q, h'.get? a = some q) (new : ObjOk X.prog X.w (upd H a ob) h' a ob) :
    Inv X pins σ (upd H a ob) { s with heap := h', toks := t' } :=
  I.write (x := a) (e := a) mu (.inl rfl) (fun b q hb z => (hs.2 b hb).trans z) he new
theorem dk_new {P : Program} {w : World} {H' : Hp} {h' : Heap} {kvs : List (Key × V)} {vs : List (Key × Value)} (z : kvs.length ≤ sizeLine) (hd : (a == sysModules) = false) (rel : KV kvs vs) (dd : h'.DictOf (mixKind P w) a vs) :
    ObjOk P w H' h' a (.dK kvs) := ⟨z, hd, vs, rel, dd⟩
theorem d_setItem {H' : Hp} {Q : Unit → Shared → Prop} (hu : A.units + 1 < cLine) (I : Inv X pins σ H s) (g : DPut H a y v H') (ry : RelV y u) (rv : RelV v r) (h : ∀ s', Inv X pins σ H' s' → Q () s') :
    wpAny (model X.prog X.w) A (setItem (.ref a) u r) Q E s := by
  rcases g with ⟨kvs, k, e, ey, l, eH⟩ | ⟨kvs, k, b, e, ey, eb, l, eH⟩
  · subst ey eH
    obtain ⟨z, hd, vs, rel, dd⟩ := dk_of I.hok e
    have hz : vs.length ≤ sizeLine := by rw [← rel.length]; exact z
    have hl : (putK kvs k v).length ≤ sizeLine := by have := length_putK kvs k v; omega
    refine wpAny_setItem_pairs (hsz := hz) (kV_is ry) dd fun h' dd' hs => h _ ?_
    have he : ∃ q, h'.get? a = some q := let ⟨q, _, _, hq, _⟩ := dd'; ⟨q, hq⟩
    exact d_write I (by rw [e]; exact True.intro) hs he (dk_new hl hd (rel.put k rv) dd')
  · subst ey eH
    cases (show u = Value.ref b from ry)
    obtain ⟨z, hd, xs, rel, dd⟩ := dt_of I.hok e
    have hz : xs.length ≤ sizeLine := by rw [← Paired.length rel]; exact z
    have hl : (putK kvs k v).length ≤ sizeLine := by have := length_putK kvs k v; omega
    refine wpAny_setItem_heap (hsz := hz) (tupleKind_room_in1 hu) (key_of I.hok eb) dd fun h' dd' hs => h _ ?_
    obtain ⟨q, es, ep, hq, h2, h3, h4, _, h5⟩ := dd'
    refine d_write I (by rw [e]; exact True.intro) hs ⟨q, hq⟩ ⟨hl, hd, _, (rel.put k eb rv).keeps fun c ys ec => ?_, q, es, ep, hq, h2, h3, h4, h5⟩
    rw [upd_ne (ne_of ec e (fun z => nomatch z))]
    exact ec
end
section
variable {X : Cx} {pins : List (Addr × Obj)} {σ : St} {H : Hp} {s : Shared} {a : Addr} {kvs : List (Key × V)} {k : Key} {u : Value} {A : Around} {E : Value → Shared → Prop}
theorem d_len {Q : Value → Shared → Prop} (I : Inv X pins σ H s) (e : Rd H a (.dK kvs)) (h : ∀ t s', Inv X pins σ H s' → Q (.int kvs.length t) s') : wpAny (model X.prog X.w) A (call (.builtin "len") [.ref a]) Q E s := by
  obtain ⟨z, hd, vs, rel, dd⟩ := dk_rd I.hok e
  refine call_len_dict hd dd (by rw [← rel.length]; rw [sizeLine_eq] at z; omega) ?_
  rw [← rel.length]
  exact h _ _ (I.tok _)
end
theorem dict_typeIs {X : Cx} {pins : List (Addr × Obj)} {σ : St} {H : Hp} {s : Shared} {a : Addr} {y : V} {o : Option V} (I : Inv X pins σ H s) (g : DGet H a y o) : s.TypeIs (.ref a) "dict" := by
  rcases g with ⟨kvs, k, e, _, _⟩ | ⟨kvs, k, b, e, _, _, _⟩
  · obtain ⟨_, _, vs, _, dd⟩ := dk_rd I.hok e
    exact dd.typeIs
  · obtain ⟨_, _, xs, _, dd⟩ := dt_rd I.hok e
    exact dd.typeIs
section
variable {X : Cx} {o i e value : Expr} {pos pos' tpos : Pos} {td ty tv : TE}
end
theorem dk_empty {P : Program} {w : World} {H : Hp} (h : Heap) (hb : sysModules < h.objs.size) : ObjOk P w H (h.push { cls := .type "dict", data := .dict #[] }) h.objs.size (.dK []) :=
  ⟨Nat.zero_le _, beq_eq_false_iff_ne.mpr (Ne.symm (Nat.ne_of_lt hb)), [], .nil, Heap.DictOf.new h⟩
theorem dt_empty {P : Program} {w : World} {H : Hp} (h : Heap) (hb : sysModules < h.objs.size) : ObjOk P w H (h.push { cls := .type "dict", data := .dict #[] }) h.objs.size (.dT []) :=
  ⟨Nat.zero_le _, beq_eq_false_iff_ne.mpr (Ne.symm (Nat.ne_of_lt hb)), [], .nil, _, #[], 0, Heap.get?_push_size _ rfl, ⟨rfl, rfl, rfl⟩, rfl, rfl, List.nodup_nil⟩
def tDNewK : TE := fun _ H Q => ∀ p, H p = none → Q (.ref p) (upd H p (.dK []))
def tDNewT : TE := fun _ H Q => ∀ p, H p = none → Q (.ref p) (upd H p (.dT []))
section
variable {X : Cx} {pos : Pos}
theorem pe_dnewK : PE X (.Dict [] [] pos) tDNewK := fun pins s σ H Q I h =>
  wpAny_Dict_empty ⟨.ref s.heap.objs.size, _, I.laid (a := s.heap.objs.size) (o := .dK []) (t' := s.toks) (fun _ _ q => Heap.get?_push_of_some _ q) (Nat.le_refl _) (dk_empty s.heap I.big), rfl, h _ (I.hok.fresh (Nat.le_refl _))⟩
theorem pe_dnewT : PE X (.Dict [] [] pos) tDNewT := fun pins s σ H Q I h =>
  wpAny_Dict_empty ⟨.ref s.heap.objs.size, _, I.laid (a := s.heap.objs.size) (o := .dT []) (t' := s.toks) (fun _ _ q => Heap.get?_push_of_some _ q) (Nat.le_refl _) (dt_empty s.heap I.big), rfl, h _ (I.hok.fresh (Nat.le_refl _))⟩
end
structure M1 (X : Cx) (o : Expr) (m : Str) (apos : Pos) (e : Expr) (cpos : Pos) : Prop where
  base : attributeBase o m X.env (eval o X.env) = eval o X.env
  few : ((backTo cpos (starEach [e] X.env)).all (fun x => !x.1) && (backToKw cpos (keywordEach [] X.env)).all (fun x => x.1.isSome)
    && decide (([e] : List Expr).length + ([] : List Keyword).length + (if ([] : List Keyword).isEmpty then 0 else 1) < 30)) = true
  line : (apos.endLine == cpos.line) = true
  trees : backTo cpos (starEach [e] X.env) = [(false, eval e X.env)]
structure M2 (X : Cx) (o : Expr) (m : Str) (apos : Pos) (e f : Expr) (cpos : Pos) : Prop where
  base : attributeBase o m X.env (eval o X.env) = eval o X.env
  few : ((backTo cpos (starEach [e, f] X.env)).all (fun x => !x.1) && (backToKw cpos (keywordEach [] X.env)).all (fun x => x.1.isSome)
    && decide (([e, f] : List Expr).length + ([] : List Keyword).length + (if ([] : List Keyword).isEmpty then 0 else 1) < 30)) = true
  line : (apos.endLine == cpos.line) = true
  trees : backTo cpos (starEach [e, f] X.env) = [(false, eval e X.env), (false, eval f X.env)]
section
variable {X : Cx} {pins : List (Addr × Obj)} {σ : St} {H : Hp} {s : Shared} {a : Addr} {y d : V} {u r : Value} {o : Option V} {A : Around} {E : Value → Shared → Prop}
end
section
variable {X : Cx} {o e f : Expr} {apos cpos : Pos} {td ty tx : TE}
end
section
variable {X : Cx} {pins : List (Addr × Obj)} {σ : St} {H : Hp} {s : Shared} {a : Addr} {kvs : List (Key × V)} {A : Around} {E : Value → Shared → Prop}
end
section
variable {X : Cx} {pins : List (Addr × Obj)} {σ : St} {H : Hp} {s : Shared} {a : Addr} {y : V} {u : Value} {A : Around} {E : Value → Shared → Prop}
end
end L2
namespace Att
open PySem PySem.W PySem.Calls PyProof.Rows
theorem ints_of_wellAll {P : Params} {h : Heap} : ∀ (ns : List Int) (vs : List Value), WellAll P h vs (ns.map WData.int) → IntsAre vs ns := by
  intro ns
  induction ns with
  | nil =>
    intro vs w
    rw [List.map_nil] at w
    cases w
    exact .nil
  | cons n ns ih =>
    intro vs w
    rw [List.map_cons] at w
    cases w with
    | cons a b =>
      cases a
      exact .cons _ _ (ih _ b)
theorem script_of {l : OpenLaw} {n : Nat} (hn : l.most = some n) {P : Params} {h : Heap} {args : List WData} {vals : List Value}
    (hpre : l.row.toRowW.claim.pre args = true) (hwl : WellAll P h vals args) :
    ∃ a vs ns, vals = [Value.ref a] ∧ args = [WData.list (ns.map WData.int)] ∧ h.get? a = some { cls := .type "list", data := .seq vs.toArray } ∧ IntsAre vs ns ∧ ns.length ≤ n := by
  have hsh : WShape.hasAll [] args [.list .int] = true := (pre_splitW hpre).1
  have hc : l.pre.holds [] { args := args } = true := (pre_splitW hpre).2
  obtain ⟨d, r, rfl, h1, h2⟩ := hasAllW_cons hsh
  obtain rfl := hasAllW_nil h2
  obtain ⟨xs, rfl, h3⟩ := hasW_list h1
  obtain ⟨ns, rfl⟩ := items_int h3
  have hlen : ns.length ≤ n := by
    unfold OpenLaw.pre at hc
    have h4 : (WTm.not (.lt (.lit (.int (n : Int))) (.len (.arg 0)))).holds [] { args := [.list (ns.map .int)] } = true := by
      have h4 := (holds_andW hc).1
      rw [hn] at h4
      exact h4
    have h5 := condW_of h4 (w_not (w_lt w_lit (w_len_list (w_arg rfl))))
    rw [List.length_map] at h5
    refine Nat.le_of_not_lt fun q => ?_
    have q' : (n : Int) < ((ns.length : Nat) : Int) := by omega
    first
      | (rw [decide_eq_true q'] at h5; exact absurd h5 (by decide))
      | (simp at h5; omega)
  cases hwl with
  | cons w1 w2 =>
    cases w2
    cases w1 with
    | list ho hall => exact ⟨_, _, ns, rfl, rfl, ho, ints_of_wellAll ns _ hall, hlen⟩
theorem post_true (l : OpenLaw) (args : List WData) : l.row.toRowW.claim.post args (.bool true) args = true :=
  postW_of (r := l.row.toRowW) (X := (true == true))
    (show WShape.has [] (.bool true) .bool = true by first | rfl | decide | simp [WShape.has, WShape.arms, WShape.armsAll])
    (show (WTm.eq .res (.lit (.bool true))).value [] { args := args, res := some (.bool true), after := args } = some (.bool (true == true)) from w_eq_bool (w_res rfl) w_lit) rfl
theorem attach_call {l : OpenLaw} {n : Nat} {q : Program} {loose : List Str} {XP : (Str → Option Value) → Heap → Prop} {YP : World → Heap → Prop} {d : DefRec}
    (hn : l.most = some n) (hdf : d.params.defaults = [])
    (call : ∀ (w : World) (s₀ s₁ : Shared) (mg mb : Str → Option Value) (fa : Addr) (o : Obj) (pm cd doc : Value) (a : Addr) (vs : List Value) (ns : List Int),
      Ground q loose [] XP w s₀ mg mb s₁.heap → YP w s₁.heap →
      s₁.heap.get? fa = some o → o.data = .func (docDef d.name d.params d.body d.scope pm cd doc) → s₁.heap.CodeRec cd d.name → mg d.name = some (.ref fa) →
      s₁.heap.get? a = some { cls := .type "list", data := .seq vs.toArray } → IntsAre vs ns → ns.length ≤ n → s₁.gens = #[] →
      codeAny (model l.prog w) callerA (.call (.ref fa) ⟨[.ref a], []⟩) (fun r s' => r = .ok (.ret (.bool true)) ∧ OldK s₁.heap s'.heap ∧ s'.os = s₁.os ∧ AllBare s'.gens) s₁) :
    WalkO q loose XP YP l.row.toRowW d [] (fun f vs => PySem.call f vs) := by
  intro w s₀ s₁ mg mb G Y fa o pm cd doc dV kV ho hd hcd hD hmg hg args vals as hpre hlay hrd hwl hlo
  obtain rfl : dV = .none := Dflts.none hD hdf
  obtain rfl : kV = .none := Dflts.noKw hD
  obtain ⟨a, vs, ns, rfl, rfl, hobj, hints, hlen⟩ := script_of hn hpre hwl
  refine enter_call (codeAny_mono (call w s₀ s₁ mg mb fa o pm cd doc a vs ns G Y ho (fd_plain hd) hcd hmg hobj hints hlen hg) fun r s' hq => ?_)
  obtain ⟨rfl, h2, h3, h4⟩ := hq
  exact ⟨.inl ⟨.bool true, .bool true, [], rfl, fun _ => rfl, .bool true, post_true l _, fun _ => ⟨List.Pairwise.nil, fun _ hm => (nomatch hm)⟩⟩, h2, h3, h4⟩
section
variable {prog : Program} {w : World} {A : Around} {E : Value → Shared → Prop} {s : Shared} {K : Frag}
end
end Att
namespace L2
open PySem PySem.Spec PyProof.Rows
theorem vals_ints : ∀ {vs : List Value} {ns : List Int}, IntsAre vs ns → Vals (ns.map V.int) vs
  | _, _, .nil => .nil
  | _, _, .cons n t h => .cons ⟨t, rfl⟩ (vals_ints h)
def Only (H : Hp) : Prop := ∀ b, H b = none ∨ ∃ o xs, H b = some (.frz o (.lst xs))
theorem law_call {P : Program} {w : World} {K : PySem.W.Frag} {mg mb : Str → Option Value} {CX : CXT} {k : Nat} {fa a : Addr} {fd : FuncData} {x : Str} {sp : Sp} {s₁ : Shared} {vs : List Value} {ns : List Int}
    (KX : K.In s₁.heap) (hns : s₁.heap.Ns mainGlobals mg) (hb : s₁.heap.Ns builtinsNs mb) (hbb : ∀ x : Str, x ≠ "__name__" → mb x = bootBuiltins x) (hlim : s₁.heap.NoLimit) (hg : s₁.gens = #[])
    (ha : s₁.heap.get? a = some { cls := .type "list", data := .seq vs.toArray }) (hi : IntsAre vs ns) (hl : ns.length ≤ sizeLine) (hr : Room k callerA)
    (F : ∀ base : Heap, K.In base → base.Ns mainGlobals mg → FnOk P w K mg base CX k fa fd [x] sp) (hbind : ∀ (s : Shared) (u : Value), BindsTo s fd ⟨[u], []⟩ [(x, u)])
    (hsp : ∀ H : Hp, Only H → SqL K H a (ns.map V.int) → sp [.ref a] H (fun v _ => v = .bl true) fun _ _ _ => False)
    (hCX : ∀ H e s', CX [] H s₁ (fun _ _ _ => False) e s' → False) :
    codeAny (model P w) callerA (.call (.ref fa) ⟨[.ref a], []⟩) (fun r s' => r = .ok (.ret (.bool true)) ∧ OldK s₁.heap s'.heap ∧ s'.os = s₁.os ∧ AllBare s'.gens) s₁ := by
  have rv := vals_ints hi
  have lenV := hi.length
  -- from an abstract heap in which nothing but the script may be tracked
  have core : ∀ H : Hp, Only H → SqL K H a (ns.map V.int) → HOk P w H s₁.heap → (∀ b, H b ≠ none → b = a) → (H a ≠ none → K.lookup a = none) →
      codeAny (model P w) callerA (.call (.ref fa) ⟨[.ref a], []⟩) (fun r s' => r = .ok (.ret (.bool true)) ∧ OldK s₁.heap s'.heap ∧ s'.os = s₁.os ∧ AllBare s'.gens) s₁ := by
    intro H hO hS hok hA hK
    have base_of : ∀ {b : Addr} {o : Obj}, s₁.heap.get? b = some o → H b = none → (hidT s₁.heap H).get? b = some o := fun e n => hidT_get e n
    have noA : ∀ {b : Addr} {o : Obj} {es : Array DictEntry} {ep : Nat}, s₁.heap.get? b = some o → o.data = .dict es ep → H b = none := fun {b o es ep} e d => by
      cases q : H b with
      | none => rfl
      | some u =>
        have e' : b = a := hA b (by rw [q]; simp)
        subst e'
        rw [ha] at e; cases e
        have d' : Data.seq vs.toArray _ = Data.dict es ep := d
        cases d'
    have nsK : ∀ {b : Addr} {m : Str → Option Value}, s₁.heap.Ns b m → (hidT s₁.heap H).Ns b m := fun {b m} ⟨o, es, ep, e, d, r⟩ => ⟨o, es, ep, base_of e (noA e d), d, r⟩
    have hKb : K.In (hidT s₁.heap H) := fun b o e => base_of (KX b o e) (by
      cases q : H b with
      | none => rfl
      | some u =>
        have e' : b = a := hA b (by rw [q]; simp)
        subst e'
        rw [hK (by rw [q]; simp)] at e; cases e)
    have hM : Mod K mg (hidT s₁.heap H) := ⟨hKb, nsK hns, ⟨mb, nsK hb, hbb⟩, let ⟨mc, h1, h2⟩ := hlim; ⟨mc, nsK h1, h2⟩⟩
    have e0 : Env0 P w K mg (hidT s₁.heap H) callerA [] s₁ H := ⟨rfl, hM, fun b o e => of_hidT e, Nat.le_of_eq (hidT_size _ _), trivial, fun b hb => absurd (show b ∈ ([] : List Addr) from hb) (by simp), hok, .of_eq hg⟩
    refine codeAny_mono ((F _ hKb (nsK hns)).run callerA [] s₁ H ⟨[.ref a], []⟩ [.ref a] [.ref a] _ _ hr e0 (hbind s₁ (.ref a)) (.cons rfl .nil) (hsp H hO hS)) fun r s' h => ?_
    cases r with
    | error e => exact (hCX H e s' h).elim
    | ok fl =>
      cases fl with
      | next => exact False.elim h
      | brk => exact False.elim h
      | cont => exact False.elim h
      | ret u =>
        obtain ⟨v, H', os, bare, un, hok', r', q⟩ := h
        have q' : v = .bl true := q
        subst q'
        obtain rfl : u = Value.bool true := r'
        refine ⟨rfl, OldK.of_keep fun b o e => ?_, os, bare⟩
        cases q : H b with
        | none => exact un.keep b o e q (by intro z; exact absurd (show b ∈ ([] : List Addr) from z) (by simp)) (by simp)
        | some u =>
          rcases hO b with z | ⟨ob, xs, z⟩
          · rw [q] at z; cases z
          · have z2 := un.frzs b ob _ z
            obtain ⟨e1, _⟩ := hok b _ z
            obtain ⟨e2, _⟩ := hok' b _ z2
            rw [e] at e1; cases e1
            exact e2
  cases hk : K.lookup a with
  | some o =>
    -- the script is one of the module's own objects
    have e := KX a o hk
    rw [ha] at e
    cases e
    refine core (fun _ => none) (fun _ => .inl rfl) (.inr ⟨_, vs.toArray, _, hk, rfl, rfl, rfl, by rw [List.size_toArray, lenV]; exact hl, by simpa using rv⟩) (fun b u z => by have z' : (none : Option HO) = some u := z; cases z') (fun b z => absurd rfl z) fun z => absurd rfl z
  | none =>
    refine core (fun b => if b = a then some (.frz { cls := .type "list", data := .seq vs.toArray } (.lst (ns.map V.int))) else none) (fun b => ?_) (.inl (.inr ⟨{ cls := .type "list", data := .seq vs.toArray }, if_pos rfl⟩)) (fun b u z => ?_) (fun b z => ?_) fun _ => hk
    · by_cases hb : b = a
      · exact .inr ⟨_, _, if_pos hb⟩
      · exact .inl (if_neg hb)
    · by_cases hb : b = a
      · have z' := (if_pos hb).symm.trans z
        cases z'
        subst hb
        exact ⟨ha, by rw [List.length_map]; exact hl, vs, _, rv, ha⟩
      · have z' := (if_neg hb).symm.trans z
        cases z'
    · by_cases hb : b = a
      · exact hb
      · exact absurd (if_neg hb) z
end L2
namespace L2
open PySem PySem.Spec PyProof.Rows
theorem walk_of {l : PySem.W.OpenLaw} {n k : Nat} {q : Program} {loose : List Str} {XP : (Str → Option Value) → Heap → Prop} {YP : World → Heap → Prop} {d : DefRec} {K : Params → PySem.W.Frag} {CX : World → CXT} {sp : World → Sp} {x : Str}
    (hn : l.most = some n) (hn2 : n ≤ sizeLine) (hdf : d.params.defaults = []) (hr : Room k callerA)
    (hY : ∀ (w : World) (h : Heap), YP w h → (K w.params).In h)
    (F : ∀ (w : World) (mg : Str → Option Value) (fa : Addr) (h : Heap), (K w.params).In h → h.Ns mainGlobals mg → mg d.name = some (.ref fa) →
      ∃ fd : FuncData, (∀ (s : Shared) (u : Value), BindsTo s fd ⟨[u], []⟩ [(x, u)]) ∧
        ∀ base : Heap, (K w.params).In base → base.Ns mainGlobals mg → FnOk l.prog w (K w.params) mg base (CX w) k fa fd [x] (sp w))
    (hsp : ∀ (w : World) (H : Hp) (a : Addr) (ns : List Int), ns.length ≤ n → Only H → SqL (K w.params) H a (ns.map V.int) → sp w [.ref a] H (fun v _ => v = .bl true) fun _ _ _ => False)
    (hCX : ∀ (w : World) (H : Hp) (s : Shared) (e : Value) (s' : Shared), CX w [] H s (fun _ _ _ => False) e s' → False) :
    PySem.W.WalkO q loose XP YP l.row.toRowW d [] (fun f vs => PySem.call f vs) := by
  refine Att.attach_call hn hdf fun w s₀ s₁ mg mb fa o pm cd doc a vs ns G Y ho hd hcd hmg hobj hints hlen hg => ?_
  have KX := hY w _ Y
  obtain ⟨fd, hb, hF⟩ := F w mg fa _ KX G.T.g hmg
  exact law_call KX G.T.g G.T.b G.T.builtins G.T.nolimit hg hobj hints (Nat.le_trans hlen hn2) hr hF hb (fun H hO hS => hsp w H a ns hlen hO hS) fun H e s' => hCX w H s₁ e s'
end L2
namespace L2
open PySem PySem.Spec PyProof.Rows
def inClass (s : Stmt) (j : Nat) : Stmt := match s with
  | .ClassDef _ _ _ body _ _ _ _ _ _ _ => body.getD j (.Pass ⟨0, 0, 0, 0⟩)
  | _ => .Pass ⟨0, 0, 0, 0⟩
def defArgs (s : Stmt) : Arguments := match s with
  | .FunctionDef _ a _ _ _ _ _ _ _ _ => a
  | _ => { posonlyargs := [], args := [], vararg := none, kwonlyargs := [], kw_defaults := [], kwarg := none, defaults := [] }
def defBody (s : Stmt) : List Stmt := match s with
  | .FunctionDef _ _ b _ _ _ _ _ _ _ => b
  | _ => []
def defScope (s : Stmt) : Scope := match s with
  | .FunctionDef _ _ _ _ _ _ sc _ _ _ => sc
  | _ => { kind := .function, names := [], isGenerator := false, isCoroutine := false }
abbrev CX0 : CXT := fun _ _ _ _ _ _ => False
abbrev E0 : XK := fun _ _ _ => False
theorem pass0 {X : Cx} : Passes CX0 X E0 := fun _ _ _ _ _ _ _ h => h.elim
structure Fun (K : PySem.W.Frag) (x qual : Str) (st : Stmt) (f : Addr) (fd : FuncData) : Prop where
  ex : ∃ (oc : Value) (od : Option Addr) (kV doc pm : Value) (an : Option Addr) (cdv ct : Value) (osl : Array (Option Value)),
    fd = PySem.W.fnOf x qual (defArgs st) (defBody st) (defScope st) .none kV doc pm an cdv ct ∧ K.lookup f = some ⟨oc, od, .func fd, osl⟩ ∧ PySem.W.codeIn K cdv qual = true
  kp : PySem.W.keepIn K (.ref f) = true
section
variable {P : Program} {w : World} {K : PySem.W.Frag} {mg : Str → Option Value} {base : Heap}
theorem Fun.ok {x qual : Str} {st : Stmt} {f : Addr} {fd : FuncData} {N ps : List Str} {k : Nat} {sp : Sp} (F : Fun K x qual st f fd) (S : FnScope N ps (defScope st)) (len : ∀ vs H Q E, sp vs H Q E → vs.length = ps.length)
    (hbody : ∀ (cdv : Value) (A : Around) (outer : List Env) (s : Shared) (H : Hp) (vs : List V) (Q : VK) (E : XK), Room k (A.deeper (envOfC qual (defScope st) s.heap.objs.size f cdv)) → sp vs H Q E →
      ∃ t, PSs (cxOf CX0 P w K mg base N qual (defScope st) f cdv A outer s H E).nox (defBody st) t ∧ t { nx := fun _ H' => Q .non H', rt := Q } (start N vs) H) : FnOk P w K mg base CX0 (k + 1) f fd ps sp := by
  obtain ⟨oc, od, kV, doc, pm, an, cdv, ct, osl, rfl, lk, hcd⟩ := F.ex
  refine fn_of lk hcd S len fun A outer s H vs Q E hr hsp => ?_
  obtain ⟨t, h, q⟩ := hbody cdv A outer s H vs Q E hr hsp
  exact ⟨t, h.nox, q⟩
theorem Fun.binds {x qual : Str} {st : Stmt} {f : Addr} {fd : FuncData} {ps : List Str} (F : Fun K x qual st f fd)
    (h : ∀ (kV doc pm : Value) (an : Option Addr) (cdv ct : Value) (us : List Value), us.length = ps.length → bindArgs (PySem.W.fnOf x qual (defArgs st) (defBody st) (defScope st) .none kV doc pm an cdv ct) ⟨us, []⟩ = pure (ps.zip us)) : Binds K fd ps [] := by
  obtain ⟨oc, od, kV, doc, pm, an, cdv, ct, osl, rfl, lk, hcd⟩ := F.ex
  exact .all (h kV doc pm an cdv ct)
theorem fun_mk {x qual : Str} {st : Stmt} {f : Addr} {oc : Value} {od an : Option Addr} {osl : Array (Option Value)} {kV doc pm cdv ct : Value} (l : K.lookup f = some ⟨oc, od, .func (PySem.W.fnOf x qual (defArgs st) (defBody st) (defScope st) .none kV doc pm an cdv ct), osl⟩)
    (c : PySem.W.codeIn K cdv qual = true) (k : PySem.W.keepIn K (.ref f) = true) : Fun K x qual st f (PySem.W.fnOf x qual (defArgs st) (defBody st) (defScope st) .none kV doc pm an cdv ct) := ⟨⟨oc, od, kV, doc, pm, an, cdv, ct, osl, rfl, l, c⟩, k⟩
end
theorem hu_of {A : Around} {k : Nat} (hr : Room k A) : A.units + 1 < cLine := Nat.lt_of_le_of_lt (Nat.add_le_add_left (by decide : 1 ≤ 64) _) hr.units
section
variable {X : Cx}
theorem call_lenD : CallR X (.builtin "len") (fun xs H Q => ∃ a kvs, xs = [V.ref a] ∧ H a = some (.dK kvs) ∧ Q (.int kvs.length) H) := by
  intro pins s σ H xs us Q I r h
  obtain ⟨a, kvs, rfl, ha, q⟩ := h
  obtain ⟨u, rfl, ru⟩ := vals1 r
  cases ru
  exact d_len I (.inl ha) fun t s' I' => ⟨.int kvs.length, H, I', ⟨t, rfl⟩, q⟩
end
theorem iteF {A B : Prop} (h : B) : if false = true then A else B := by
  rw [if_neg Bool.false_ne_true]
  exact h
theorem iteT {A B : Prop} (h : A) : if true = true then A else B := by
  rw [if_pos rfl]
  exact h
section
variable {κ : Type} [DecidableEq κ]
end
end L2
set_option maxHeartbeats 4000000
namespace L2
open PySem PySem.Spec PyProof.Rows
structure Blk where
  cl : List (Str × Addr)
  s : Shared
  H : Hp
  fp : List Addr
  C : Addr
def cxB (X : Cx) (sc : Scope) (N' : List Str) (B : Blk) : Cx where
  prog := X.prog
  w := X.w
  K := X.K
  mg := X.mg
  base := X.base
  A := X.A
  N := N'
  s₀ := B.s
  H₀ := B.H
  env := compEnvC sc B.cl B.C X.env
  outer := X.stack
  stack := X.stack
  ex := B.fp
  fn := fun _ => false
  calm := X.calm
  pn := []
  xe := fun _ _ => False
def closL (cells : List (Str × Addr)) : List (Str × NameKind) → List (Str × Addr) → List (Str × Addr)
  | [], acc => acc
  | (n, k) :: r, acc => if k = .free then closL cells r ((n, (cells.lookup n).getD 0) :: acc) else closL cells r acc
theorem closure_ok {scope : Scope} {env : Env} (h : ∀ y ∈ scope.names, y.2 = .free → ∃ c, env.cells.lookup y.1 = some c) : closureFor scope env = pure (closL env.cells scope.names []) := by
  have key : ∀ (names : List (Str × NameKind)) (acc : List (Str × Addr)), (∀ y ∈ names, y.2 = .free → ∃ c, env.cells.lookup y.1 = some c) →
      (forIn names acc fun (x : Str × NameKind) (cs : List (Str × Addr)) => (if (x.2 == NameKind.free) = true then (do let a ← cellOf env x.1; pure (ForInStep.yield ((x.1, a) :: cs))) else pure (ForInStep.yield cs) : Sem (ForInStep (List (Str × Addr))))) = (pure (closL env.cells names acc) : Sem _) := by
    intro names
    induction names with
    | nil => intro acc _; rfl
    | cons y r ih =>
      intro acc hy
      obtain ⟨n, k⟩ := y
      rw [List.forIn_cons]
      by_cases hk : k = .free
      · subst hk
        obtain ⟨c, hc⟩ := hy (n, .free) List.mem_cons_self rfl
        have e1 : cellOf env n = (pure c : Sem Addr) := by
          unfold cellOf
          rw [show env.cells.lookup n = some c from hc]
        simp only [beq_self_eq_true, if_true, e1, pure_bind]
        rw [ih _ fun z hz => hy z (List.mem_cons_of_mem _ hz)]
        simp only [closL, if_true]
        rw [show env.cells.lookup n = some c from hc]
        rfl
      · have hb : (k == NameKind.free) = false := by simpa using hk
        simp only [hb, Bool.false_eq_true, if_false, pure_bind]
        rw [ih _ fun z hz => hy z (List.mem_cons_of_mem _ hz)]
        simp only [closL, if_neg hk]
  have e : closureFor scope env = ((forIn scope.names [] fun (x : Str × NameKind) (cs : List (Str × Addr)) => (if (x.2 == NameKind.free) = true then (do let a ← cellOf env x.1; pure (ForInStep.yield ((x.1, a) :: cs))) else pure (ForInStep.yield cs) : Sem (ForInStep (List (Str × Addr))))) >>= fun cs => pure cs) := by
    unfold closureFor
    rfl
  rw [e, key _ _ h, pure_bind]
theorem closL_sub {cells : List (Str × Addr)} {x : Str} {c : Addr} : ∀ {names : List (Str × NameKind)} {acc : List (Str × Addr)}, (∀ y ∈ names, y.2 = .free → ∃ c, cells.lookup y.1 = some c) →
    (∀ x c, acc.lookup x = some c → cells.lookup x = some c) → (closL cells names acc).lookup x = some c → cells.lookup x = some c
  | [], acc, _, ha, e => ha x c e
  | (n, k) :: r, acc, hy, ha, e => by
    have hr : ∀ y ∈ r, y.2 = .free → ∃ c, cells.lookup y.1 = some c := fun z hz => hy z (List.mem_cons_of_mem _ hz)
    unfold closL at e
    by_cases hk : k = .free
    · subst hk
      rw [if_pos rfl] at e
      obtain ⟨d, hd⟩ := hy (n, .free) List.mem_cons_self rfl
      have hd : cells.lookup n = some d := hd
      refine closL_sub hr (fun z b q => ?_) e
      rw [List.lookup_cons] at q
      by_cases hz : z = n
      · subst hz
        rw [beq_self_eq_true, hd] at q
        rw [hd]; exact q
      · have : (z == n) = false := beq_eq_false_iff_ne.mpr hz
        rw [this] at q
        exact ha z b q
    · rw [if_neg hk] at e
      exact closL_sub hr ha e
theorem closL_has {cells : List (Str × Addr)} {x : Str} : ∀ {names : List (Str × NameKind)} {acc : List (Str × Addr)}, ((x, NameKind.free) ∈ names ∨ ∃ c, acc.lookup x = some c) → ∃ c, (closL cells names acc).lookup x = some c
  | [], acc, h => by
    rcases h with h | h
    · cases h
    · exact h
  | (n, k) :: r, acc, h => by
    unfold closL
    by_cases hk : k = .free
    · subst hk
      rw [if_pos rfl]
      refine closL_has ?_
      by_cases hx : x = n
      · subst hx
        right
        rw [List.lookup_cons, beq_self_eq_true]
        exact ⟨_, rfl⟩
      · have hb : (x == n) = false := beq_eq_false_iff_ne.mpr hx
        rcases h with h | ⟨c, h⟩
        · rcases List.mem_cons.mp h with e | h
          · cases e; exact absurd rfl hx
          · exact .inl h
        · right
          rw [List.lookup_cons, hb]
          exact ⟨c, h⟩
    · rw [if_neg hk]
      refine closL_has ?_
      rcases h with h | h
      · rcases List.mem_cons.mp h with e | h
        · cases e; exact absurd rfl hk
        · exact .inl h
      · exact .inr h
structure CScope (N' : List Str) (sc osc : Scope) : Prop where
  kind : sc.kind = .function
  nd : N'.Nodup
  nocell : ∀ y ∈ sc.names, y.2 ≠ .cell
  loc : ∀ y ∈ sc.names, y.2 = .local → sc.names.lookup y.1 = some .local
  free : ∀ y ∈ sc.names, y.2 = .free → osc.names.lookup y.1 = some .cell ∨ osc.names.lookup y.1 = some .free
def cscopeB (N' : List Str) (sc osc : Scope) : Bool :=
  decide (sc.kind = .function) && decide N'.Nodup && sc.names.all (fun y => decide (y.2 ≠ .cell)) && sc.names.all (fun y => decide (y.2 = .local → sc.names.lookup y.1 = some .local)) &&
    sc.names.all (fun y => decide (y.2 = .free → osc.names.lookup y.1 = some .cell ∨ osc.names.lookup y.1 = some .free))
theorem CScope.of {N' : List Str} {sc osc : Scope} (h : cscopeB N' sc osc = true) : CScope N' sc osc := by
  unfold cscopeB at h
  simp only [Bool.and_eq_true] at h
  obtain ⟨⟨⟨⟨h1, h2⟩, h3⟩, h4⟩, h5⟩ := h
  exact ⟨of_decide_eq_true h1, of_decide_eq_true h2, fun y hy => of_decide_eq_true (List.all_eq_true.mp h3 y hy), fun y hy => of_decide_eq_true (List.all_eq_true.mp h4 y hy), fun y hy => of_decide_eq_true (List.all_eq_true.mp h5 y hy)⟩
def cmap (js : List (Option Nat)) (σ : St) : St := js.map fun o => o.bind fun j => (σ[j]?).join
def jsOk (N' N : List Str) (sc : Scope) : List (Option Nat) → List Str → Bool
  | [], [] => true
  | none :: js, _ :: r => jsOk N' N sc js r
  | some j :: js, x :: r => decide (N[j]? = some x) && decide (sc.names.lookup x = some .free) && jsOk N' N sc js r
  | _, _ => false
theorem jsOk_len {N' N : List Str} {sc : Scope} : ∀ {js : List (Option Nat)} {r : List Str}, jsOk N' N sc js r = true → js.length = r.length
  | [], [], _ => rfl
  | none :: js, _ :: r, h => by
    have := jsOk_len (js := js) (r := r) h
    simp [this]
  | some j :: js, x :: r, h => by
    unfold jsOk at h
    rw [Bool.and_eq_true] at h
    have := jsOk_len (js := js) (r := r) h.2
    simp [this]
  | [], _ :: _, h => by simp [jsOk] at h
  | none :: _, [], h => by simp [jsOk] at h
  | some _ :: _, [], h => by simp [jsOk] at h
theorem jsOk_get {N' N : List Str} {sc : Scope} : ∀ {js : List (Option Nat)} {r : List Str} {i j : Nat} {x : Str}, jsOk N' N sc js r = true → js[i]? = some (some j) → r[i]? = some x → N[j]? = some x ∧ sc.names.lookup x = some .free
  | [], [], i, j, x, _, e, _ => by simp at e
  | none :: js, _ :: r, 0, j, x, h, e, _ => by simp at e
  | none :: js, _ :: r, i + 1, j, x, h, e, e2 => jsOk_get (js := js) (r := r) (i := i) h (by simpa using e) (by simpa using e2)
  | some k :: js, y :: r, 0, j, x, h, e, e2 => by
    unfold jsOk at h
    rw [Bool.and_eq_true, Bool.and_eq_true] at h
    simp at e e2
    subst e; subst e2
    exact ⟨of_decide_eq_true h.1.1, of_decide_eq_true h.1.2⟩
  | some k :: js, y :: r, i + 1, j, x, h, e, e2 => by
    unfold jsOk at h
    rw [Bool.and_eq_true, Bool.and_eq_true] at h
    exact jsOk_get (js := js) (r := r) (i := i) h.2 (by simpa using e) (by simpa using e2)
  | [], _ :: _, _, _, _, h, _, _ => by simp [jsOk] at h
  | none :: _, [], _, _, _, h, _, _ => by simp [jsOk] at h
  | some _ :: _, [], _, _, _, h, _, _ => by simp [jsOk] at h
theorem relabel_kind {env : Env} {x : Str} : ∀ {names : List (Str × NameKind)}, (∀ y ∈ names, y.2 ≠ .cell) →
    (((names.map fun (n, k) => if (k == NameKind.free && env.scope.kind == .function && env.kindOf n == some .cell) then (n, NameKind.cell) else (n, k)).lookup x = some .cell ∨
     (names.map fun (n, k) => if (k == NameKind.free && env.scope.kind == .function && env.kindOf n == some .cell) then (n, NameKind.cell) else (n, k)).lookup x = some .free) ↔ names.lookup x = some .free)
  | [], _ => by simp
  | (n, k) :: r, h => by
    have ih := @relabel_kind env x r fun y hy => h y (List.mem_cons_of_mem _ hy)
    have hk : k ≠ .cell := h (n, k) List.mem_cons_self
    rw [List.map_cons]
    dsimp only
    by_cases hx : (x == n) = true
    · by_cases hc : (k == NameKind.free && env.scope.kind == .function && env.kindOf n == some .cell) = true
      · rw [if_pos hc]
        simp only [List.lookup_cons, hx]
        have : k = .free := by
          rw [Bool.and_eq_true, Bool.and_eq_true] at hc
          exact beq_iff_eq.mp hc.1.1
        simp [this]
      · rw [if_neg hc]
        simp only [List.lookup_cons, hx]
        constructor
        · rintro (e | e)
          · cases e; exact absurd rfl hk
          · exact e
        · intro e; exact .inr e
    · have hx : (x == n) = false := by simpa using hx
      by_cases hc : (k == NameKind.free && env.scope.kind == .function && env.kindOf n == some .cell) = true
      · rw [if_pos hc]
        simp only [List.lookup_cons, hx]
        exact ih
      · rw [if_neg hc]
        simp only [List.lookup_cons, hx]
        exact ih
theorem lookup_memF {x : Str} {k : NameKind} : ∀ {names : List (Str × NameKind)}, names.lookup x = some k → (x, k) ∈ names := fun h => PySem.mem_of_lookup h
section
variable {X : Cx} {sc : Scope} {N' : List Str} {js : List (Option Nat)} {pins : List (Addr × Obj)} {σ : St} {H H1 : Hp} {s : Shared} {fp : List Addr} {C : Addr}
theorem cells_of (S : CScope N' sc X.env.scope) (I : Inv X pins σ H s) : ∀ y ∈ sc.names, y.2 = .free → ∃ c, X.env.cells.lookup y.1 = some c := fun y hy hk =>
  I.ok.has y.1 (S.free y hy hk)
theorem inv_blk (S : CScope N' sc X.env.scope) (hj : jsOk N' X.N sc js N' = true) (I : Inv X pins σ H s) (hf : ∀ b ∈ fp, FpOk X pins H b) (ho : ∀ b ∈ fp, ∃ o, s.heap.get? b = some o)
    {h1 : Heap} {tk : Nat} {m : Str → Option Value} (hC : s.heap.objs.size ≤ C) (keep : ∀ b o, s.heap.get? b = some o → h1.get? b = some o) (un : Un (frs X.stack) fp H H1 s.heap h1) (hok : HOk X.prog X.w H1 h1) (hn : h1.Ns C m) (hfree : H1 C = none) :
    Inv (cxB X sc N' ⟨closL X.env.cells sc.names [], s, H, fp, C⟩) [] (cmap js σ) H1 { s with heap := h1, toks := tk } := by
  have cs := cells_of S I
  have sub : ∀ x c, (closL X.env.cells sc.names []).lookup x = some c → X.env.cells.lookup x = some c := fun x c e => closL_sub cs (fun _ _ z => by simp at z) e
  refine ⟨⟨I.ok.mod, S.kind, I.ok.glob, I.ok.blt, hC, fun x y c e1 e2 => I.ok.inj x y c (sub x c e1) (sub y c e2), fun x hx => ?_, fun _ _ h _ => absurd (show false = true from h) Bool.false_ne_true, I.ok.hd, I.ok.frames, .inl rfl, fun b hb => ?_, I.bs, Nat.le_trans I.ok.bsz I.sz, fun b o e hb => ?_, fun b hb hb' => ?_, I.stack, I.stkFree⟩,
    rfl, I.bare, un, ⟨m, hn, fun i x v e1 e2 e3 => ?_⟩, fun x c e => ?_, hfree, fun x c e => ?_, fun p hp => absurd (show p ∈ ([] : List (Addr × Obj)) from hp) (by simp), hok, ?_⟩
  · have q : sc.names.lookup x = some .free := (relabel_kind (env := X.env) S.nocell).mp hx
    exact closL_has (.inl (lookup_memF q))
  · obtain ⟨o, e⟩ := ho b hb
    exact ⟨Nat.ne_of_lt (Nat.lt_of_lt_of_le (Heap.lt_size e) hC), fun x c q => (hf b hb).2.2.2.2.1 x c (sub x c q)⟩
  · rcases (hf b hb).2.2.2.1 with z | z
    · exact I.ok.noex b o e z
    · exact absurd (Nat.lt_of_lt_of_le (Heap.lt_size e) (Nat.le_trans I.ok.bsz z)) (Nat.lt_irrefl _)
  · rcases List.mem_cons.mp (I.stkSub b hb') with z | z
    · exact (hf b hb).2.1 z
    · exact (hf b hb).2.2.1 z
  · -- the names that are handed in
    have e1 : N'[i]? = some x := e1
    unfold cmap at e2
    rw [List.getElem?_map] at e2
    cases hji : js[i]? with
    | none => rw [hji] at e2; cases e2
    | some o =>
      rw [hji] at e2
      cases o with
      | none => cases e2
      | some j =>
        obtain ⟨a1, a2⟩ := jsOk_get hj hji e1
        have e2 : (σ[j]?).join = some v := by simpa using e2
        have e2' : σ[j]? = some (some v) := by
          cases q : σ[j]? with
          | none => rw [q] at e2; cases e2
          | some z => rw [q] at e2; simpa using e2
        obtain ⟨m0, hn0, hl0⟩ := I.loc
        have kx := S.free _ (lookup_memF a2) rfl
        obtain ⟨u, r, l⟩ := hl0 j x v a1 e2' (kx.elim (fun z => .inr (.inl z)) fun z => .inr (.inr z))
        refine ⟨u, r, .inr ⟨(relabel_kind (env := X.env) S.nocell).mpr a2, ?_⟩⟩
        rcases l with ⟨k, _⟩ | ⟨_, c, ec, hc⟩
        · have k : X.env.scope.names.lookup x = some .local := k
          rcases kx with z | z
          · rw [k] at z; cases z
          · rw [k] at z; cases z
        · obtain ⟨c', ec'⟩ := closL_has (cells := X.env.cells) (acc := []) (.inl (lookup_memF a2))
          have : c' = c := Option.some.inj ((sub x c' ec').symm.trans ec)
          subst this
          obtain ⟨oc, hoc, hd⟩ := hc
          exact ⟨c', ec', oc, keep _ _ hoc, hd⟩
  · obtain ⟨v, oc, hoc, hd⟩ := I.cell x c (sub x c e)
    exact ⟨v, oc, keep _ _ hoc, hd⟩
  · obtain ⟨v, oc, hoc, hd⟩ := I.cell x c (sub x c e)
    have nfp : c ∉ fp := fun z => (hf c z).2.2.2.2.1 x c (sub x c e) rfl
    exact un.free c oc hoc (I.freeC x c (sub x c e)) nfp
  · show (cmap js σ).length = N'.length
    unfold cmap
    rw [List.length_map]
    exact jsOk_len hj
end
section
variable {prog : Program} {w : World} {A : Around} {R : Result → Shared → Prop} {s : Shared}
theorem compLoop_any {elt target iter : Expr} {ifs : List Expr} {scope : Scope} {pos : Pos} {it acc : Value} {env : Env} (I : Nat → Shared → Prop)
    (turn : ∀ n s, I n s → wpAny (model prog w) A (pyNext it) (fun r s₁ => match r with
      | none => R (.ok .next) s₁
      | some v => wpAny (model prog w) A (letOwnedTupleGo target it v) (fun _ s₀ => wpAny (model prog w) A (assign target env v) (fun _ s₂ =>
          wpAny (model prog w) A (forIn ifs true fun c r => if r = true then do let ok ← isTrue c env (eval c env); pure (ForInStep.yield ok) else pure (ForInStep.yield r)) (fun ok s₃ =>
            if ok = true then wpAny (model prog w) A (eval elt env) (fun x s₄ =>
              wpAny (model prog w) A (call (.builtin "list.append") [acc, x]) (fun _ s₅ => ∃ m, m < n ∧ I m s₅) (fun _ _ => False) s₄) (fun _ _ => False) s₃
            else ∃ m, m < n ∧ I m s₃) (fun _ _ => False) s₂) (fun _ _ => False) s₀) (fun _ _ => False) s₁) (fun _ _ => False) s)
    (n : Nat) (h : I n s) :
    codeAny (model prog w) A (.compLoop (.ListComp elt [⟨target, iter, ifs, 0⟩] scope pos) 0 it acc env) R s := by
  refine codeAny_loop rfl I (fun n s hI => ?_) n h
  show wpAny _ A ((compTurn (.ListComp elt [⟨target, iter, ifs, 0⟩] scope pos) 0 it acc env).onRaise (fun x => do noteFrame x env; theTreesLotGoes x)) _ _ s
  refine wpAny_noted ?_
  rw [compTurn_list]
  refine wpAny_bind (wpAny_standAt (wpAny_bind (wpAny_mono (turn n s hI) (fun r s₁ h₁ => ?_) fun _ _ h' => h'.elim)))
  cases r with
  | none => exact wpAny_pure h₁
  | some v =>
    refine wpAny_bind (wpAny_mono h₁ (fun _ s₀ h₀ => ?_) fun _ _ h' => h'.elim)
    refine wpAny_bind (wpAny_mono h₀ (fun _ s₂ h₂ => wpAny_bind (wpAny_mono h₂ (fun ok s₃ h₃ => ?_) fun _ _ h' => h'.elim)) fun _ _ h' => h'.elim)
    cases ok with
    | false => exact wpAny_pure ⟨rfl, h₃⟩
    | true =>
      exact wpAny_bind (wpAny_bind (wpAny_mono h₃ (fun x s₄ h₄ => wpAny_bind (wpAny_mono h₄ (fun _ s₅ h₅ => wpAny_pure (wpAny_pure ⟨rfl, h₅⟩)) fun _ _ h' => h'.elim)) fun _ _ h' => h'.elim))
end
def PIfs (X : Cx) (ifs : List Expr) (t : TT) : Prop :=
  ∀ (pins : List (Addr × Obj)) (s : Shared) (σ : St) (H : Hp) (Q : Bool → Hp → Prop), Inv X pins σ H s → t σ H Q →
    wpAny (model X.prog X.w) X.A (forIn ifs true fun c r => if r = true then do let ok ← isTrue c X.env (eval c X.env); pure (ForInStep.yield ok) else pure (ForInStep.yield r)) (TP X pins σ Q) X.xe s
def tTrue : TT := fun _ H Q => Q true H
theorem pifs_nil {X : Cx} : PIfs X [] tTrue := fun _ _ _ H _ I h => wpAny_tests_nil ⟨H, I, h⟩
theorem pifs_one {X : Cx} {c : Expr} {t : TT} (h : PT X c t) : PIfs X [c] t := fun pins s σ H Q I hw => wpAny_tests_one (h pins s σ H Q I hw)
def CompW (J : It) (g : TG) (tt : TT) (te : TE) (p : Addr) (σ₀ : St) (H1 : Hp) (Q : VK) : Prop :=
  ∃ W : Nat → Nat → St → List V → Hp → Prop, (∃ m, W 0 m σ₀ [] (upd H1 p (.lst []))) ∧ ∀ i m σ' acc H, W i m σ' acc H →
    (J.stop i H ∧ Q (.ref p) H) ∨ (J.go i H ∧ ∃ N : St → List V → Hp → Prop, (∀ σ2 acc' H', N σ2 acc' H' → ∃ m', m' < m ∧ W (i + 1) m' σ2 acc' H') ∧ ∀ x H', J.yld i H x H' → g x σ' H' fun σ2 H2 => tt σ2 H2 fun b H3 =>
      if b = true then te σ2 H3 fun y H4 => H4 p = some (.lst acc) ∧ acc.length < sizeLine ∧ N σ2 (acc ++ [y]) (upd H4 p (.lst (acc ++ [y])))
      else N σ2 acc H3)
def tComp (wi : TI) (g : Blk → TG) (tt : Blk → TT) (te : Blk → TE) (js : List (Option Nat)) : TE := fun σ H Q => wi σ H fun J H1 => ∀ p, H1 p = none → ∀ B : Blk, CompW J (g B) (tt B) (te B) p (cmap js σ) H1 Q
section
variable {X : Cx} {sc : Scope} {N' : List Str} {js : List (Option Nat)} {tg iter elt : Expr} {ifs : List Expr} {pos : Pos} {wi : TI} {g : Blk → TG} {tt : Blk → TT} {te : Blk → TE}
theorem comp_core (S : CScope N' sc X.env.scope) (hj : jsOk N' X.N sc js N' = true) (hc : X.calm = true)
    (hg : ∀ B, PG (cxB X sc N' B) tg (g B)) (ht : ∀ B, PIfs (cxB X sc N' B) ifs (tt B)) (he : ∀ B, PE (cxB X sc N' B) elt (te B))
    {pins : List (Addr × Obj)} {s : Shared} {σ : St} {J : It} {H : Hp} {it : Addr} {fp : List Addr} {tn : Nat → Heap → Prop} (I : Inv X pins σ H s) (T : Turn X.prog X.w X.K tg J fp it tn) (st : tn 0 s.heap) (hf : ∀ b ∈ fp, FpOk X pins H b)
    {Q : VK} (hw : ∀ p, H p = none → ∀ B : Blk, CompW J (g B) (tt B) (te B) p (cmap js σ) H Q) {E : Value → Shared → Prop} {RR : Value → Addr → Result → Shared → Prop}
    (hRR : ∀ p C H' s' m, Inv X pins σ H' s' → FpOk X pins H' C → s'.heap.Ns C m → Q (.ref p) H' → RR (.ref p) C (.ok .next) s') :
    wpAny (model X.prog X.w) X.A (newList []) (fun acc s₃ => wpAny (model X.prog X.w) X.A (newFunctionEnv sc X.env.globals (closL X.env.cells sc.names []) [] X.env.qual none .none (some X.env)) (fun cenv s₄ =>
      codeAny (model X.prog X.w) X.A (.compStart (.ListComp elt [⟨tg, iter, ifs, 0⟩] sc pos) 0 (.ref it) acc { cenv with scope := relabel sc X.env }) (RR acc cenv.locals) s₄) E s₃) E s := by
  refine wpAny_newObj_type (wpAny_newFunctionEnv S.nocell (by intro y hy; simp at hy) (fun h₁ hns₁ hsb₁ => ?_) S.kind)
  dsimp only at hns₁ hsb₁ ⊢
  generalize hH2 : s.heap.push { cls := .type "list", dict := none, data := .seq ([] : List Value).toArray } = H2 at hns₁ hsb₁ ⊢
  have hC : H2.objs.size = s.heap.objs.size + 1 := by rw [← hH2, Heap.size_push]
  have hDC : s.heap.objs.size ≠ H2.objs.size := by rw [hC]; exact Nat.ne_of_lt (Nat.lt_succ_self _)
  have hCle : s.heap.objs.size ≤ H2.objs.size := by rw [hC]; exact Nat.le_succ _
  have below : ∀ b, b < s.heap.objs.size → b ≠ H2.objs.size := fun b hb => by rw [hC]; exact Nat.ne_of_lt (Nat.lt_succ_of_lt hb)
  have old : ∀ b o, s.heap.get? b = some o → h₁.get? b = some o := fun b o e => hsb₁.extBut b o (below b (Heap.lt_size e)) (Heap.get?_push_of_some _ (hH2 ▸ Heap.get?_push_of_some _ e))
  have hacc : h₁.get? s.heap.objs.size = some { cls := .type "list", dict := none, data := .seq ([] : List Value).toArray } := hsb₁.extBut _ _ hDC (Heap.get?_push_of_some _ (hH2 ▸ Heap.get?_push_size _ rfl))
  have hp0 : H s.heap.objs.size = none := I.hok.fresh (Nat.le_refl _)
  have newO : ObjOk X.prog X.w (upd H s.heap.objs.size (.lst [])) h₁ s.heap.objs.size (.lst []) := ⟨Nat.zero_le _, [], _, .nil, hacc⟩
  have hok1 : HOk X.prog X.w (upd H s.heap.objs.size (.lst [])) h₁ := I.hok.laid old (Nat.le_refl _) newO
  have un1 : Un (frs X.stack) fp H (upd H s.heap.objs.size (.lst [])) s.heap h₁ := Un.laid old (Nat.le_refl _) hp0
  have fC : (upd H s.heap.objs.size (.lst [])) H2.objs.size = none := by rw [upd_ne (Ne.symm hDC)]; exact I.hok.fresh hCle
  have IB := inv_blk (tk := s.toks + ([] : List (Str × Value)).length) S hj I hf (fun b hb => let ⟨o, e, _⟩ := T.obj 0 _ st b hb; ⟨o, e⟩) hCle old un1 hok1 hns₁ fC
  obtain ⟨W, ⟨m0, w0⟩, turn⟩ := hw _ hp0 ⟨closL X.env.cells sc.names [], s, H, fp, H2.objs.size⟩
  have st1 : tn 0 h₁ := T.keep _ _ _ st fun b _ o e => old b o e
  have loop : ∀ s₃ : Shared, s₃ = { s with heap := h₁, toks := s.toks + ([] : List (Str × Value)).length } →
      codeAny (model X.prog X.w) X.A (.compLoop (.ListComp elt [⟨tg, iter, ifs, 0⟩] sc pos) 0 (.ref it) (.ref s.heap.objs.size) (compEnvC sc (closL X.env.cells sc.names []) H2.objs.size X.env))
        (RR (.ref s.heap.objs.size) H2.objs.size) s₃ := by
    rintro s₃ rfl
    generalize hB : (⟨closL X.env.cells sc.names [], s, H, fp, H2.objs.size⟩ : Blk) = B at turn w0 IB
    have eB : compEnvC sc (closL X.env.cells sc.names []) H2.objs.size X.env = (cxB X sc N' B).env := by subst hB; rfl
    have exB : (cxB X sc N' B).ex = fp := by subst hB; rfl
    rw [eB]
    have stat : ∀ {σ' : St} {H' : Hp} {s' : Shared}, Inv (cxB X sc N' B) [] σ' H' s' → (∀ b ∈ fp, H' b = none) → ∀ b ∈ fp, FpOk (cxB X sc N' B) [] H' b := fun {σ' H' s'} J' hn b hb => by
      refine ⟨hn b hb, (J'.ok.exf b (by rw [exB]; exact hb)).1, J'.ok.exfs b (by rw [exB]; exact hb), .inl (by rw [exB]; exact hb), (J'.ok.exf b (by rw [exB]; exact hb)).2, fun p hp => absurd (show p ∈ ([] : List (Addr × Obj)) from hp) (by simp)⟩
    have fp0 : ∀ b ∈ fp, (upd H s.heap.objs.size (.lst [])) b = none := fun b hb => by
      obtain ⟨o, e, _⟩ := T.obj 0 _ st b hb
      rw [upd_ne (Nat.ne_of_lt (Heap.lt_size e))]
      exact (hf b hb).1
    refine compLoop_any (fun n s' => ∃ i σ' acc H', Inv (cxB X sc N' B) [] σ' H' s' ∧ tn i s'.heap ∧ (∀ b ∈ fp, H' b = none) ∧ W i n σ' acc H') ?_ m0 ⟨0, _, [], _, IB, st1, fp0, w0⟩
    rintro n s3 ⟨i, σ3, acc, H3, I3, st3, fr3, w3⟩
    rcases turn i n σ3 acc H3 w3 with ⟨stop, qn⟩ | ⟨go, N, hN, step⟩
    · refine thn (T.done (cxB X sc N' B) rfl rfl rfl hc i [] s3 σ3 H3 (fun _ _ => False) I3 (stat I3 fr3) st3 stop) fun r s4 ⟨hr, I4⟩ => ?_
      subst hr
      obtain ⟨m4, hn4, _⟩ := I4.loc
      have u4 : Un (frs X.stack) fp H H3 s.heap s4.heap := by have := I4.base; subst hB; exact this
      have o4 : s4.os = s.os := by have := I4.os; subst hB; exact this
      have c4 : (cxB X sc N' B).env.locals = H2.objs.size := by subst hB; rfl
      have hIX : Inv X pins σ H3 s4 := I.call' (ch := fp) o4 u4 I4.hok I4.bare fun b hb => ⟨(hf b hb).2.2.2.1, (hf b hb).2.1, (hf b hb).2.2.2.2.1, (hf b hb).2.2.2.2.2⟩
      exact hRR _ _ H3 s4 m4 hIX (I.fpOk hCle (by rw [← c4]; exact I4.free)) (by rw [← c4]; exact hn4) qn
    · refine thn (T.item (cxB X sc N' B) rfl rfl rfl hc i [] s3 σ3 H3 (fun _ _ => False) I3 (stat I3 fr3) st3 go) fun r s4 ⟨u, hr, h4⟩ => ?_
      subst hr
      refine thn h4 fun _ s5 ⟨x, H5, I5, r5, y5, st5, fr5⟩ => ?_
      have I5' := I5.pinned (stat I5 fr5) (T.obj _ _ st5)
      refine thn (hg B _ s5 σ3 H5 x u _ I5' r5 (step x H5 y5)) fun _ s6 ⟨σ6, H6, I6, q6⟩ => ?_
      refine thn (ht B _ s6 σ6 H6 _ I6 q6) fun ok s7 ⟨H7, I7, q7⟩ => ?_
      have again : ∀ {H8 : Hp} {s8 : Shared} {acc' : List V}, Inv (cxB X sc N' B) ([] ++ pinsAt fp s5.heap) σ6 H8 s8 → (∃ m', m' < n ∧ W (i + 1) m' σ6 acc' H8) → ∃ m, m < n ∧ ∃ i σ' acc H', Inv (cxB X sc N' B) [] σ' H' s8 ∧ tn i s8.heap ∧ (∀ b ∈ fp, H' b = none) ∧ W i m σ' acc H' :=
        fun {H8 s8 acc'} I8 ⟨m', hm, w8⟩ => by
          refine ⟨m', hm, i + 1, σ6, acc', H8, I8.unpinned, T.keep _ _ _ st5 fun b hb o e => (I8.pin (b, o) (List.mem_append_right _ (List.mem_append_right _ (mem_pinsAt hb e)))).1, fun b hb => ?_, w8⟩
          obtain ⟨o, e, d⟩ := T.obj _ _ st5 b hb
          exact (I8.pin (b, o) (List.mem_append_right _ (List.mem_append_right _ (mem_pinsAt hb e)))).2.1
      cases ok with
      | false =>
        rw [if_neg Bool.false_ne_true] at q7
        rw [if_neg Bool.false_ne_true]
        exact again I7 (hN _ _ _ q7)
      | true =>
        rw [if_pos rfl] at q7
        rw [if_pos rfl]
        refine thn (he B _ s7 σ6 H7 _ I7 q7) fun y s8 ⟨z, H8, I8, r8, hp8, hl8, q8⟩ => ?_
        exact thn (mt_append _ s8 σ6 H8 (.ref s.heap.objs.size) [z] (.ref s.heap.objs.size) [y] (fun _ H9 => N σ6 (acc ++ [z]) H9) I8 rfl (.cons r8 .nil) ⟨_, acc, z, rfl, rfl, hp8, hl8, q8⟩) fun _ s9 ⟨_, H9, I9, _, q9⟩ => again I9 (hN _ _ _ q9)
  exact codeAny_compStart_list (loop _ rfl) (T.self _ 0 _ _ _ st1 (loop _ rfl))
theorem pe_comp (N' : List Str) (js : List (Option Nat)) (hi : PI X tg iter wi)
    (hg : ∀ B, PG (cxB X sc N' B) tg (g B)) (ht : ∀ B, PIfs (cxB X sc N' B) ifs (tt B)) (he : ∀ B, PE (cxB X sc N' B) elt (te B))
    (S0 : cscopeB N' sc X.env.scope = true := by kernel_rfl) (hj : jsOk N' X.N sc js N' = true := by kernel_rfl) (hc : X.calm = true := by rfl) (hs : ∀ x, foldedSetIterable iter X.env x = pure x := by intro _; rfl) : PE X (.ListComp elt [⟨tg, iter, ifs, 0⟩] sc pos) (tComp wi g tt te js) := by
  intro pins s σ H Q I h
  have S := CScope.of S0
  rw [eval_ListComp]
  refine wpAny_comprehension_free (use := none) rfl hs (closure_ok (cells_of S I)) S.kind S.loc (thn (hi pins s σ H _ I h) fun xv s₁ h₁ => thn h₁ fun itv s₂ h₂ => ?_)
  obtain ⟨it, fp, tn, J, H2, e, I2, T, st2, f2, hw⟩ := h₂
  subst e
  refine comp_core (RR := fun acc C => compPost (model X.prog X.w) X.A X.xe none (EP X pins σ Q) acc C) S hj hc hg ht he I2 T st2 f2 hw ?_
  intro p C H' s' m I' fC hn q
  refine ⟨m, hn, fun h' hs' => ⟨.ref p, H', ?_, rfl, q⟩⟩
  exact I'.turned (t' := s'.toks) (fun b o hb e => (hs'.2 b hb).trans e) fC.1 fC.2.1 fC.2.2.2.1 fC.2.2.2.2.1 fC.2.2.2.2.2
theorem ps_setcomp {i : Nat} {x : Str} {px spos : Pos} (hN : X.N.Nodup) (hi0 : X.N[i]? = some x) (hx : Loc X.env.scope x) (N' : List Str) (js : List (Option Nat)) (hi : PI X tg iter wi)
    (hg : ∀ B, PG (cxB X sc N' B) tg (g B)) (ht : ∀ B, PIfs (cxB X sc N' B) ifs (tt B)) (he : ∀ B, PE (cxB X sc N' B) elt (te B))
    (S0 : cscopeB N' sc X.env.scope = true := by kernel_rfl) (hj : jsOk N' X.N sc js N' = true := by kernel_rfl) (hc : X.calm = true := by rfl) (hsw : swapsWith (.ListComp elt [⟨tg, iter, ifs, 0⟩] sc pos) (some (.Name x px)) spos.line X.env = pure true := by rfl)
    (hf : X.fn x = true ∨ X.env.scope.names.lookup x = some .local := by first | exact .inl rfl | exact .inr rfl | assumption)
    (hs : ∀ x, foldedSetIterable iter X.env x = pure x := by intro _; rfl) : PS X (.Assign [.Name x px] (.ListComp elt [⟨tg, iter, ifs, 0⟩] sc pos) spos) (tAsg (tComp wi g tt te js) (gName i)) := by
  intro pins s σ H D I h
  have S := CScope.of S0
  rw [exec_Assign_Name_used _ _ _ _ hsw]
  refine wpAny_bind (wpAny_standAt (wpAny_bind ?_))
  show wpAny _ X.A (do let _ ← comprehension (.ListComp elt [⟨tg, iter, ifs, 0⟩] sc pos) sc X.env _ (newList []) false (eval iter X.env) (some (assign (.Name x px) X.env))) _ _ s
  refine wpAny_bind (wpAny_mono (wpAny_comprehension_free (use := some (assign (.Name x px) X.env)) (Q := fun _ s' => SP X pins D .next s') rfl hs (closure_ok (cells_of S I)) S.kind S.loc
    (thn (hi pins s σ H _ I h) fun xv s₁ h₁ => thn h₁ fun itv s₂ h₂ => ?_)) (fun _ s' hq => wpAny_pure (wpAny_pure hq)) fun _ _ e => e)
  obtain ⟨it, fp, tn, J, H2, e, I2, T, st2, f2, hw⟩ := h₂
  subst e
  refine comp_core (RR := fun acc C => compPost (model X.prog X.w) X.A X.xe (some (assign (.Name x px) X.env)) (fun _ s' => SP X pins D .next s') acc C) S hj hc hg ht he I2 T st2 f2 hw ?_
  intro p C H' s' m I' fC hn q
  show wpAny _ X.A (assign (.Name x px) X.env (.ref p)) _ _ _
  refine wpAny_assign_Name (store_ok2 I' hN hi0 hx (v := .ref p) rfl (fun s'' I'' ⟨a, sb, ha⟩ => ?_) hf)
  have hCa : C ≠ a := by
    rcases ha with e | e
    · rw [e]; exact fC.2.1
    · exact fun z => fC.2.2.2.2.1 x a e z.symm
  refine ⟨m, hn.sameBut sb hCa, fun h' hs' => ⟨_, H', ?_, q⟩⟩
  exact I''.turned (t' := s''.toks) (fun b o hb e => (hs'.2 b hb).trans e) fC.1 fC.2.1 fC.2.2.2.1 fC.2.2.2.2.1 fC.2.2.2.2.2
end
section
variable {g : TG} {tt : TT} {te : TE} {p : Addr} {σ₀ : St} {H1 : Hp} {Q : VK}
theorem comp_by {J : It} (n : Nat) (Pv : Nat → St → List V → Hp → Prop) (h0 : Pv 0 σ₀ [] (upd H1 p (.lst []))) (hd : ∀ σ acc H, Pv n σ acc H → J.stop n H ∧ Q (.ref p) H)
    (hs : ∀ i σ acc H, i < n → Pv i σ acc H → J.go i H ∧ ∀ x H', J.yld i H x H' → g x σ H' fun σ2 H2 => tt σ2 H2 fun b H3 =>
      if b = true then te σ2 H3 fun y H4 => H4 p = some (.lst acc) ∧ acc.length < sizeLine ∧ Pv (i + 1) σ2 (acc ++ [y]) (upd H4 p (.lst (acc ++ [y]))) else Pv (i + 1) σ2 acc H3) : CompW J g tt te p σ₀ H1 Q := by
  refine ⟨fun i m σ acc H => m = n - i ∧ i ≤ n ∧ Pv i σ acc H, ⟨n, by simp, Nat.zero_le _, h0⟩, ?_⟩
  rintro i m σ acc H ⟨rfl, hi, q⟩
  by_cases hlt : i < n
  · obtain ⟨hg, hy⟩ := hs i σ acc H hlt q
    exact .inr ⟨hg, Pv (i + 1), fun σ2 acc' H' q' => ⟨n - (i + 1), by omega, rfl, hlt, q'⟩, hy⟩
  · have e : i = n := by omega
    subst e
    exact .inl (hd σ acc H q)
end
end L2
namespace L2
open PySem PySem.Spec PyProof.Rows
section
variable {X : Cx}
theorem bits_small {i : Int} (h : i.natAbs < 2 ^ 4096) : Builtin.Int.intBits i ≤ 2 ^ 20 := by
  unfold Builtin.Int.intBits
  split
  · exact Nat.zero_le _
  · rename_i h0
    have hn : i.natAbs ≠ 0 := by
      intro z
      have : i = 0 := Int.natAbs_eq_zero.mp z
      rw [this] at h0
      exact h0 rfl
    have : i.natAbs.log2 < 4096 := (Nat.log2_lt hn).mpr h
    have e : (2 : Nat) ^ 20 = 1048576 := by decide
    omega
def CBig (i j : Int) : Prop := i.natAbs < 2 ^ 4096 ∧ j.natAbs < 2 ^ 4096
theorem op_mulB : OpR X (binaryOp .Mult) (rI CBig fun i j => .int (i * j)) := opI fun _ _ _ _ _ _ _ hc q => mul_int q (IntMulOk.of_bits (bits_small hc.1) (bits_small hc.2))
def CDivB (i j : Int) : Prop := 0 < j ∧ j < 2 ^ 4096
theorem op_fdivB : OpR X (binaryOp .FloorDiv) (rI CDivB fun i j => .int (i / j)) := opI fun i j _ _ _ _ _ hc q => by
  refine floordiv_int (by have := hc.1; omega) ?_ (.inl (PyProof.noPylong_of_log2 ?_))
  · rw [Int.fdiv_eq_ediv_of_nonneg _ (Int.le_of_lt hc.1)]; exact q
  · have h0 : j.natAbs ≠ 0 := by have := hc.1; omega
    have h1 : j.natAbs < 2 ^ 4096 := by
      have a := hc.1
      have b := hc.2
      omega
    have := (Nat.log2_lt h0).mpr h1
    omega
theorem op_mulS : OpR X (binaryOp .Mult) (fun x y H Q => ∃ z n, x = .str z ∧ y = .int n ∧ z.length ≤ 16 ∧ -(2 ^ 63) ≤ n ∧ n ≤ 1048576 ∧ Q (.str (Txt.mul z n)) H) := by
  intro pins s σ H x y v u Q I rx ry h
  obtain ⟨z, n, rfl, rfl, h1, h2, h3, q⟩ := h
  obtain ⟨t, rfl⟩ := rx
  obtain ⟨t', rfl⟩ := ry
  exact SB.mul (mulOk_of 16 1048576 h1 h3 h2 (by decide) (by decide)) fun t' k => ⟨.str _, H, I.tok _, ⟨_, rfl⟩, q⟩
theorem mt_upper : MtR X "str.upper" (fun x vs H Q => ∃ z, x = .str z ∧ vs = [] ∧ z.length ≤ 5592405 ∧ Q (.str (Txt.upper z)) H) := by
  intro pins s σ H x xs v us Q I rx rv h
  obtain ⟨z, rfl, rfl, hz, q⟩ := h
  obtain ⟨t, rfl⟩ := rx
  have := rv.zero
  subst this
  exact SC.upper (fit_upper hz) ⟨.str _, H, I.tok _, ⟨_, rfl⟩, q⟩
theorem mt_partition : MtR X "str.partition" (fun x vs H Q => ∃ z y, x = .str z ∧ vs = [.str y] ∧ (y.length == 0) = false ∧ z.length ≤ sizeLine ∧
    ∀ p, H p = none → Q (.ref p) (upd H p (.tup [.str (Txt.partition z y).1, .str (Txt.partition z y).2.1, .str (Txt.partition z y).2.2]))) := by
  intro pins s σ H x xs v us Q I rx rv h
  obtain ⟨z, y, rfl, rfl, hy, hz, q⟩ := h
  obtain ⟨t, rfl⟩ := rx
  obtain ⟨u, rfl, ru⟩ := rv.one
  obtain ⟨t', rfl⟩ := ru
  refine call_meets F.slot_str_partition (typeIs_str _ _ _) F.entry_str_partition (F.args_str_partition_2 _ _) (meets_str_partition z y t t' hy hz) ?_
  have q' := q s.heap.objs.size (I.hok.fresh (Nat.le_refl _))
  have fin : ∀ (a b c : Str) (ta tb tc : Tok) (tk : Nat), Q (.ref s.heap.objs.size) (upd H s.heap.objs.size (.tup [.str a, .str b, .str c])) →
      EP X pins σ Q (.ref s.heap.objs.size) { s with toks := tk, heap := s.heap.push { cls := .type "tuple", data := .seq [.str a ta, .str b tb, .str c tc].toArray } } := fun a b c ta tb tc tk qq =>
    ⟨.ref s.heap.objs.size, _, I.laid (o := .tup [.str a, .str b, .str c]) (t' := tk) (fun b o e => Heap.get?_push_of_some _ e) (Nat.le_refl _)
      ⟨by show 3 ≤ sizeLine; decide, [.str a ta, .str b tb, .str c tc], .cons ⟨_, rfl⟩ (.cons ⟨_, rfl⟩ (.cons ⟨_, rfl⟩ .nil)), ⟨_, Heap.get?_push_size _ rfl, rfl, _, rfl⟩⟩, rfl, qq⟩
  unfold Txt.partition at q'
  revert q'
  cases Builtin.Str.occurrences z y 0 z.length 1 with
  | nil => intro q'; exact fin _ _ _ _ _ _ _ q'
  | cons i r => intro q'; exact fin _ _ _ _ _ _ _ q'
theorem all_range {bs : List Bool} : (List.range bs.length).all (fun i => bs.getD i false) = bs.all id := by
  induction bs with
  | nil => rfl
  | cons b r ih =>
    rw [List.length_cons, List.range_succ_eq_map, List.all_cons, List.all_map, List.all_cons]
    have : ((fun i => (b :: r).getD i false) ∘ Nat.succ) = fun i => r.getD i false := by
      funext i; simp [List.getD]
    rw [this, ih]
    simp
theorem call_all (hc : X.calm = true) : CallR X (.builtin "all") (fun xs H Q => ∃ (p : Addr) (bs : List Bool), xs = [.ref p] ∧ SqL X.K H p (bs.map V.bl) ∧ Q (.bl (bs.all id)) H) := by
  intro pins s σ H xs us Q I r h
  obtain ⟨p, bs, rfl, hq, q⟩ := h
  obtain ⟨u, rfl, ru⟩ := vals1 r
  cases ru
  obtain ⟨its, rv, pl, hz⟩ := I.list hq
  have hlt : p < s.heap.objs.size := by obtain ⟨_, e, _⟩ := pl.isList; exact Heap.lt_size e
  refine call_all_walk (wpAny_pyIter_list pl.isList ?_)
  have hA : X.A.in1.handled = none := I.ok.hd hc
  refine ⟨s.heap.objs.size, [s.heap.objs.size, p], [s.heap.objs.size], its.toArray.size, (fun i v => its.toArray[i]? = some v), _, (fun i => bs.getD i false), rfl, Walks.list hA s.heap.objs.size p (Nat.ne_of_lt hlt) its.toArray,
    ⟨⟨_, Heap.get?_push_size _ rfl, rfl, rfl⟩, pl.isList.push _⟩, ?_, fun h' tk hk => ?_⟩
  · intro i v s' Q' E' hv hQ'
    have hv' : its[i]? = some v := by simpa using hv
    have hi : i < its.length := (List.getElem?_eq_some_iff.mp hv').1
    have hl := rv.length
    rw [List.length_map] at hl
    have hb : bs[i]? = some (bs.getD i false) := by
      have hi' : i < bs.length := by omega
      simp [List.getD, List.getElem?_eq_getElem hi']
    obtain ⟨u, hu, ru⟩ := rv.get (i := i) (x := .bl (bs.getD i false)) (by rw [List.getElem?_map, hb]; rfl)
    rw [hv'] at hu; cases hu
    cases (show v = Value.bool (bs.getD i false) from ru)
    exact wpAny_pure hQ'
  · have hl := rv.length
    rw [List.length_map] at hl
    have e : (List.range its.toArray.size).all (fun i => bs.getD i false) = bs.all id := by
      rw [List.size_toArray, ← hl, all_range]
    rw [e]
    refine ⟨.bl (bs.all id), H, ?_, rfl, q⟩
    exact I.kept (t' := tk) fun b o eb => hk b o (fun z => by
      have : b = s.heap.objs.size := by simpa using z
      exact absurd (Heap.lt_size eb) (by rw [this]; exact Nat.lt_irrefl _)) (Heap.get?_push_of_some _ eb)
theorem call_isinst : CallR X (.builtin "isinstance") (fun xs H Q => ∃ x T t b, xs = [x, .ty T] ∧ TyOf X.K H x t ∧ PySem.W.kitOne X.K t (.type T) = some b ∧ Q (.bl b) H) := by
  intro pins s σ H xs us Q I r h
  obtain ⟨x, T, t, b, rfl, ty, e, q⟩ := h
  obtain ⟨u, w', rfl, ru, rw'⟩ := vals2 r
  cases (show w' = Value.type T from rw')
  exact isinst_ok I ru ty e fun tk => ⟨.bl b, H, I.tok _, rfl, q⟩
def Its (z : Str) : It := ⟨fun i _ => i < z.cps.size, fun i H x H' => H' = H ∧ ∃ c, z.cps.toList[i]? = some c ∧ x = .str ⟨#[c]⟩, fun i _ => z.cps.size ≤ i⟩
theorem turn_str {P : Program} {w : World} {K : PySem.W.Frag} {x : Str} {px : Pos} (z : Str) (it : Addr) (ty : String) (tk0 : Tok)
    (nx : ∀ (A : Around) (s : Shared) (i c : Nat) (Q : Option Value → Shared → Prop) (E : Value → Shared → Prop), s.heap.IsStrIter it ty z tk0 i → z.cps[i]? = some c →
      (∀ h', h'.IsStrIter it ty z tk0 (i + 1) → Heap.SameBut it s.heap h' → Q (some (.str ⟨#[c]⟩ s.toks)) { s with heap := h', toks := s.toks + 1 }) → wpAny (model P w) A (pyNext (.ref it)) Q E s)
    (en : ∀ (A : Around) (s : Shared) (i : Nat) (Q : Option Value → Shared → Prop) (E : Value → Shared → Prop), A.handled = none → s.heap.IsStrIter it ty z tk0 i → z.cps[i]? = none →
      (∀ h', Heap.ExtBut it s.heap h' → Q none { s with heap := h' }) → wpAny (model P w) A (pyNext (.ref it)) Q E s)
    (slf : ∀ (A : Around) (i : Nat) (s : Shared) (Q : Value → Shared → Prop) (E : Value → Shared → Prop), s.heap.IsStrIter it ty z tk0 i → Q (.ref it) s → wpAny (model P w) A (pyIter (.ref it)) Q E s) :
    Turn P w K (.Name x px) (Its z) [it] it (fun i h => h.IsStrIter it ty z tk0 i) where
  mem := by simp
  obj := fun i h st b hb => by
    have e : b = it := by simpa using hb
    subst e
    obtain ⟨o, ho, _, hd⟩ := st
    exact ⟨o, ho, fun v q => by rw [hd] at q; cases q⟩
  keep := fun i h h' st k => by
    obtain ⟨o, ho, r⟩ := st
    exact ⟨o, k it (by simp) o ho, r⟩
  item := by
    intro X hP hw hK hc i pins s σ H E I hf st hg
    subst hP hw hK
    obtain ⟨f0, f1, f2, f3, f4, f5⟩ := hf it (by simp)
    have hi : z.cps[i]? = some z.cps[i] := Array.getElem?_eq_getElem hg
    refine nx X.A s i _ _ _ st hi fun h' st' sb => ?_
    have I1 : Inv X pins σ H { s with heap := h', toks := s.toks + 1 } := I.turned (fun b o hb e => (sb.2 b hb).trans e) f0 f1 f3 f4 f5
    exact ⟨_, rfl, wpAny_pure ⟨.str ⟨#[z.cps[i]]⟩, H, I1, ⟨_, rfl⟩, ⟨rfl, z.cps[i], by rw [Array.getElem?_toList]; exact hi, rfl⟩, st', fun b hb => (hf b hb).1⟩⟩
  done := by
    intro X hP hw hK hc i pins s σ H E I hf st hg
    subst hP hw hK
    obtain ⟨f0, f1, f2, f3, f4, f5⟩ := hf it (by simp)
    have hg' : z.cps.size ≤ i := hg
    exact en X.A s i _ _ (I.ok.hd hc) st (Array.getElem?_eq_none hg') fun h' eb => ⟨rfl, I.turned (t' := s.toks) (fun b o hb e => eb b o hb e) f0 f1 f3 f4 f5⟩
  self := slf
theorem draw_list {prog : Program} {w : World} {A : Around} {E : Value → Shared → Prop} {it l : Addr} {items : Array Value} (hne : l ≠ it) : ∀ (n i : Nat) (s : Shared) (Q : List Value → Shared → Prop), s.heap.IsListIter it l i → s.heap.IsList l items → i + n ≤ items.size →
    (∀ h', h'.IsListIter it l (i + n) → Heap.SameBut it s.heap h' → Q ((items.toList.drop i).take n) { s with heap := h' }) → wpAny (model prog w) A (draw (.ref it) n) Q E s
  | 0, i, s, Q, hit, _, _, hQ => by
    show wpAny _ _ (pure []) Q E s
    exact wpAny_pure (by simpa using hQ s.heap hit (Heap.SameBut.refl ..))
  | n + 1, i, s, Q, hit, ht, hle, hQ => by
    have hlt : i < items.size := by omega
    show wpAny _ _ (pyNext (.ref it) >>= _) Q E s
    refine wpAny_bind (wpAny_pyNext_list_item hit ht (x := items[i]) (by simp [hlt]) fun h₁ hit₁ hs₁ => ?_)
    refine wpAny_bind (wpAny_holding (draw_list hne n (i + 1) _ _ hit₁ (ht.extBut hs₁.extBut hne) (by omega) fun h₂ hit₂ hs₂ => wpAny_pure ?_))
    have hd : items.toList.drop i = items[i] :: items.toList.drop (i + 1) := by simp [List.drop_eq_getElem_cons, hlt]
    have := hQ h₂ (by rw [show i + (n + 1) = i + 1 + n by omega]; exact hit₂) (hs₁.trans hs₂)
    rw [hd, List.take_succ_cons] at this
    exact this
theorem unpack_list {prog : Program} {w : World} {A : Around} {E : Value → Shared → Prop} {s : Shared} {t : Addr} {items : Array Value} {targets : List (Bool × (Value → Sem Unit))} {Q : Unit → Shared → Prop} (hh : A.handled = none) (ht : s.heap.IsList t items)
    (hn : targets.length = items.size) (hstar : targets.findIdx? (·.1) = none)
    (h : ∀ h', Heap.ExtBut s.heap.objs.size s.heap h' → wpAny (model prog w) A (assignInOrder (targets.map (·.2)) items.toList) Q E { s with heap := h' }) :
    wpAny (model prog w) A (unpack (.ref t) targets) Q E s := by
  have hlt : t ≠ s.heap.objs.size := by obtain ⟨o, ho, _⟩ := ht; exact Nat.ne_of_lt (Heap.lt_size ho)
  unfold unpack
  rw [hn, hstar]
  refine wpAny_bind (wpAny_holding ?_)
  unfold unpackItems
  refine wpAny_bind ?_
  unfold notIterableAtAll
  refine wpAny_bind (wpAny_specialOf ht.typeIs F.slot_list_iter.lookup ?_)
  refine wpAny_pure ?_
  simp only [Bool.false_eq_true, if_false]
  refine wpAny_bind (wpAny_holding (wpAny_pyIter_list ht ?_))
  refine wpAny_bind (wpAny_holding (draw_list hlt items.size 0 _ _ ⟨_, Heap.get?_push_size _ rfl, rfl, rfl⟩ (ht.push _) (by omega) fun h₁ hit₁ hs₁ => ?_))
  have hall : List.take items.size (List.drop 0 items.toList) = items.toList := by
    rw [List.drop_zero]; exact List.take_of_length_le (by simp)
  rw [hall]
  rw [if_neg (by simp)]
  have ht₁ : h₁.IsList t items := (ht.push _).extBut hs₁.extBut hlt
  refine wpAny_bind (wpAny_holding (wpAny_pyNext_list_end hh hit₁ ht₁ (by simp) fun h₂ he₂ => ?_))
  simp only [Option.isSome_none, Bool.false_eq_true, if_false]
  refine wpAny_pure (h h₂ fun b o hb e => he₂ b o hb (hs₁.extBut b o hb (Heap.get?_push_of_some _ e)))
def gLst (K : PySem.W.Frag) (n : Nat) (t : TGs) : TG := fun v σ H Q => ∃ a xs, v = .ref a ∧ SqL K H a xs ∧ xs.length = n ∧ t xs σ H Q
theorem pg_lst {es : List Expr} {k : Nat} {pos : Pos} {t : TGs} {n : Nat} (hc : X.calm = true) (h : PGs X es t)
    (hn : (assignEach es X.env).length = n := by rfl) (hst : (assignEach es X.env).findIdx? (·.1) = none := by rfl) : PG X (.Tuple es k pos) (gLst X.K n t) := by
  intro pins s σ H v u Q I r hw
  obtain ⟨a, xs, e1, hq, hl, hw⟩ := hw
  subst e1
  cases r
  obtain ⟨its, rv, ht, hz⟩ := I.list hq
  rw [PyProof.Rows.assign_Tuple]
  refine wpAny_bind (wpAny_standAt (unpack_list (I.ok.hd hc) ht.isList (by simp [hn, ← hl, rv.length]) hst fun h' hx => ?_))
  have I1 : Inv X pins σ H { s with heap := h' } := I.kept (t' := s.toks) fun b o e => hx b o (Nat.ne_of_lt (Heap.lt_size e)) e
  exact h pins _ σ H xs _ Q I1 (by simpa using rv) hw
end
end L2
namespace Rg
open PySem PySem.Spec PyProof.Rows L2
abbrev GREAT : Str := "ABCDEFGHIJKLMNOPQRSTUVWXYZ"
abbrev FIGS : Str := "0123456789"
abbrev SMALL : Str := "abcdefghijklmnopqrstuvwxyz"
def cs (z : Str) : List Nat := z.cps.toList
def madeB (z g : Str) : Bool := (!decide (V.str z = V.str "")) && (cs z).all fun c => decide (c ∈ cs g)
def isNameB (z : Str) : Bool := (decide (V.str (Txt.partition z "_").2.1 = V.str "") || madeB (Txt.partition z "_").2.2 FIGS) && madeB (Txt.partition z "_").1 GREAT
theorem cs_inj {x y : Str} (h : cs x = cs y) : x = y := by
  obtain ⟨x⟩ := x; obtain ⟨y⟩ := y
  exact congrArg Str.mk (Array.toList_inj.mp h)
theorem cs_len (x : Str) : (cs x).length = x.length := by unfold cs Str.length; simp
theorem cs_app (x y : Str) : cs (x ++ y) = cs x ++ cs y := by
  show (x.cps ++ y.cps).toList = _
  rw [Array.toList_append]; rfl
theorem cs_empty : cs "" = [] := by decide +kernel
theorem vstr_empty (z : Str) : decide (V.str z = V.str "") = decide (cs z = []) := by
  by_cases h : z = ""
  · subst h; simp [cs_empty]
  · rw [decide_eq_false (fun e => h (V.str.inj e)), decide_eq_false]
    intro e
    exact h (cs_inj (e.trans cs_empty.symm))
theorem madeB_eq (z g : Str) : madeB z g = (!decide (cs z = []) && (cs z).all fun c => decide (c ∈ cs g)) := by unfold madeB; rw [vstr_empty]
theorem under_eq : ("_" : Str) = ⟨#[95]⟩ := by decide +kernel
theorem cs_under : cs "_" = [95] := by decide +kernel
theorem part_none {z : Str} (h : 95 ∉ cs z) : Txt.partition z "_" = (z, Str.empty, Str.empty) := by
  rw [under_eq]
  rcases partition_whole z ⟨#[95]⟩ with ⟨e, _⟩ | ⟨i, _, hi, _⟩
  · exact e
  · exact absurd ((mem_iff_at z 95).mpr ⟨i, hi⟩) h
theorem cs_sub (z : Str) (i j : Nat) : cs (Builtin.Str.strSub z i j) = ((cs z).drop i).take (j - i) := by
  show (z.cps.extract i j).toList = _
  rw [Array.toList_extract]; rfl
theorem part_one {z a b : Str} (e : cs z = cs a ++ 95 :: cs b) (h : 95 ∉ cs a) : Txt.partition z "_" = (a, ("_" : Str), b) := by
  have hz : z.length = (cs a).length + 1 + (cs b).length := by
    rw [← cs_len, e, List.length_append, List.length_cons]; omega
  rw [under_eq]
  rcases partition_whole z ⟨#[95]⟩ with ⟨_, hn⟩ | ⟨i, hp, hi, hn⟩
  · have hm : 95 ∈ cs z := by rw [e]; simp
    obtain ⟨j, hj⟩ := (mem_iff_at z 95).mp hm
    exact absurd hj (hn j)
  · have h1 : (cs z)[i]? = some 95 := (StrLaws.subAt_one z 95 i).mp hi
    have h2 : ∀ k, k < i → (cs z)[k]? ≠ some 95 := fun k hk q => hn k hk ((StrLaws.subAt_one z 95 k).mpr q)
    have hi' : i = (cs a).length := by
      rcases Nat.lt_trichotomy i (cs a).length with q | q | q
      · rw [e, List.getElem?_append_left q] at h1
        exact absurd (List.mem_of_getElem? h1) h
      · exact q
      · refine absurd ?_ (h2 (cs a).length q)
        rw [e, List.getElem?_append_right (Nat.le_refl _)]
        simp
    rw [hp]
    have ea : Builtin.Str.strSub z 0 i = a := by
      apply cs_inj
      rw [cs_sub, List.drop_zero, e, hi', Nat.sub_zero, List.take_left']
      rfl
    have eb : Builtin.Str.strSub z (i + (⟨#[95]⟩ : Str).length) z.length = b := by
      apply cs_inj
      have l1 : (⟨#[95]⟩ : Str).length = 1 := rfl
      rw [cs_sub, l1, e, hi', hz]
      have d : (cs a ++ 95 :: cs b).drop ((cs a).length + 1) = cs b := by
        rw [List.drop_append]
        simp
      rw [d]
      have : (cs a).length + 1 + (cs b).length - ((cs a).length + 1) = (cs b).length := by omega
      rw [this, List.take_length]
    rw [ea, eb]
theorem name_letters {z : Str} (h0 : cs z ≠ []) (h : ∀ c ∈ cs z, c ∈ cs GREAT) : isNameB z = true := by
  have h95 : 95 ∉ cs z := fun m => absurd (h _ m) (by decide +kernel)
  unfold isNameB
  rw [part_none h95]
  dsimp only
  rw [vstr_empty]
  have e : cs Str.empty = [] := by decide +kernel
  simp only [e, decide_true, Bool.true_or, Bool.true_and]
  rw [madeB_eq, decide_eq_false h0, List.all_eq_true.mpr fun c hc => decide_eq_true (h c hc)]
  rfl
theorem name_figures {z a b : Str} (e : cs z = cs a ++ 95 :: cs b) (h0 : cs a ≠ []) (h : ∀ c ∈ cs a, c ∈ cs GREAT) (h1 : cs b ≠ []) (h2 : ∀ c ∈ cs b, c ∈ cs FIGS) : isNameB z = true := by
  have h95 : 95 ∉ cs a := fun m => absurd (h _ m) (by decide +kernel)
  unfold isNameB
  rw [part_one e h95, madeB_eq, madeB_eq]
  rw [decide_eq_false h0, List.all_eq_true.mpr fun c hc => decide_eq_true (h c hc), decide_eq_false h1, List.all_eq_true.mpr fun c hc => decide_eq_true (h2 c hc)]
  simp
theorem name_not {z : Str} (h0 : cs z ≠ []) (h : ∀ c ∈ cs z, c ∈ cs SMALL) : isNameB z = false := by
  have h95 : 95 ∉ cs z := fun m => absurd (h _ m) (by decide +kernel)
  unfold isNameB
  rw [part_none h95, madeB_eq, madeB_eq]
  have hh : ((cs z).all fun c => decide (c ∈ cs GREAT)) = false := by
    cases hz : cs z with
    | nil => exact absurd hz h0
    | cons c r =>
      have hc : c ∈ cs SMALL := h c (by rw [hz]; simp)
      have hn : c ∉ cs GREAT := by
        have key : ∀ c ∈ cs SMALL, c ∉ cs GREAT := by decide +kernel
        exact key c hc
      rw [List.all_cons, decide_eq_false hn, Bool.false_and]
  rw [hh]
  simp
theorem figs_of {m : Nat} : (∀ c ∈ cs (Str.ofString (toString ((m : Nat) : Int))), c ∈ cs FIGS) ∧ cs (Str.ofString (toString ((m : Nat) : Int))) ≠ [] := by
  have e := PySem.W.KIN.signs_num m
  have e : cs (Str.ofString (toString ((m : Nat) : Int))) = (Nat.toDigits 10 m).map Char.toNat := e
  constructor
  · intro c hc
    rw [e] at hc
    obtain ⟨ch, hch, rfl⟩ := List.mem_map.mp hc
    have hd : ch.isDigit = true := Nat.isDigit_of_mem_toDigits (by decide) (by decide) hch
    have : 48 ≤ ch.toNat ∧ ch.toNat ≤ 57 := by
      unfold Char.isDigit at hd
      simp only [Bool.and_eq_true, decide_eq_true_eq] at hd
      exact ⟨hd.1, hd.2⟩
    have key : ∀ k, 48 ≤ k → k ≤ 57 → k ∈ cs FIGS := by
      intro k h1 h2
      have : k = 48 ∨ k = 49 ∨ k = 50 ∨ k = 51 ∨ k = 52 ∨ k = 53 ∨ k = 54 ∨ k = 55 ∨ k = 56 ∨ k = 57 := by omega
      rcases this with h | h | h | h | h | h | h | h | h | h <;> subst h <;> decide +kernel
    exact key _ this.1 this.2
  · rw [e]
    intro z
    have : Nat.toDigits 10 m = [] := List.map_eq_nil_iff.mp z
    have hl : 0 < (Nat.toDigits 10 m).length := by
      by_cases h : m < 10
      · rw [Nat.toDigits_of_lt_base h]; simp
      · have hm : m % 10 < 10 := Nat.mod_lt m (by decide)
        have t : Nat.toDigits 10 (m / 10) ++ Nat.toDigits 10 (m % 10) = Nat.toDigits 10 (10 * (m / 10) + m % 10) := Nat.toDigits_append_toDigits (by decide) (by omega) hm
        rw [Nat.div_add_mod] at t
        rw [← t, Nat.toDigits_of_lt_base hm]
        simp
    rw [this] at hl
    exact absurd hl (by simp)
def Below (d s : Int) : Prop := 0 ≤ d ∧ d < s
abbrev Drawn : List Int → List Int → Prop := Paired Below
theorem stir1 {a k : Int} (h0 : 0 ≤ a) (h1 : a < 10 ^ 40) (h2 : 0 ≤ k) (h3 : k ≤ 1000) : (a * 48271 + 3 ^ 60 * (k + 1) * (k + 1) + k).natAbs < 2 ^ 200 := by
  have e3 : (3 : Int) ^ 60 = 42391158275216203514294433201 := by decide
  have e1 : (10 : Int) ^ 40 = 10000000000000000000000000000000000000000 := by decide
  have e2 : (2 : Nat) ^ 200 = 1606938044258990275541962092341162602522202993782792835301376 := by decide
  rw [e3, e2]
  rw [e1] at h1
  have m1 : (k + 1) * (k + 1) ≤ 1001 * 1001 := Int.mul_le_mul (by omega) (by omega) (by omega) (by omega)
  have m0 : 0 ≤ (k + 1) * (k + 1) := Int.mul_nonneg (by omega) (by omega)
  rw [Int.mul_assoc]
  generalize (k + 1) * (k + 1) = q at m1 m0
  omega
theorem natAbs_mul_lt {i j : Int} {m n : Nat} (hi : i.natAbs < 2 ^ m) (hj : j.natAbs < 2 ^ n) : (i * j).natAbs < 2 ^ (m + n) := by
  rw [Int.natAbs_mul, Nat.pow_add]
  exact Nat.mul_lt_mul'' hi hj
theorem natAbs_add_lt {i j : Int} {m : Nat} (hi : i.natAbs < 2 ^ m) (hj : j.natAbs < 2 ^ m) : (i + j).natAbs < 2 ^ (m + 1) := by
  rw [Nat.pow_succ]; omega
theorem lt_pow {i : Nat} {m n : Nat} (h : i < 2 ^ m) (hm : m ≤ n) : i < 2 ^ n := Nat.lt_of_lt_of_le h (Nat.pow_le_pow_right (by decide) hm)
end Rg
namespace L2
open PySem PySem.Spec PyProof.Rows
mutual
inductive RT (H : Hp) : V → PyData → Prop
  | non : RT H .non .none
  | bl (b : Bool) : RT H (.bl b) (.bool b)
  | int (i : Int) : RT H (.int i) (.int i)
  | str (x : Str) : RT H (.str x) (.str x)
  | tup {a : Addr} {xs : List V} {ds : List PyData} : H a = some (.tup xs) → RTs H xs ds → RT H (.ref a) (.tuple ds)
inductive RTs (H : Hp) : List V → List PyData → Prop
  | nil : RTs H [] []
  | cons {v : V} {vs : List V} {d : PyData} {ds : List PyData} : RT H v d → RTs H vs ds → RTs H (v :: vs) (d :: ds)
end
section
variable {P : Program} {w : World} {H : Hp} {h : Heap}
end
def RD (K : PySem.W.Frag) (H : Hp) (v : V) (d : PyData) : Prop := RT H v d ∨ ∃ a xs ds, v = .ref a ∧ d = .list ds ∧ SqL K H a xs ∧ RTs H xs ds
theorem RD.l {K : PySem.W.Frag} {H : Hp} {a : Addr} {xs : List V} {ds : List PyData} (h : SqL K H a xs) (r : RTs H xs ds) : RD K H (.ref a) (.list ds) := .inr ⟨a, xs, ds, rfl, rfl, h, r⟩
section
variable {X : Cx}
def Flt (d : PyData) : Prop := d.canLay0 = true ∧ d.depth ≤ 60
theorem vals_of : ∀ {xs : List V} {us : List Value}, xs.length = us.length → (∀ (j : Nat) (u : Value), us[j]? = some u → ∃ x, xs[j]? = some x ∧ RelV x u) → Vals xs us
  | [], [], _, _ => .nil
  | [], _ :: _, h, _ => by simp at h
  | _ :: _, [], h, _ => by simp at h
  | x :: xs, u :: us, h, k => by
    obtain ⟨y, e, r⟩ := k 0 u rfl
    simp at e
    subst e
    exact .cons r (vals_of (by simpa using h) fun j v hv => by
      obtain ⟨y, e, r⟩ := k (j + 1) v (by simpa using hv)
      exact ⟨y, by simpa using e, r⟩)
theorem kv_get : ∀ {kvs : List (Key × V)} {vs : List (Key × Value)} {j : Nat} {k : Key} {x : Value}, KV kvs vs → vs[j]? = some (k, x) → ∃ v, kvs[j]? = some (k, v)
  | _, _, _, _, _, .nil, e => by simp at e
  | _, _, 0, _, _, .cons (a := p) r _, e => by
    simp at e
    subst e
    exact ⟨p.2, by obtain ⟨a, b⟩ := p; cases r.1; rfl⟩
  | _, _, j + 1, k, x, .cons _ t, e => by
    obtain ⟨v, q⟩ := kv_get (j := j) (k := k) (x := x) t (by simpa using e)
    exact ⟨v, by simpa using q⟩
theorem kV_rel {k : Key} {v : Value} (h : keyIs k v = true) : RelV (kV k) v := by
  rcases keyIs_shape h with ⟨i, t, rfl, rfl⟩ | ⟨x, t, rfl, rfl⟩
  · exact ⟨t, rfl⟩
  · exact ⟨t, rfl⟩
theorem call_list_dict (hc : X.calm = true) : CallR X (.type "list") (fun xs H Q => ∃ d kvs, xs = [.ref d] ∧ H d = some (.dK kvs) ∧ ∀ l, H l = none → Q (.ref l) (upd H l (.lst (kvs.map fun kv => kV kv.1)))) := by
  intro pins s σ H xs us Q I r h
  obtain ⟨d, kvs, rfl, hd, q⟩ := h
  obtain ⟨u, rfl, ru⟩ := vals1 r
  cases ru
  obtain ⟨hz, hne, vs, rkv, hD⟩ := (show ObjOk X.prog X.w H s.heap d (.dK kvs) from I.hok d _ hd)
  obtain ⟨ep, hat⟩ := hD.dictAt
  have hl := rkv.length
  refine PySem.W.kdl_call (PySem.W.kdl_dict (knd := mixKind X.prog X.w) (kvs := vs) (ep := ep) hne) (I.ok.hd hc) hat (by rw [← hl]; exact hz) fun h' tk acc' c' hk hS hacc => ?_
  refine ⟨.ref s.heap.objs.size, _, I.laid (o := .lst (kvs.map fun kv => kV kv.1)) (t' := tk) hk (Nat.le_refl _) ⟨by rw [List.length_map]; exact hz, acc'.toList, c', ?_, by rw [Array.toArray_toList]; exact hS⟩, rfl, q _ (I.hok.fresh (Nat.le_refl _))⟩
  refine vals_of (by have h1 := hacc.1; have h2 : acc'.toList.length = acc'.size := Array.length_toList; have h3 : (kvs.map fun kv => kV kv.1).length = kvs.length := List.length_map ..; omega) fun j v hv => ?_
  obtain ⟨k, x, hx, hk'⟩ := hacc.2 j v (by rw [← Array.getElem?_toList]; exact hv)
  obtain ⟨y, hy⟩ := kv_get rkv hx
  exact ⟨kV k, by rw [List.getElem?_map, hy]; rfl, kV_rel hk'⟩
theorem ad0 {n : Nat} (i : Nat) (h : i ≠ 0) : n + i ≠ n := by omega
theorem adl {n a : Nat} (i : Nat) (h : a < n) : a ≠ n + i := by omega
theorem adl0 {n a : Nat} (h : a < n) : a ≠ n := by omega
theorem adge {n : Nat} (i : Nat) : n ≤ n + i := by omega
theorem bt_zip : bootBuiltins "zip" = some (.type "zip") := by decide +kernel
end
end L2
namespace L2
open PySem PySem.Spec PyProof.Rows
section
variable {X : Cx}
def Ite (K : PySem.W.Frag) (a : Addr) (xs : List V) : It :=
  ⟨fun i H => SqL K H a xs ∧ i < xs.length,
   fun i H x H' => ∃ p u, xs[i]? = some u ∧ H p = none ∧ x = .ref p ∧ H' = upd H p (.tup [.int (i : Nat), u]),
   fun i H => SqL K H a xs ∧ xs.length ≤ i⟩
theorem Inv.laidT {pins : List (Addr × Obj)} {σ : St} {H : Hp} {s : Shared} {fp : List Addr} {h'' : Heap} {tk : Nat} {xs : List V} {its : List Value} (I : Inv X pins σ H s) (hf : ∀ b ∈ fp, FpOk X pins H b)
    (keep2 : ∀ q o, q ∉ fp → s.heap.get? q = some o → h''.get? q = some o) (hz : xs.length ≤ sizeLine) (rv : Vals xs its) (hp2 : h''.get? s.heap.objs.size = some { cls := .type "tuple", data := .seq its.toArray }) :
    Inv X pins σ (upd H s.heap.objs.size (.tup xs)) { s with heap := h'', toks := tk } := by
  have hfr : H s.heap.objs.size = none := I.hok.fresh (Nat.le_refl _)
  have nfp : ∀ q ∈ fp, H q = none := fun q hq => (hf q hq).1
  refine I.step (g' := s.gens) (d' := s.drawn) (t' := tk) (ch := fp) (fun q hq => ⟨(hf q hq).2.2.2.1, (hf q hq).2.1, (hf q hq).2.2.2.2.1, (hf q hq).2.2.2.2.2⟩)
    (fun q o _ _ hc e _ => keep2 q o hc e) (fun q o _ _ hc e _ => ⟨o.slots, keep2 q o hc e⟩) (fun q o _ e n => by rw [upd_ne (Nat.ne_of_lt (Heap.lt_size e))]; exact n)
    (fun q o hc e => ⟨o, keep2 q o hc e⟩) (fun q zs e => by rw [upd_ne (ne_of_none e hfr)]; exact e) (fun q o zs e => by rw [upd_ne (ne_of_none e hfr)]; exact e) (fun q ps e => ⟨#[], by rw [upd_ne (ne_of_none e hfr), e]; simp⟩) (fun m hm => ?_) ?_ I.bare
  · obtain ⟨o, es, ep, ho, r⟩ := hm
    exact ⟨o, es, ep, keep2 _ o (fun z => absurd rfl (hf _ z).2.1) ho, r⟩
  · intro q o e
    by_cases hq : q = s.heap.objs.size
    · subst hq
      rw [upd_same] at e; cases e
      exact ⟨hz, its, rv, ⟨_, hp2, rfl, _, rfl⟩⟩
    · rw [upd_ne hq] at e
      refine (I.hok q o e).stay (fun t w' ht qq => keep2 t w' (fun z => ?_) qq) (fun t qq => by rw [upd_ne (ne_of_none qq hfr)]; exact qq) fun t zs qq => by rw [upd_ne (ne_of_none qq hfr)]; exact qq
      have n0 := nfp t z
      rcases ht with rfl | ht
      · rw [n0] at e; cases e
      · rw [n0] at ht; cases ht
theorem Inv.turnedT {pins : List (Addr × Obj)} {σ : St} {H : Hp} {s : Shared} {fp : List Addr} {h'' : Heap} {tk : Nat} (I : Inv X pins σ H s) (hf : ∀ b ∈ fp, FpOk X pins H b)
    (keep2 : ∀ q o, q ∉ fp → s.heap.get? q = some o → h''.get? q = some o) : Inv X pins σ H { s with heap := h'', toks := tk } := by
  have nfp : ∀ q ∈ fp, H q = none := fun q hq => (hf q hq).1
  refine I.step (g' := s.gens) (d' := s.drawn) (t' := tk) (ch := fp) (fun q hq => ⟨(hf q hq).2.2.2.1, (hf q hq).2.1, (hf q hq).2.2.2.2.1, (hf q hq).2.2.2.2.2⟩)
      (fun q o _ _ hc e _ => keep2 q o hc e) (fun q o _ _ hc e _ => ⟨o.slots, keep2 q o hc e⟩) (fun q o _ e n => n)
      (fun q o hc e => ⟨o, keep2 q o hc e⟩) (fun q zs e => e) (fun q o zs e => e) (fun q ps e => ⟨#[], by rw [e]; simp⟩) (fun m hm => ?_) ?_ I.bare
  · obtain ⟨o, es, ep, ho, r⟩ := hm
    exact ⟨o, es, ep, keep2 _ o (fun z => absurd rfl (hf _ z).2.1) ho, r⟩
  · intro q o e
    refine (I.hok q o e).stay (fun t w' ht qq => keep2 t w' (fun z => ?_) qq) (fun t qq => qq) fun t zs qq => qq
    have n0 := nfp t z
    rcases ht with rfl | ht
    · rw [n0] at e; cases e
    · rw [n0] at ht; cases ht
theorem turn_enum {P : Program} {w : World} {K : PySem.W.Frag} {es : List Expr} {kx : Nat} {px : Pos} (a e it : Addr) (xs : List V) (hne : e ≠ it) :
    Turn P w K (.Tuple es kx px) (Ite K a xs) [e, it] e (fun i h => (∃ old, IsEnum h e it (i : Nat) old) ∧ h.IsListIter it a i) where
  mem := by simp
  obj := fun i h st c hc => by
    obtain ⟨⟨old, h1⟩, ⟨o4, h4, _, h4d⟩⟩ := st
    simp only [List.mem_cons, List.mem_nil_iff, or_false] at hc
    rcases hc with rfl | rfl
    · exact ⟨_, h1, fun v q => by cases q⟩
    · exact ⟨_, h4, fun v q => by rw [h4d] at q; cases q⟩
  keep := fun i h h' st k => by
    obtain ⟨⟨old, h1⟩, ⟨o4, h4, r4⟩⟩ := st
    exact ⟨⟨old, k e (by simp) _ h1⟩, ⟨o4, k it (by simp) _ h4, r4⟩⟩
  item := by
    intro X hP hw hK hc i pins s σ H E I hf st hg
    subst hP hw hK
    obtain ⟨⟨old, h1⟩, h4⟩ := st
    obtain ⟨hqa, hi⟩ := hg
    obtain ⟨its, rv, pl, hz⟩ := I.list hqa
    obtain ⟨u, hu, ru⟩ := rv.get (List.getElem?_eq_getElem hi)
    refine wpAny_pyNext_enum_item h1 h4 pl.isList (x := u) (by simpa using hu) hne fun h' a1 a2 a3 a4 hk => ?_
    refine ⟨_, rfl, wpAny_letOwnedTupleGo_enum a1 fun h'' e' sb => ?_⟩
    have hfr : H s.heap.objs.size = none := I.hok.fresh (Nat.le_refl _)
    have lte : e < s.heap.objs.size := Heap.lt_size h1
    have lti : it < s.heap.objs.size := by obtain ⟨_, q, _⟩ := h4; exact Heap.lt_size q
    have keep2 : ∀ q o, q ∉ [e, it] → s.heap.get? q = some o → h''.get? q = some o := fun q o hq eq => by
      simp only [List.mem_cons, List.mem_nil_iff, or_false, not_or] at hq
      exact (sb.2 q hq.1).trans (hk q o hq.1 hq.2 eq)
    have hp2 : h''.get? s.heap.objs.size = some { cls := .type "tuple", data := .seq [.int (i : Nat) s.toks, u].toArray } := (sb.2 _ (Nat.ne_of_gt lte)).trans a3
    have I1 : Inv X pins σ (upd H s.heap.objs.size (.tup [.int (i : Nat), xs[i]])) { s with heap := h'', toks := s.toks + 1 } := I.laidT (its := [.int (i : Nat) s.toks, u]) hf keep2 (by show 2 ≤ sizeLine; decide) (.cons ⟨_, rfl⟩ (.cons ru .nil)) hp2
    refine ⟨.ref s.heap.objs.size, _, I1, rfl, ⟨s.heap.objs.size, xs[i], List.getElem?_eq_getElem hi, hfr, rfl, rfl⟩, ⟨⟨u, by rw [Int.natCast_add]; exact e'⟩, a2.extBut sb.extBut hne.symm⟩, fun q hq => ?_⟩
    rw [upd_ne]
    · exact (hf q hq).1
    · intro eq
      subst eq
      simp only [List.mem_cons, List.mem_nil_iff, or_false] at hq
      rcases hq with q | q
      · exact Nat.ne_of_gt lte q
      · exact Nat.ne_of_gt lti q
  done := by
    intro X hP hw hK hc i pins s σ H E I hf st hg
    subst hP hw hK
    obtain ⟨⟨old, h1⟩, h4⟩ := st
    obtain ⟨hqa, hij⟩ := hg
    obtain ⟨its, rv, pl, hz⟩ := I.list hqa
    have l1 := rv.length
    refine wpAny_pyNext_enum_end (I.ok.hd hc) h1 h4 pl.isList (by simp; omega) fun h' hk => ⟨rfl, ?_⟩
    exact I.turnedT (tk := s.toks) hf fun q o hq eq => hk q o (fun z => hq (by simp [z])) eq
  self := fun _ _ _ _ _ st h => by
    obtain ⟨⟨old, h1⟩, _⟩ := st
    exact wpAny_pyIter_enum h1 h
def iEnum (K : PySem.W.Frag) (ta : TA) : TI := fun σ H R => ta σ H fun vs H1 => ∃ a xs, vs = [.ref a] ∧ SqL K H1 a xs ∧ R (Ite K a xs) H1
theorem pi_enum {a : Expr} {ta : TA} {p pos : Pos} {es : List Expr} {kx : Nat} {px : Pos} (hg : Gl X "enumerate") (hm : X.mg "enumerate" = none) (ha : PA X [a] ta) (hs : starEach [a] X.env = [(false, eval a X.env)] := by rfl) :
    PI X (.Tuple es kx px) (.Call (.Name "enumerate" p) [a] [] pos) (iEnum X.K ta) := by
  intro pins s σ H R I h
  refine Call_ (ld_blt I hg hm boot_enumerate (PyProof.Rows.callWith_type1 (thn (ha pos pins s σ H _ I h) fun us s1 ⟨vs, H1, I1, r1, q1⟩ => ?_) hs rfl))
  obtain ⟨a, xs, rfl, hqa, q⟩ := q1
  obtain ⟨u, rfl, ru⟩ := vals1 r1
  cases ru
  obtain ⟨its, rv1, pl, hz⟩ := I1.list hqa
  refine call_enumerate_list pl.isList fun h' g1 g2 g3 k => ?_
  refine wpAny_pyIter_enum g1 ?_
  refine ⟨s1.heap.objs.size + 1, [s1.heap.objs.size + 1, s1.heap.objs.size], _, _, H1, rfl, I1.kept (t' := s1.toks) k, turn_enum a _ _ xs (ad0 1 (by decide)), ⟨⟨_, g1⟩, g2⟩, fun q hq => ?_, q⟩
  have hge : s1.heap.objs.size ≤ q := by
    simp only [List.mem_cons, List.mem_nil_iff, or_false] at hq
    rcases hq with e | e
    · rw [e]; exact adge 1
    · rw [e]; exact Nat.le_refl _
  exact I1.fpOk hge (I1.hok.fresh hge)
end
end L2
namespace L2
open PySem PySem.Spec PyProof.Rows
section
variable {prog : Program} {w : World} {A : Around} {E : Value → Shared → Prop} {s : Shared}
inductive HashAll (prog : Program) (w : World) (hh : Heap) (A0 : Around) : List Value → List Int → Nat → Prop
  | nil : HashAll prog w hh A0 [] [] 0
  | cons {v : Value} {vs : List Value} {i : Int} {is : List Int} {d n : Nat} (h : ∀ (E : Value → Shared → Prop) (s : Shared) (Q : Int → Shared → Prop), s.heap = hh → Q i { s with toks := s.toks + d } → wpAny (model prog w) A0 (pyHash v) Q E s) (t : HashAll prog w hh A0 vs is n) : HashAll prog w hh A0 (v :: vs) (i :: is) (d + n)
theorem nk_hash {a : Addr} {o : Obj} {items : Array Value} {n m : Nat} {is : List Int} {Q : Int → Shared → Prop} (hu : A.units < cLine) (ho : s.heap.get? a = some o) (hcl : o.cls = .type "tuple") (hd : o.data = .seq items n) (hi : HashAll prog w s.heap A.in1 items.toList is m)
    (h : Q (reduceHash (Builtin.Tuple.tupleHashOf is)) { s with toks := s.toks + (m + 1) }) : wpAny (model prog w) A (pyHash (.ref a)) Q E s := by
  have hT : s.TypeIs (.ref a) "tuple" := ⟨o, ho, hcl⟩
  unfold pyHash
  first | unfold pyHashByItsType | skip
  first | refine wpAny_bind (wpAny_cRoomFor_or (.inr hu) ?_) | skip
  refine wpAny_bind (wpAny_specialOf hT PySem.F.slot_tuple_hash.lookup ?_)
  rw [if_neg (by rw [beq_builtin_none]; exact Bool.false_ne_true)]
  refine wpAny_bind (wpAny_specialOf hT PySem.F.slot_tuple_hash.lookup ?_)
  refine wpAny_bind (wpAny_callSpecialIfBoundUnlessNone?_slot hT PySem.F.slot_tuple_hash (wpAny_call_entry PySem.F.slot_tuple_hash hT PySem.F.entry_tuple_hash ?_ (PySem.F.args_tuple_hash_1 _)))
  refine wpAny_bind (wpAny_pure ?_)
  refine wpAny_bind (wpAny_tupleItemsOf ho hd ?_)
  refine wpAny_bind ?_
  rw [← Array.forIn_toList]
  refine wpAny_forIn_list _
    (fun rest (b : Array Int) s' => ∃ done left k k', is = done ++ left ∧ HashAll prog w s.heap A.in1 rest left k' ∧ b.toList = done ∧ s' = { s with toks := s.toks + k } ∧ k + k' = m)
    _ ?_ ?_ _ _ ⟨[], is, 0, m, rfl, hi, rfl, rfl, by omega⟩
  · rintro x rest b s' ⟨done, left, k, k', rfl, hl, hb, rfl, hk⟩
    cases hl with
    | @cons _ _ i left' d n' hx hl' =>
      refine wpAny_bind (hx _ _ _ rfl ?_)
      first
        | exact wpAny_pure ⟨done ++ [i], left', k + d, n', by simp, hl', by simp [hb], by simp [Nat.add_assoc], by omega⟩
        | exact wpAny_bind (wpAny_pure (wpAny_pure ⟨done ++ [i], left', k + d, n', by simp, hl', by simp [hb], by simp [Nat.add_assoc], by omega⟩))
  · rintro b s' ⟨done, left, k, k', rfl, hl, hb, rfl, hk⟩
    cases hl
    rw [List.append_nil] at h
    dsimp only
    rw [hb]
    have ek : k = m := by omega
    subst ek
    refine wpAny_ret_mkInt ?_
    unfold reduceHash at h
    by_cases hr : (decide (-(2 : Int) ^ 63 ≤ Builtin.Tuple.tupleHashOf done) && decide (Builtin.Tuple.tupleHashOf done < 2 ^ 63)) = true
    · rw [if_pos hr] at h
      show wpAny _ _ (if (decide (-(2 : Int) ^ 63 ≤ Builtin.Tuple.tupleHashOf done) && decide (Builtin.Tuple.tupleHashOf done < 2 ^ 63)) = true then _ else _) Q E _
      rw [if_pos hr]
      exact wpAny_pure (by simpa [Nat.add_assoc] using h)
    · rw [if_neg hr] at h
      show wpAny _ _ (if (decide (-(2 : Int) ^ 63 ≤ Builtin.Tuple.tupleHashOf done) && decide (Builtin.Tuple.tupleHashOf done < 2 ^ 63)) = true then _ else _) Q E _
      rw [if_neg hr]
      exact wpAny_bind (wpAny_rule (wpAny_pure (by simpa [Nat.add_assoc] using h)))
inductive EqAll (prog : Program) (w : World) (hh : Heap) (A0 : Around) : List Value → List Value → Bool → Prop
  | nil : EqAll prog w hh A0 [] [] true
  | cons {u v : Value} {us vs : List Value} {b c : Bool} (h : ∀ (E : Value → Shared → Prop) (s : Shared) (Q : Bool → Shared → Prop), s.heap = hh → Q b s → wpAny (model prog w) A0 (eqBool u v) Q E s) (t : EqAll prog w hh A0 us vs c) : EqAll prog w hh A0 (u :: us) (v :: vs) (b && c)
theorem EqAll.len {hh : Heap} {A0 : Around} {us vs : List Value} {b : Bool} (h : EqAll prog w hh A0 us vs b) : us.length = vs.length := by
  induction h with
  | nil => rfl
  | cons _ _ ih => simp [ih]
theorem nk_eq {a b : Addr} {oa ob : Obj} {xs ys : Array Value} {na nb : Nat} {r : Bool} {Q : Bool → Shared → Prop} (hu : A.units < cLine) (hoa : s.heap.get? a = some oa) (hca : oa.cls = .type "tuple") (hda : oa.data = .seq xs na) (hob : s.heap.get? b = some ob) (hcb : ob.cls = .type "tuple") (hdb : ob.data = .seq ys nb)
    (hi : EqAll prog w s.heap A.in1 xs.toList ys.toList r) (same : a = b → r = true) (h : Q r s) : wpAny (model prog w) A (eqBool (.ref a) (.ref b)) Q E s := by
  have hTa : s.TypeIs (.ref a) "tuple" := ⟨oa, hoa, hca⟩
  have hTb : s.TypeIs (.ref b) "tuple" := ⟨ob, hob, hcb⟩
  unfold eqBool
  try with_reducible refine wpAny_holding ?_
  show wpAny _ _ (if (Value.ref a == Value.ref b) = true then _ else _) Q E s
  by_cases hab : (Value.ref a == Value.ref b) = true
  · rw [if_pos hab]
    have e : a = b := by have := eq_of_beq hab; injection this
    rw [same e] at h
    exact wpAny_bind (wpAny_rule (wpAny_pure h))
  · rw [if_neg hab]
    refine wpAny_bind (wpAny_richCompare_same_room (op := .Eq) hTa hTb PySem.F.slot_tuple_eq (wpAny_call_entry PySem.F.slot_tuple_eq hTa PySem.F.entry_tuple_eq ?_ (PySem.F.args_tuple_eq_2 _ _)) hu)
    show wpAny _ _ (isInstance (.ref b) (.type "tuple") >>= _) _ _ s
    refine wpAny_bind (wpAny_isInstance hTb isSubtype_tuple_tuple ?_)
    simp only [Bool.not_true, Bool.false_eq_true, if_false]
    refine wpAny_bind (wpAny_tupleItemsOf hoa hda ?_)
    refine wpAny_bind (wpAny_tupleItemsOf hob hdb ?_)
    refine wpAny_bind ?_
    refine wpAny_forIn_list _
      (fun rest q s' => q.1 = none ∧ s' = s ∧ ∃ us vs c, rest = List.zip us vs ∧ EqAll prog w s.heap A.in1 us vs c ∧ c = r)
      _ ?_ ?_ _ _ ⟨rfl, rfl, xs.toList, ys.toList, r, rfl, hi, rfl⟩
    · rintro ⟨u, v⟩ rest q s' ⟨hq, rfl, us, vs, c, hz, he, rfl⟩
      cases he with
      | nil => simp at hz
      | @cons u' v' us' vs' b1 c1 hx he' =>
        simp only [List.zip_cons_cons, List.cons.injEq, Prod.mk.injEq] at hz
        obtain ⟨⟨rfl, rfl⟩, rfl⟩ := hz
        refine wpAny_bind (hx _ _ _ rfl ?_)
        cases b1 with
        | true =>
          simp only [Bool.not_true, Bool.false_eq_true, if_false]
          exact wpAny_pure ⟨rfl, rfl, us', vs', c1, rfl, he', by rw [Bool.true_and]⟩
        | false =>
          simp only [Bool.not_false, if_true]
          rw [Bool.false_and] at h
          exact wpAny_bind (wpAny_pure (wpAny_pure (wpAny_pure ⟨_, rfl, (fun e => nomatch e), wpAny_truthy_bool h⟩)))
    · rintro ⟨q1, q2⟩ s' ⟨hq, rfl, us, vs, c, hz, he, rfl⟩
      simp only at hq
      subst hq
      refine wpAny_pure ?_
      have hsz : (xs.size == ys.size) = true := by
        have := hi.len
        simp at this
        simpa using this
      have hc : c = true := by
        cases he with
        | nil => rfl
        | cons _ _ => simp at hz
      subst hc
      refine ⟨_, rfl, (fun e => nomatch e), ?_⟩
      show wpAny _ _ (truthOfDropped (.bool (xs.size == ys.size))) Q E _
      rw [hsz]
      exact wpAny_truthy_bool h
theorem nk_quiet {K : Type} [DecidableEq K] {knd : KeyKind prog w K} {m : Nat} {ks : List K} {a : Addr} {Q : Bool → Shared → Prop} (hk : IsTupleKey knd s.heap ks a) (h : Q true s) : wpAny (model prog w) A (eqIsQuiet (m + 1) (.ref a)) Q E s := by
  have hT := hk.typeIs
  obtain ⟨o, items, n, ho, hcl, hd, hi⟩ := hk
  unfold eqIsQuiet
  refine wpAny_bind (wpAny_specialOf hT PySem.F.slot_tuple_eq.lookup ?_)
  try dsimp only
  refine wpAny_bind (wpAny_isInstance hT isSubtype_tuple_tuple ?_)
  rw [if_neg (by decide)]
  try dsimp only
  refine wpAny_bind (wpAny_seqItems ho hd (wpAny_bind ?_))
  show wpAny _ _ (forIn items _ _) _ _ _
  rw [← Array.forIn_toList]
  refine wpAny_forIn_list _ (fun rest q s' => q.1 = none ∧ s' = s ∧ ∀ v ∈ rest, carriedByValue v = true) _ ?_ ?_ _ _ ⟨rfl, rfl, hi.byValue⟩
  · rintro v rest q s' ⟨hq, rfl, hall⟩
    rw [eqIsQuiet_byValue _ (hall v List.mem_cons_self)]
    refine wpAny_bind (wpAny_pure ?_)
    rw [if_neg (by decide)]
    exact wpAny_pure ⟨rfl, rfl, fun u hu' => hall u (List.mem_cons_of_mem _ hu')⟩
  · rintro ⟨q1, q2⟩ s' ⟨hq, rfl, _⟩
    simp only at hq
    subst hq
    exact wpAny_pure h
end
abbrev NKey := Key × List Key
section
variable {prog : Program} {w : World}
def IsNest (prog : Program) (w : World) (tl : List Int) (h : Heap) (x : NKey) (a : Addr) : Prop :=
  ∃ o items n v pa ts, h.get? a = some o ∧ o.cls = .type "tuple" ∧ o.data = .seq items n ∧ items.toList = v :: .ref pa :: ts ∧ (mixKind prog w).is x.1 v = true ∧ IsTupleKey (mixKind prog w) h x.2 pa ∧ ItemsAre (mixKind prog w) (tl.map Sum.inl) ts
def nkHash (prog : Program) (w : World) (tl : List Int) (x : NKey) : Int := reduceHash (Builtin.Tuple.tupleHashOf ((mixKind prog w).hash x.1 :: tupleKeyHash (mixKind prog w) x.2 :: tl.map fun i => (mixKind prog w).hash (Sum.inl i)))
theorem hash_ints {A : Around} {hh : Heap} : ∀ {tl : List Int} {ts : List Value}, ItemsAre (mixKind prog w) (tl.map Sum.inl) ts → HashAll prog w hh A ts (tl.map fun i => (mixKind prog w).hash (Sum.inl i)) tl.length
  | [], _, h => by cases h; exact .nil
  | i :: tl, _, h => by
    cases h with
    | @cons _ v _ vs h1 t =>
      have := HashAll.cons (A0 := A) (hh := hh) (d := 1) (fun E s Q _ q => (mixKind prog w).pyHash h1 q) (hash_ints t)
      rw [List.length_cons, Nat.add_comm]
      exact this
theorem eq_ints {A : Around} {hh : Heap} : ∀ {tl : List Int} {ts us : List Value}, ItemsAre (mixKind prog w) (tl.map Sum.inl) ts → ItemsAre (mixKind prog w) (tl.map Sum.inl) us → EqAll prog w hh A ts us true
  | [], _, _, h, h' => by cases h; cases h'; exact .nil
  | i :: tl, _, _, h, h' => by
    cases h with
    | @cons _ v _ vs h1 t =>
      cases h' with
      | @cons _ v' _ vs' h1' t' => exact EqAll.cons (b := true) (fun E s Q _ q => (mixKind prog w).eqBool h1 h1' (by rw [decide_eq_true rfl]; exact q)) (eq_ints t t')
theorem IsNest.inj {tl : List Int} {h : Heap} {a : Addr} {x y : NKey} (hx : IsNest prog w tl h x a) (hy : IsNest prog w tl h y a) : x = y := by
  obtain ⟨o, items, n, v, pa, ts, e1, _, e3, e4, e5, e6, _⟩ := hx
  obtain ⟨o', items', n', v', pa', ts', f1, _, f3, f4, f5, f6, _⟩ := hy
  obtain rfl : o = o' := Option.some.inj (e1.symm.trans f1)
  rw [e3] at f3
  injection f3 with g1 _
  subst g1
  rw [e4] at f4
  simp only [List.cons.injEq, Value.ref.injEq] at f4
  obtain ⟨rfl, rfl, rfl⟩ := f4
  exact Prod.ext ((mixKind prog w).inj _ _ _ e5 f5) (e6.inj f6)
def nestKind (prog : Program) (w : World) (tl : List Int) : HeapKind prog w NKey where
  is := IsNest prog w tl
  hash := nkHash prog w tl
  draws := fun x => (1 + ((x.2.length + 1) + tl.length)) + 1
  room := fun A => A.units + 1 < cLine
  inj := fun hx hy => hx.inj hy
  keeps := fun {h h' k a d o es ep} x ho hd hs => by
    obtain ⟨o', items, n, v, pa, ts, e1, e2, e3, e4, e5, e6, e7⟩ := x
    have hne : a ≠ d := by
      rintro rfl
      obtain rfl : o' = o := Option.some.inj (e1.symm.trans ho)
      rw [hd] at e3; exact nomatch e3
    exact ⟨o', items, n, v, pa, ts, (hs.2 a hne).trans e1, e2, e3, e4, e5, e6.keeps ho hd hs, e7⟩
  pyHash := fun {A E s k a Q} hu hk h => by
    obtain ⟨o, items, n, v, pa, ts, e1, e2, e3, e4, e5, e6, e7⟩ := hk
    have hu1 : A.in1.units < cLine := hu
    refine nk_hash (Nat.lt_of_succ_lt hu) e1 e2 e3 (m := 1 + ((k.2.length + 1) + tl.length)) (is := (mixKind prog w).hash k.1 :: tupleKeyHash (mixKind prog w) k.2 :: tl.map fun i => (mixKind prog w).hash (Sum.inl i)) ?_ h
    rw [e4]
    refine .cons (d := 1) (fun E s' Q' _ q => (mixKind prog w).pyHash e5 q) (.cons (d := k.2.length + 1) (fun E s' Q' es q => ?_) (hash_ints e7))
    exact wpAny_pyHash_tuple hu1 (by rw [es]; exact e6) q
  eqBool := fun {A E s x y a b Q} hu hx hy h => by
    have same : a = b → x = y := fun e => by subst e; exact hx.inj hy
    obtain ⟨o, items, n, v, pa, ts, e1, e2, e3, e4, e5, e6, e7⟩ := hx
    obtain ⟨o', items', n', v', pa', ts', f1, f2, f3, f4, f5, f6, f7⟩ := hy
    have hu1 : A.in1.units < cLine := hu
    have er : (decide (x.1 = y.1) && (decide (x.2 = y.2) && true)) = decide (x = y) := by
      rw [Bool.and_true, Bool.eq_iff_iff, Bool.and_eq_true, decide_eq_true_eq, decide_eq_true_eq, decide_eq_true_eq, Prod.ext_iff]
    refine nk_eq (Nat.lt_of_succ_lt hu) e1 e2 e3 f1 f2 f3 (r := decide (x.1 = y.1) && (decide (x.2 = y.2) && true)) ?_ (fun e => by rw [er, same e]; simp) (by rw [er]; exact h)
    rw [e4, f4]
    refine .cons (fun E s' Q' _ q => (mixKind prog w).eqBool e5 f5 q) (.cons (fun E s' Q' es q => ?_) (eq_ints e7 f7))
    exact wpAny_eqBool_tuple hu1 (by rw [es]; exact e6) (by rw [es]; exact f6) q
  quiet := fun {A E s k a Q} hk h => by
    obtain ⟨o, items, n, v, pa, ts, e1, e2, e3, e4, e5, e6, e7⟩ := hk
    have hT : s.TypeIs (.ref a) "tuple" := ⟨o, e1, e2⟩
    unfold eqIsQuiet
    refine wpAny_bind (wpAny_specialOf hT PySem.F.slot_tuple_eq.lookup ?_)
    try dsimp only
    refine wpAny_bind (wpAny_isInstance hT isSubtype_tuple_tuple ?_)
    rw [if_neg (by decide)]
    try dsimp only
    refine wpAny_bind (wpAny_seqItems e1 e3 (wpAny_bind ?_))
    show wpAny _ _ (forIn items _ _) _ _ _
    rw [← Array.forIn_toList]
    refine wpAny_forIn_list _ (fun rest q s' => q.1 = none ∧ s' = s ∧ ∀ u ∈ rest, carriedByValue u = true ∨ u = .ref pa) _ ?_ ?_ _ _ ⟨rfl, rfl, fun u hu => ?_⟩
    · rintro u rest q s' ⟨hq, rfl, hall⟩
      have next : ∀ u' ∈ rest, carriedByValue u' = true ∨ u' = .ref pa := fun u' hu' => hall u' (List.mem_cons_of_mem _ hu')
      rcases hall u List.mem_cons_self with hv | rfl
      · rw [eqIsQuiet_byValue _ hv]
        refine wpAny_bind (wpAny_pure ?_)
        rw [if_neg (by decide)]
        exact wpAny_pure ⟨rfl, rfl, next⟩
      · refine wpAny_bind (nk_quiet e6 ?_)
        rw [if_neg (by decide)]
        exact wpAny_pure ⟨rfl, rfl, next⟩
    · rintro ⟨q1, q2⟩ s' ⟨hq, rfl, _⟩
      simp only at hq
      subst hq
      exact wpAny_pure h
    · rw [e4] at hu
      rcases List.mem_cons.mp hu with rfl | hu
      · exact .inl ((mixKind prog w).byValue _ _ e5)
      · rcases List.mem_cons.mp hu with rfl | hu
        · exact .inr rfl
        · exact .inl (e7.byValue u hu)
end
end L2
namespace L2
open PySem PySem.Spec PySem.W PyProof.Rows
section
variable {prog : Program} {w : World} {A : Around} {E : Value → Shared → Prop} {s : Shared}
theorem rawk_item {it d : Addr} {i ep : Nat} {es : Array DictEntry} {od : Obj} {Q : Option Value → Shared → Prop} (hit : s.heap.IsKeyIter it d i es.size ep) (hod : s.heap.get? d = some od) (hdd : od.data = .dict es ep) (hi : i < es.size)
    (hQ : ∀ h', h'.IsKeyIter it d (i + 1) es.size ep → Heap.SameBut it s.heap h' → Q (some es[i].key) { s with heap := h' }) : wpAny (model prog w) A (pyNext (.ref it)) Q E s := by
  have hT := hit.typeIs
  obtain ⟨o, ho, hc, hd⟩ := id hit
  have own : Builtin.Dict_items.ownsTuple "dict_keyiterator" = false := by decide
  have nn : ¬ ((Value.ref d == Value.none) = true) := Bool.false_ne_true
  have up : (s.heap.update it (Obj.mapFields (·.setIfInBounds 1 (rawInt ((i : Int) + 1))))).IsKeyIter it d (i + 1) es.size ep :=
    ⟨_, Heap.get?_update_self _ ho (Obj.isFreed_of_fields (Obj.data_mapFields hd _)), (Obj.cls_mapFields ..).trans hc, by rw [Obj.data_mapFields hd]; simp [rawInt]⟩
  have uT := up.typeIs (s := { s with heap := s.heap.update it (Obj.mapFields (·.setIfInBounds 1 (rawInt ((i : Int) + 1)))) })
  unfold pyNext
  refine wpAny_bind (wpAny_attempt (wpAny_callSpecial?_slot (name := Str.ofString "__next__") hT PySem.F.slot_dict_keyiterator_next (wpAny_call_entry PySem.F.slot_dict_keyiterator_next hT PySem.F.entry_dict_keyiterator_next ?_ (PySem.F.args_dict_keyiterator_next_1 _))))
  refine wpAny_bind (wpAny_pure (wpAny_bind (wpAny_bind ?_)))
  first | refine wpAny_bind (wpAny_typeNameOfWhole_keyiter hT (wpAny_pure ?_)) | refine wpAny_bind (wpAny_typeNameOf_keyiter hT (wpAny_pure ?_))
  refine wpAny_bind (wpAny_fieldsOf ho hd ?_)
  rw [own, if_neg Bool.false_ne_true]
  show wpAny _ _ (if (Value.ref d == Value.none) = true then _ else _) _ _ _
  rw [if_neg nn]
  refine wpAny_bind (wpAny_pure (wpAny_bind (wpAny_dictEntries hod hdd ?_)))
  rw [if_neg (by simp)]
  refine wpAny_bind (wpAny_pure (wpAny_bind (wpAny_dictEpoch hod hdd ?_)))
  rw [if_neg (by simp)]
  refine wpAny_pure ?_
  simp only [show ¬ ((i : Int) < 0) by omega, if_false, Int.toNat_natCast, Array.getElem?_eq_getElem hi]
  refine wpAny_bind ?_
  first | refine wpAny_bind (wpAny_typeNameOfWhole_keyiter hT (wpAny_pure ?_)) | refine wpAny_bind (wpAny_typeNameOf_keyiter hT (wpAny_pure ?_))
  refine wpAny_bind (wpAny_isOneOf_keyiter hT ?_)
  show wpAny _ _ (setField (.ref it) 1 (rawInt ((i : Int) + 1)) >>= _) _ _ _
  refine wpAny_bind (wpAny_setField ho hd (by simp) (wpAny_bind (wpAny_holding (wpAny_bind (wpAny_isOneOf_keyiter uT ?_)))))
  show wpAny _ _ (pure es[i].key) _ _ _
  exact wpAny_pure (wpAny_pure ⟨_, rfl, wpAny_pure (hQ _ up (Heap.SameBut.update ..))⟩)
theorem rawk_end {it d : Addr} {i ep : Nat} {es : Array DictEntry} {od : Obj} {Q : Option Value → Shared → Prop} (hh : A.handled = none) (hit : s.heap.IsKeyIter it d i es.size ep) (hod : s.heap.get? d = some od) (hdd : od.data = .dict es ep) (hi : es.size ≤ i)
    (hQ : ∀ h', Heap.ExtBut it s.heap h' → Q none { s with heap := h' }) : wpAny (model prog w) A (pyNext (.ref it)) Q E s := by
  have hT := hit.typeIs
  obtain ⟨o, ho, hc, hd⟩ := id hit
  have own : Builtin.Dict_items.ownsTuple "dict_keyiterator" = false := by decide
  have nn : ¬ ((Value.ref d == Value.none) = true) := Bool.false_ne_true
  unfold pyNext
  refine wpAny_bind (wpAny_attempt (wpAny_callSpecial?_slot (name := Str.ofString "__next__") hT PySem.F.slot_dict_keyiterator_next (wpAny_call_entry PySem.F.slot_dict_keyiterator_next hT PySem.F.entry_dict_keyiterator_next ?_ (PySem.F.args_dict_keyiterator_next_1 _))))
  refine wpAny_bind (wpAny_pure (wpAny_bind (wpAny_bind ?_)))
  first | refine wpAny_bind (wpAny_typeNameOfWhole_keyiter hT (wpAny_pure ?_)) | refine wpAny_bind (wpAny_typeNameOf_keyiter hT (wpAny_pure ?_))
  refine wpAny_bind (wpAny_fieldsOf ho hd ?_)
  rw [own, if_neg Bool.false_ne_true]
  show wpAny _ _ (if (Value.ref d == Value.none) = true then _ else _) _ _ _
  rw [if_neg nn]
  refine wpAny_bind (wpAny_pure (wpAny_bind (wpAny_dictEntries hod hdd ?_)))
  rw [if_neg (by simp)]
  refine wpAny_bind (wpAny_pure (wpAny_bind (wpAny_dictEpoch hod hdd ?_)))
  rw [if_neg (by simp)]
  refine wpAny_pure ?_
  simp only [show ¬ ((i : Int) < 0) by omega, if_false, Int.toNat_natCast, Array.getElem?_eq_none hi]
  refine wpAny_bind ?_
  first | refine wpAny_bind (wpAny_typeNameOfWhole_keyiter hT (wpAny_pure ?_)) | refine wpAny_bind (wpAny_typeNameOf_keyiter hT (wpAny_pure ?_))
  show wpAny _ _ (setField (.ref it) 0 .none >>= _) _ _ _
  refine wpAny_bind (wpAny_setField ho hd (by simp) ?_)
  show wpAny _ _ (newExc (.type "StopIteration") [] >>= _) _ _ _
  refine wpAny_bind ?_
  simp only [newExc, newTuple]
  refine wpAny_bind (wpAny_newObj_type (wpAny_bind (m := firstArgMember _ _) (wpAny_of_eq (a := Value.none) (by first | rfl | (simp only [firstArgMember]; rfl)) (wpAny_newObj_type ?_ (by size_fits)))) (by size_fits))
  simp only [raiseNew]
  refine wpAny_bind (wpAny_handled ?_)
  rw [show A.in1.handled = none from hh]
  refine wpAny_bind (wpAny_pure (wpAny_throw ?_))
  refine wpAny_bind (wpAny_isInstance (T := "StopIteration") (b := true) ⟨_, Heap.get?_push_size _ rfl, rfl⟩ isSubtype_stop ?_)
  exact wpAny_pure (hQ _ (((Heap.SameBut.update ..).extBut.push _).push _))
theorem rawk_walk (hh : A.handled = none) (I d : Addr) (hne : d ≠ I) (es : Array DictEntry) (ep : Nat) :
    Walks prog w A I [I, d] [I] es.size (fun i v => ∃ e, es[i]? = some e ∧ v = e.key) (fun i h => h.IsKeyIter I d i es.size ep ∧ ∃ od, h.get? d = some od ∧ od.data = .dict es ep) where
  sub := fun b hb => by simp at hb; simp [hb]
  frame := fun _ _ _ st hk => ⟨st.1.at fun o e => hk I (by simp) o e, let ⟨od, h1, h2⟩ := st.2; ⟨od, hk d (by simp) od h1, h2⟩⟩
  item := fun i s Q E hi st hQ => by
    obtain ⟨od, h1, h2⟩ := st.2
    refine rawk_item st.1 h1 h2 hi fun h' hit' hs' => ?_
    exact hQ _ h' s.toks ⟨es[i], by simp [hi], rfl⟩ ⟨hit', od, hs'.extBut d od hne h1, h2⟩ fun b o hb e => hs'.extBut b o (fun h => hb (by simp [h])) e
  done := fun s Q E st hQ => by
    obtain ⟨od, h1, h2⟩ := st.2
    exact rawk_end hh st.1 h1 h2 (Nat.le_refl _) fun h' he' => hQ h' s.toks fun b o hb e => he' b o (fun h => hb (by simp [h])) e
  self := fun _ _ _ _ st hQ => wpAny_pyIter_keyiter st.1 hQ
theorem rawv_item {it d : Addr} {i ep : Nat} {es : Array DictEntry} {od : Obj} {Q : Option Value → Shared → Prop} (hit : s.heap.IsValIter it d i es.size ep) (hod : s.heap.get? d = some od) (hdd : od.data = .dict es ep) (hi : i < es.size)
    (hQ : ∀ h', h'.IsValIter it d (i + 1) es.size ep → Heap.SameBut it s.heap h' → Q (some es[i].val) { s with heap := h' }) : wpAny (model prog w) A (pyNext (.ref it)) Q E s := by
  have hT := hit.typeIs
  obtain ⟨o, ho, hc, hd⟩ := id hit
  have own : Builtin.Dict_items.ownsTuple "dict_valueiterator" = false := by decide
  have nn : ¬ ((Value.ref d == Value.none) = true) := Bool.false_ne_true
  have up : (s.heap.update it (Obj.mapFields (·.setIfInBounds 1 (rawInt ((i : Int) + 1))))).IsValIter it d (i + 1) es.size ep :=
    ⟨_, Heap.get?_update_self _ ho (Obj.isFreed_of_fields (Obj.data_mapFields hd _)), (Obj.cls_mapFields ..).trans hc, by rw [Obj.data_mapFields hd]; simp [rawInt]⟩
  have uT := up.typeIs (s := { s with heap := s.heap.update it (Obj.mapFields (·.setIfInBounds 1 (rawInt ((i : Int) + 1)))) })
  unfold pyNext
  refine wpAny_bind (wpAny_attempt (wpAny_callSpecial?_slot (name := Str.ofString "__next__") hT PySem.F.slot_dict_valueiterator_next (wpAny_call_entry PySem.F.slot_dict_valueiterator_next hT PySem.F.entry_dict_valueiterator_next ?_ (PySem.F.args_dict_valueiterator_next_1 _))))
  refine wpAny_bind (wpAny_pure (wpAny_bind (wpAny_bind ?_)))
  first | refine wpAny_bind (wpAny_typeNameOfWhole_valiter hT (wpAny_pure ?_)) | refine wpAny_bind (wpAny_typeNameOf_valiter hT (wpAny_pure ?_))
  refine wpAny_bind (wpAny_fieldsOf ho hd ?_)
  rw [own, if_neg Bool.false_ne_true]
  show wpAny _ _ (if (Value.ref d == Value.none) = true then _ else _) _ _ _
  rw [if_neg nn]
  refine wpAny_bind (wpAny_pure (wpAny_bind (wpAny_dictEntries hod hdd ?_)))
  rw [if_neg (by simp)]
  refine wpAny_bind (wpAny_pure (wpAny_bind (wpAny_dictEpoch hod hdd ?_)))
  rw [if_neg (by simp)]
  refine wpAny_pure ?_
  simp only [show ¬ ((i : Int) < 0) by omega, if_false, Int.toNat_natCast, Array.getElem?_eq_getElem hi]
  refine wpAny_bind ?_
  first | refine wpAny_bind (wpAny_typeNameOfWhole_valiter hT (wpAny_pure ?_)) | refine wpAny_bind (wpAny_typeNameOf_valiter hT (wpAny_pure ?_))
  refine wpAny_bind (wpAny_isOneOf_valiter hT ?_)
  show wpAny _ _ (setField (.ref it) 1 (rawInt ((i : Int) + 1)) >>= _) _ _ _
  refine wpAny_bind (wpAny_setField ho hd (by simp) (wpAny_bind (wpAny_holding (wpAny_bind (wpAny_isOneOf_valiter uT (wpAny_bind (wpAny_isOneOf_valiter uT ?_)))))))
  show wpAny _ _ (pure es[i].val) _ _ _
  exact wpAny_pure (wpAny_pure ⟨_, rfl, wpAny_pure (hQ _ up (Heap.SameBut.update ..))⟩)
theorem rawv_end {it d : Addr} {i ep : Nat} {es : Array DictEntry} {od : Obj} {Q : Option Value → Shared → Prop} (hh : A.handled = none) (hit : s.heap.IsValIter it d i es.size ep) (hod : s.heap.get? d = some od) (hdd : od.data = .dict es ep) (hi : es.size ≤ i)
    (hQ : ∀ h', Heap.ExtBut it s.heap h' → Q none { s with heap := h' }) : wpAny (model prog w) A (pyNext (.ref it)) Q E s := by
  have hT := hit.typeIs
  obtain ⟨o, ho, hc, hd⟩ := id hit
  have own : Builtin.Dict_items.ownsTuple "dict_valueiterator" = false := by decide
  have nn : ¬ ((Value.ref d == Value.none) = true) := Bool.false_ne_true
  unfold pyNext
  refine wpAny_bind (wpAny_attempt (wpAny_callSpecial?_slot (name := Str.ofString "__next__") hT PySem.F.slot_dict_valueiterator_next (wpAny_call_entry PySem.F.slot_dict_valueiterator_next hT PySem.F.entry_dict_valueiterator_next ?_ (PySem.F.args_dict_valueiterator_next_1 _))))
  refine wpAny_bind (wpAny_pure (wpAny_bind (wpAny_bind ?_)))
  first | refine wpAny_bind (wpAny_typeNameOfWhole_valiter hT (wpAny_pure ?_)) | refine wpAny_bind (wpAny_typeNameOf_valiter hT (wpAny_pure ?_))
  refine wpAny_bind (wpAny_fieldsOf ho hd ?_)
  rw [own, if_neg Bool.false_ne_true]
  show wpAny _ _ (if (Value.ref d == Value.none) = true then _ else _) _ _ _
  rw [if_neg nn]
  refine wpAny_bind (wpAny_pure (wpAny_bind (wpAny_dictEntries hod hdd ?_)))
  rw [if_neg (by simp)]
  refine wpAny_bind (wpAny_pure (wpAny_bind (wpAny_dictEpoch hod hdd ?_)))
  rw [if_neg (by simp)]
  refine wpAny_pure ?_
  simp only [show ¬ ((i : Int) < 0) by omega, if_false, Int.toNat_natCast, Array.getElem?_eq_none hi]
  refine wpAny_bind ?_
  first | refine wpAny_bind (wpAny_typeNameOfWhole_valiter hT (wpAny_pure ?_)) | refine wpAny_bind (wpAny_typeNameOf_valiter hT (wpAny_pure ?_))
  show wpAny _ _ (setField (.ref it) 0 .none >>= _) _ _ _
  refine wpAny_bind (wpAny_setField ho hd (by simp) ?_)
  show wpAny _ _ (newExc (.type "StopIteration") [] >>= _) _ _ _
  refine wpAny_bind ?_
  simp only [newExc, newTuple]
  refine wpAny_bind (wpAny_newObj_type (wpAny_bind (m := firstArgMember _ _) (wpAny_of_eq (a := Value.none) (by first | rfl | (simp only [firstArgMember]; rfl)) (wpAny_newObj_type ?_ (by size_fits)))) (by size_fits))
  simp only [raiseNew]
  refine wpAny_bind (wpAny_handled ?_)
  rw [show A.in1.handled = none from hh]
  refine wpAny_bind (wpAny_pure (wpAny_throw ?_))
  refine wpAny_bind (wpAny_isInstance (T := "StopIteration") (b := true) ⟨_, Heap.get?_push_size _ rfl, rfl⟩ isSubtype_stop ?_)
  exact wpAny_pure (hQ _ (((Heap.SameBut.update ..).extBut.push _).push _))
theorem rawv_walk (hh : A.handled = none) (I d : Addr) (hne : d ≠ I) (es : Array DictEntry) (ep : Nat) :
    Walks prog w A I [I, d] [I] es.size (fun i v => ∃ e, es[i]? = some e ∧ v = e.val) (fun i h => h.IsValIter I d i es.size ep ∧ ∃ od, h.get? d = some od ∧ od.data = .dict es ep) where
  sub := fun b hb => by simp at hb; simp [hb]
  frame := fun _ _ _ st hk => ⟨st.1.at fun o e => hk I (by simp) o e, let ⟨od, h1, h2⟩ := st.2; ⟨od, hk d (by simp) od h1, h2⟩⟩
  item := fun i s Q E hi st hQ => by
    obtain ⟨od, h1, h2⟩ := st.2
    refine rawv_item st.1 h1 h2 hi fun h' hit' hs' => ?_
    exact hQ _ h' s.toks ⟨es[i], by simp [hi], rfl⟩ ⟨hit', od, hs'.extBut d od hne h1, h2⟩ fun b o hb e => hs'.extBut b o (fun h => hb (by simp [h])) e
  done := fun s Q E st hQ => by
    obtain ⟨od, h1, h2⟩ := st.2
    exact rawv_end hh st.1 h1 h2 (Nat.le_refl _) fun h' he' => hQ h' s.toks fun b o hb e => he' b o (fun h => hb (by simp [h])) e
  self := fun _ _ _ _ st hQ => wpAny_pyIter_valiter st.1 hQ
def RawD (h : Heap) (a : Addr) (es : Array DictEntry) (ep : Nat) : Prop := ∃ o, h.get? a = some o ∧ o.ExactDict ∧ o.data = .dict es ep
theorem RawD.typeIs {d : Addr} {es : Array DictEntry} {ep : Nat} (h : RawD s.heap d es ep) : s.TypeIs (.ref d) "dict" := let ⟨o, ho, hc, _⟩ := h; ⟨o, ho, hc.1⟩
theorem RawD.at {h h' : Heap} {d : Addr} {es : Array DictEntry} {ep : Nat} (x : RawD h d es ep) (e : ∀ o, h.get? d = some o → h'.get? d = some o) : RawD h' d es ep := let ⟨o, ho, r⟩ := x; ⟨o, e o ho, r⟩
theorem RawD.lt {h : Heap} {d : Addr} {es : Array DictEntry} {ep : Nat} (x : RawD h d es ep) : d < h.objs.size := let ⟨_, ho, _⟩ := x; Heap.lt_size ho
theorem raw_iter {d : Addr} {es : Array DictEntry} {ep : Nat} {Q : Value → Shared → Prop} (hd : (d == sysModules) = false) (hm : RawD s.heap d es ep)
    (hQ : Q (.ref s.heap.objs.size) { s with heap := s.heap.push { cls := .type "dict_keyiterator", data := .fields #[.ref d, .int 0 0, .int es.size 0, .int ep 0] } }) : wpAny (model prog w) A (pyIter (.ref d)) Q E s := by
  have hT := hm.typeIs
  obtain ⟨o, ho, hc, hdat⟩ := hm
  refine wpAny_pyIter_slot hT PySem.F.slot_dict_iter (wpAny_call_entry PySem.F.slot_dict_iter hT PySem.F.entry_dict_iter ?_ (PySem.F.args_dict_iter_1 _))
  unfold Builtin.«dict.__iter__»
  refine wpAny_bind ?_
  unfold Builtin.Dict.dictSlotNone
  refine wpAny_bind (wpAny_notOrdered_dict hT (wpAny_pure ?_))
  show wpAny _ _ (Builtin.Dict.showsAll d >>= _) _ _ _
  unfold Builtin.Dict.showsAll
  rw [if_neg (by rw [hd]; exact Bool.false_ne_true)]
  refine wpAny_bind (wpAny_pure (wpAny_bind (wpAny_dictEntries ho hdat (wpAny_bind (wpAny_dictEpoch ho hdat ?_)))))
  refine wpAny_bind (wpAny_newObj_type (wpAny_pure ⟨_, rfl, "dict_keyiterator", _, ⟨_, Heap.get?_push_size _ rfl, rfl⟩, PySem.F.slot_dict_keyiterator_next.lookup, ?_⟩))
  simpa [rawInt] using hQ
theorem raw_values {v d : Addr} {es : Array DictEntry} {ep : Nat} {Q : Value → Shared → Prop} (hv : s.heap.IsValuesView v d) (hm : RawD s.heap d es ep)
    (hQ : Q (.ref s.heap.objs.size) { s with heap := s.heap.push { cls := .type "dict_valueiterator", data := .fields #[.ref d, .int 0 0, .int es.size 0, .int ep 0] } }) : wpAny (model prog w) A (pyIter (.ref v)) Q E s := by
  have hT := hv.typeIs
  obtain ⟨ov, hov, hcv, hdv⟩ := id hv
  obtain ⟨o, ho, hc, hdat⟩ := hm
  refine wpAny_pyIter_slot hT PySem.F.slot_dict_values_iter (wpAny_call_entry PySem.F.slot_dict_values_iter hT PySem.F.entry_dict_values_iter ?_ (PySem.F.args_dict_values_iter_1 _))
  unfold Builtin.«dict_values.__iter__»
  refine wpAny_bind (wpAny_pure (wpAny_bind ?_))
  unfold Builtin.Dict_items.dictOf
  refine wpAny_bind (wpAny_field hov hdv (x := .ref d) rfl (wpAny_pure (wpAny_bind ?_)))
  unfold Builtin.Dict_items.newIterator
  refine wpAny_bind (wpAny_dictEntries ho hdat (wpAny_bind (wpAny_dictEpoch ho hdat ?_)))
  simp only [show Builtin.Dict_items.ownsTuple "dict_valueiterator" = false by decide, Bool.false_eq_true, if_false]
  refine wpAny_newObj_type (wpAny_pure ⟨_, rfl, "dict_valueiterator", _, ⟨_, Heap.get?_push_size _ rfl, rfl⟩, PySem.F.slot_dict_valueiterator_next.lookup, ?_⟩)
  simpa [rawInt] using hQ
theorem src_keys {d : Addr} {es : Array DictEntry} {ep : Nat} (lo : (d == sysModules) = false) : KdlSrc prog w "dict" d d es.size (fun i v => ∃ e, es[i]? = some e ∧ v = e.key) (fun h => RawD h d es ep) where
  type := fun _ hm => hm.typeIs
  there := fun _ hm => ⟨hm.lt, hm.lt⟩
  keep := fun _ _ hm hk => hm.at fun o e => hk d (.inl rfl) o e
  notList := by decide
  notTuple := by decide
  hint := fun _ _ _ _ hm hq => kdl_hint_dict hm.typeIs hq
  iter := fun _ _ hh hm => ⟨_, _, (fun _ _ hq => raw_iter lo hm hq), rawk_walk hh _ d (Nat.ne_of_lt hm.lt) es ep, ⟨⟨_, Heap.get?_push_size _ rfl, rfl, rfl⟩, let ⟨o, ho, _, hd⟩ := hm; ⟨o, Heap.get?_push_of_some _ ho, hd⟩⟩⟩
theorem src_values {d r : Addr} {es : Array DictEntry} {ep : Nat} : KdlSrc prog w "dict_values" r d es.size (fun i v => ∃ e, es[i]? = some e ∧ v = e.val) (fun h => h.IsValuesView r d ∧ RawD h d es ep) where
  type := fun _ hm => hm.1.typeIs
  there := fun _ hm => ⟨let ⟨_, ho, _⟩ := hm.1; Heap.lt_size ho, hm.2.lt⟩
  keep := fun _ _ hm hk => ⟨let ⟨o, ho, x⟩ := hm.1; ⟨o, hk r (.inl rfl) o ho, x⟩, hm.2.at fun o e => hk d (.inr rfl) o e⟩
  notList := by decide
  notTuple := by decide
  hint := fun _ _ _ _ hm hq => kdl_hint_values hm.1.typeIs hq
  iter := fun _ _ hh hm => ⟨_, _, (fun _ _ hq => raw_values hm.1 hm.2 hq), rawv_walk hh _ d (Nat.ne_of_lt hm.2.lt) es ep, ⟨⟨_, Heap.get?_push_size _ rfl, rfl, rfl⟩, let ⟨o, ho, _, hd⟩ := hm.2; ⟨o, Heap.get?_push_of_some _ ho, hd⟩⟩⟩
end
end L2
namespace PySem
namespace Rv
open PyProof.Rows L2 PySem.Spec
section
variable {prog : Program} {w : World} {A : Around} {E : Value → Shared → Prop} {s : Shared}
end
end Rv
end PySem
namespace PySem
namespace Rv
open PyProof.Rows L2 PySem.Spec
section
variable {prog : Program} {w : World} {A : Around} {E : Value → Shared → Prop} {s : Shared}
end
end Rv
end PySem
namespace PySem
namespace Rv
open PyProof.Rows L2 PySem.Spec
section
variable {prog : Program} {w : World} {A : Around} {E : Value → Shared → Prop} {s : Shared}
end
end Rv
end PySem
namespace L2
open PySem PySem.Spec PyProof.Rows
section
variable {X : Cx} {a : Expr} {ta : TA} {p p2 pos pos2 : Pos}
end
end L2
namespace PySem
namespace Zt
open PyProof.Rows L2 PySem.Spec
section
variable {prog : Program} {w : World} {A : Around} {E : Value → Shared → Prop} {s : Shared}
structure Side (prog : Program) (w : World) (i l : Addr) (xs : Array Value) (St : Nat → Heap → Prop) : Prop where
  keep : ∀ k h h', St k h → (∀ c, c = i ∨ c = l → ∀ o, h.get? c = some o → h'.get? c = some o) → St k h'
  there : ∀ k h, St k h → i < h.objs.size
  item : ∀ (A : Around) (E : Value → Shared → Prop) (s : Shared) (k : Nat) (x : Value) (Q : Value → Shared → Prop), St k s.heap → xs[k]? = some x → (∀ h', St (k + 1) h' → Heap.SameBut i s.heap h' → Q x { s with heap := h' }) →
    wpAny (model prog w) A (Builtin.SmallTypes.nextOf (.ref i)) Q E s
  stop : ∀ (A : Around) (E : Value → Shared → Prop) (s : Shared) (k : Nat) (Q : Value → Shared → Prop), A.handled = none → St k s.heap → xs[k]? = none →
    (∀ h' e, Heap.ExtBut i s.heap h' → (∃ o, h'.get? e = some o ∧ o.cls = .type "StopIteration") → E (.ref e) { s with heap := h' }) → wpAny (model prog w) A (Builtin.SmallTypes.nextOf (.ref i)) Q E s
theorem side_list (i l : Addr) (hne : l ≠ i) (xs : Array Value) : Side prog w i l xs (fun k h => h.IsListIter i l k ∧ h.IsList l xs) where
  keep := fun k h h' x hk => ⟨x.1.at fun o e => hk i (.inl rfl) o e, x.2.at fun o e => hk l (.inr rfl) o e⟩
  there := fun k h x => by obtain ⟨_, e, _⟩ := x.1; exact Heap.lt_size e
  item := fun A E s k x Q st hx hQ => wpAny_nextOf_list_item st.1 st.2 hx fun h' a b => hQ h' ⟨a, st.2.at fun o e => (b.2 l hne).trans e⟩ b
  stop := fun A E s k Q hh st hx hE => wpAny_nextOf_list_end hh st.1 st.2 hx fun h' e a b => hE h' e a b
structure Apart (z TI TO i1 i2 l1 l2 : Addr) : Prop where
  nd : [z, TI, TO, i1, i2].Nodup
  a : l1 ≠ z ∧ l1 ≠ TI ∧ l1 ≠ TO ∧ l1 ≠ i1 ∧ l1 ≠ i2
  b : l2 ≠ z ∧ l2 ≠ TI ∧ l2 ≠ TO ∧ l2 ≠ i1 ∧ l2 ≠ i2
variable {z TI TO i1 i2 l1 l2 : Addr} {xs ys : Array Value} {S1 S2 : Nat → Heap → Prop}
theorem item {k : Nat} {x y a b : Value} {Q : Value → Shared → Prop} (D : Apart z TI TO i1 i2 l1 l2) (W1 : Side prog w i1 l1 xs S1) (W2 : Side prog w i2 l2 ys S2) (hz : IsZip s.heap z TI TO .none) (hI : IsPair s.heap TI (.ref i1) (.ref i2)) (hO : IsPair s.heap TO a b)
    (h1 : S1 k s.heap) (h2 : S2 k s.heap) (hx : xs[k]? = some x) (hy : ys[k]? = some y)
    (hQ : ∀ h', IsZip h' z TI TO (rawInt s.heap.objs.size) → IsPair h' TO x y → S1 (k + 1) h' → S2 (k + 1) h' → IsPair h' s.heap.objs.size x y → (∀ c o, c ≠ z → c ≠ TO → c ≠ i1 → c ≠ i2 → s.heap.get? c = some o → h'.get? c = some o) → Q (.ref s.heap.objs.size) { s with heap := h' }) :
    wpAny (model prog w) A (Builtin.«zip.__next__» ⟨[.ref z], []⟩) (fun fin s' => ∃ v, fin = .done (.ret v) ∧ Q v s') E s := by
  have nd := D.nd
  simp only [List.nodup_cons, List.mem_cons, List.not_mem_nil, or_false, not_or, not_false_eq_true, List.nodup_nil, and_true] at nd
  obtain ⟨⟨zI, zO, z1, z2⟩, ⟨IO, I1, I2⟩, ⟨O1, O2⟩, n12⟩ := nd
  obtain ⟨az, aI, aO, a1, a2⟩ := D.a
  obtain ⟨bz, bI, bO, b1, b2⟩ := D.b
  show wpAny _ _ (field (.ref z) 2 >>= fun q => _) _ _ _
  refine wpAny_bind (wpAny_field hz rfl (x := .bool false) rfl ?_)
  show wpAny _ _ (field (.ref z) 3 >>= fun q => _) _ _ _
  refine wpAny_bind (wpAny_field hz rfl (x := .ref TI) rfl (wpAny_bind (wpAny_seqItems hI rfl ?_)))
  show wpAny _ _ (Builtin.SmallTypes.ownedTupleIsFree (.ref z) >>= fun q => _) _ _ _
  refine wpAny_bind ?_
  unfold Builtin.SmallTypes.ownedTupleIsFree
  refine wpAny_bind (wpAny_field hz rfl (x := .none) rfl (wpAny_pure ?_))
  simp only [if_true]
  refine wpAny_bind (wpAny_rule (wpAny_bind (wpAny_field hz rfl (x := .ref TO) rfl (wpAny_bind (wpAny_setField_rec hz (by simp) fun g1 q1 s1 => wpAny_bind ?_)))))
  simp only [List.zipIdx_cons, List.zipIdx_nil, List.forIn_cons, List.forIn_nil]
  have k1 : ∀ c, c = i1 ∨ c = l1 → c ≠ z ∧ c ≠ TO ∧ c ≠ i2 := fun c hc => by
    rcases hc with rfl | rfl
    · exact ⟨Ne.symm z1, Ne.symm O1, n12⟩
    · exact ⟨az, aO, a2⟩
  have k2 : ∀ c, c = i2 ∨ c = l2 → c ≠ z ∧ c ≠ TO ∧ c ≠ i1 := fun c hc => by
    rcases hc with rfl | rfl
    · exact ⟨Ne.symm z2, Ne.symm O2, Ne.symm n12⟩
    · exact ⟨bz, bO, b1⟩
  refine wpAny_bind (wpAny_bind (wpAny_onRaise ?_))
  show wpAny _ _ (Builtin.SmallTypes.nextOf (.ref i1) >>= fun q => _) _ _ _
  refine wpAny_bind (W1.item _ _ { s with heap := g1 } k x _ (W1.keep k _ _ h1 fun c hc o e => s1.extBut c o (k1 c hc).1 e) hx fun g2 t2 s2 => wpAny_pure ?_)
  have o2 : IsPair g2 TO a b := s2.extBut _ _ O1 (s1.extBut _ _ (Ne.symm zO) hO)
  refine wpAny_bind (wpAny_seqItems o2 rfl (wpAny_bind (wpAny_updateSeq_pair o2 fun g3 o3 s3 => wpAny_bind (wpAny_letGo (wpAny_pure ?_)))))
  replace o3 : IsPair g3 TO x b := o3
  refine wpAny_bind (wpAny_bind (wpAny_onRaise ?_))
  show wpAny _ _ (Builtin.SmallTypes.nextOf (.ref i2) >>= fun q => _) _ _ _
  refine wpAny_bind (W2.item _ _ { s with heap := g3 } k y _ (W2.keep k _ _ h2 fun c hc o e => s3.extBut c o (k2 c hc).2.1 (s2.extBut c o (k2 c hc).2.2 (s1.extBut c o (k2 c hc).1 e))) hy fun g4 t4 s4 => wpAny_pure ?_)
  have o4 : IsPair g4 TO x b := s4.extBut _ _ O2 o3
  refine wpAny_bind (wpAny_seqItems o4 rfl (wpAny_bind (wpAny_updateSeq_pair o4 fun g5 o5 s5 => wpAny_bind (wpAny_letGo (wpAny_pure (wpAny_pure ?_))))))
  replace o5 : IsPair g5 TO x y := o5
  refine wpAny_bind (wpAny_seqItems o5 rfl (wpAny_bind (wpAny_newTuple ?_)))
  have size5 : g5.objs.size = s.heap.objs.size := by rw [s5.1, s4.1, s3.1, s2.1, s1.1]
  have z5 : IsZip g5 z TI TO .ellipsis := s5.extBut _ _ zO (s4.extBut _ _ z2 (s3.extBut _ _ zO (s2.extBut _ _ z1 q1)))
  have lz : z < g5.objs.size := Heap.lt_size z5
  refine wpAny_bind (m := Builtin.SmallTypes.ownedTupleHandOut _ _) ?_
  unfold Builtin.SmallTypes.ownedTupleHandOut
  have z6 : IsZip (g5.push { cls := .type "tuple", data := .seq #[x, y] }) z TI TO .ellipsis := Heap.get?_push_of_some _ z5
  refine wpAny_bind (wpAny_setField_rec z6 (by simp) fun g7 z7 s7 => wpAny_setField_rec z7 (by simp) fun g8 z8 s8 => wpAny_pure ⟨_, rfl, ?_⟩)
  have up : ∀ c o, c ≠ z → g5.get? c = some o → g8.get? c = some o := fun c o hc e => s8.extBut _ _ hc (s7.extBut _ _ hc (Heap.get?_push_of_some _ e))
  have t8 : IsPair g8 g5.objs.size x y := s8.extBut _ _ (Nat.ne_of_gt lz) (s7.extBut _ _ (Nat.ne_of_gt lz) (Heap.get?_push_size _ rfl))
  have r1 : S1 (k + 1) g8 := W1.keep _ _ _ t2 fun c hc o e => up c o (k1 c hc).1 (s5.extBut _ _ (k1 c hc).2.1 (s4.extBut _ _ (k1 c hc).2.2 (s3.extBut _ _ (k1 c hc).2.1 e)))
  have r2 : S2 (k + 1) g8 := W2.keep _ _ _ t4 fun c hc o e => up c o (k2 c hc).1 (s5.extBut _ _ (k2 c hc).2.1 e)
  show Q (.ref g5.objs.size) _
  replace z8 : IsZip g8 z TI TO (rawInt g5.objs.size) := z8
  rw [size5] at z8 t8 ⊢
  exact hQ g8 z8 (up _ _ (Ne.symm zO) o5) r1 r2 t8 fun c o c1 c2 c3 c4 e => up c o c1 (s5.extBut _ _ c2 (s4.extBut _ _ c4 (s3.extBut _ _ c2 (s2.extBut _ _ c3 (s1.extBut _ _ c1 e)))))
theorem stop {k : Nat} {a b : Value} {Q : Fin → Shared → Prop} (hh : A.handled = none) (D : Apart z TI TO i1 i2 l1 l2) (W1 : Side prog w i1 l1 xs S1) (W2 : Side prog w i2 l2 ys S2) (hz : IsZip s.heap z TI TO .none) (hI : IsPair s.heap TI (.ref i1) (.ref i2)) (hO : IsPair s.heap TO a b)
    (h1 : S1 k s.heap) (h2 : S2 k s.heap) (hend : xs[k]? = none ∨ ys[k]? = none)
    (hE : ∀ h' e, (∀ c o, c ≠ z → c ≠ TO → c ≠ i1 → c ≠ i2 → s.heap.get? c = some o → h'.get? c = some o) → (∃ o, h'.get? e = some o ∧ o.cls = .type "StopIteration") → E (.ref e) { s with heap := h' }) :
    wpAny (model prog w) A (Builtin.«zip.__next__» ⟨[.ref z], []⟩) Q E s := by
  have nd := D.nd
  simp only [List.nodup_cons, List.mem_cons, List.not_mem_nil, or_false, not_or, not_false_eq_true, List.nodup_nil, and_true] at nd
  obtain ⟨⟨zI, zO, z1, z2⟩, ⟨IO, I1, I2⟩, ⟨O1, O2⟩, n12⟩ := nd
  obtain ⟨az, aI, aO, a1, a2⟩ := D.a
  obtain ⟨bz, bI, bO, b1, b2⟩ := D.b
  have k1 : ∀ c, c = i1 ∨ c = l1 → c ≠ z := fun c hc => by rcases hc with rfl | rfl; exact Ne.symm z1; exact az
  have k2 : ∀ c, c = i2 ∨ c = l2 → c ≠ z ∧ c ≠ TO ∧ c ≠ i1 := fun c hc => by
    rcases hc with rfl | rfl
    · exact ⟨Ne.symm z2, Ne.symm O2, Ne.symm n12⟩
    · exact ⟨bz, bO, b1⟩
  show wpAny _ _ (field (.ref z) 2 >>= fun q => _) _ _ _
  refine wpAny_bind (wpAny_field hz rfl (x := .bool false) rfl ?_)
  show wpAny _ _ (field (.ref z) 3 >>= fun q => _) _ _ _
  refine wpAny_bind (wpAny_field hz rfl (x := .ref TI) rfl (wpAny_bind (wpAny_seqItems hI rfl ?_)))
  show wpAny _ _ (Builtin.SmallTypes.ownedTupleIsFree (.ref z) >>= fun q => _) _ _ _
  refine wpAny_bind ?_
  unfold Builtin.SmallTypes.ownedTupleIsFree
  refine wpAny_bind (wpAny_field hz rfl (x := .none) rfl (wpAny_pure ?_))
  simp only [if_true]
  refine wpAny_bind (wpAny_rule (wpAny_bind (wpAny_field hz rfl (x := .ref TO) rfl (wpAny_bind (wpAny_setField_rec hz (by simp) fun g1 q1 s1 => wpAny_bind ?_)))))
  simp only [List.zipIdx_cons, List.zipIdx_nil, List.forIn_cons, List.forIn_nil]
  refine wpAny_bind (wpAny_bind (wpAny_onRaise ?_))
  show wpAny _ _ (Builtin.SmallTypes.nextOf (.ref i1) >>= fun q => _) _ _ _
  cases hx : xs[k]? with
  | none =>
    refine wpAny_bind (W1.stop _ _ { s with heap := g1 } k _ hh (W1.keep k _ _ h1 fun c hc o e => s1.extBut c o (k1 c hc) e) hx fun g2 e s2 he => ?_)
    obtain ⟨oe, ge, ce⟩ := he
    have q2 : IsZip g2 z TI TO .ellipsis := s2 _ _ z1 q1
    have ez : e ≠ z := fun u => by subst u; rw [q2] at ge; cases ge; simp at ce
    exact wpAny_setField_rec q2 (by simp) fun g3 _ s3 => hE g3 e (fun c o c1 _ c3 _ u => s3.extBut _ _ c1 (s2 _ _ c3 (s1.extBut _ _ c1 u))) ⟨oe, s3.extBut _ _ ez ge, ce⟩
  | some x =>
    have hy : ys[k]? = none := by rcases hend with h | h; rw [hx] at h; cases h; exact h
    refine wpAny_bind (W1.item _ _ { s with heap := g1 } k x _ (W1.keep k _ _ h1 fun c hc o e => s1.extBut c o (k1 c hc) e) hx fun g2 t2 s2 => wpAny_pure ?_)
    have o2 : IsPair g2 TO a b := s2.extBut _ _ O1 (s1.extBut _ _ (Ne.symm zO) hO)
    refine wpAny_bind (wpAny_seqItems o2 rfl (wpAny_bind (wpAny_updateSeq_pair o2 fun g3 o3 s3 => wpAny_bind (wpAny_letGo (wpAny_pure ?_)))))
    refine wpAny_bind (wpAny_bind (wpAny_onRaise ?_))
    show wpAny _ _ (Builtin.SmallTypes.nextOf (.ref i2) >>= fun q => _) _ _ _
    refine wpAny_bind (W2.stop _ _ { s with heap := g3 } k _ hh (W2.keep k _ _ h2 fun c hc o e => s3.extBut c o (k2 c hc).2.1 (s2.extBut c o (k2 c hc).2.2 (s1.extBut c o (k2 c hc).1 e))) hy fun g4 e s4 he => ?_)
    obtain ⟨oe, ge, ce⟩ := he
    have q4 : IsZip g4 z TI TO .ellipsis := s4 _ _ z2 (s3.extBut _ _ zO (s2.extBut _ _ z1 q1))
    have ez : e ≠ z := fun u => by subst u; rw [q4] at ge; cases ge; simp at ce
    exact wpAny_setField_rec q4 (by simp) fun g5 _ s5 => hE g5 e (fun c o c1 c2 c3 c4 u => s5.extBut _ _ c1 (s4 _ _ c4 (s3.extBut _ _ c2 (s2.extBut _ _ c3 (s1.extBut _ _ c1 u))))) ⟨oe, s5.extBut _ _ ez ge, ce⟩
end
end Zt
end PySem
namespace PySem
namespace Zt
open PyProof.Rows L2 PySem.Spec
section
variable {prog : Program} {w : World} {A : Around} {E : Value → Shared → Prop} {s : Shared} {z TI TO i1 i2 l1 l2 : Addr} {xs ys : Array Value} {S1 S2 : Nat → Heap → Prop}
theorem next_item {k : Nat} {x y a b : Value} {Q : Option Value → Shared → Prop} (D : Apart z TI TO i1 i2 l1 l2) (W1 : Side prog w i1 l1 xs S1) (W2 : Side prog w i2 l2 ys S2) (hz : IsZip s.heap z TI TO .none) (hI : IsPair s.heap TI (.ref i1) (.ref i2)) (hO : IsPair s.heap TO a b)
    (h1 : S1 k s.heap) (h2 : S2 k s.heap) (hx : xs[k]? = some x) (hy : ys[k]? = some y)
    (hQ : ∀ h', IsZip h' z TI TO (rawInt s.heap.objs.size) → IsPair h' TO x y → S1 (k + 1) h' → S2 (k + 1) h' → IsPair h' s.heap.objs.size x y → (∀ c o, c ≠ z → c ≠ TO → c ≠ i1 → c ≠ i2 → s.heap.get? c = some o → h'.get? c = some o) → Q (some (.ref s.heap.objs.size)) { s with heap := h' }) :
    wpAny (model prog w) A (pyNext (.ref z)) Q E s := by
  have ty : s.TypeIs (.ref z) "zip" := ⟨_, hz, rfl⟩
  unfold pyNext
  exact wpAny_bind (wpAny_attempt (wpAny_callSpecial?_slot (name := Str.ofString "__next__") ty F.slot_zip_next (wpAny_call_entry F.slot_zip_next ty F.entry_zip_next (item D W1 W2 hz hI hO h1 h2 hx hy fun h' c1 c2 c3 c4 c5 c6 => wpAny_pure (hQ h' c1 c2 c3 c4 c5 c6)) (F.args_zip_next_1 _))))
theorem next_stop {k : Nat} {a b : Value} {Q : Option Value → Shared → Prop} (hh : A.handled = none) (D : Apart z TI TO i1 i2 l1 l2) (W1 : Side prog w i1 l1 xs S1) (W2 : Side prog w i2 l2 ys S2) (hz : IsZip s.heap z TI TO .none) (hI : IsPair s.heap TI (.ref i1) (.ref i2)) (hO : IsPair s.heap TO a b)
    (h1 : S1 k s.heap) (h2 : S2 k s.heap) (hend : xs[k]? = none ∨ ys[k]? = none)
    (hQ : ∀ h', (∀ c o, c ≠ z → c ≠ TO → c ≠ i1 → c ≠ i2 → s.heap.get? c = some o → h'.get? c = some o) → Q none { s with heap := h' }) : wpAny (model prog w) A (pyNext (.ref z)) Q E s := by
  have ty : s.TypeIs (.ref z) "zip" := ⟨_, hz, rfl⟩
  unfold pyNext
  refine wpAny_bind (wpAny_attempt (wpAny_callSpecial?_slot (name := Str.ofString "__next__") ty F.slot_zip_next (wpAny_call_entry F.slot_zip_next ty F.entry_zip_next (stop hh D W1 W2 hz hI hO h1 h2 hend fun h' e hk ⟨o, ho, hc⟩ => ?_) (F.args_zip_next_1 _))))
  exact wpAny_bind (wpAny_isInstance (T := "StopIteration") (b := true) ⟨o, ho, hc⟩ isSubtype_stop (wpAny_pure (hQ _ hk)))
end
end Zt
end PySem
namespace L2
open PySem PySem.Spec PyProof.Rows
theorem nd5 (n : Nat) : [n + 4, n + 2, n + 3, n, n + 1].Nodup := by
  simp only [List.nodup_cons, List.mem_cons, List.not_mem_nil, or_false, not_or, not_false_eq_true, List.nodup_nil, and_true]
  omega
section
variable {X : Cx}
end
end L2
namespace L2
open PySem PySem.Spec PyProof.Rows
section
variable {X : Cx}
end
end L2
namespace L2
open PySem PySem.Spec PyProof.Rows
section
variable {X : Cx}
theorem ints_get {ns : List Int} {its : List Value} (r : Vals (ns.map V.int) its) {i : Nat} {v : Value} (h : its[i]? = some v) : ∃ t, v = .int (ns.getD i 0) t := by
  have hl := r.length
  rw [List.length_map] at hl
  have hi : i < ns.length := by have := (List.getElem?_eq_some_iff.mp h).1; omega
  obtain ⟨u, hu, ru⟩ := r.get (i := i) (x := .int ns[i]) (by rw [List.getElem?_map, List.getElem?_eq_getElem hi]; rfl)
  rw [h] at hu; cases hu
  obtain ⟨t, e⟩ := ru
  exact ⟨t, by rw [e]; congr 1; simp [List.getD, List.getElem?_eq_getElem hi]⟩
theorem call_maxB (hc : X.calm = true) : CallR X (.builtin "max") (fun xs H Q => ∃ (p : Addr) (ns : List Int), xs = [.ref p] ∧ SqL X.K H p (ns.map V.int) ∧ 0 < ns.length ∧ ∀ m, m ∈ ns → (∀ a ∈ ns, a ≤ m) → Q (.int m) H) := by
  intro pins s σ H xs us Q I r h
  obtain ⟨p, ns, rfl, hq, hn, q⟩ := h
  obtain ⟨u, rfl, ru⟩ := vals1 r
  cases ru
  obtain ⟨its, rv, pl, hz⟩ := I.list hq
  have hlt : p < s.heap.objs.size := by obtain ⟨_, e, _⟩ := pl.isList; exact Heap.lt_size e
  have hl := rv.length
  rw [List.length_map] at hl
  have hA : X.A.in1.handled = none := I.ok.hd hc
  obtain ⟨b1, b2⟩ := argBest_gt (fun i => ns.getD i 0) (its.toArray.size - 1)
  refine call_max_walk (wpAny_pyIter_list pl.isList ⟨s.heap.objs.size, [s.heap.objs.size, p], [s.heap.objs.size], its.toArray.size, (fun i v => its.toArray[i]? = some v), _, (fun i j => decide (ns.getD i 0 > ns.getD j 0)), rfl, Walks.list (A := X.A.in1) hA s.heap.objs.size p (Nat.ne_of_lt hlt) its.toArray,
    ⟨⟨_, Heap.get?_push_size _ rfl, rfl, rfl⟩, pl.isList.push _⟩, ?_, by rw [List.size_toArray]; omega, fun i j vi vj s' Q' E' hi hj hQ' => ?_, fun v h' tk hv hk => ?_⟩)
  · intro b hb
    rw [Heap.size_push]
    simp only [List.mem_cons, List.mem_nil_iff, or_false] at hb
    rcases hb with rfl | rfl
    · exact Nat.lt_succ_self _
    · exact Nat.lt_succ_of_lt hlt
  · obtain ⟨t, rfl⟩ := ints_get rv (i := i) (v := vi) (by simpa using hi)
    obtain ⟨t', rfl⟩ := ints_get rv (i := j) (v := vj) (by simpa using hj)
    exact gt_int hQ'
  · dsimp only at hv
    rw [List.getElem?_toArray] at hv
    obtain ⟨t, rfl⟩ := ints_get rv hv
    rw [List.size_toArray] at b1 b2
    have hget : ∀ i, i < ns.length → ns.getD i 0 ∈ ns := fun i hi => by rw [List.getD, List.getElem?_eq_getElem hi]; exact List.getElem_mem hi
    refine ⟨.int _, H, I.kept (t' := tk) fun b o eb => hk b o (fun z => ?_) (Heap.get?_push_of_some _ eb), ⟨_, rfl⟩, q _ (hget _ ?_) fun a ha => ?_⟩
    · exact absurd (Heap.lt_size eb) (by rw [List.mem_singleton.mp z]; exact Nat.lt_irrefl _)
    · rw [List.size_toArray]; exact Nat.lt_of_le_of_lt b1 (by omega)
    · obtain ⟨j, hj, rfl⟩ := List.mem_iff_getElem.mp ha
      have := b2 j (by omega)
      rw [List.size_toArray]
      rw [show ns.getD j 0 = ns[j] by rw [List.getD, List.getElem?_eq_getElem hj]; rfl] at this
      exact this
end
end L2
namespace L2
open PySem PySem.Spec PyProof.Rows
abbrev NX (es : List (NKey × Addr × V)) (xs : List (NKey × Addr × Value)) : Prop := Paired (fun p q => p.1 = q.1 ∧ p.2.1 = q.2.1 ∧ RelV p.2.2 q.2.2) es xs
def DnObj (P : Program) (w : World) (tl : List Int) (a : Addr) (es : List (NKey × Addr × V)) (h : Heap) : Prop :=
  ∃ o ents ep xs, h.get? a = some o ∧ o.ExactDict ∧ o.data = .dict ents ep ∧ ents.toList = xs.map (entryOfKey (nestKind P w tl)) ∧ NX es xs ∧ (xs.map (·.1)).Nodup ∧ xs.length ≤ sizeLine ∧ (a == sysModules) = false
theorem DnObj.stay {P : Program} {w : World} {tl : List Int} {a : Addr} {es : List (NKey × Addr × V)} {h1 h2 : Heap} (x : DnObj P w tl a es h1) (k : ∀ o, h1.get? a = some o → h2.get? a = some o) : DnObj P w tl a es h2 := by
  obtain ⟨o, ents, ep, xs, e, r⟩ := x
  exact ⟨o, ents, ep, xs, k o e, r⟩
theorem DnObj.ok {P : Program} {w : World} {H : Hp} {tl : List Int} {a : Addr} {es : List (NKey × Addr × V)} {h : Heap} (x : DnObj P w tl a es h) : ObjOk P w H h a (.ext (DnObj P w tl a es)) :=
  ⟨x, let ⟨o, _, _, _, e, _⟩ := x; ⟨o, e⟩, fun h1 h2 y k => y.stay k⟩
def NAt (H : Hp) (tl : List Int) (x : NKey) (b : Addr) : Prop := ∃ pa, H b = some (.tup (kV x.1 :: .ref pa :: tl.map V.int)) ∧ H pa = some (.tup (x.2.map kV))
theorem ints_are {P : Program} {w : World} : ∀ {tl : List Int} {us : List Value}, Vals (tl.map V.int) us → ItemsAre (mixKind P w) (tl.map Sum.inl) us
  | [], _, h => by cases h; exact .nil
  | i :: tl, _, h => by
    cases h with
    | cons r t =>
      obtain ⟨tk, rfl⟩ := r
      exact .cons (kV_is (k := Sum.inl i) ⟨tk, rfl⟩) (ints_are t)
theorem NAt.is {P : Program} {w : World} {H : Hp} {h : Heap} {tl : List Int} {x : NKey} {b : Addr} (hok : HOk P w H h) (n : NAt H tl x b) : (nestKind P w tl).is h x b := by
  obtain ⟨pa, e1, e2⟩ := n
  obtain ⟨_, its, r, o, h1, h2, m, h3⟩ := (show ObjOk P w H h b (.tup (kV x.1 :: .ref pa :: tl.map V.int)) from hok b _ e1)
  cases r with
  | @cons _ v _ vs r1 t1 =>
    cases t1 with
    | @cons _ v2 _ vs2 r2 t2 =>
      cases (show v2 = Value.ref pa from r2)
      exact ⟨o, _, m, v, pa, vs2, h1, h2, h3, by simp, kV_is r1, key_of hok e2, ints_are t2⟩
end L2
namespace L3
open PySem PySem.Spec PyProof.Rows L2
abbrev SV := L2.St
inductive W where
  | non | bl (b : Bool) | int (i : Int) | str (x : Str) | ty (n : String) | tup (ws : List W) | rl (ws : List W) | sc (ws : List W) | ref (a : Addr)
  | dk (kvs : List (Key × W)) | dt (kvs : List (List Key × W))
inductive MO where
  | lst (ws : List W) | dK (kvs : List (Key × W)) | dT (kvs : List (List Key × W)) | fix (vs : List V) | exc (cls : Value) | ins (C dx : Addr) (fs : List (Str × W)) | dn (P : Program) (w : World) (tl : List Int) (kvs : List (NKey × W)) | vw (d : Addr)
abbrev Mm := Addr → Option MO
def put (M : Mm) (a : Addr) (o : MO) : Mm := fun b => if b = a then some o else M b
def del (M : Mm) (a : Addr) : Mm := fun b => if b = a then none else M b
theorem put_same {M : Mm} {a : Addr} {o : MO} : put M a o a = some o := by unfold put; rw [if_pos rfl]
theorem put_ne {M : Mm} {a b : Addr} {o : MO} (h : b ≠ a) : put M a o b = M b := by unfold put; rw [if_neg h]
theorem put_put {M : Mm} {a : Addr} {o u : MO} : put (put M a o) a u = put M a u := by
  funext b; unfold put; split <;> rfl
theorem del_put {M : Mm} {a : Addr} {o : MO} (h : M a = none) : del (put M a o) a = M := by
  funext b; unfold del put; split
  · rename_i e; rw [e, h]
  · rfl
theorem del_same {M : Mm} {a : Addr} : del M a a = none := by unfold del; rw [if_pos rfl]
theorem put_comm {M : Mm} {a b : Addr} {o u : MO} (h : a ≠ b) : put (put M a o) b u = put (put M b u) a o := by
  funext c
  unfold put
  by_cases h1 : c = b
  · by_cases h2 : c = a
    · exact absurd (h2.symm.trans h1) h
    · rw [if_pos h1, if_neg h2, if_pos h1]
  · by_cases h2 : c = a
    · rw [if_neg h1, if_pos h2, if_pos h2]
    · rw [if_neg h1, if_neg h2, if_neg h2, if_neg h1]
theorem put_self {M : Mm} {a : Addr} {o : MO} (h : M a = some o) : put M a o = M := by
  funext b; unfold put; split
  · rename_i e; rw [e, h]
  · rfl
def Sub (M M' : Mm) : Prop := ∀ a o, M a = some o → M' a = some o
theorem Sub.refl (M : Mm) : Sub M M := fun _ _ h => h
theorem Sub.trans {M M1 M2 : Mm} (a : Sub M M1) (b : Sub M1 M2) : Sub M M2 := fun c o h => b c o (a c o h)
theorem Sub.new {M : Mm} {a : Addr} {o : MO} (h : M a = none) : Sub M (put M a o) := fun b u e => by
  rw [put_ne (fun z => by rw [z, h] at e; cases e)]; exact e
theorem Sub.put {M M' : Mm} {a : Addr} {o : MO} (h : Sub M M') : Sub (put M a o) (put M' a o) := fun b u e => by
  unfold L3.put at e ⊢
  split at e
  · rename_i z; rw [if_pos z]; exact e
  · rename_i z; rw [if_neg z]; exact h b u e
theorem Sub.del {M : Mm} {a : Addr} : Sub (del M a) M := fun b u e => by
  unfold L3.del at e
  split at e
  · cases e
  · exact e
theorem Sub.non {M M' : Mm} (h : Sub M M') {a : Addr} (e : M' a = none) : M a = none := by
  cases q : M a with
  | none => rfl
  | some o => rw [h a o q] at e; cases e
def SqR (K : PySem.W.Frag) (H : Hp) (a : Addr) (xs : List V) : Prop :=
  (∃ o, H a = some (.frz o (.lst xs))) ∨
    ∃ (o : Obj) (its : Array Value) (n : Nat), K.lookup a = some o ∧ o.cls = .type "list" ∧ o.dict = none ∧ o.data = .seq its n ∧ its.size ≤ sizeLine ∧ Vals xs its.toList
theorem SqR.sq {K : PySem.W.Frag} {H : Hp} {a : Addr} {xs : List V} (h : SqR K H a xs) : SqL K H a xs := by
  rcases h with ⟨o, h⟩ | h
  · exact .inl (.inr ⟨o, h⟩)
  · exact .inr h
mutual
inductive AV (K : PySem.W.Frag) (H : Hp) (M : Mm) : V → W → Prop
  | non : AV K H M .non .non
  | bl (b : Bool) : AV K H M (.bl b) (.bl b)
  | int (i : Int) : AV K H M (.int i) (.int i)
  | str (x : Str) : AV K H M (.str x) (.str x)
  | ty (n : String) : AV K H M (.ty n) (.ty n)
  | tup {a : Addr} {xs : List V} {ws : List W} : H a = some (.tup xs) → AVs K H M xs ws → AV K H M (.ref a) (.tup ws)
  | sc {a : Addr} {xs : List V} {ws : List W} : SqR K H a xs → AVs K H M xs ws → AV K H M (.ref a) (.sc ws)
  | rl {a : Addr} {xs : List V} {ws : List W} : H a = some (.lst xs) → M a = none → AVs K H M xs ws → AV K H M (.ref a) (.rl ws)
  | ref (a : Addr) : AV K H M (.ref a) (.ref a)
  | dk {a : Addr} {ks : List (Key × V)} {kvs : List (Key × W)} : H a = some (.dK ks) → M a = none → ks.map Prod.fst = kvs.map Prod.fst → AVs K H M (ks.map Prod.snd) (kvs.map Prod.snd) → AV K H M (.ref a) (.dk kvs)
  | dt {a : Addr} {ks : List (List Key × V)} {kvs : List (List Key × W)} : H a = some (.dT ks) → M a = none → ks.map Prod.fst = kvs.map Prod.fst → AVs K H M (ks.map Prod.snd) (kvs.map Prod.snd) → AV K H M (.ref a) (.dt kvs)
inductive AVs (K : PySem.W.Frag) (H : Hp) (M : Mm) : List V → List W → Prop
  | nil : AVs K H M [] []
  | cons {v : V} {vs : List V} {w : W} {ws : List W} : AV K H M v w → AVs K H M vs ws → AVs K H M (v :: vs) (w :: ws)
end
abbrev PKV (K : PySem.W.Frag) (H : Hp) (M : Mm) (κ : Type) : List (κ × V) → List (κ × W) → Prop := Paired fun p q => p.1 = q.1 ∧ AV K H M p.2 q.2
theorem pkv_of {K : PySem.W.Frag} {H : Hp} {M : Mm} {κ : Type} : ∀ {ks : List (κ × V)} {kvs : List (κ × W)}, ks.map Prod.fst = kvs.map Prod.fst → AVs K H M (ks.map Prod.snd) (kvs.map Prod.snd) → PKV K H M κ ks kvs
  | [], [], _, _ => .nil
  | [], _ :: _, e, _ => by simp at e
  | _ :: _, [], e, _ => by simp at e
  | p :: ps, q :: qs, e, h => by
    rw [List.map_cons, List.map_cons] at e h
    rw [List.cons.injEq] at e
    cases h with
    | cons x r => exact .cons ⟨e.1, x⟩ (pkv_of e.2 r)
theorem PKV.keys {K : PySem.W.Frag} {H : Hp} {M : Mm} {κ : Type} {ks : List (κ × V)} {kvs : List (κ × W)} (h : PKV K H M κ ks kvs) : ks.map Prod.fst = kvs.map Prod.fst := by
  induction h with
  | nil => rfl
  | cons r _ ih => rw [List.map_cons, List.map_cons, ih, r.1]
theorem PKV.vals {K : PySem.W.Frag} {H : Hp} {M : Mm} {κ : Type} {ks : List (κ × V)} {kvs : List (κ × W)} (h : PKV K H M κ ks kvs) : AVs K H M (ks.map Prod.snd) (kvs.map Prod.snd) := by
  induction h with
  | nil => exact .nil
  | cons r _ ih => exact .cons r.2 ih
def AO (K : PySem.W.Frag) (H : Hp) (M : Mm) (a : Addr) : MO → Prop
  | .lst ws => ∃ vs, H a = some (.lst vs) ∧ AVs K H M vs ws
  | .dK kvs => ∃ ks, H a = some (.dK ks) ∧ PKV K H M Key ks kvs
  | .dT kvs => ∃ ks, H a = some (.dT ks) ∧ PKV K H M (List Key) ks kvs
  | .fix vs => H a = some (.lst vs)
  | .exc c => H a = some (.ext fun h => ∃ o, h.get? a = some o ∧ o.cls = c)
  | .ins C dx fs => ∃ gs, H a = some (.ins C dx gs) ∧ PKV K H M Str gs fs
  | .dn P w tl kvs => ∃ es, H a = some (.ext (DnObj P w tl a es)) ∧ Paired (fun (e : NKey × Addr × V) (p : NKey × W) => e.1 = p.1 ∧ NAt H tl e.1 e.2.1 ∧ AV K H M e.2.2 p.2) es kvs
  | .vw d => H a = some (.ext fun h => h.IsValuesView a d)
def AM (K : PySem.W.Frag) (H : Hp) (M : Mm) : Prop := ∀ a o, M a = some o → AO K H M a o
structure Kp (H : Hp) (M : Mm) (H' : Hp) (M' : Mm) : Prop where
  fr : ∀ a o, M a = none → H a = some o → H' a = some o ∧ M' a = none
  dom : ∀ a o, M a = some o → ∃ u, H' a = some u
structure Go (H : Hp) (M : Mm) (H' : Hp) (M' : Mm) : Prop where
  ht : ∀ b xs, H b = some (.tup xs) → H' b = some (.tup xs)
  hf : ∀ b o u, H b = some (.frz o u) → H' b = some (.frz o u)
  hl : ∀ b o, M b = none → H b = some o → H' b = some o ∧ M' b = none
section
variable {K : PySem.W.Frag} {H H' H1 H2 : Hp} {M M' M1 M2 : Mm} {a : Addr}
theorem AO.has {o : MO} (h : AO K H M a o) : ∃ u, H a = some u := by
  cases o with
  | lst ws => obtain ⟨vs, e, _⟩ := h; exact ⟨_, e⟩
  | dK kvs => obtain ⟨ks, e, _⟩ := h; exact ⟨_, e⟩
  | dT kvs => obtain ⟨ks, e, _⟩ := h; exact ⟨_, e⟩
  | fix vs => exact ⟨_, h⟩
  | exc c => exact ⟨_, h⟩
  | ins C dx fs => obtain ⟨gs, e, _⟩ := h; exact ⟨_, e⟩
  | dn P w tl kvs => obtain ⟨gs, e, _⟩ := h; exact ⟨_, e⟩
  | vw d => exact ⟨_, h⟩
theorem AM.nonM (am : AM K H M) (h : H a = none) : M a = none := by
  cases q : M a with
  | none => rfl
  | some o => obtain ⟨u, e⟩ := (am a o q).has; rw [h] at e; cases e
theorem AM.noTup (am : AM K H M) {xs : List V} (h : H a = some (.tup xs)) : M a = none := by
  cases q : M a with
  | none => rfl
  | some o =>
    have := am a o q
    cases o with
    | lst ws => obtain ⟨vs, e, _⟩ := this; rw [h] at e; cases e
    | dK kvs => obtain ⟨ks, e, _⟩ := this; rw [h] at e; cases e
    | dT kvs => obtain ⟨ks, e, _⟩ := this; rw [h] at e; cases e
    | fix vs => have e : H a = some (.lst vs) := this; rw [h] at e; cases e
    | exc c => have e : H a = some (.ext fun h => ∃ o, h.get? a = some o ∧ o.cls = c) := this; rw [h] at e; cases e
    | ins C dx fs => obtain ⟨gs, e, _⟩ := this; rw [h] at e; cases e
    | dn P w tl kvs => obtain ⟨gs, e, _⟩ := this; rw [h] at e; cases e
    | vw d => have e : H a = some (.ext fun h => h.IsValuesView a d) := this; rw [h] at e; cases e
theorem AM.noFrz (am : AM K H M) {ob : Obj} {u : HO} (h : H a = some (.frz ob u)) : M a = none := by
  cases q : M a with
  | none => rfl
  | some o =>
    have := am a o q
    cases o with
    | lst ws => obtain ⟨vs, e, _⟩ := this; rw [h] at e; cases e
    | dK kvs => obtain ⟨ks, e, _⟩ := this; rw [h] at e; cases e
    | dT kvs => obtain ⟨ks, e, _⟩ := this; rw [h] at e; cases e
    | fix vs => have e : H a = some (.lst vs) := this; rw [h] at e; cases e
    | exc c => have e : H a = some (.ext fun h => ∃ o, h.get? a = some o ∧ o.cls = c) := this; rw [h] at e; cases e
    | ins C dx fs => obtain ⟨gs, e, _⟩ := this; rw [h] at e; cases e
    | dn P w tl kvs => obtain ⟨gs, e, _⟩ := this; rw [h] at e; cases e
    | vw d => have e : H a = some (.ext fun h => h.IsValuesView a d) := this; rw [h] at e; cases e
theorem Kp.refl (am : AM K H M) : Kp H M H M := ⟨fun a o h e => ⟨e, h⟩, fun a o h => (am a o h).has⟩
theorem Kp.trans (x : Kp H M H1 M1) (y : Kp H1 M1 H2 M2) : Kp H M H2 M2 where
  fr := fun a o h e => by
    obtain ⟨e1, n1⟩ := x.fr a o h e
    exact y.fr a o n1 e1
  dom := fun a o h => by
    obtain ⟨u, e⟩ := x.dom a o h
    cases q : M1 a with
    | none => exact ⟨u, (y.fr a u q e).1⟩
    | some o1 => exact y.dom a o1 q
theorem Kp.sub (x : Kp H M H1 M1) (h : Sub M2 M1) : Kp H M H1 M2 where
  fr := fun a o n e => ⟨(x.fr a o n e).1, h.non (x.fr a o n e).2⟩
  dom := x.dom
theorem Kp.go (am : AM K H M) (k : Kp H M H' M') : Go H M H' M' := ⟨fun b xs e => (k.fr b _ (am.noTup e) e).1, fun b o u e => (k.fr b _ (am.noFrz e) e).1, k.fr⟩
theorem Go.sub (h : Sub M' M) : Go H M H M' := ⟨fun _ _ e => e, fun _ _ _ e => e, fun b o n e => ⟨e, h.non n⟩⟩
mutual
theorem AV.go (g : Go H M H' M') : ∀ {v : V} {w : W}, AV K H M v w → AV K H' M' v w
  | _, _, .non => .non
  | _, _, .bl b => .bl b
  | _, _, .int i => .int i
  | _, _, .str x => .str x
  | _, _, .ty n => .ty n
  | _, _, .tup e r => .tup (g.ht _ _ e) (AVs.go g r)
  | _, _, .sc e r => .sc (e.elim (fun ⟨o, q⟩ => .inl ⟨o, g.hf _ _ _ q⟩) .inr) (AVs.go g r)
  | _, _, .rl e n r => .rl (g.hl _ _ n e).1 (g.hl _ _ n e).2 (AVs.go g r)
  | _, _, .ref a => .ref a
  | _, _, .dk e n ke r => .dk (g.hl _ _ n e).1 (g.hl _ _ n e).2 ke (AVs.go g r)
  | _, _, .dt e n ke r => .dt (g.hl _ _ n e).1 (g.hl _ _ n e).2 ke (AVs.go g r)
theorem AVs.go (g : Go H M H' M') : ∀ {vs : List V} {ws : List W}, AVs K H M vs ws → AVs K H' M' vs ws
  | _, _, .nil => .nil
  | _, _, .cons x r => .cons (AV.go g x) (AVs.go g r)
end
theorem PKV.go {κ : Type} {ks : List (κ × V)} {kvs : List (κ × W)} (g : Go H M H' M') (h : PKV K H M κ ks kvs) : PKV K H' M' κ ks kvs := Paired.mapP h fun p q z => ⟨z.1, z.2.go g⟩
theorem AO.go {o : MO} (g : Go H M H' M') (e : H' a = H a) (h : AO K H M a o) : AO K H' M' a o := by
  cases o with
  | lst ws => obtain ⟨vs, e1, r⟩ := h; exact ⟨vs, by rw [e]; exact e1, r.go g⟩
  | dK kvs => obtain ⟨vs, e1, r⟩ := h; exact ⟨vs, by rw [e]; exact e1, r.go g⟩
  | dT kvs => obtain ⟨vs, e1, r⟩ := h; exact ⟨vs, by rw [e]; exact e1, r.go g⟩
  | fix vs => exact e.trans h
  | exc c => exact e.trans h
  | ins C dx fs => obtain ⟨gs, e1, r⟩ := h; exact ⟨gs, by rw [e]; exact e1, r.go g⟩
  | dn P w tl kvs => obtain ⟨gs, e1, r⟩ := h; exact ⟨gs, by rw [e]; exact e1, Paired.mapP r fun p q z => ⟨z.1, let ⟨pa, n1, n2⟩ := z.2.1; ⟨pa, g.ht _ _ n1, g.ht _ _ n2⟩, z.2.2.go g⟩⟩
  | vw d => exact e.trans h
theorem AM.sub (am : AM K H M') (h : Sub M M') : AM K H M := fun a o e => (am a o (h a o e)).go (Go.sub h) rfl
theorem AV.sub (h : Sub M' M) {v : V} {w : W} (x : AV K H M v w) : AV K H M' v w := x.go (Go.sub h)
theorem AVs.sub (h : Sub M' M) {v : List V} {w : List W} (x : AVs K H M v w) : AVs K H M' v w := x.go (Go.sub h)
theorem AV.kp (am : AM K H M) (k : Kp H M H' M') {v : V} {w : W} (h : AV K H M v w) : AV K H' M' v w := h.go (k.go am)
theorem AVs.kp (am : AM K H M) (k : Kp H M H' M') {vs : List V} {ws : List W} (h : AVs K H M vs ws) : AVs K H' M' vs ws := h.go (k.go am)
theorem AVs.length : ∀ {vs : List V} {ws : List W}, AVs K H M vs ws → vs.length = ws.length
  | _, _, .nil => rfl
  | _, _, .cons _ r => by simp [AVs.length r]
theorem AVs.append : ∀ {vs us : List V} {ws zs : List W}, AVs K H M vs ws → AVs K H M us zs → AVs K H M (vs ++ us) (ws ++ zs)
  | _, _, _, _, .nil, s => s
  | _, _, _, _, .cons x r, s => .cons x (AVs.append r s)
theorem AVs.getW : ∀ {vs : List V} {ws : List W} {i : Nat} {w : W}, AVs K H M vs ws → ws[i]? = some w → ∃ v, vs[i]? = some v ∧ AV K H M v w
  | _, _, _, _, .nil, e => by simp at e
  | _, _, 0, _, .cons x _, e => by simp at e; subst e; exact ⟨_, rfl, x⟩
  | _, _, i + 1, w, .cons _ r, e => by
    obtain ⟨v, h1, h2⟩ := AVs.getW (i := i) (w := w) r (by simpa using e)
    exact ⟨v, by simpa using h1, h2⟩
theorem AVs.getV : ∀ {vs : List V} {ws : List W} {i : Nat} {v : V}, AVs K H M vs ws → vs[i]? = some v → ∃ w, ws[i]? = some w ∧ AV K H M v w
  | _, _, _, _, .nil, e => by simp at e
  | _, _, 0, _, .cons x _, e => by simp at e; subst e; exact ⟨_, rfl, x⟩
  | _, _, i + 1, v, .cons _ r, e => by
    obtain ⟨w, h1, h2⟩ := AVs.getV (i := i) (v := v) r (by simpa using e)
    exact ⟨w, by simpa using h1, h2⟩
theorem AVs.set {v : V} {w : W} (x : AV K H M v w) : ∀ {vs : List V} {ws : List W} (i : Nat), AVs K H M vs ws → AVs K H M (vs.set i v) (ws.set i w)
  | _, _, _, .nil => .nil
  | _, _, 0, .cons _ t => .cons x t
  | _, _, i + 1, .cons q t => .cons q (AVs.set x i t)
theorem AVs.take : ∀ {vs : List V} {ws : List W} (n : Nat), AVs K H M vs ws → AVs K H M (vs.take n) (ws.take n)
  | _, _, 0, _ => by simp; exact .nil
  | _, _, _ + 1, .nil => .nil
  | _, _, n + 1, .cons x t => .cons x (AVs.take n t)
theorem AVs.drop : ∀ {vs : List V} {ws : List W} (n : Nat), AVs K H M vs ws → AVs K H M (vs.drop n) (ws.drop n)
  | _, _, 0, h => h
  | _, _, _ + 1, .nil => .nil
  | _, _, n + 1, .cons _ t => AVs.drop n t
theorem AVs.flatRep {vs : List V} {ws : List W} (h : AVs K H M vs ws) : ∀ n : Nat, AVs K H M (List.replicate n vs).flatten (List.replicate n ws).flatten
  | 0 => .nil
  | n + 1 => by
    rw [List.replicate_succ, List.replicate_succ, List.flatten_cons, List.flatten_cons]
    exact h.append (AVs.flatRep h n)
theorem AVs.int (is : List Int) : AVs K H M (is.map V.int) (is.map W.int) := by
  induction is with
  | nil => exact .nil
  | cons i r ih => exact .cons (.int i) ih
theorem go_new {p : Addr} {u : HO} (hp : H p = none) (hs : ∀ b, b ≠ p → M b = none → M' b = none) : Go H M (upd H p u) M' :=
  ⟨fun b xs e => by rw [upd_ne (ne_of_none e hp)]; exact e, fun b o x e => by rw [upd_ne (ne_of_none e hp)]; exact e, fun b o n e => ⟨by rw [upd_ne (ne_of_none e hp)]; exact e, hs b (ne_of_none e hp) n⟩⟩
theorem go_put {p : Addr} {o : MO} {u : HO} (hp : H p = none) : Go H M (upd H p u) (put M p o) := go_new hp fun b ne n => by rw [put_ne ne]; exact n
theorem go_same {p : Addr} {u : HO} (hp : H p = none) : Go H M (upd H p u) M := go_new hp fun b ne n => n
theorem AM.laid {p : Addr} {o : MO} {u : HO} (am : AM K H M) (hp : H p = none) (h : AO K (upd H p u) (put M p o) p o) : AM K (upd H p u) (put M p o) ∧ Kp H M (upd H p u) (put M p o) := by
  refine ⟨fun a x e => ?_, fun a x h e => ⟨?_, ?_⟩, fun a x h => ?_⟩
  · by_cases ha : a = p
    · subst ha; rw [put_same] at e; cases e; exact h
    · rw [put_ne ha] at e
      exact (am a x e).go (go_put hp) (upd_ne ha)
  · rw [upd_ne (ne_of_none e hp)]; exact e
  · rw [put_ne (ne_of_none e hp)]; exact h
  · obtain ⟨y, e⟩ := (am a x h).has
    exact ⟨y, by rw [upd_ne (ne_of_none e hp)]; exact e⟩
theorem go_re {p : Addr} {o u : MO} : Go H (put M p o) H (put M p u) := ⟨fun _ _ e => e, fun _ _ _ e => e, fun b x n e => ⟨e, by
  have ne : b ≠ p := fun z => by rw [z, put_same] at n; cases n
  rw [put_ne ne] at n ⊢; exact n⟩⟩
theorem AM.tup {p : Addr} {u : HO} (am : AM K H M) (hp : H p = none) : AM K (upd H p u) M ∧ Kp H M (upd H p u) M := by
  refine ⟨fun a x e => ?_, fun a x h e => ⟨?_, h⟩, fun a x h => ?_⟩
  · have ne : a ≠ p := fun z => by rw [z, am.nonM hp] at e; cases e
    exact (am a x e).go (go_same hp) (upd_ne ne)
  · rw [upd_ne (ne_of_none e hp)]; exact e
  · obtain ⟨y, e⟩ := (am a x h).has
    exact ⟨y, by rw [upd_ne (ne_of_none e hp)]; exact e⟩
theorem go_wr {l : Addr} {o0 o : MO} {u : HO} (am : AM K H M) (hl : M l = some o0) : Go H M (upd H l u) (put M l o) :=
  ⟨fun b xs e => by rw [upd_ne (fun z => by rw [← z, am.noTup e] at hl; cases hl)]; exact e, fun b ob x e => by rw [upd_ne (fun z => by rw [← z, am.noFrz e] at hl; cases hl)]; exact e,
   fun b x n e => by
    have ne : b ≠ l := fun z => by rw [← z, n] at hl; cases hl
    rw [upd_ne ne, put_ne ne]; exact ⟨e, n⟩⟩
theorem AM.write {l : Addr} {o0 o : MO} {u : HO} (am : AM K H M) (hl : M l = some o0) (h : AO K (upd H l u) (put M l o) l o) : AM K (upd H l u) (put M l o) ∧ Kp H M (upd H l u) (put M l o) := by
  refine ⟨fun a x e => ?_, fun a x h e => ?_, fun a x h => ?_⟩
  · by_cases ha : a = l
    · subst ha; rw [put_same] at e; cases e; exact h
    · rw [put_ne ha] at e
      exact (am a x e).go (go_wr am hl) (upd_ne ha)
  · have : a ≠ l := fun z => by rw [z, hl] at h; cases h
    rw [upd_ne this, put_ne this]; exact ⟨e, h⟩
  · by_cases ha : a = l
    · subst ha; exact ⟨u, upd_same⟩
    · obtain ⟨y, e⟩ := (am a x h).has
      exact ⟨y, by rw [upd_ne ha]; exact e⟩
theorem AM.lst (am : AM K H M) {ws : List W} (h : M a = some (.lst ws)) : ∃ vs, H a = some (.lst vs) ∧ AVs K H M vs ws := am a _ h
theorem AVs.newT {p : Addr} {u : HO} {vs : List V} {ws : List W} (hp : H p = none) (h : AVs K H M vs ws) : AVs K (upd H p u) M vs ws := h.go (go_same hp)
theorem AVs.newL {p : Addr} {u : HO} {o : MO} {vs : List V} {ws : List W} (hp : H p = none) (h : AVs K H M vs ws) : AVs K (upd H p u) (put M p o) vs ws := h.go (go_put hp)
theorem AVs.wr {l : Addr} {o0 o : MO} {u : HO} {vs : List V} {ws : List W} (am : AM K H M) (hl : M l = some o0) (h : AVs K H M vs ws) : AVs K (upd H l u) (put M l o) vs ws := h.go (go_wr am hl)
theorem AV.wr {l : Addr} {o0 o : MO} {u : HO} {v : V} {w : W} (am : AM K H M) (hl : M l = some o0) (h : AV K H M v w) : AV K (upd H l u) (put M l o) v w := h.go (go_wr am hl)
end
abbrev S3 := List (Option W)
abbrev K3 := W → Mm → Prop
abbrev TE3 := S3 → Mm → K3 → Prop
abbrev TT3 := S3 → Mm → (Bool → Mm → Prop) → Prop
abbrev TA3 := S3 → Mm → (List W → Mm → Prop) → Prop
abbrev R3 := W → W → Mm → K3 → Prop
structure D3 where
  nx : S3 → Mm → Prop
  rt : K3
  bk : S3 → Mm → Prop := fun _ _ => False
  ct : S3 → Mm → Prop := fun _ _ => False
abbrev TS3 := D3 → S3 → Mm → Prop
def AS (K : PySem.W.Frag) (H : Hp) (M : Mm) : SV → S3 → Prop := Paired fun ov ow => ∀ w, ow = some w → ∃ v, ov = some v ∧ AV K H M v w
section
variable {K : PySem.W.Frag} {H H' : Hp} {M M' : Mm}
theorem AS.kp (am : AM K H M) (k : Kp H M H' M') {σ : SV} {τ : S3} (h : AS K H M σ τ) : AS K H' M' σ τ :=
  Paired.mapP h fun ov ow z w e => by obtain ⟨v, e1, r⟩ := z w e; exact ⟨v, e1, r.kp am k⟩
theorem AS.sub {M' : Mm} (g : Sub M' M) {σ : SV} {τ : S3} (h : AS K H M σ τ) : AS K H M' σ τ :=
  Paired.mapP h fun ov ow z w e => by obtain ⟨v, e1, r⟩ := z w e; exact ⟨v, e1, r.sub g⟩
theorem AS.get {w : W} : ∀ {σ : SV} {τ : S3} {i : Nat}, AS K H M σ τ → τ[i]? = some (some w) → ∃ v, σ[i]? = some (some v) ∧ AV K H M v w
  | _, _, _, .nil, e => by simp at e
  | _, _, 0, .cons r _, e => by
    simp at e
    obtain ⟨v, h1, h2⟩ := r w e
    exact ⟨v, by rw [h1]; rfl, h2⟩
  | _, _, i + 1, .cons _ t, e => by
    obtain ⟨v, h1, h2⟩ := AS.get (i := i) t (by simpa using e)
    exact ⟨v, by simpa using h1, h2⟩
theorem AS.set {v : V} {w : W} (r : AV K H M v w) : ∀ {σ : SV} {τ : S3} (i : Nat), AS K H M σ τ → AS K H M (σ.set i (some v)) (τ.set i (some w))
  | _, _, _, .nil => .nil
  | _, _, 0, .cons _ t => .cons (fun x e => ⟨v, rfl, by cases e; exact r⟩) t
  | _, _, i + 1, .cons q t => .cons q (AS.set r i t)
theorem AS.nones : ∀ n : Nat, AS K H M (List.replicate n none) (List.replicate n none)
  | 0 => .nil
  | n + 1 => .cons (fun _ e => nomatch e) (AS.nones n)
theorem AS.start {vs : List V} {ws : List W} (h : AVs K H M vs ws) (n : Nat) : AS K H M (vs.map some ++ List.replicate n none) (ws.map some ++ List.replicate n none) := by
  induction vs generalizing ws with
  | nil => cases h; exact AS.nones n
  | cons v vs ih =>
    cases h with
    | cons x r => exact .cons (fun w e => ⟨v, rfl, by cases e; exact x⟩) (ih r)
end
def Up (K : PySem.W.Frag) (H : Hp) (M : Mm) (R : K3) (Q : VK) : Prop := ∀ v H' w M', Kp H M H' M' → AM K H' M' → AV K H' M' v w → R w M' → Q v H'
def up (K : PySem.W.Frag) (t : TE3) : TE := fun σ H Q => ∃ τ M R, AS K H M σ τ ∧ AM K H M ∧ t τ M R ∧ Up K H M R Q
def upT (K : PySem.W.Frag) (t : TT3) : TT := fun σ H Q => ∃ (τ : S3) (M : Mm) (R : Bool → Mm → Prop), AS K H M σ τ ∧ AM K H M ∧ t τ M R ∧ ∀ b H' M', Kp H M H' M' → AM K H' M' → R b M' → Q b H'
def upA (K : PySem.W.Frag) (t : TA3) : TA := fun σ H Q => ∃ (τ : S3) (M : Mm) (R : List W → Mm → Prop), AS K H M σ τ ∧ AM K H M ∧ t τ M R ∧ ∀ vs H' ws M', Kp H M H' M' → AM K H' M' → AVs K H' M' vs ws → R ws M' → Q vs H'
def UpS (K : PySem.W.Frag) (H : Hp) (M : Mm) (R : S3 → Mm → Prop) (Q : SV → Hp → Prop) : Prop := ∀ σ' H' τ' M', Kp H M H' M' → AM K H' M' → AS K H' M' σ' τ' → R τ' M' → Q σ' H'
structure UpD (K : PySem.W.Frag) (H : Hp) (M : Mm) (D : D3) (E : Ends) : Prop where
  nx : UpS K H M D.nx E.nx
  rt : Up K H M D.rt E.rt
  bk : UpS K H M D.bk E.bk
  ct : UpS K H M D.ct E.ct
def upS (K : PySem.W.Frag) (t : TS3) : TS := fun E σ H => ∃ τ M D, AS K H M σ τ ∧ AM K H M ∧ t D τ M ∧ UpD K H M D E
section
variable {K : PySem.W.Frag} {H H1 : Hp} {M M1 : Mm}
theorem Up.kp {R : K3} {Q : VK} (h : Up K H M R Q) (k : Kp H M H1 M1) : Up K H1 M1 R Q := fun v H' w M' k' am av r => h v H' w M' (k.trans k') am av r
theorem UpS.kp {R : S3 → Mm → Prop} {Q : SV → Hp → Prop} (h : UpS K H M R Q) (k : Kp H M H1 M1) : UpS K H1 M1 R Q := fun v H' w M' k' am av r => h v H' w M' (k.trans k') am av r
theorem UpD.kp {D : D3} {E : Ends} (h : UpD K H M D E) (k : Kp H M H1 M1) : UpD K H1 M1 D E := ⟨h.nx.kp k, h.rt.kp k, h.bk.kp k, h.ct.kp k⟩
theorem Up.at {R : K3} {Q : VK} (h : Up K H M R Q) (am : AM K H M) {v : V} {w : W} (av : AV K H M v w) (r : R w M) : Q v H := h v H w M (Kp.refl am) am av r
end
def frz : W → Mm → K3 → Prop
  | .ref p, M, R => (∃ ws, M p = some (.lst ws) ∧ R (.rl ws) (del M p)) ∨ (∃ kvs, M p = some (.dK kvs) ∧ R (.dk kvs) (del M p)) ∨ (∃ kvs, M p = some (.dT kvs) ∧ R (.dt kvs) (del M p)) ∨ R (.ref p) M
  | w, M, R => R w M
theorem Up.frz {K : PySem.W.Frag} {H : Hp} {M : Mm} {R : K3} {Q : VK} (h : Up K H M R Q) : Up K H M (fun w M' => frz w M' R) Q := fun v H' w M' k am av r => by
  have av' := av
  cases av <;> first | exact h _ _ _ _ k am av' r | skip
  case ref p =>
    rcases r with ⟨ws, e, r⟩ | ⟨kvs, e, r⟩ | ⟨kvs, e, r⟩ | r
    · obtain ⟨vs, f, q⟩ := am.lst e
      exact h _ _ _ _ (k.sub Sub.del) (am.sub Sub.del) (.rl f del_same (q.sub Sub.del)) r
    · obtain ⟨ks, f, q⟩ := am _ _ e
      exact h _ _ _ _ (k.sub Sub.del) (am.sub Sub.del) (.dk f del_same q.keys (q.vals.sub Sub.del)) r
    · obtain ⟨ks, f, q⟩ := am _ _ e
      exact h _ _ _ _ (k.sub Sub.del) (am.sub Sub.del) (.dt f del_same q.keys (q.vals.sub Sub.del)) r
    · exact h _ _ _ _ k am (.ref p) r
theorem frz_new {M : Mm} {p : Addr} {ws : List W} {R : K3} (hp : M p = none) (r : R (.rl ws) M) : frz (.ref p) (put M p (.lst ws)) R := .inl ⟨ws, put_same, by rw [del_put hp]; exact r⟩
def New (ws : List W) (M : Mm) (R : K3) : Prop := ∀ p, M p = none → R (.ref p) (put M p (.lst ws))
def NewK (kvs : List (Key × W)) (M : Mm) (R : K3) : Prop := ∀ p, M p = none → R (.ref p) (put M p (.dK kvs))
def NewT (kvs : List (List Key × W)) (M : Mm) (R : K3) : Prop := ∀ p, M p = none → R (.ref p) (put M p (.dT kvs))
theorem New.frz {M : Mm} {ws : List W} {R : K3} (r : R (.rl ws) M) : New ws M fun w M' => L3.frz w M' R := fun p hp => frz_new hp r
def vFrz (t : TE3) : TE3 := fun τ M R => t τ M fun w M' => frz w M' R
end L3
namespace L2
section
variable {X : Cx}
theorem PE.weak {e : PySem.Expr} {t t' : TE} (h : PE X e t) (k : ∀ σ H Q, t' σ H Q → t σ H Q) : PE X e t' := fun pins s σ H Q I q => h pins s σ H Q I (k σ H Q q)
theorem PT.weak {e : PySem.Expr} {t t' : TT} (h : PT X e t) (k : ∀ σ H Q, t' σ H Q → t σ H Q) : PT X e t' := fun pins s σ H Q I q => h pins s σ H Q I (k σ H Q q)
theorem PW.weak {e : PySem.Expr} {t t' : TT} (h : PW X e t) (k : ∀ σ H Q, t' σ H Q → t σ H Q) : PW X e t' := fun wh pins s σ H Q I q => h wh pins s σ H Q I (k σ H Q q)
theorem PA.weak {es : List PySem.Expr} {t t' : TA} (h : PA X es t) (k : ∀ σ H Q, t' σ H Q → t σ H Q) : PA X es t' := fun pos pins s σ H Q I q => h pos pins s σ H Q I (k σ H Q q)
theorem PS.weak {st : PySem.Stmt} {t t' : TS} (h : PS X st t) (k : ∀ D σ H, t' D σ H → t D σ H) : PS X st t' := fun pins s σ H D I q => h pins s σ H D I (k D σ H q)
theorem PSs.weak {st : List PySem.Stmt} {t t' : TS} (h : PSs X st t) (k : ∀ D σ H, t' D σ H → t D σ H) : PSs X st t' := fun pins s σ H D I q => h pins s σ H D I (k D σ H q)
theorem PO.weak {e : Option PySem.Expr} {t t' : TO} (h : PO X e t) (k : ∀ σ H Q, t' σ H Q → t σ H Q) : PO X e t' := fun pins s σ H Q I q => h pins s σ H Q I (k σ H Q q)
theorem PIfs.weak {es : List PySem.Expr} {t t' : TT} (h : PIfs X es t) (k : ∀ σ H Q, t' σ H Q → t σ H Q) : PIfs X es t' := fun pins s σ H Q I q => h pins s σ H Q I (k σ H Q q)
end
end L2
namespace L3
open PySem PySem.Spec PyProof.Rows L2
abbrev E3 (X : Cx) (e : Expr) (t : TE3) : Prop := PE X e (up X.K t)
abbrev T3 (X : Cx) (e : Expr) (t : TT3) : Prop := PT X e (upT X.K t)
abbrev W3 (X : Cx) (e : Expr) (t : TT3) : Prop := PW X e (upT X.K t)
abbrev A3 (X : Cx) (es : List Expr) (t : TA3) : Prop := PA X es (upA X.K t)
def upO (K : PySem.W.Frag) (r : R3) : R2 := fun x y H Q => ∃ wx wy M R, AM K H M ∧ AV K H M x wx ∧ AV K H M y wy ∧ r wx wy M R ∧ Up K H M R Q
def upC (K : PySem.W.Frag) (r : List W → Mm → K3 → Prop) : List V → Hp → VK → Prop := fun xs H Q => ∃ ws M R, AM K H M ∧ AVs K H M xs ws ∧ r ws M R ∧ Up K H M R Q
def upM (K : PySem.W.Frag) (r : W → List W → Mm → K3 → Prop) : V → List V → Hp → VK → Prop := fun x xs H Q => ∃ wx ws M R, AM K H M ∧ AV K H M x wx ∧ AVs K H M xs ws ∧ r wx ws M R ∧ Up K H M R Q
section
variable {X : Cx} {a b c : Expr} {ta tb tc : TE3} {pos : Pos}
def vVar (i : Nat) : TE3 := fun τ M R => ∃ w, τ[i]? = some (some w) ∧ R w M
def vC (w : W) : TE3 := fun _ M R => R w M
theorem v (i : Nat) {x : Str} {pos : Pos} (hN : X.N[i]? = some x := by rfl) (hv : Vis X.env.scope x := by first | exact Or.inl rfl | exact Or.inr (Or.inl rfl) | exact Or.inr (Or.inr rfl)) (hd : (x == ("__debug__" : Str)) = false := by decide)
    (hcd : (x == ("__classdict__" : Str)) = false := by decide) : E3 X (.Name x pos) (vVar i) := (pe_var hN hv hd hcd).weak fun σ H Q ⟨τ, M, R, as, am, ⟨w, e, r⟩, k⟩ => by
  obtain ⟨v, e1, av⟩ := as.get e
  exact ⟨v, e1, k.at am av r⟩
theorem v_int {i j pos} : E3 X (.Constant (.int i) j pos) (vC (.int i)) := pe_int.weak fun σ H Q ⟨τ, M, R, as, am, r, k⟩ => k.at am (.int i) r
theorem v_bl {b j pos} : E3 X (.Constant (.bool b) j pos) (vC (.bl b)) := pe_bl.weak fun σ H Q ⟨τ, M, R, as, am, r, k⟩ => k.at am (.bl b) r
theorem v_str {x j pos} : E3 X (.Constant (.str x) j pos) (vC (.str x)) := pe_str.weak fun σ H Q ⟨τ, M, R, as, am, r, k⟩ => k.at am (.str x) r
theorem v_glob {x : Str} {y : V} {w : W} {u : Value} {pos : Pos} (hg : Gl X x) (hm : X.mg x = some u) (r : RelV y u) (hw : ∀ H M, AV X.K H M y w) (hd : (x == ("__debug__" : Str)) = false := by decide) : E3 X (.Name x pos) (vC w) :=
  (pe_glob hg hm r hd).weak fun σ H Q ⟨τ, M, R, as, am, r, k⟩ => k.at am (hw H M) r
theorem v_bltn {x : Str} {y : V} {w : W} {u : Value} {pos : Pos} (hg : Gl X x) (hm : X.mg x = none) (hv : bootBuiltins x = some u) (r : RelV y u) (hw : ∀ H M, AV X.K H M y w) (hn : x ≠ "__name__" := by decide) (hd : (x == ("__debug__" : Str)) = false := by decide) : E3 X (.Name x pos) (vC w) :=
  (pe_bltn hg hm hv r hn hd).weak fun σ H Q ⟨τ, M, R, as, am, r, k⟩ => k.at am (hw H M) r
theorem v_frz (ha : E3 X a ta) : E3 X a (vFrz ta) := ha.weak fun σ H Q ⟨τ, M, R, as, am, h, k⟩ => ⟨τ, M, _, as, am, h, k.frz⟩
def vOp (r : R3) (ta tb : TE3) : TE3 := fun τ M R => ta τ M fun x M1 => tb τ M1 fun y M2 => r x y M2 R
theorem vOp_up {K : PySem.W.Frag} {r : R3} {σ : SV} {H : Hp} {Q : VK} (h : up K (vOp r ta tb) σ H Q) : tOp (upO K r) (up K ta) (up K tb) σ H Q := by
  obtain ⟨τ, M, R, as, am, h, k⟩ := h
  refine ⟨τ, M, _, as, am, h, fun x H1 wx M1 k1 am1 ax h1 => ⟨τ, M1, _, as.kp am k1, am1, h1, fun y H2 wy M2 k2 am2 ay h2 => ?_⟩⟩
  exact ⟨wx, wy, M2, R, am2, ax.kp am1 k2, ay, h2, (k.kp k1).kp k2⟩
theorem v_op {op : Operator} {r : R3} (ho : OpR X (binaryOp op) (upO X.K r)) (ha : E3 X a ta) (hb : E3 X b tb) : E3 X (.BinOp a op b pos) (vOp r ta tb) := (pe_op ho ha hb).weak fun _ _ _ h => vOp_up h
theorem v_cmp {op : CmpOp} {r : R3} (ho : OpR X (compareOp op) (upO X.K r)) (ha : E3 X a ta) (hb : E3 X b tb) (hm : behindInMarks op b = false) : E3 X (.Compare a [op] [b] pos) (vOp r ta tb) := (pe_cmpR ho ha hb hm).weak fun _ _ _ h => vOp_up h
def vTest (t : TE3) : TT3 := fun τ M Q => t τ M fun w M' => ∃ k, w = .bl k ∧ Q k M'
theorem AV.bl_inv {K : PySem.W.Frag} {H : Hp} {M : Mm} {v : V} {k : Bool} (h : AV K H M v (.bl k)) : v = .bl k := by cases h; rfl
theorem t_cmp {op : CmpOp} {r : R3} (ho : OpR X (compareOp op) (upO X.K r)) (ha : E3 X a ta) (hb : E3 X b tb) (hm : behindInMarks op b = false) : T3 X (.Compare a [op] [b] pos) (vTest (vOp r ta tb)) :=
  (pt_cmpR ho ha hb hm).weak fun σ H Q ⟨τ, M, R, as, am, h, k⟩ => vOp_up ⟨τ, M, _, as, am, h, fun v H' w M' k' am' av ⟨c, e, r⟩ => by
    subst e
    exact ⟨c, av.bl_inv, k c H' M' k' am' r⟩⟩
def vUn (r : W → Mm → K3 → Prop) (ta : TE3) : TE3 := fun τ M R => ta τ M fun x M1 => r x M1 R
def vTru : W → Mm → (Bool → Mm → Prop) → Prop
  | .non, M, Q => Q false M
  | .bl b, M, Q => Q b M
  | .int i, M, Q => Q (i != 0) M
  | .str y, M, Q => y.length ≤ sizeLine ∧ Q ((y.length : Int) != 0) M
  | .tup ws, M, Q => Q (!ws.isEmpty) M
  | .rl ws, M, Q => Q (!ws.isEmpty) M
  | .sc ws, M, Q => Q (!ws.isEmpty) M
  | .dk kvs, M, Q => Q (!kvs.isEmpty) M
  | .ref p, M, Q => (∃ ws, M p = some (.lst ws) ∧ Q (!ws.isEmpty) M) ∨ ∃ kvs, M p = some (.dK kvs) ∧ Q (!kvs.isEmpty) M
  | _, _, _ => False
def vTruth (t : TE3) : TT3 := fun τ M Q => t τ M fun w M' => vTru w M' Q
theorem AVs.empty {K : PySem.W.Frag} {H : Hp} {M : Mm} {vs : List V} {ws : List W} (h : AVs K H M vs ws) : (!ws.isEmpty) = !vs.isEmpty := by cases h <;> rfl
theorem t_val (ha : E3 X a ta) (he : ∀ whole, isTrue a X.env whole = (do let v ← whole; standAt a.pos; holding [v] (truthy v)) := by intro _; rfl) : T3 X a (vTruth ta) :=
  (pt_truth ha he).weak fun σ H Q ⟨τ, M, R, as, am, h, k⟩ => ⟨τ, M, _, as, am, h, fun v H' w M' k' am' av r => by
    cases av with
    | non => exact ⟨false, rfl, k _ _ _ k' am' r⟩
    | bl b => exact ⟨b, rfl, k _ _ _ k' am' r⟩
    | int i => exact ⟨_, rfl, k _ _ _ k' am' r⟩
    | str y => exact ⟨_, ⟨r.1, rfl⟩, k _ _ _ k' am' r.2⟩
    | ty n => exact (show False from r).elim
    | tup e q => exact ⟨_, .inr (.inl ⟨_, SqT.of e, q.empty⟩), k _ _ _ k' am' r⟩
    | rl e n q => exact ⟨_, .inl ⟨_, SqL.of e, q.empty⟩, k _ _ _ k' am' r⟩
    | sc e q => exact ⟨_, .inl ⟨_, e.sq, q.empty⟩, k _ _ _ k' am' r⟩
    | @dk a ks kvs e n ke q => exact ⟨!kvs.isEmpty, .inr (.inr ⟨_, e, by have := pkv_of ke q; cases this <;> rfl⟩), k _ _ _ k' am' r⟩
    | dt e n ke q => exact (show False from r).elim
    | ref p =>
      rcases r with ⟨ws, e, r⟩ | ⟨kvs, e, r⟩
      · obtain ⟨vs, e1, q⟩ := am'.lst e
        exact ⟨_, .inl ⟨_, SqL.of e1, q.empty⟩, k _ _ _ k' am' r⟩
      · obtain ⟨ks, e1, q⟩ := am' _ _ e
        exact ⟨!kvs.isEmpty, .inr (.inr ⟨_, e1, by cases q <;> rfl⟩), k _ _ _ k' am' r⟩⟩
def vAnd (t u : TT3) : TT3 := fun τ M Q => t τ M fun c M1 => if c = true then u τ M1 Q else Q false M1
def vOr (t u : TT3) : TT3 := fun τ M Q => t τ M fun c M1 => if c = true then Q true M1 else u τ M1 Q
def vNot (t : TT3) : TT3 := fun τ M Q => t τ M fun c M1 => Q (!c) M1
variable {tA tB' : TT3} {rest : List Expr}
theorem t_and1 (ha : T3 X a tA) : W3 X (.BoolOp .And [a] pos) tA := pw_and1 ha
theorem t_or1 (ha : T3 X a tA) : W3 X (.BoolOp .Or [a] pos) tA := pw_or1 ha
theorem t_and (ha : T3 X a tA) (hb : W3 X (.BoolOp .And (b :: rest) pos) tB') : W3 X (.BoolOp .And (a :: b :: rest) pos) (vAnd tA tB') :=
  (pw_and ha hb).weak fun σ H Q ⟨τ, M, R, as, am, h, k⟩ => ⟨τ, M, _, as, am, h, fun c H1 M1 k1 am1 h1 => by
    cases c with
    | true => exact ⟨τ, M1, R, as.kp am k1, am1, h1, fun b H' M' k' am' r => k b H' M' (k1.trans k') am' r⟩
    | false => exact k false H1 M1 k1 am1 h1⟩
theorem t_or (ha : T3 X a tA) (hb : W3 X (.BoolOp .Or (b :: rest) pos) tB') : W3 X (.BoolOp .Or (a :: b :: rest) pos) (vOr tA tB') :=
  (pw_or ha hb).weak fun σ H Q ⟨τ, M, R, as, am, h, k⟩ => ⟨τ, M, _, as, am, h, fun c H1 M1 k1 am1 h1 => by
    cases c with
    | true => exact k true H1 M1 k1 am1 h1
    | false => exact ⟨τ, M1, R, as.kp am k1, am1, h1, fun b H' M' k' am' r => k b H' M' (k1.trans k') am' r⟩⟩
theorem t_not (ha : T3 X a tA) : T3 X (.UnaryOp .Not a pos) (vNot tA) :=
  (pt_not ha).weak fun σ H Q ⟨τ, M, R, as, am, h, k⟩ => ⟨τ, M, _, as, am, h, fun c H1 M1 k1 am1 h1 => k (!c) H1 M1 k1 am1 h1⟩
def vAndV (ta tb : TE3) : TE3 := fun τ M R => ta τ M fun x M1 => ∃ c, x = .bl c ∧ if c = true then tb τ M1 R else R (.bl false) M1
def vOrV (ta tb : TE3) : TE3 := fun τ M R => ta τ M fun x M1 => ∃ c, x = .bl c ∧ if c = true then R (.bl true) M1 else tb τ M1 R
def vNotV (ta : TE3) : TE3 := fun τ M R => ta τ M fun x M1 => ∃ c, x = .bl c ∧ R (.bl (!c)) M1
theorem v_one {op} (h : E3 X a ta) : E3 X (.BoolOp op [a] pos) ta := pe_one h
theorem v_and (ha : E3 X a ta) (hb : E3 X (.BoolOp .And (b :: rest) pos) tb) : E3 X (.BoolOp .And (a :: b :: rest) pos) (vAndV ta tb) :=
  (pe_and ha hb).weak fun σ H Q ⟨τ, M, R, as, am, h, k⟩ => ⟨τ, M, _, as, am, h, fun x H1 wx M1 k1 am1 ax ⟨c, e, h1⟩ => by
    subst e
    refine ⟨c, ax.bl_inv, ?_⟩
    cases c with
    | true => exact ⟨τ, M1, R, as.kp am k1, am1, h1, k.kp k1⟩
    | false => exact (k.kp k1).at am1 (.bl false) h1⟩
theorem v_or (ha : E3 X a ta) (hb : E3 X (.BoolOp .Or (b :: rest) pos) tb) : E3 X (.BoolOp .Or (a :: b :: rest) pos) (vOrV ta tb) :=
  (pe_or ha hb).weak fun σ H Q ⟨τ, M, R, as, am, h, k⟩ => ⟨τ, M, _, as, am, h, fun x H1 wx M1 k1 am1 ax ⟨c, e, h1⟩ => by
    subst e
    refine ⟨c, ax.bl_inv, ?_⟩
    cases c with
    | true => exact (k.kp k1).at am1 (.bl true) h1
    | false => exact ⟨τ, M1, R, as.kp am k1, am1, h1, k.kp k1⟩⟩
def vIf (t : TT3) (ta tb : TE3) : TE3 := fun τ M R => t τ M fun c M1 => if c = true then ta τ M1 R else tb τ M1 R
theorem v_if {c : Expr} (hc : T3 X c tA) (ha : E3 X a ta) (hb : E3 X b tb) : E3 X (.IfExp c a b pos) (vIf tA ta tb) :=
  (pe_ifExp hc ha hb).weak fun σ H Q ⟨τ, M, R, as, am, h, k⟩ => ⟨τ, M, _, as, am, h, fun c H1 M1 k1 am1 h1 => by
    cases c with
    | true => exact ⟨τ, M1, R, as.kp am k1, am1, h1, k.kp k1⟩
    | false => exact ⟨τ, M1, R, as.kp am k1, am1, h1, k.kp k1⟩⟩
def aNil : TA3 := fun _ M R => R [] M
def aCons (ta : TE3) (tr : TA3) : TA3 := fun τ M R => ta τ M fun x M1 => tr τ M1 fun xs M2 => R (x :: xs) M2
variable {e : Expr} {es : List Expr} {te : TE3} {t : TA3}
theorem a_nil : A3 X [] aNil := pa_nil.weak fun σ H Q ⟨τ, M, R, as, am, h, k⟩ => k [] H [] M (Kp.refl am) am .nil h
theorem a_cons (ha : E3 X e te) (hr : A3 X es t) (hs : starEach (e :: es) X.env = (false, eval e X.env) :: starEach es X.env := by rfl) : A3 X (e :: es) (aCons te t) :=
  (pa_cons ha hr hs).weak fun σ H Q ⟨τ, M, R, as, am, h, k⟩ => ⟨τ, M, _, as, am, h, fun x H1 wx M1 k1 am1 ax h1 => ⟨τ, M1, _, as.kp am k1, am1, h1, fun xs H2 ws M2 k2 am2 axs h2 =>
    k (x :: xs) H2 (wx :: ws) M2 (k1.trans k2) am2 (.cons (ax.kp am1 k2) axs) h2⟩⟩
def vTup (t : TA3) : TE3 := fun τ M R => t τ M fun ws M1 => ws.length ≤ sizeLine ∧ R (.tup ws) M1
def vLst (t : TA3) : TE3 := fun τ M R => t τ M fun ws M1 => ws.length ≤ sizeLine ∧ New ws M1 R
theorem laidT {K : PySem.W.Frag} {H : Hp} {M : Mm} {R : K3} {Q : VK} {p : Addr} {xs : List V} {ws : List W} (am : AM K H M) (k : Up K H M R Q) (hp : H p = none) (ax : AVs K H M xs ws) (r : R (.tup ws) M) : Q (.ref p) (upd H p (.tup xs)) := by
  obtain ⟨am2, k2⟩ := am.tup (u := .tup xs) hp
  exact k _ _ _ _ k2 am2 (.tup upd_same (ax.newT hp)) r
theorem laidL {K : PySem.W.Frag} {H : Hp} {M : Mm} {R : K3} {Q : VK} {p : Addr} {xs : List V} {ws : List W} (am : AM K H M) (k : Up K H M R Q) (hp : H p = none) (ax : AVs K H M xs ws) (r : ∀ p, M p = none → R (.ref p) (put M p (.lst ws))) : Q (.ref p) (upd H p (.lst xs)) := by
  obtain ⟨am2, k2⟩ := am.laid (o := .lst ws) (u := .lst xs) hp ⟨xs, upd_same, ax.newL hp⟩
  exact k _ _ _ _ k2 am2 (.ref p) (r p (am.nonM hp))
theorem wroteL {K : PySem.W.Frag} {H : Hp} {M : Mm} {R : K3} {Q : VK} {l : Addr} {xs : List V} {ws ws0 : List W} {y : V} {w : W} (am : AM K H M) (k : Up K H M R Q) (hl : M l = some (.lst ws0)) (ax : AVs K H M xs ws) (ay : AV K H M y w) (r : R w (put M l (.lst ws))) : Q y (upd H l (.lst xs)) := by
  obtain ⟨am2, k2⟩ := am.write (o := .lst ws) (u := .lst xs) hl ⟨xs, upd_same, ax.wr am hl⟩
  exact k _ _ _ _ k2 am2 (ay.wr am hl) r
theorem v_tup {x1} (h : A3 X es t) : E3 X (.Tuple es x1 pos) (vTup t) :=
  (pe_tup h).weak fun σ H Q ⟨τ, M, R, as, am, h, k⟩ => ⟨τ, M, _, as, am, h, fun xs H1 ws M1 k1 am1 axs ⟨hl, r⟩ => ⟨by rw [axs.length]; exact hl, fun p hp => laidT am1 (k.kp k1) hp axs r⟩⟩
theorem v_lst (h : A3 X es t) : E3 X (.List es pos) (vLst t) :=
  (pe_lst h).weak fun σ H Q ⟨τ, M, R, as, am, h, k⟩ => ⟨τ, M, _, as, am, h, fun xs H1 ws M1 k1 am1 axs ⟨hl, r⟩ => ⟨by rw [axs.length]; exact hl, fun p hp => laidL am1 (k.kp k1) hp axs r⟩⟩
def vCB (r : List W → Mm → K3 → Prop) (t : TA3) : TE3 := fun τ M R => t τ M fun ws M1 => r ws M1 R
variable {x : Str} {p : Pos} {id T : String} {r : List W → Mm → K3 → Prop}
theorem vCB_up {K : PySem.W.Frag} {σ : SV} {H : Hp} {Q : VK} (h : up K (vCB r t) σ H Q) : tCB (upC K r) (upA K t) σ H Q := by
  obtain ⟨τ, M, R, as, am, h, k⟩ := h
  exact ⟨τ, M, _, as, am, h, fun xs H1 ws M1 k1 am1 axs h1 => ⟨ws, M1, R, am1, axs, h1, k.kp k1⟩⟩
theorem v_callB (hc : CallR X (.builtin id) (upC X.K r)) (hg : Gl X x) (hm : X.mg x = none) (hv : bootBuiltins x = some (.builtin id)) (ha : A3 X (e :: es) t) (hn : x ≠ "__name__" := by decide) (hdb : (x == ("__debug__" : Str)) = false := by decide)
    (hs : starEach (e :: es) X.env = (false, eval e X.env) :: starEach es X.env := by rfl) (hpl : (backTo pos (starEach es X.env)).any (·.1) = false := by rfl) : E3 X (.Call (.Name x p) (e :: es) [] pos) (vCB r t) := (pe_callB hc hg hm hv ha hn hdb hs hpl).weak fun _ _ _ h => vCB_up h
theorem v_callTy (hc : CallR X (.type T) (upC X.K r)) (hg : Gl X x) (hm : X.mg x = none) (hv : bootBuiltins x = some (.type T)) (ha : A3 X (e :: es) t) (hn : x ≠ "__name__" := by decide) (hdb : (x == ("__debug__" : Str)) = false := by decide)
    (hs : starEach (e :: es) X.env = (false, eval e X.env) :: starEach es X.env := by rfl) (hpl : (backTo pos (starEach es X.env)).any (·.1) = false := by rfl) : E3 X (.Call (.Name x p) (e :: es) [] pos) (vCB r t) := (pe_callTy hc hg hm hv ha hn hdb hs hpl).weak fun _ _ _ h => vCB_up h
abbrev Sp3 := List W → Mm → K3 → Prop
def upSp (K : PySem.W.Frag) (sp : Sp3) : Sp := fun vs H Q _ => ∃ ws M R, AM K H M ∧ AVs K H M vs ws ∧ sp ws M R ∧ Up K H M R Q
variable {k : Nat} {f : Addr} {fd : FuncData} {ps : List Str} {sp : Sp3}
def vCall (sp : Sp3) (t : TA3) : TE3 := fun τ M R => t τ M fun ws M1 => sp ws M1 R
theorem vCall_up {K : PySem.W.Frag} {σ : SV} {H : Hp} {Q : VK} (h : up K (vCall sp t) σ H Q) : tCall (upSp K sp) [] E0 (upA K t) σ H Q := by
  obtain ⟨τ, M, R, as, am, h, k⟩ := h
  exact ⟨τ, M, _, as, am, h, fun xs H1 ws M1 k1 am1 axs h1 => ⟨ws, M1, R, am1, by rw [List.append_nil]; exact axs, h1, k.kp k1⟩⟩
theorem v_call (F : FnOk X.prog X.w X.K X.mg X.base CX0 k f fd ps (upSp X.K sp)) (hr : Room k X.A) (hg : Gl X x) (hm : X.mg x = some (.ref f)) (hk : PySem.W.keepIn X.K (.ref f) = true) (hb : Binds X.K fd ps [])
    (ha : A3 X (e :: es) t) (hdb : (x == ("__debug__" : Str)) = false := by decide) (he : starEach (e :: es) X.env = (false, eval e X.env) :: starEach es X.env := by rfl) (hpl : (backTo pos (starEach es X.env)).any (·.1) = false := by rfl) :
    E3 X (.Call (.Name x p) (e :: es) [] pos) (vCall sp t) := (pe_call F hr hg hm hk hb .nil pass0 ha hdb he hpl).weak fun _ _ _ h => vCall_up h
def tyW (T : String) : W → Mm → Prop
  | .str _, _ => T = "str"
  | .int _, _ => T = "int"
  | .rl _, _ => T = "list"
  | .sc _, _ => T = "list"
  | .dk _, _ => T = "dict"
  | .dt _, _ => T = "dict"
  | .ref p, M => (T = "list" ∧ ∃ ws, M p = some (.lst ws)) ∨ (T = "dict" ∧ ((∃ kvs, M p = some (.dK kvs)) ∨ ∃ kvs, M p = some (.dT kvs)))
  | _, _ => False
theorem tyW_up {K : PySem.W.Frag} {H : Hp} {M : Mm} {v : V} {w : W} (am : AM K H M) (av : AV K H M v w) (h : tyW T w M) : tyV K T v H := by
  cases av with
  | str y => exact h
  | int i => exact h
  | rl e n q => exact .inl ⟨h, _, SqL.of e⟩
  | sc e q => exact .inl ⟨h, _, e.sq⟩
  | dk e n ke q => exact .inr (.inr (.inl ⟨h, .inl ⟨_, e⟩⟩))
  | dt e n ke q => exact .inr (.inr (.inl ⟨h, .inr ⟨_, e⟩⟩))
  | ref p =>
    rcases h with ⟨e, ws, h⟩ | ⟨e, h⟩
    · obtain ⟨vs, e1, _⟩ := am.lst h
      exact .inl ⟨e, vs, SqL.of e1⟩
    · refine .inr (.inr (.inl ⟨e, ?_⟩))
      rcases h with ⟨kvs, h⟩ | ⟨kvs, h⟩
      · obtain ⟨ks, e1, _⟩ := am _ _ h; exact .inl ⟨ks, e1⟩
      · obtain ⟨ks, e1, _⟩ := am _ _ h; exact .inr ⟨ks, e1⟩
  | non => exact h.elim
  | bl b => exact h.elim
  | ty n => exact h.elim
  | tup e q => exact h.elim
variable {o : Expr} {to : TE3} {name : Str} {apos cpos : Pos} {rm : W → List W → Mm → K3 → Prop}
def vBM0 (T : String) (r : W → List W → Mm → K3 → Prop) (to : TE3) : TE3 := fun τ M R => to τ M fun x M1 => tyW T x M1 ∧ r x [] M1 R
def vBM (T : String) (r : W → List W → Mm → K3 → Prop) (to : TE3) (t : TA3) : TE3 := fun τ M R => to τ M fun x M1 => tyW T x M1 ∧ t τ M1 fun xs M2 => r x xs M2 R
theorem v_bm0 (pa : PlainAttrs T) (slot : Slot T name id) (hty : typeOf (.builtin id) = pure (.type "method_descriptor")) (hm : MtR X id (upM X.K rm)) (ho : E3 X o to)
    (hbase : attributeBase o name X.env (eval o X.env) = eval o X.env := by rfl) (hline : (apos.endLine == cpos.line) = true := by rfl) : E3 X (.Call (.Attribute o name apos) [] [] cpos) (vBM0 T rm to) :=
  (pe_bm0 pa slot hty hm ho hbase hline).weak fun σ H Q ⟨τ, M, R, as, am, h, k⟩ => ⟨τ, M, _, as, am, h, fun x H1 wx M1 k1 am1 ax ⟨ty, h1⟩ => ⟨tyW_up am1 ax ty, wx, [], M1, R, am1, ax, .nil, h1, k.kp k1⟩⟩
theorem v_bm (pa : PlainAttrs T) (slot : Slot T name id) (hty : typeOf (.builtin id) = pure (.type "method_descriptor")) (hm : MtR X id (upM X.K rm)) (ho : E3 X o to) (ha : A3 X (e :: es) t)
    (hbase : attributeBase o name X.env (eval o X.env) = eval o X.env := by rfl)
    (hfew : ((backTo cpos (starEach (e :: es) X.env)).all (fun x => !x.1) && (backToKw cpos (keywordEach [] X.env)).all (fun x => x.1.isSome)
      && decide ((e :: es).length + ([] : List Keyword).length + (if ([] : List Keyword).isEmpty then 0 else 1) < 30)) = true := by rfl)
    (hline : (apos.endLine == cpos.line) = true := by rfl) (hs : starEach (e :: es) X.env = (false, eval e X.env) :: starEach es X.env := by rfl) (hplain : (backTo cpos (starEach es X.env)).any (·.1) = false := by rfl) :
    E3 X (.Call (.Attribute o name apos) (e :: es) [] cpos) (vBM T rm to t) :=
  (pe_bm pa slot hty hm ho ha hbase hfew hline hs hplain).weak fun σ H Q ⟨τ, M, R, as, am, h, k⟩ => ⟨τ, M, _, as, am, h, fun x H1 wx M1 k1 am1 ax ⟨ty, h1⟩ => ⟨tyW_up am1 ax ty, τ, M1, _, as.kp am k1, am1, h1, fun xs H2 ws M2 k2 am2 axs h2 =>
    ⟨wx, ws, M2, R, am2, ax.kp am1 k2, axs, h2, (k.kp k1).kp k2⟩⟩⟩
end
end L3
namespace L3
open PySem PySem.Spec PyProof.Rows L2
section
variable {X : Cx}
def rAdd : R3
  | .int i, .int j, M, R => R (.int (i + j)) M
  | .str i, .str j, M, R => i.length + j.length ≤ sizeLine ∧ R (.str (i ++ j)) M
  | .tup xs, .tup ys, M, R => xs ≠ [] ∧ xs.length + ys.length ≤ sizeLine ∧ R (.tup (xs ++ ys)) M
  | .ref a, .ref b, M, R => ∃ xs ys, M a = some (.lst xs) ∧ M b = some (.lst ys) ∧ xs.length + ys.length ≤ sizeLine ∧ New (xs ++ ys) M R
  | .rl xs, .ref b, M, R => ∃ ys, M b = some (.lst ys) ∧ xs.length + ys.length ≤ sizeLine ∧ New (xs ++ ys) M R
  | .ref a, .rl ys, M, R => ∃ xs, M a = some (.lst xs) ∧ xs.length + ys.length ≤ sizeLine ∧ New (xs ++ ys) M R
  | .rl xs, .rl ys, M, R => xs.length + ys.length ≤ sizeLine ∧ New (xs ++ ys) M R
  | _, _, _, _ => False
theorem o_add : OpR X (binaryOp .Add) (upO X.K rAdd) := by
  rintro pins s σ H x y v u Q I rx ry ⟨wx, wy, M, R, am, ax, ay, h, k⟩
  cases ax <;> cases ay <;> first | exact (show False from h).elim | skip
  case int.int i j => exact op_add pins s σ H _ _ v u Q I rx ry ⟨i, j, rfl, rfl, k.at am (.int _) h⟩
  case str.str i j => exact op_add_str pins s σ H _ _ v u Q I rx ry ⟨i, j, rfl, rfl, h.1, k.at am (.str _) h.2⟩
  case tup.tup a xs ws e q b ys zs e2 q2 =>
    refine op_catT pins s σ H _ _ v u Q I rx ry ⟨a, b, xs, ys, rfl, rfl, SqT.of e, SqT.of e2, fun z => ?_, by rw [q.length, q2.length]; exact h.2.1, fun z => ?_, fun _ p hp => ?_⟩
    · subst z; cases q; exact h.1 rfl
    · subst z; cases q2
      have := h.2.2
      rw [List.append_nil] at this
      exact k.at am (.tup e q) this
    · exact laidT am k hp (q.append q2) h.2.2
  case ref.ref a b =>
    obtain ⟨xs, ys, e1, e2, hl, r⟩ := h
    obtain ⟨vs, f1, q1⟩ := am.lst e1
    obtain ⟨us, f2, q2⟩ := am.lst e2
    exact op_cat pins s σ H _ _ v u Q I rx ry ⟨a, b, vs, us, rfl, rfl, f1, f2, by rw [q1.length, q2.length]; exact hl, fun p hp => laidL am k hp (q1.append q2) r⟩
  case rl.ref a vs xs f1 _ q1 b =>
    obtain ⟨ys, e2, hl, r⟩ := h
    obtain ⟨us, f2, q2⟩ := am.lst e2
    exact op_cat pins s σ H _ _ v u Q I rx ry ⟨a, b, vs, us, rfl, rfl, f1, f2, by rw [q1.length, q2.length]; exact hl, fun p hp => laidL am k hp (q1.append q2) r⟩
  case ref.rl a b us ys f2 _ q2 =>
    obtain ⟨xs, e1, hl, r⟩ := h
    obtain ⟨vs, f1, q1⟩ := am.lst e1
    exact op_cat pins s σ H _ _ v u Q I rx ry ⟨a, b, vs, us, rfl, rfl, f1, f2, by rw [q1.length, q2.length]; exact hl, fun p hp => laidL am k hp (q1.append q2) r⟩
  case rl.rl a vs xs f1 _ q1 b us ys f2 _ q2 =>
    exact op_cat pins s σ H _ _ v u Q I rx ry ⟨a, b, vs, us, rfl, rfl, f1, f2, by rw [q1.length, q2.length]; exact h.1, fun p hp => laidL am k hp (q1.append q2) h.2⟩
def rII (C : Int → Int → Prop) (g : Int → Int → W) : R3
  | .int i, .int j, M, R => C i j ∧ R (g i j) M
  | _, _, _, _ => False
theorem o_II {f : Value → Value → Sem Value} {C : Int → Int → Prop} {g : Int → Int → V} {g' : Int → Int → W} (h0 : OpR X f (rI C g)) (hg : ∀ H M i j, AV X.K H M (g i j) (g' i j)) : OpR X f (upO X.K (rII C g')) := by
  rintro pins s σ H x y v u Q I rx ry ⟨wx, wy, M, R, am, ax, ay, h, k⟩
  cases ax <;> cases ay <;> first | exact (show False from h).elim | skip
  case int.int i j => exact h0 pins s σ H _ _ v u Q I rx ry ⟨i, j, rfl, rfl, h.1, k.at am (hg H M i j) h.2⟩
def rII0 (g : Int → Int → W) : R3
  | .int i, .int j, M, R => R (g i j) M
  | _, _, _, _ => False
theorem o_II0 {f : Value → Value → Sem Value} {g : Int → Int → V} {g' : Int → Int → W} (h0 : OpR X f (rI0 g)) (hg : ∀ H M i j, AV X.K H M (g i j) (g' i j)) : OpR X f (upO X.K (rII0 g')) := by
  rintro pins s σ H x y v u Q I rx ry ⟨wx, wy, M, R, am, ax, ay, h, k⟩
  cases ax <;> cases ay <;> first | exact (show False from h).elim | skip
  case int.int i j => exact h0 pins s σ H _ _ v u Q I rx ry ⟨i, j, rfl, rfl, k.at am (hg H M i j) h⟩
abbrev rSub : R3 := rII0 fun i j => .int (i - j)
theorem o_sub : OpR X (binaryOp .Sub) (upO X.K rSub) := o_II0 op_sub fun _ _ _ _ => .int _
abbrev rFdiv : R3 := rII CDivB fun i j => .int (i / j)
theorem o_fdiv : OpR X (binaryOp .FloorDiv) (upO X.K rFdiv) := o_II op_fdivB fun _ _ _ _ => .int _
abbrev rMod : R3 := rII (fun _ j => 0 < j) fun i j => .int (i % j)
theorem o_mod : OpR X (binaryOp .Mod) (upO X.K rMod) := o_II op_mod fun _ _ _ _ => .int _
abbrev rPow : R3 := rII CPow fun i j => .int (i ^ j.toNat)
theorem o_pow : OpR X (binaryOp .Pow) (upO X.K rPow) := o_II op_pow fun _ _ _ _ => .int _
abbrev rShr : R3 := rII (fun _ j => 0 ≤ j) fun i j => .int (i / 2 ^ j.toNat)
theorem o_shr : OpR X (binaryOp .RShift) (upO X.K rShr) := o_II op_shr fun _ _ _ _ => .int _
abbrev rBand : R3 := rII0 fun i j => .int (Builtin.bitAnd i j)
theorem o_band : OpR X (binaryOp .BitAnd) (upO X.K rBand) := o_II0 op_and fun _ _ _ _ => .int _
def rMul : R3
  | .int i, .int j, M, R => (CMul i j ∨ CBig i j) ∧ R (.int (i * j)) M
  | .str z, .int n, M, R => z.length ≤ 16 ∧ -(2 ^ 63) ≤ n ∧ n ≤ 1048576 ∧ R (.str (Txt.mul z n)) M
  | .ref a, .int n, M, R => ∃ xs, M a = some (.lst xs) ∧ -(2 ^ 63) ≤ n ∧ n < 2 ^ 63 ∧ xs.length * n.toNat ≤ sizeLine ∧ New (List.replicate n.toNat xs).flatten M R
  | .rl xs, .int n, M, R => -(2 ^ 63) ≤ n ∧ n < 2 ^ 63 ∧ xs.length * n.toNat ≤ sizeLine ∧ New (List.replicate n.toNat xs).flatten M R
  | _, _, _, _ => False
theorem o_mul : OpR X (binaryOp .Mult) (upO X.K rMul) := by
  rintro pins s σ H x y v u Q I rx ry ⟨wx, wy, M, R, am, ax, ay, h, k⟩
  cases ax <;> cases ay <;> first | exact (show False from h).elim | skip
  case int.int i j =>
    rcases h with ⟨h | h, r⟩
    · exact op_mul pins s σ H _ _ v u Q I rx ry ⟨i, j, rfl, rfl, h, k.at am (.int _) r⟩
    · exact op_mulB pins s σ H _ _ v u Q I rx ry ⟨i, j, rfl, rfl, h, k.at am (.int _) r⟩
  case str.int z n => exact op_mulS pins s σ H _ _ v u Q I rx ry ⟨z, n, rfl, rfl, h.1, h.2.1, h.2.2.1, k.at am (.str _) h.2.2.2⟩
  case ref.int a n =>
    obtain ⟨xs, e, h1, h2, h3, r⟩ := h
    obtain ⟨vs, f, q⟩ := am.lst e
    exact op_rep pins s σ H _ _ v u Q I rx ry ⟨a, n, vs, rfl, rfl, f, h1, h2, by rw [q.length]; exact h3, fun p hp => laidL am k hp (q.flatRep _) r⟩
  case rl.int a vs xs f _ q n =>
    obtain ⟨h1, h2, h3, r⟩ := h
    exact op_rep pins s σ H _ _ v u Q I rx ry ⟨a, n, vs, rfl, rfl, f, h1, h2, by rw [q.length]; exact h3, fun p hp => laidL am k hp (q.flatRep _) r⟩
def strLt (i j : Str) : Bool := decide (i.cps.toList < j.cps.toList)
def rLt : R3
  | .int i, .int j, M, R => R (.bl (decide (i < j))) M
  | .str i, .str j, M, R => R (.bl (strLt i j)) M
  | _, _, _, _ => False
theorem o_lt : OpR X (compareOp .Lt) (upO X.K rLt) := by
  rintro pins s σ H x y v u Q I rx ry ⟨wx, wy, M, R, am, ax, ay, h, k⟩
  cases ax <;> cases ay <;> first | exact (show False from h).elim | skip
  case int.int i j => exact op_lt pins s σ H _ _ v u Q I rx ry ⟨i, j, rfl, rfl, k.at am (.bl _) h⟩
  case str.str i j => exact op_lt_str pins s σ H _ _ v u Q I rx ry ⟨i, j, rfl, rfl, k.at am (.bl _) h⟩
abbrev rLe : R3 := rII0 fun i j => .bl (decide (i ≤ j))
theorem o_le : OpR X (compareOp .LtE) (upO X.K rLe) := o_II0 op_le fun _ _ _ _ => .bl _
abbrev rGt : R3 := rII0 fun i j => .bl (decide (j < i))
theorem o_gt : OpR X (compareOp .Gt) (upO X.K rGt) := o_II0 op_gt fun _ _ _ _ => .bl _
abbrev rGe : R3 := rII0 fun i j => .bl (decide (j ≤ i))
theorem o_ge : OpR X (compareOp .GtE) (upO X.K rGe) := o_II0 op_ge fun _ _ _ _ => .bl _
mutual
inductive Snap (M : Mm) : W → PyData → Prop
  | non : Snap M .non .none
  | bl (b : Bool) : Snap M (.bl b) (.bool b)
  | int (i : Int) : Snap M (.int i) (.int i)
  | str (x : Str) : Snap M (.str x) (.str x)
  | tup {ws : List W} {ds : List PyData} : Snaps M ws ds → Snap M (.tup ws) (.tuple ds)
  | rl {ws : List W} {ds : List PyData} : Snaps M ws ds → Snap M (.rl ws) (.list ds)
  | ref {a : Addr} {ws : List W} {ds : List PyData} : M a = some (.lst ws) → Snaps M ws ds → Snap M (.ref a) (.list ds)
inductive Snaps (M : Mm) : List W → List PyData → Prop
  | nil : Snaps M [] []
  | cons {w : W} {ws : List W} {d : PyData} {ds : List PyData} : Snap M w d → Snaps M ws ds → Snaps M (w :: ws) (d :: ds)
end
section
variable {pins : List (Addr × Obj)} {σ : SV} {H : Hp} {s : Shared} {M : Mm}
mutual
theorem Snap.reads (I : Inv X pins σ H s) (am : AM X.K H M) : ∀ {w : W} {d : PyData} {v : V} {u : Value}, Snap M w d → AV X.K H M v w → RelV v u → ∃ as, Reads s.heap u d as
  | _, _, _, _, .non, av, r => by cases av; cases r; exact ⟨_, .none⟩
  | _, _, _, _, .bl b, av, r => by cases av; cases r; exact ⟨_, .bool b⟩
  | _, _, _, _, .int i, av, r => by cases av; obtain ⟨t, rfl⟩ := r; exact ⟨_, .int i t⟩
  | _, _, _, _, .str x, av, r => by cases av; obtain ⟨t, rfl⟩ := r; exact ⟨_, .str x t⟩
  | _, _, _, _, .tup h, av, r => by
    cases av with
    | tup e q =>
      cases r
      obtain ⟨its, rv, ⟨o, e1, e2, n, e3⟩, _⟩ := I.tuple (SqT.of e)
      obtain ⟨as, z⟩ := Snaps.reads I am h q rv
      exact ⟨_, .tuple e1 e2 e3 (by simpa using z)⟩
  | _, _, _, _, .rl h, av, r => by
    cases av with
    | rl e _ q =>
      cases r
      obtain ⟨its, rv, pl, _⟩ := I.list (SqL.of e)
      obtain ⟨o, e1, e2, n, e3⟩ := pl.isList
      obtain ⟨as, z⟩ := Snaps.reads I am h q rv
      exact ⟨_, .list e1 e2 e3 (by simpa using z)⟩
  | _, _, _, _, .ref e h, av, r => by
    cases av with
    | ref a =>
      cases r
      obtain ⟨vs, e0, q⟩ := am.lst e
      obtain ⟨its, rv, pl, _⟩ := I.list (SqL.of e0)
      obtain ⟨o, e1, e2, n, e3⟩ := pl.isList
      obtain ⟨as, z⟩ := Snaps.reads I am h q rv
      exact ⟨_, .list e1 e2 e3 (by simpa using z)⟩
theorem Snaps.reads (I : Inv X pins σ H s) (am : AM X.K H M) : ∀ {ws : List W} {ds : List PyData} {vs : List V} {us : List Value}, Snaps M ws ds → AVs X.K H M vs ws → Vals vs us → ∃ as, ReadsAll s.heap us ds as
  | _, _, _, _, .nil, av, r => by cases av; cases r; exact ⟨_, .nil⟩
  | _, _, _, _, .cons h t, av, r => by
    cases av with
    | cons a b =>
      cases r with
      | cons r1 r2 =>
        obtain ⟨x, q1⟩ := Snap.reads I am h a r1
        obtain ⟨y, q2⟩ := Snaps.reads I am t b r2
        exact ⟨_, .cons q1 q2⟩
end
end
def rEqD (neg : Bool) : R3 := fun x y M R => ∃ da db, Snap M x da ∧ Snap M y db ∧ Flt da ∧ Flt db ∧ R (.bl (if neg then !PyData.eqv da db else PyData.eqv da db)) M
def rEq (neg : Bool) : R3
  | .int i, .int j, M, R => R (.bl (if neg then !decide (i = j) else decide (i = j))) M
  | .str i, .str j, M, R => R (.bl (if neg then !decide (i = j) else decide (i = j))) M
  | .bl i, .bl j, M, R => R (.bl (if neg then !decide (i = j) else decide (i = j))) M
  | x, y, M, R => rEqD neg x y M R
theorem dInt {i j : Int} : decide (V.int i = V.int j) = decide (i = j) := by rw [Bool.eq_iff_iff]; simp
theorem dStr {i j : Str} : decide (V.str i = V.str j) = decide (i = j) := by rw [Bool.eq_iff_iff]; simp
theorem dBl {i j : Bool} : decide (V.bl i = V.bl j) = decide (i = j) := by rw [Bool.eq_iff_iff]; simp
theorem o_eq (hu : X.A.units + 64 < cLine) : OpR X (compareOp .Eq) (upO X.K (rEq false)) := by
  rintro pins s σ H x y v u Q I rx ry ⟨wx, wy, M, R, am, ax, ay, h, k⟩
  have data : rEqD false wx wy M R → wpAny (model X.prog X.w) X.A (compareOp .Eq v u) (EP X pins σ Q) X.xe s := fun h => by
    obtain ⟨da, db, ha, hb, fa, fb, q⟩ := h
    obtain ⟨as, ra⟩ := ha.reads I am ax rx
    obtain ⟨bs, rb⟩ := hb.reads I am ay ry
    exact SeqAt.compareEq_reads ra rb fa.1 fb.1 (Nat.lt_of_le_of_lt (Nat.add_le_add_left (Nat.le_trans (Nat.min_le_left _ _) (Nat.le_trans fa.2 (by decide))) _) hu) ⟨.bl _, H, I, rfl, k.at am (.bl _) q⟩
  cases ax <;> cases ay <;> first | exact data h | skip
  case int.int i j => exact op_eq pins s σ H _ _ v u Q I rx ry ⟨rfl, by rw [dInt]; exact k.at am (.bl _) h⟩
  case str.str i j => exact op_eq pins s σ H _ _ v u Q I rx ry ⟨rfl, by rw [dStr]; exact k.at am (.bl _) h⟩
  case bl.bl i j => exact op_eq pins s σ H _ _ v u Q I rx ry ⟨rfl, by rw [dBl]; exact k.at am (.bl _) h⟩
theorem o_ne (hu : X.A.units + 64 < cLine) : OpR X (compareOp .NotEq) (upO X.K (rEq true)) := by
  rintro pins s σ H x y v u Q I rx ry ⟨wx, wy, M, R, am, ax, ay, h, k⟩
  have data : rEqD true wx wy M R → wpAny (model X.prog X.w) X.A (compareOp .NotEq v u) (EP X pins σ Q) X.xe s := fun h => by
    obtain ⟨da, db, ha, hb, fa, fb, q⟩ := h
    obtain ⟨as, ra⟩ := ha.reads I am ax rx
    obtain ⟨bs, rb⟩ := hb.reads I am ay ry
    exact SeqAt.compareNe_reads ra rb fa.1 fb.1 (Nat.lt_of_le_of_lt (Nat.add_le_add_left (Nat.le_trans (Nat.min_le_left _ _) (Nat.le_trans fa.2 (by decide))) _) hu) ⟨.bl _, H, I, rfl, k.at am (.bl _) q⟩
  cases ax <;> cases ay <;> first | exact data h | skip
  case int.int i j => exact op_ne pins s σ H _ _ v u Q I rx ry ⟨rfl, by rw [dInt]; exact k.at am (.bl _) h⟩
  case str.str i j => exact op_ne pins s σ H _ _ v u Q I rx ry ⟨rfl, by rw [dStr]; exact k.at am (.bl _) h⟩
  case bl.bl i j => exact op_ne pins s σ H _ _ v u Q I rx ry ⟨rfl, by rw [dBl]; exact k.at am (.bl _) h⟩
def wK : Key → W
  | .inl i => .int i
  | .inr x => .str x
def lookW {κ : Type} [DecidableEq κ] (kvs : List (κ × W)) (k : κ) : Option W := (kvs.find? fun kv => decide (kv.1 = k)).map (·.2)
def putW {κ : Type} [DecidableEq κ] (kvs : List (κ × W)) (k : κ) (v : W) : List (κ × W) :=
  if (kvs.any fun kv => decide (kv.1 = k)) = true then kvs.map (fun kv => if kv.1 = k then (kv.1, v) else kv) else kvs ++ [(k, v)]
theorem AV.key {K : PySem.W.Frag} {H : Hp} {M : Mm} {v : V} {k : Key} (h : AV K H M v (wK k)) : v = kV k := by
  cases k <;> (cases h; rfl)
theorem AVs.keys {K : PySem.W.Frag} {H : Hp} {M : Mm} : ∀ {vs : List V} {k : List Key}, AVs K H M vs (k.map wK) → vs = k.map kV
  | _, [], h => by cases h; rfl
  | _, a :: r, h => by
    cases h with
    | cons x y => rw [x.key, AVs.keys y]; rfl
section
variable {κ : Type} [DecidableEq κ] {K : PySem.W.Frag} {H : Hp} {M : Mm}
theorem pkv_look {ks : List (κ × V)} {kvs : List (κ × W)} (h : PKV K H M κ ks kvs) (k : κ) : (lookW kvs k = none ∧ valV ks k = none) ∨ ∃ v w, lookW kvs k = some w ∧ valV ks k = some v ∧ AV K H M v w := by
  induction h with
  | nil => exact .inl ⟨rfl, rfl⟩
  | @cons p q ps qs r t ih =>
    by_cases e : p.1 = k
    · refine .inr ⟨p.2, q.2, ?_, ?_, r.2⟩
      · unfold lookW; rw [List.find?_cons, decide_eq_true (by rw [← r.1]; exact e)]; rfl
      · exact valV_pos e
    · have e2 : ¬ q.1 = k := by rw [← r.1]; exact e
      have l : lookW (q :: qs) k = lookW qs k := by unfold lookW; rw [List.find?_cons, decide_eq_false e2]
      rw [l, valV_neg e]
      exact ih
theorem pkv_any {ks : List (κ × V)} {kvs : List (κ × W)} (h : PKV K H M κ ks kvs) (k : κ) : (ks.any fun kv => decide (kv.1 = k)) = (kvs.any fun kv => decide (kv.1 = k)) := by
  induction h with
  | nil => rfl
  | cons r t ih => rw [List.any_cons, List.any_cons, ih, r.1]
theorem pkv_map {ks : List (κ × V)} {kvs : List (κ × W)} {v : V} {w : W} {k : κ} (av : AV K H M v w) (h : PKV K H M κ ks kvs) : PKV K H M κ (ks.map (fun kv => if kv.1 = k then (kv.1, v) else kv)) (kvs.map (fun kv => if kv.1 = k then (kv.1, w) else kv)) := by
  induction h with
  | nil => exact .nil
  | @cons p q ps qs r t ih =>
    rw [List.map_cons, List.map_cons]
    refine .cons ?_ ih
    by_cases e : p.1 = k
    · rw [if_pos e, if_pos (by rw [← r.1]; exact e)]; exact ⟨r.1, av⟩
    · rw [if_neg e, if_neg (by rw [← r.1]; exact e)]; exact r
theorem pkv_snoc {ks : List (κ × V)} {kvs : List (κ × W)} {v : V} {w : W} {k : κ} (av : AV K H M v w) (h : PKV K H M κ ks kvs) : PKV K H M κ (ks ++ [(k, v)]) (kvs ++ [(k, w)]) := by
  induction h with
  | nil => exact .cons ⟨rfl, av⟩ .nil
  | cons r t ih => exact .cons r ih
theorem pkv_put {ks : List (κ × V)} {kvs : List (κ × W)} {v : V} {w : W} (h : PKV K H M κ ks kvs) (k : κ) (av : AV K H M v w) : PKV K H M κ (putK ks k v) (putW kvs k w) := by
  unfold putK putW
  rw [pkv_any h k]
  split
  · exact pkv_map av h
  · exact pkv_snoc av h
end
def dGet (M : Mm) : W → W → Option W → Prop
  | .ref a, y, o => (∃ kvs k, M a = some (.dK kvs) ∧ y = wK k ∧ o = lookW kvs k) ∨ ∃ kvs k, M a = some (.dT kvs) ∧ y = .tup (k.map wK) ∧ o = lookW kvs k
  | .dk kvs, y, o => ∃ k, y = wK k ∧ o = lookW kvs k
  | .dt kvs, y, o => ∃ k, y = .tup (k.map wK) ∧ o = lookW kvs k
  | _, _, _ => False
theorem dGet_k {K : PySem.W.Frag} {H : Hp} {M : Mm} {a : Addr} {y : V} {k : Key} {ks : List (Key × V)} {kvs : List (Key × W)} (e1 : H a = some (.dK ks)) (q : PKV K H M Key ks kvs) (ay : AV K H M y (wK k)) : (lookW kvs k = none ∧ DGet H a y none) ∨ ∃ v w, lookW kvs k = some w ∧ DGet H a y (some v) ∧ AV K H M v w := by
  rw [ay.key]
  rcases pkv_look q k with ⟨l1, l2⟩ | ⟨v, w, l1, l2, av⟩
  · exact .inl ⟨l1, by rw [← l2]; exact DGet.k e1⟩
  · exact .inr ⟨v, w, l1, by rw [← l2]; exact DGet.k e1, av⟩
theorem dGet_t {K : PySem.W.Frag} {H : Hp} {M : Mm} {a : Addr} {y : V} {k : List Key} {ks : List (List Key × V)} {kvs : List (List Key × W)} (e1 : H a = some (.dT ks)) (q : PKV K H M (List Key) ks kvs) (ay : AV K H M y (.tup (k.map wK))) : (lookW kvs k = none ∧ DGet H a y none) ∨ ∃ v w, lookW kvs k = some w ∧ DGet H a y (some v) ∧ AV K H M v w := by
  cases ay with
  | tup eb qb =>
    have eb' := eb
    rw [qb.keys] at eb'
    rcases pkv_look q k with ⟨l1, l2⟩ | ⟨v, w, l1, l2, av⟩
    · exact .inl ⟨l1, by rw [← l2]; exact DGet.t e1 eb'⟩
    · exact .inr ⟨v, w, l1, by rw [← l2]; exact DGet.t e1 eb', av⟩
theorem dGet_up {K : PySem.W.Frag} {H : Hp} {M : Mm} {x y : V} {wx wy : W} {o : Option W} (am : AM K H M) (ax : AV K H M x wx) (ay : AV K H M y wy) (h : dGet M wx wy o) : ∃ a, x = .ref a ∧ ((o = none ∧ DGet H a y none) ∨ ∃ v w, o = some w ∧ DGet H a y (some v) ∧ AV K H M v w) := by
  cases ax <;> first | exact (show False from h).elim | skip
  case ref a =>
    rcases h with ⟨kvs, k, e, rfl, rfl⟩ | ⟨kvs, k, e, rfl, rfl⟩
    · obtain ⟨ks, e1, q⟩ := am _ _ e
      exact ⟨a, rfl, dGet_k e1 q ay⟩
    · obtain ⟨ks, e1, q⟩ := am _ _ e
      exact ⟨a, rfl, dGet_t e1 q ay⟩
  case dk a ks kvs e _ ke q =>
    obtain ⟨k, rfl, rfl⟩ := h
    exact ⟨a, rfl, dGet_k e (pkv_of ke q) ay⟩
  case dt a ks kvs e _ ke q =>
    obtain ⟨k, rfl, rfl⟩ := h
    exact ⟨a, rfl, dGet_t e (pkv_of ke q) ay⟩
def rIx : R3
  | .tup ws, .int i, M, R => ∃ w, atI ws i = some w ∧ R w M
  | .rl ws, .int i, M, R => ∃ w, atI ws i = some w ∧ R w M
  | .sc ws, .int i, M, R => ∃ w, atI ws i = some w ∧ R w M
  | .dk kvs, y, M, R => ∃ w, dGet M (.dk kvs) y (some w) ∧ R w M
  | .dt kvs, y, M, R => ∃ w, dGet M (.dt kvs) y (some w) ∧ R w M
  | .str z, .int i, M, R => z.length ≤ sizeLine ∧ ∃ c, atI z.cps.toList i = some c ∧ R (.str ⟨#[c]⟩) M
  | .ref a, .int i, M, R => (∃ ws w, M a = some (.lst ws) ∧ atI ws i = some w ∧ R w M) ∨ ∃ w, dGet M (.ref a) (.int i) (some w) ∧ R w M
  | .ref a, y, M, R => ∃ w, dGet M (.ref a) y (some w) ∧ R w M
  | _, _, _, _ => False
theorem atI_up {K : PySem.W.Frag} {H : Hp} {M : Mm} {vs : List V} {ws : List W} {i : Int} {w : W} (q : AVs K H M vs ws) (h : atI ws i = some w) : ∃ v, atI vs i = some v ∧ AV K H M v w := by
  unfold atI at h ⊢
  rw [q.length]
  cases e : ixN ws.length i with
  | none => rw [e] at h; cases h
  | some j =>
    rw [e] at h
    exact q.getW (i := j) h
theorem ix_dict (hu : X.A.units + 1 < cLine) : IxR X (fun x y H Q => ∃ a v, x = .ref a ∧ DGet H a y (some v) ∧ Q v H) := by
  intro value slice pins s σ H x y v u Q I rx ry h hs
  obtain ⟨a, z, rfl, g, q⟩ := h
  cases rx
  exact tail_any (dict_typeIs I g) PySem.F.slot_dict_getitem.lookup (d_getItem hu I g ry fun w' s3 I3 rw' => ⟨z, H, I3, rw', q⟩) hs
theorem ix_up (hu : X.A.units + 1 < cLine) : IxR X (upO X.K rIx) := by
  rintro value slice pins s σ H x y v u Q I rx ry ⟨wx, wy, M, R, am, ax, ay, h, k⟩ hs
  have dict : (∃ w, dGet M wx wy (some w) ∧ R w M) → wpAny (model X.prog X.w) X.A (subscriptTail value slice v u) (EP X pins σ Q) X.xe s := fun ⟨w, g, r⟩ => by
    obtain ⟨a, e, g⟩ := dGet_up am ax ay g
    rcases g with ⟨z, _⟩ | ⟨z, w', e', g', av⟩
    · cases z
    · cases e'
      exact ix_dict hu value slice pins s σ H x y v u Q I rx ry ⟨a, z, e, g', k.at am av r⟩ hs
  cases ax <;> first | exact (show False from h).elim | skip
  case str z =>
    cases ay <;> first | exact (show False from h).elim | skip
    case int i =>
      obtain ⟨hz, c, e, r⟩ := h
      exact ix_str value slice pins s σ H _ _ v u Q I rx ry ⟨z, i, c, rfl, rfl, hz, e, k.at am (.str _) r⟩ hs
  case tup a xs ws e q =>
    cases ay <;> first | exact (show False from h).elim | skip
    case int i =>
      obtain ⟨w, e2, r⟩ := h
      obtain ⟨z, e3, av⟩ := atI_up q e2
      exact ix_tup value slice pins s σ H _ _ v u Q I rx ry ⟨a, xs, i, z, rfl, rfl, SqT.of e, e3, k.at am av r⟩ hs
  case dk a ks kvs e n ke q => exact dict (by cases ay <;> exact h)
  case dt a ks kvs e n ke q => exact dict (by cases ay <;> exact h)
  case rl a xs ws e _ q =>
    cases ay <;> first | exact (show False from h).elim | skip
    case int i =>
      obtain ⟨w, e2, r⟩ := h
      obtain ⟨z, e3, av⟩ := atI_up q e2
      exact ix_list value slice pins s σ H _ _ v u Q I rx ry ⟨a, xs, i, z, rfl, rfl, SqL.of e, e3, k.at am av r⟩ hs
  case sc a xs ws e q =>
    cases ay <;> first | exact (show False from h).elim | skip
    case int i =>
      obtain ⟨w, e2, r⟩ := h
      obtain ⟨z, e3, av⟩ := atI_up q e2
      exact ix_list value slice pins s σ H _ _ v u Q I rx ry ⟨a, xs, i, z, rfl, rfl, e.sq, e3, k.at am av r⟩ hs
  case ref a =>
    cases ay <;> first | exact dict h | skip
    case int i =>
      rcases h with ⟨ws, w, e, e2, r⟩ | h
      · obtain ⟨vs, f, q⟩ := am.lst e
        obtain ⟨z, e3, av⟩ := atI_up q e2
        exact ix_list value slice pins s σ H _ _ v u Q I rx ry ⟨a, vs, i, z, rfl, rfl, SqL.of f, e3, k.at am av r⟩ hs
      · exact dict h
variable {a b : Expr} {ta tb : TE3} {pos : Pos}
theorem v_ix (hu : X.A.units + 1 < cLine) (ha : E3 X a ta) (hb : E3 X b tb) (hs : PlainIx b := by exact fun _ _ => rfl) : E3 X (.Subscript a b pos) (vOp rIx ta tb) := (pe_ix (ix_up hu) ha hb hs).weak fun _ _ _ h => vOp_up h
def cutW (ws : List W) (lo hi : Option Int) : List W := (ws.drop (HT.sIx ws.length 0 lo)).take (HT.sIx ws.length ws.length hi - HT.sIx ws.length 0 lo)
def rSl : W → Option Int → Option Int → Mm → K3 → Prop
  | .rl ws, lo, hi, M, R => New (cutW ws lo hi) M R
  | .sc ws, lo, hi, M, R => New (cutW ws lo hi) M R
  | .ref a, lo, hi, M, R => ∃ ws, M a = some (.lst ws) ∧ New (cutW ws lo hi) M R
  | .tup ws, lo, hi, M, R => ¬ (HT.sIx ws.length 0 lo = 0 ∧ HT.sIx ws.length ws.length hi = ws.length) ∧ R (.tup (cutW ws lo hi)) M
  | _, _, _, _, _ => False
theorem cut_up {K : PySem.W.Frag} {H : Hp} {M : Mm} {vs : List V} {ws : List W} {lo hi : Option Int} (q : AVs K H M vs ws) : AVs K H M (cutV vs lo hi) (cutW ws lo hi) := by
  unfold cutV cutW
  rw [q.length]
  exact (q.drop _).take _
def upSl (K : PySem.W.Frag) (r : W → Option Int → Option Int → Mm → K3 → Prop) : V → Option Int → Option Int → Hp → VK → Prop := fun x lo hi H Q => ∃ wx M R, AM K H M ∧ AV K H M x wx ∧ r wx lo hi M R ∧ Up K H M R Q
theorem sl_up : SlR X (upSl X.K rSl) := by
  rintro pins s σ H x v vl vu lo hi sl Q I rx hs pl pu ⟨wx, M, R, am, ax, h, k⟩
  cases ax <;> first | exact (show False from h).elim | skip
  case tup a xs ws e q => exact sl_tup pins s σ H _ v vl vu lo hi sl Q I rx hs pl pu ⟨a, xs, rfl, SqT.of e, by rw [q.length]; exact h.1, fun p hp => laidT am k hp (cut_up q) h.2⟩
  case sc a xs ws e q => exact sl_list pins s σ H _ v vl vu lo hi sl Q I rx hs pl pu ⟨a, xs, rfl, e.sq, fun p hp => laidL am k hp (cut_up q) h⟩
  case rl a xs ws e _ q => exact sl_list pins s σ H _ v vl vu lo hi sl Q I rx hs pl pu ⟨a, xs, rfl, SqL.of e, fun p hp => laidL am k hp (cut_up q) h⟩
  case ref a =>
    obtain ⟨ws, e, r⟩ := h
    obtain ⟨vs, f, q⟩ := am.lst e
    exact sl_list pins s σ H _ v vl vu lo hi sl Q I rx hs pl pu ⟨a, vs, rfl, SqL.of f, fun p hp => laidL am k hp (cut_up q) r⟩
abbrev TO3 := S3 → Mm → (Option Int → Mm → Prop) → Prop
def upOp (K : PySem.W.Frag) (t : TO3) : TO := fun σ H Q => ∃ (τ : S3) (M : Mm) (R : Option Int → Mm → Prop), AS K H M σ τ ∧ AM K H M ∧ t τ M R ∧ ∀ o H' M', Kp H M H' M' → AM K H' M' → R o M' → Q o H'
def sNo : TO3 := fun _ M Q => Q none M
def sPt (t : TE3) : TO3 := fun τ M Q => t τ M fun x M1 => ∃ i, x = .int i ∧ Q (some i) M1
theorem s_none : PO X none (upOp X.K sNo) := po_none.weak fun σ H Q ⟨τ, M, R, as, am, h, k⟩ => k none H M (Kp.refl am) am h
theorem s_some (h : E3 X a ta) : PO X (some a) (upOp X.K (sPt ta)) := (po_some h).weak fun σ H Q ⟨τ, M, R, as, am, h, k⟩ => ⟨τ, M, _, as, am, h, fun x H1 wx M1 k1 am1 ax ⟨i, e, h1⟩ => by
  subst e; cases ax; exact ⟨i, rfl, k _ _ _ k1 am1 h1⟩⟩
def vSl (ta : TE3) (tl th : TO3) : TE3 := fun τ M R => ta τ M fun x M1 => tl τ M1 fun l M2 => th τ M2 fun u M3 => rSl x l u M3 R
def flatW : W → Bool
  | .non => true
  | .bl _ => true
  | .int _ => true
  | .str _ => true
  | _ => false
def eqW : W → W → Bool
  | .non, .non => true
  | .bl a, .bl b => a == b
  | .bl a, .int b => (if a then 1 else 0) == b
  | .int a, .bl b => a == (if b then 1 else 0)
  | .int a, .int b => a == b
  | .str a, .str b => a == b
  | _, _ => false
def inW (x : W) (ws : List W) : Bool := ws.any fun y => eqW y x
theorem AV.flat {K : PySem.W.Frag} {H : Hp} {M : Mm} {v : V} {w : W} (h : AV K H M v w) (f : flatW w = true) : flatV v = true := by cases h <;> first | rfl | exact f
theorem AV.eq {K : PySem.W.Frag} {H : Hp} {M : Mm} {v u : V} {w z : W} (h : AV K H M v w) (h2 : AV K H M u z) (f : flatW w = true) (f2 : flatW z = true) : eqV v u = eqW w z := by
  cases h <;> cases h2 <;> first | rfl | (exact absurd f Bool.false_ne_true) | (exact absurd f2 Bool.false_ne_true)
theorem AVs.inn {K : PySem.W.Frag} {H : Hp} {M : Mm} {u : V} {z : W} (hz : AV K H M u z) (fz : flatW z = true) : ∀ {vs : List V} {ws : List W}, AVs K H M vs ws → ws.all flatW = true → vs.all flatV = true ∧ inV u vs = inW z ws
  | _, _, .nil, _ => ⟨rfl, rfl⟩
  | _, _, .cons x r, f => by
    rw [List.all_cons, Bool.and_eq_true] at f
    obtain ⟨h1, h2⟩ := AVs.inn hz fz r f.2
    refine ⟨by rw [List.all_cons, x.flat f.1, h1]; rfl, ?_⟩
    unfold inV inW at h2 ⊢
    rw [List.any_cons, List.any_cons, h2, x.eq hz f.1 fz]
def occ (i j : Str) : Bool := !(Builtin.Str.occurrences j i 0 j.length 1).isEmpty
def rIn (neg : Bool) : R3
  | .str i, .str j, M, R => R (.bl (if neg then !occ i j else occ i j)) M
  | x, .tup ws, M, R => flatW x = true ∧ ws.all flatW = true ∧ R (.bl (if neg then !inW x ws else inW x ws)) M
  | x, .rl ws, M, R => flatW x = true ∧ ws.all flatW = true ∧ R (.bl (if neg then !inW x ws else inW x ws)) M
  | x, .ref a, M, R => (∃ ws, M a = some (.lst ws) ∧ flatW x = true ∧ ws.all flatW = true ∧ R (.bl (if neg then !inW x ws else inW x ws)) M) ∨ ∃ o, dGet M (.ref a) x o ∧ R (.bl (if neg then !o.isSome else o.isSome)) M
  | x, .dk kvs, M, R => ∃ o, dGet M (.dk kvs) x o ∧ R (.bl (if neg then !o.isSome else o.isSome)) M
  | x, .dt kvs, M, R => ∃ o, dGet M (.dt kvs) x o ∧ R (.bl (if neg then !o.isSome else o.isSome)) M
  | _, _, _, _ => False
theorem o_in (hu : X.A.units + 1 < cLine) : OpR X (compareOp .In) (upO X.K (rIn false)) := by
  rintro pins s σ H x y v u Q I rx ry ⟨wx, wy, M, R, am, ax, ay, h, k⟩
  have dict : ∀ {y : V} {u : Value} {wy : W}, RelV y u → AV X.K H M y wy → ∀ o, dGet M wy wx o → R (.bl (o.isSome)) M → wpAny (model X.prog X.w) X.A (compareOp .In v u) (EP X pins σ Q) X.xe s := fun {y u wy} ry ay o g r => by
    obtain ⟨a, rfl, g⟩ := dGet_up am ay ax g
    cases ry
    rcases g with ⟨rfl, g'⟩ | ⟨z, w, rfl, g', av⟩
    · exact d_in hu I g' rx fun s3 I3 => ⟨.bl false, H, I3, rfl, k.at am (.bl _) r⟩
    · exact d_in hu I g' rx fun s3 I3 => ⟨.bl true, H, I3, rfl, k.at am (.bl _) r⟩
  cases ay <;> first | (cases wx <;> exact (show False from h).elim) | skip
  case str j =>
    cases ax <;> first | exact (show False from h).elim | skip
    case str i => exact op_in_str pins s σ H _ _ v u Q I rx ry ⟨i, j, rfl, rfl, k.at am (.bl _) h⟩
  case tup a xs ws e q =>
    have h : flatW wx = true ∧ ws.all flatW = true ∧ R (.bl (inW wx ws)) M := by cases wx <;> exact h
    obtain ⟨h1, h2⟩ := AVs.inn ax h.1 q h.2.1
    exact op_in_seq pins s σ H _ _ v u Q I rx ry ⟨a, xs, rfl, .inr (SqT.of e), ax.flat h.1, h1, by rw [h2]; exact k.at am (.bl _) h.2.2⟩
  case rl a xs ws e _ q =>
    have h : flatW wx = true ∧ ws.all flatW = true ∧ R (.bl (inW wx ws)) M := by cases wx <;> exact h
    obtain ⟨h1, h2⟩ := AVs.inn ax h.1 q h.2.1
    exact op_in_seq pins s σ H _ _ v u Q I rx ry ⟨a, xs, rfl, .inl (SqL.of e), ax.flat h.1, h1, by rw [h2]; exact k.at am (.bl _) h.2.2⟩
  case dk a ks kvs e n ke q =>
    have h : ∃ o, dGet M (.dk kvs) wx o ∧ R (.bl (o.isSome)) M := by cases wx <;> exact h
    obtain ⟨o, g, r⟩ := h
    exact dict ry (.dk e n ke q) o g r
  case dt a ks kvs e n ke q =>
    have h : ∃ o, dGet M (.dt kvs) wx o ∧ R (.bl (o.isSome)) M := by cases wx <;> exact h
    obtain ⟨o, g, r⟩ := h
    exact dict ry (.dt e n ke q) o g r
  case ref a =>
    have h : (∃ ws, M a = some (.lst ws) ∧ flatW wx = true ∧ ws.all flatW = true ∧ R (.bl (inW wx ws)) M) ∨ ∃ o, dGet M (.ref a) wx o ∧ R (.bl o.isSome) M := by cases wx <;> exact h
    rcases h with ⟨ws, e, h⟩ | ⟨o, g, r⟩
    · obtain ⟨vs, f, q⟩ := am.lst e
      obtain ⟨h1, h2⟩ := AVs.inn ax h.1 q h.2.1
      exact op_in_seq pins s σ H _ _ v u Q I rx ry ⟨a, vs, rfl, .inl (SqL.of f), ax.flat h.1, h1, by rw [h2]; exact k.at am (.bl _) h.2.2⟩
    · exact dict ry (.ref a) o g r
theorem o_notin (hu : X.A.units + 1 < cLine) : OpR X (compareOp .NotIn) (upO X.K (rIn true)) := by
  rintro pins s σ H x y v u Q I rx ry ⟨wx, wy, M, R, am, ax, ay, h, k⟩
  have dict : ∀ {y : V} {u : Value} {wy : W}, RelV y u → AV X.K H M y wy → ∀ o, dGet M wy wx o → R (.bl (!o.isSome)) M → wpAny (model X.prog X.w) X.A (compareOp .NotIn v u) (EP X pins σ Q) X.xe s := fun {y u wy} ry ay o g r => by
    obtain ⟨a, rfl, g⟩ := dGet_up am ay ax g
    cases ry
    rcases g with ⟨rfl, g'⟩ | ⟨z, w, rfl, g', av⟩
    · exact d_notIn hu I g' rx fun s3 I3 => ⟨.bl true, H, I3, rfl, k.at am (.bl _) r⟩
    · exact d_notIn hu I g' rx fun s3 I3 => ⟨.bl false, H, I3, rfl, k.at am (.bl _) r⟩
  cases ay <;> first | (cases wx <;> exact (show False from h).elim) | skip
  case str j =>
    cases ax <;> first | exact (show False from h).elim | skip
    case str i => exact op_notin_str pins s σ H _ _ v u Q I rx ry ⟨i, j, rfl, rfl, k.at am (.bl _) h⟩
  case tup a xs ws e q =>
    have h : flatW wx = true ∧ ws.all flatW = true ∧ R (.bl (!inW wx ws)) M := by cases wx <;> exact h
    obtain ⟨h1, h2⟩ := AVs.inn ax h.1 q h.2.1
    exact op_notIn_seq pins s σ H _ _ v u Q I rx ry ⟨a, xs, rfl, .inr (SqT.of e), ax.flat h.1, h1, by rw [h2]; exact k.at am (.bl _) h.2.2⟩
  case rl a xs ws e _ q =>
    have h : flatW wx = true ∧ ws.all flatW = true ∧ R (.bl (!inW wx ws)) M := by cases wx <;> exact h
    obtain ⟨h1, h2⟩ := AVs.inn ax h.1 q h.2.1
    exact op_notIn_seq pins s σ H _ _ v u Q I rx ry ⟨a, xs, rfl, .inl (SqL.of e), ax.flat h.1, h1, by rw [h2]; exact k.at am (.bl _) h.2.2⟩
  case dk a ks kvs e n ke q =>
    have h : ∃ o, dGet M (.dk kvs) wx o ∧ R (.bl (!o.isSome)) M := by cases wx <;> exact h
    obtain ⟨o, g, r⟩ := h
    exact dict ry (.dk e n ke q) o g r
  case dt a ks kvs e n ke q =>
    have h : ∃ o, dGet M (.dt kvs) wx o ∧ R (.bl (!o.isSome)) M := by cases wx <;> exact h
    obtain ⟨o, g, r⟩ := h
    exact dict ry (.dt e n ke q) o g r
  case ref a =>
    have h : (∃ ws, M a = some (.lst ws) ∧ flatW wx = true ∧ ws.all flatW = true ∧ R (.bl (!inW wx ws)) M) ∨ ∃ o, dGet M (.ref a) wx o ∧ R (.bl (!o.isSome)) M := by cases wx <;> exact h
    rcases h with ⟨ws, e, h⟩ | ⟨o, g, r⟩
    · obtain ⟨vs, f, q⟩ := am.lst e
      obtain ⟨h1, h2⟩ := AVs.inn ax h.1 q h.2.1
      exact op_notIn_seq pins s σ H _ _ v u Q I rx ry ⟨a, vs, rfl, .inl (SqL.of f), ax.flat h.1, h1, by rw [h2]; exact k.at am (.bl _) h.2.2⟩
    · exact dict ry (.ref a) o g r
def rLen : List W → Mm → K3 → Prop
  | [.tup ws], M, R => R (.int ws.length) M
  | [.rl ws], M, R => R (.int ws.length) M
  | [.sc ws], M, R => R (.int ws.length) M
  | [.dk kvs], M, R => R (.int kvs.length) M
  | [.str z], M, R => z.length ≤ sizeLine ∧ R (.int z.length) M
  | [.ref a], M, R => (∃ ws, M a = some (.lst ws) ∧ R (.int ws.length) M) ∨ ∃ kvs, M a = some (.dK kvs) ∧ R (.int kvs.length) M
  | _, _, _ => False
theorem AVs.one {K : PySem.W.Frag} {H : Hp} {M : Mm} {vs : List V} {w : W} (h : AVs K H M vs [w]) : ∃ v, vs = [v] ∧ AV K H M v w := by
  cases h with
  | cons x r => cases r; exact ⟨_, rfl, x⟩
theorem AVs.two {K : PySem.W.Frag} {H : Hp} {M : Mm} {vs : List V} {w z : W} (h : AVs K H M vs [w, z]) : ∃ v u, vs = [v, u] ∧ AV K H M v w ∧ AV K H M u z := by
  cases h with
  | cons x r => obtain ⟨u, rfl, y⟩ := r.one; exact ⟨_, _, rfl, x, y⟩
theorem c_len : CallR X (.builtin "len") (upC X.K rLen) := by
  rintro pins s σ H xs us Q I rs ⟨ws, M, R, am, axs, h, k⟩
  match ws, h with
  | [.tup ws], h =>
    obtain ⟨v, rfl, av⟩ := axs.one
    cases av with
    | tup e q => exact call_len_seq pins s σ H _ us Q I rs ⟨_, _, rfl, .inr (SqT.of e), by rw [q.length]; exact k.at am (.int _) h⟩
  | [.rl ws], h =>
    obtain ⟨v, rfl, av⟩ := axs.one
    cases av with
    | rl e _ q => exact call_len_seq pins s σ H _ us Q I rs ⟨_, _, rfl, .inl (SqL.of e), by rw [q.length]; exact k.at am (.int _) h⟩
  | [.sc ws], h =>
    obtain ⟨v, rfl, av⟩ := axs.one
    cases av with
    | sc e q => exact call_len_seq pins s σ H _ us Q I rs ⟨_, _, rfl, .inl e.sq, by rw [q.length]; exact k.at am (.int _) h⟩
  | [.dk kvs], h =>
    obtain ⟨v, rfl, av⟩ := axs.one
    cases av with
    | dk e n ke q => exact call_lenD pins s σ H _ us Q I rs ⟨_, _, rfl, e, by rw [Paired.length (pkv_of ke q)]; exact k.at am (.int _) h⟩
  | [.str z], h =>
    obtain ⟨v, rfl, av⟩ := axs.one
    cases av
    exact call_len_str pins s σ H _ us Q I rs ⟨z, rfl, h.1, k.at am (.int _) h.2⟩
  | [.ref a], h =>
    obtain ⟨v, rfl, av⟩ := axs.one
    cases av
    rcases h with ⟨ws, e, r⟩ | ⟨kvs, e, r⟩
    · obtain ⟨vs, f, q⟩ := am.lst e
      exact call_len_seq pins s σ H _ us Q I rs ⟨_, _, rfl, .inl (SqL.of f), by rw [q.length]; exact k.at am (.int _) r⟩
    · obtain ⟨ks, f, q⟩ := am _ _ e
      exact call_lenD pins s σ H _ us Q I rs ⟨a, ks, rfl, f, by rw [Paired.length q]; exact k.at am (.int _) r⟩
def rList : List W → Mm → K3 → Prop
  | [.tup ws], M, R => New ws M R
  | [.rl ws], M, R => New ws M R
  | [.sc ws], M, R => New ws M R
  | [.dk kvs], M, R => New (kvs.map fun kv => wK kv.1) M R
  | [.ref a], M, R => (∃ ws, M a = some (.lst ws) ∧ New ws M R) ∨ ∃ kvs, M a = some (.dK kvs) ∧ New (kvs.map fun kv => wK kv.1) M R
  | _, _, _ => False
theorem pkv_keys {K : PySem.W.Frag} {H : Hp} {M : Mm} {ks : List (Key × V)} {kvs : List (Key × W)} (h : PKV K H M Key ks kvs) : AVs K H M (ks.map fun kv => kV kv.1) (kvs.map fun kv => wK kv.1) := by
  induction h with
  | nil => exact .nil
  | @cons p q ps qs r t ih =>
    refine .cons ?_ ih
    show AV K H M (kV p.1) (wK q.1)
    rw [r.1]
    cases q.1 with
    | inl i => exact .int i
    | inr x => exact .str x
theorem c_list (hc : X.calm = true) : CallR X (.type "list") (upC X.K rList) := by
  rintro pins s σ H xs us Q I rs ⟨ws, M, R, am, axs, h, k⟩
  match ws, h with
  | [.tup ws], h =>
    obtain ⟨v, rfl, av⟩ := axs.one
    cases av with
    | tup e q => exact call_list_of pins s σ H _ us Q I rs ⟨_, _, rfl, .inr (SqT.of e), fun p hp => laidL am k hp q h⟩
  | [.rl ws], h =>
    obtain ⟨v, rfl, av⟩ := axs.one
    cases av with
    | rl e _ q => exact call_list_of pins s σ H _ us Q I rs ⟨_, _, rfl, .inl (SqL.of e), fun p hp => laidL am k hp q h⟩
  | [.sc ws], h =>
    obtain ⟨v, rfl, av⟩ := axs.one
    cases av with
    | sc e q => exact call_list_of pins s σ H _ us Q I rs ⟨_, _, rfl, .inl e.sq, fun p hp => laidL am k hp q h⟩
  | [.dk kvs], h =>
    obtain ⟨v, rfl, av⟩ := axs.one
    cases av with
    | dk e n ke q => exact call_list_dict hc pins s σ H _ us Q I rs ⟨_, _, rfl, e, fun p hp => laidL am k hp (pkv_keys (pkv_of ke q)) h⟩
  | [.ref a], h =>
    obtain ⟨v, rfl, av⟩ := axs.one
    cases av
    rcases h with ⟨ws, e, r⟩ | ⟨kvs, e, r⟩
    · obtain ⟨vs, f, q⟩ := am.lst e
      exact call_list_of pins s σ H _ us Q I rs ⟨_, _, rfl, .inl (SqL.of f), fun p hp => laidL am k hp q r⟩
    · obtain ⟨ks, f, q⟩ := am _ _ e
      exact call_list_dict hc pins s σ H _ us Q I rs ⟨a, ks, rfl, f, fun p hp => laidL am k hp (pkv_keys q) r⟩
def rTuple : List W → Mm → K3 → Prop
  | [.tup ws], M, R => R (.tup ws) M
  | [.rl ws], M, R => R (.tup ws) M
  | [.ref a], M, R => ∃ ws, M a = some (.lst ws) ∧ R (.tup ws) M
  | _, _, _ => False
theorem c_tuple : CallR X (.type "tuple") (upC X.K rTuple) := by
  rintro pins s σ H xs us Q I rs ⟨ws, M, R, am, axs, h, k⟩
  match ws, h with
  | [.tup ws], h =>
    obtain ⟨v, rfl, av⟩ := axs.one
    cases av with
    | tup e q => exact call_tuple_of pins s σ H _ us Q I rs ⟨_, _, rfl, .inr ⟨SqT.of e, k.at am (.tup e q) h⟩⟩
  | [.rl ws], h =>
    obtain ⟨v, rfl, av⟩ := axs.one
    cases av with
    | rl e _ q => exact call_tuple_of pins s σ H _ us Q I rs ⟨_, _, rfl, .inl ⟨SqL.of e, fun p hp => laidT am k hp q h⟩⟩
  | [.ref a], h =>
    obtain ⟨v, rfl, av⟩ := axs.one
    cases av
    obtain ⟨ws, e, r⟩ := h
    obtain ⟨vs, f, q⟩ := am.lst e
    exact call_tuple_of pins s σ H _ us Q I rs ⟨_, _, rfl, .inl ⟨SqL.of f, fun p hp => laidT am k hp q r⟩⟩
def rStr : List W → Mm → K3 → Prop
  | [.int i], M, R => i.natAbs.log2 < 1920 ∧ R (.str (toString i)) M
  | _, _, _ => False
theorem c_str : CallR X (.type "str") (upC X.K rStr) := by
  rintro pins s σ H xs us Q I rs ⟨ws, M, R, am, axs, h, k⟩
  match ws, h with
  | [.int i], h =>
    obtain ⟨v, rfl, av⟩ := axs.one
    cases av
    exact call_str_int pins s σ H _ us Q I rs ⟨i, rfl, h.1, k.at am (.str _) h.2⟩
def bools (bs : List Bool) : List W := bs.map W.bl
theorem AVs.bools {K : PySem.W.Frag} {H : Hp} {M : Mm} : ∀ {bs : List Bool} {vs : List V}, AVs K H M vs (L3.bools bs) → vs = bs.map V.bl
  | [], _, h => by cases h; rfl
  | b :: r, _, h => by
    cases h with
    | cons x y => cases x; rw [AVs.bools y]; rfl
theorem AVs.ints {K : PySem.W.Frag} {H : Hp} {M : Mm} : ∀ {bs : List Int} {vs : List V}, AVs K H M vs (bs.map W.int) → vs = bs.map V.int
  | [], _, h => by cases h; rfl
  | b :: r, _, h => by
    cases h with
    | cons x y => cases x; rw [AVs.ints y]; rfl
def rAll : List W → Mm → K3 → Prop
  | [.ref a], M, R => ∃ bs, M a = some (.lst (bools bs)) ∧ R (.bl (bs.all id)) M
  | [.rl ws], M, R => ∃ bs, ws = bools bs ∧ R (.bl (bs.all id)) M
  | _, _, _ => False
theorem c_all (hc : X.calm = true) : CallR X (.builtin "all") (upC X.K rAll) := by
  rintro pins s σ H xs us Q I rs ⟨ws, M, R, am, axs, h, k⟩
  match ws, h with
  | [.ref a], h =>
    obtain ⟨v, rfl, av⟩ := axs.one
    cases av
    obtain ⟨bs, e, r⟩ := h
    obtain ⟨vs, f, q⟩ := am.lst e
    rw [q.bools] at f
    exact call_all hc pins s σ H _ us Q I rs ⟨a, bs, rfl, SqL.of f, k.at am (.bl _) r⟩
  | [.rl ws], h =>
    obtain ⟨v, rfl, av⟩ := axs.one
    obtain ⟨bs, rfl, r⟩ := h
    cases av with
    | rl f _ q =>
      rw [q.bools] at f
      exact call_all hc pins s σ H _ us Q I rs ⟨_, bs, rfl, SqL.of f, k.at am (.bl _) r⟩
def rApp : W → List W → Mm → K3 → Prop
  | .ref l, [y], M, R => ∃ ws, M l = some (.lst ws) ∧ ws.length < sizeLine ∧ R .non (put M l (.lst (ws ++ [y])))
  | _, _, _, _ => False
theorem m_append : MtR X "list.append" (upM X.K rApp) := by
  rintro pins s σ H x xs v us Q I rx rs ⟨wx, ws, M, R, am, ax, axs, h, k⟩
  match wx, ws, h with
  | .ref l, [y], h =>
    obtain ⟨z, rfl, az⟩ := axs.one
    cases ax
    obtain ⟨ws, e, hl, r⟩ := h
    obtain ⟨vs, f, q⟩ := am.lst e
    exact mt_append pins s σ H _ _ v us Q I rx rs ⟨l, vs, z, rfl, rfl, f, by rw [q.length]; exact hl, wroteL am k e (q.append (.cons az .nil)) .non r⟩
def vNewK : TE3 := fun _ M R => NewK [] M R
def vNewT : TE3 := fun _ M R => NewT [] M R
theorem v_dnewK : E3 X (.Dict [] [] pos) vNewK := pe_dnewK.weak fun σ H Q ⟨τ, M, R, as, am, h, k⟩ p hp => by
  obtain ⟨am2, k2⟩ := am.laid (o := .dK []) (u := .dK []) hp ⟨[], upd_same, .nil⟩
  exact k _ _ _ _ k2 am2 (.ref p) (h p (am.nonM hp))
theorem v_dnewT : E3 X (.Dict [] [] pos) vNewT := pe_dnewT.weak fun σ H Q ⟨τ, M, R, as, am, h, k⟩ p hp => by
  obtain ⟨am2, k2⟩ := am.laid (o := .dT []) (u := .dT []) hp ⟨[], upd_same, .nil⟩
  exact k _ _ _ _ k2 am2 (.ref p) (h p (am.nonM hp))
end
end L3
namespace L3
open PySem PySem.Spec PyProof.Rows L2
abbrev P3 (X : Cx) (st : Stmt) (t : TS3) : Prop := PS X st (upS X.K t)
abbrev Ps3 (X : Cx) (st : List Stmt) (t : TS3) : Prop := PSs X st (upS X.K t)
abbrev TG3 := W → S3 → Mm → (S3 → Mm → Prop) → Prop
abbrev TGs3 := List W → S3 → Mm → (S3 → Mm → Prop) → Prop
def upG (K : PySem.W.Frag) (g : TG3) : TG := fun v σ H Q => ∃ w τ M R, AV K H M v w ∧ AS K H M σ τ ∧ AM K H M ∧ g w τ M R ∧ UpS K H M R Q
def upGs (K : PySem.W.Frag) (g : TGs3) : TGs := fun vs σ H Q => ∃ ws τ M R, AVs K H M vs ws ∧ AS K H M σ τ ∧ AM K H M ∧ g ws τ M R ∧ UpS K H M R Q
section
variable {X : Cx} {pos : Pos}
theorem _root_.L2.PG.weak {e : Expr} {t t' : TG} (h : PG X e t) (k : ∀ v σ H Q, t' v σ H Q → t v σ H Q) : PG X e t' := fun pins s σ H v u Q I r q => h pins s σ H v u Q I r (k v σ H Q q)
theorem _root_.L2.PGs.weak {e : List Expr} {t t' : TGs} (h : PGs X e t) (k : ∀ v σ H Q, t' v σ H Q → t v σ H Q) : PGs X e t' := fun pins s σ H v u Q I r q => h pins s σ H v u Q I r (k v σ H Q q)
theorem UpS.at {K : PySem.W.Frag} {H : Hp} {M : Mm} {R : S3 → Mm → Prop} {Q : SV → Hp → Prop} (h : UpS K H M R Q) (am : AM K H M) {σ : SV} {τ : S3} (as : AS K H M σ τ) (r : R τ M) : Q σ H := h σ H τ M (Kp.refl am) am as r
def wName (i : Nat) : TG3 := fun w τ M R => R (τ.set i (some w)) M
theorem w_name {i : Nat} {x : Str} (hN : X.N.Nodup) (hi : X.N[i]? = some x) (hx : Loc X.env.scope x) (hf : X.fn x = true ∨ X.env.scope.names.lookup x = some .local := by first | exact .inl rfl | exact .inr rfl | assumption) : PG X (.Name x pos) (upG X.K (wName i)) :=
  (pg_name hN hi hx hf).weak fun v σ H Q ⟨w, τ, M, R, av, as, am, h, k⟩ => k.at am (as.set av i) h
def wNil : TGs3 := fun ws τ M R => ws = [] ∧ R τ M
def wCons (t : TG3) (u : TGs3) : TGs3 := fun ws τ M R => match ws with
  | w :: r => t w τ M fun τ' M' => u r τ' M' R
  | [] => False
theorem w_nil : PGs X [] (upGs X.K wNil) := pgs_nil.weak fun vs σ H Q ⟨ws, τ, M, R, av, as, am, ⟨e, h⟩, k⟩ => by
  subst e; cases av; exact ⟨rfl, k.at am as h⟩
theorem w_cons {e : Expr} {es : List Expr} {t : TG3} {u : TGs3} (h1 : PG X e (upG X.K t)) (h2 : PGs X es (upGs X.K u))
    (hs : (assignEach (e :: es) X.env).map (·.2) = assign e X.env :: (assignEach es X.env).map (·.2) := by rfl) : PGs X (e :: es) (upGs X.K (wCons t u)) :=
  (pgs_cons h1 h2 hs).weak fun vs σ H Q ⟨ws, τ, M, R, av, as, am, h, k⟩ => by
    cases av with
    | nil => exact (show False from h).elim
    | cons x r => exact ⟨_, _, rfl, _, τ, M, _, x, as, am, h, fun σ' H' τ' M' k' am' as' h' => ⟨_, τ', M', R, r.kp am k', as', am', h', k.kp k'⟩⟩
def wTup (n : Nat) (g : TGs3) : TG3 := fun w τ M R => match w with
  | .tup ws => ws.length = n ∧ g ws τ M R
  | .rl ws => ws.length = n ∧ g ws τ M R
  | .ref a => ∃ ws, M a = some (.lst ws) ∧ ws.length = n ∧ g ws τ M R
  | _ => False
theorem w_tup {es : List Expr} {k : Nat} {t : TGs3} {n : Nat} (hc : X.calm = true) (h : PGs X es (upGs X.K t))
    (hn : (assignEach es X.env).length = n := by rfl) (hst : (assignEach es X.env).findIdx? (·.1) = none := by rfl) : PG X (.Tuple es k pos) (upG X.K (wTup n t)) := by
  rintro pins s σ H v u Q I r ⟨w, τ, M, R, av, as, am, hw, kk⟩
  cases av <;> first | exact (show False from hw).elim | skip
  case tup a xs ws e q =>
    exact pg_tup hc h hn hst pins s σ H _ u Q I r ⟨a, xs, rfl, SqT.of e, by rw [q.length]; exact hw.1, _, τ, M, R, q, as, am, hw.2, kk⟩
  case rl a vs ws f _ q =>
    exact pg_lst hc h hn hst pins s σ H _ u Q I r ⟨a, vs, rfl, SqL.of f, by rw [q.length]; exact hw.1, _, τ, M, R, q, as, am, hw.2, kk⟩
  case ref a =>
    obtain ⟨ws, e, hl, hw⟩ := hw
    obtain ⟨vs, f, q⟩ := am.lst e
    exact pg_lst hc h hn hst pins s σ H _ u Q I r ⟨a, vs, rfl, SqL.of f, by rw [q.length]; exact hl, _, τ, M, R, q, as, am, hw, kk⟩
def vAsg (te : TE3) (g : TG3) : TS3 := fun D τ M => te τ M fun x M1 => g x τ M1 D.nx
theorem vAsg_up {K : PySem.W.Frag} {te : TE3} {g : TG3} {D : Ends} {σ : SV} {H : Hp} (h : upS K (vAsg te g) D σ H) : tAsg (up K te) (upG K g) D σ H := by
  obtain ⟨τ, M, D', as, am, h, k⟩ := h
  exact ⟨τ, M, _, as, am, h, fun x H1 wx M1 k1 am1 ax h1 => ⟨wx, τ, M1, D'.nx, ax, as.kp am k1, am1, h1, k.nx.kp k1⟩⟩
theorem s_asg {tg e : Expr} {te : TE3} {g : TG3} (he : E3 X e te) (hg : PG X tg (upG X.K g)) (hs : swapsWithSole [tg] e pos.line X.env = pure false := by rfl) (hw : swappedStores [tg] e X.env = pure none := by rfl)
    (h1 : (assignEach [tg] X.env).map (·.2) = [assign tg X.env] := by rfl) : P3 X (.Assign [tg] e pos) (vAsg te g) := (ps_asg he hg hs hw h1).weak fun _ _ _ h => vAsg_up h
def vSet (i : Nat) (te : TE3) : TS3 := fun D τ M => te τ M fun x M1 => D.nx (τ.set i (some x)) M1
theorem s_set {i : Nat} {x : Str} {e : Expr} {te : TE3} {pos' : Pos} (hN : X.N.Nodup) (hi : X.N[i]? = some x) (hx : Loc X.env.scope x) (he : E3 X e te) (hs : swapsWith e (some (.Name x pos')) pos.line X.env = pure false := by rfl) (hf : X.fn x = true ∨ X.env.scope.names.lookup x = some .local := by first | exact .inl rfl | exact .inr rfl | assumption) :
    P3 X (.Assign [.Name x pos'] e pos) (vSet i te) := (ps_set hN hi hx he hs hf).weak fun D σ H ⟨τ, M, D', as, am, h, k⟩ => ⟨τ, M, _, as, am, h, fun y H1 wy M1 k1 am1 ay h1 => k.nx _ _ _ _ k1 am1 ((as.kp am k1).set ay i) h1⟩
def rSetI (o i v : W) (M : Mm) (Q : Mm → Prop) : Prop := match o with
  | .ref a => (∃ ws k j, i = .int k ∧ M a = some (.lst ws) ∧ ixN ws.length k = some j ∧ Q (put M a (.lst (ws.set j v)))) ∨
      (∃ kvs k, i = wK k ∧ M a = some (.dK kvs) ∧ kvs.length < sizeLine ∧ Q (put M a (.dK (putW kvs k v)))) ∨
      ∃ kvs k, i = .tup (k.map wK) ∧ M a = some (.dT kvs) ∧ kvs.length < sizeLine ∧ Q (put M a (.dT (putW kvs k v)))
  | _ => False
def upSet (K : PySem.W.Frag) : TSet := fun o i v H Q => ∃ wo wi wv M R, AV K H M o wo ∧ AV K H M i wi ∧ AV K H M v wv ∧ AM K H M ∧ rSetI wo wi wv M R ∧ ∀ H' M', Kp H M H' M' → AM K H' M' → R M' → Q H'
theorem set_dict (hu : X.A.units + 1 < cLine) : PSet X (fun o i v H Q => ∃ a H', o = .ref a ∧ DPut H a i v H' ∧ Q H') := by
  intro pins s σ H o i v ov iv u Q I ro ri rv h
  obtain ⟨a, H', rfl, d, q⟩ := h
  cases ro
  exact d_setItem hu I d ri rv fun s4 I4 => ⟨H', I4, q⟩
theorem set_up (hu : X.A.units + 1 < cLine) : PSet X (upSet X.K) := by
  rintro pins s σ H o i v ov iv u Q I ro ri rv ⟨wo, wi, wv, M, R, ao, ai, av, am, h, k⟩
  cases ao <;> first | exact (show False from h).elim | skip
  case ref a =>
    rcases h with ⟨ws, n, j, rfl, e, hj, r⟩ | ⟨kvs, n, rfl, e, hl, r⟩ | ⟨kvs, n, rfl, e, hl, r⟩
    · cases ai
      obtain ⟨vs, f, q⟩ := am.lst e
      obtain ⟨am2, k2⟩ := am.write (o := .lst (ws.set j wv)) (u := .lst (vs.set j v)) e ⟨_, upd_same, (AVs.set av j q).wr am e⟩
      exact set_list pins s σ H _ _ v ov iv u Q I ro ri rv ⟨a, vs, n, j, rfl, rfl, f, by rw [q.length]; exact hj, k _ _ k2 am2 r⟩
    · obtain ⟨ks, f, q⟩ := am _ _ e
      rw [ai.key] at ri
      have z : AO X.K (upd H a (.dK (putK ks n v))) (put M a (.dK (putW kvs n wv))) a (.dK (putW kvs n wv)) := ⟨_, upd_same, Paired.mapP (pkv_put q n av) fun p q z => ⟨z.1, z.2.wr am e⟩⟩
      obtain ⟨am2, k2⟩ := am.write e z
      exact set_dict hu pins s σ H _ _ v ov iv u Q I ro ri rv ⟨a, _, rfl, DPut.k f (by rw [Paired.length q]; exact hl), k _ _ k2 am2 r⟩
    · obtain ⟨ks, f, q⟩ := am _ _ e
      cases ai with
      | tup eb qb =>
        have eb' := eb
        rw [qb.keys] at eb'
        have z : AO X.K (upd H a (.dT (putK ks n v))) (put M a (.dT (putW kvs n wv))) a (.dT (putW kvs n wv)) := ⟨_, upd_same, Paired.mapP (pkv_put q n av) fun p q z => ⟨z.1, z.2.wr am e⟩⟩
        obtain ⟨am2, k2⟩ := am.write e z
        exact set_dict hu pins s σ H _ _ v ov iv u Q I ro ri rv ⟨a, _, rfl, DPut.t f eb' (by rw [Paired.length q]; exact hl), k _ _ k2 am2 r⟩
def wSub (to ti : TE3) : TG3 := fun w τ M R => to τ M fun o M1 => ti τ M1 fun i M2 => rSetI o i w M2 fun M3 => R τ M3
theorem w_sub {o i : Expr} {to ti : TE3} (hu : X.A.units + 1 < cLine) (ho : E3 X o to) (hi : E3 X i ti)
    (ha : ∀ v, assign (.Subscript o i pos) X.env v = (do
      let ov ← holding [v] (eval o X.env)
      let iv ← holding [v, ov] (eval i X.env)
      standAt pos
      holding [v, ov, iv] (setItem ov iv v)
      release [v, ov, iv] []) := by intro _; rfl) : PG X (.Subscript o i pos) (upG X.K (wSub to ti)) :=
  (pg_sub ho hi (set_up hu) ha).weak fun v σ H Q ⟨w, τ, M, R, av, as, am, h, k⟩ => ⟨τ, M, _, as, am, h, fun o H1 wo M1 k1 am1 ao h1 => ⟨τ, M1, _, as.kp am k1, am1, h1, fun i H2 wi M2 k2 am2 ai h2 =>
    ⟨wo, wi, w, M2, _, ao.kp am1 k2, ai, (av.kp am k1).kp am1 k2, am2, h2, fun H' M' k' am' r => k _ _ _ _ ((k1.trans k2).trans k') am' (((as.kp am k1).kp am1 k2).kp am2 k') r⟩⟩⟩
def vNext : TS3 := fun D τ M => D.nx τ M
def vSeq (t u : TS3) : TS3 := fun D τ M => t { D with nx := u D } τ M
variable {st : Stmt} {rest : List Stmt} {t u : TS3} {e : Expr} {te : TE3}
theorem ss_nil : Ps3 X [] vNext := pss_nil.weak fun D σ H ⟨τ, M, D', as, am, h, k⟩ => k.nx.at am as h
theorem ss_cons (h1 : P3 X st t) (h2 : Ps3 X rest u) : Ps3 X (st :: rest) (vSeq t u) := (pss_cons h1 h2).weak fun D σ H ⟨τ, M, D', as, am, h, k⟩ =>
  ⟨τ, M, _, as, am, h, ⟨fun σ' H' τ' M' k' am' as' h' => ⟨τ', M', D', as', am', h', k.kp k'⟩, k.rt, k.bk, k.ct⟩⟩
theorem ss_one (h1 : P3 X st t) : Ps3 X [st] t := pss_one h1
def vDrop (te : TE3) : TS3 := fun D τ M => te τ M fun _ M1 => D.nx τ M1
theorem s_expr (he : E3 X e te) (hs : swapsWith e none pos.line X.env = pure false := by rfl) : P3 X (.Expr e pos) (vDrop te) := (ps_expr he hs).weak fun D σ H ⟨τ, M, D', as, am, h, k⟩ =>
  ⟨τ, M, _, as, am, h, fun v H' w M' k' am' av r => k.nx _ _ _ _ k' am' (as.kp am k') r⟩
def vRet (te : TE3) : TS3 := fun D τ M => te τ M D.rt
theorem s_ret (he : E3 X e te) : P3 X (.Return (some e) pos) (vRet te) := (ps_ret he).weak fun D σ H ⟨τ, M, D', as, am, h, k⟩ => ⟨τ, M, _, as, am, h, k.rt⟩
def vIfS (c : TT3) (t u : TS3) : TS3 := fun D τ M => c τ M fun b M1 => if b = true then t D τ M1 else u D τ M1
theorem s_if {c : Expr} {a b : List Stmt} {tc : TT3} (hc : T3 X c tc) (ha : Ps3 X a t) (hb : Ps3 X b u) : P3 X (.If c a b pos) (vIfS tc t u) := (ps_if hc ha hb).weak fun D σ H ⟨τ, M, D', as, am, h, k⟩ =>
  ⟨τ, M, _, as, am, h, fun b H1 M1 k1 am1 h1 => by
    cases b with
    | true => exact ⟨τ, M1, D', as.kp am k1, am1, h1, k.kp k1⟩
    | false => exact ⟨τ, M1, D', as.kp am k1, am1, h1, k.kp k1⟩⟩
theorem s_never : P3 X st (fun _ _ _ => False) := ps_never.weak fun D σ H ⟨τ, M, D', as, am, h, k⟩ => h.elim
def vWhile (c : TT3) (tb : TS3) : TS3 := fun D τ M => ∃ Pv : Nat → S3 → Mm → Prop, (∃ m, Pv m τ M) ∧ ∀ m τ M, Pv m τ M →
  c τ M fun b M1 => if b = true then tb { D with nx := fun τ' M' => ∃ m' M'', m' < m ∧ Sub M'' M' ∧ Pv m' τ' M'', ct := fun τ' M' => ∃ m' M'', m' < m ∧ Sub M'' M' ∧ Pv m' τ' M'', bk := D.nx } τ M1 else D.nx τ M1
theorem s_while {c : Expr} {body : List Stmt} {tc : TT3} {tb : TS3} (hp : PassesOwn (model X.prog X.w) X.A X.env X.xe) (hc : T3 X c tc) (hb : Ps3 X body tb) : P3 X (.While c body [] pos) (vWhile tc tb) :=
  (ps_while hp hc hb).weak fun D σ H ⟨τ, M, D', as, am, ⟨Pv, ⟨m, h0⟩, h⟩, k⟩ => by
    refine ⟨fun m σ' H' => ∃ τ' M', Kp H M H' M' ∧ AM X.K H' M' ∧ AS X.K H' M' σ' τ' ∧ Pv m τ' M', ⟨m, τ, M, Kp.refl am, am, as, h0⟩, ?_⟩
    rintro m σ1 H1 ⟨τ1, M1, k1, am1, as1, p1⟩
    refine ⟨τ1, M1, _, as1, am1, h m τ1 M1 p1, fun b H2 M2 k2 am2 h2 => ?_⟩
    cases b with
    | false => exact k.nx _ _ _ _ (k1.trans k2) am2 (as1.kp am1 k2) h2
    | true =>
      have h2 : tb { D' with nx := fun τ' M' => ∃ m' M'', m' < m ∧ Sub M'' M' ∧ Pv m' τ' M'', ct := fun τ' M' => ∃ m' M'', m' < m ∧ Sub M'' M' ∧ Pv m' τ' M'', bk := D'.nx } τ1 M2 := h2
      refine ⟨fun σ' H' => ∃ m' τ' M', m' < m ∧ Kp H M H' M' ∧ AM X.K H' M' ∧ AS X.K H' M' σ' τ' ∧ Pv m' τ' M', fun σ' H' ⟨m', τ', M', q1, q2, q3, q4, q5⟩ => ⟨m', q1, τ', M', q2, q3, q4, q5⟩, τ1, M2, _, as1.kp am1 k2, am2, h2, ?_⟩
      have again : UpS X.K H2 M2 (fun τ' M' => ∃ m' M'', m' < m ∧ Sub M'' M' ∧ Pv m' τ' M'') (fun σ' H' => ∃ m' τ' M', m' < m ∧ Kp H M H' M' ∧ AM X.K H' M' ∧ AS X.K H' M' σ' τ' ∧ Pv m' τ' M') :=
        fun σ' H' τ' M' k' am' as' ⟨m', M'', q1, q2, q3⟩ => ⟨m', τ', M'', q1, ((k1.trans k2).trans k').sub q2, am'.sub q2, as'.sub q2, q3⟩
      exact ⟨again, (k.rt.kp k1).kp k2, (k.nx.kp k1).kp k2, again⟩
abbrev TI3 := S3 → Mm → (List W → (Mm → Prop) → Mm → Prop) → Prop
structure ItOk (K : PySem.W.Frag) (H0 : Hp) (M0 : Mm) (J : It) (ws : List W) (keep : Mm → Prop) : Prop where
  go : ∀ i H M, Kp H0 M0 H M → AM K H M → keep M → i < ws.length → J.go i H
  stop : ∀ H M, Kp H0 M0 H M → AM K H M → keep M → J.stop ws.length H
  yld : ∀ i H M x H', Kp H0 M0 H M → AM K H M → keep M → i < ws.length → J.yld i H x H' → ∃ w, ws[i]? = some w ∧ Kp H M H' M ∧ AM K H' M ∧ AV K H' M x w
def upI (K : PySem.W.Frag) (wi : TI3) : TI := fun σ H R' => ∃ (τ : S3) (M : Mm) (R : List W → (Mm → Prop) → Mm → Prop), AS K H M σ τ ∧ AM K H M ∧ wi τ M R ∧ ∀ J H' ws keep M', Kp H M H' M' → AM K H' M' → ItOk K H' M' J ws keep → R ws keep M' → R' J H'
theorem _root_.L2.PI.weak {tg iter : Expr} {t t' : TI} (h : PI X tg iter t) (k : ∀ σ H R, t' σ H R → t σ H R) : PI X tg iter t' := fun pins s σ H R I q => h pins s σ H R I (k σ H R q)
def vForW (ws : List W) (keep : Mm → Prop) (g : TG3) (tb : TS3) (D : D3) (τ : S3) (M : Mm) : Prop :=
  ∃ Pv : Nat → S3 → Mm → Prop, Pv 0 τ M ∧ (∀ i τ M, i ≤ ws.length → Pv i τ M → keep M) ∧
    (∀ i w τ M, ws[i]? = some w → Pv i τ M → g w τ M fun τ2 M2 => tb { D with nx := fun τ' M' => ∃ M'', Sub M'' M' ∧ Pv (i + 1) τ' M'', ct := fun τ' M' => ∃ M'', Sub M'' M' ∧ Pv (i + 1) τ' M'', bk := D.nx } τ2 M2) ∧
    ∀ τ M, Pv ws.length τ M → D.nx τ M
def vFor (wi : TI3) (g : TG3) (tb : TS3) : TS3 := fun D τ M => wi τ M fun ws keep M1 => vForW ws keep g tb D τ M1
theorem s_for {tg iter : Expr} {body : List Stmt} {wi : TI3} {g : TG3} {tb : TS3} {pos : Pos} (hp : PassesOwn (model X.prog X.w) X.A X.env X.xe) (hc : X.calm = true) (hi : PI X tg iter (upI X.K wi)) (hg : PG X tg (upG X.K g)) (hb : Ps3 X body tb)
    (hs : ∀ x, foldedSetIterable iter X.env x = pure x := by intro _; rfl) : P3 X (.For tg iter body [] pos) (vFor wi g tb) :=
  (ps_for hp hc hi hg hb hs).weak fun D σ H ⟨τ, M, D', as, am, h, k⟩ => by
    refine ⟨τ, M, _, as, am, h, fun J H1 ws keep M1 k1 am1 it ⟨Pv, h0, hk, hs, hd⟩ => ?_⟩
    refine ⟨fun i m σ' H' => m = ws.length - i ∧ i ≤ ws.length ∧ ∃ τ' M', Kp H1 M1 H' M' ∧ AM X.K H' M' ∧ AS X.K H' M' σ' τ' ∧ Pv i τ' M', ⟨_, rfl, Nat.zero_le _, τ, M1, Kp.refl am1, am1, as.kp am k1, h0⟩, ?_⟩
    rintro i m σ2 H2 ⟨rfl, hi, τ2, M2, k2, am2, as2, p2⟩
    by_cases hlt : i < ws.length
    · refine .inr ⟨it.go i H2 M2 k2 am2 (hk i τ2 M2 hi p2) hlt, fun σ' H' => ∃ τ' M', Kp H1 M1 H' M' ∧ AM X.K H' M' ∧ AS X.K H' M' σ' τ' ∧ Pv (i + 1) τ' M', fun σ' H' q => ⟨ws.length - (i + 1), by omega, rfl, hlt, q⟩, fun x H3 y => ?_⟩
      obtain ⟨w, hw, k3, am3, ax⟩ := it.yld i H2 M2 x H3 k2 am2 (hk i τ2 M2 hi p2) hlt y
      refine ⟨w, τ2, M2, _, ax, as2.kp am2 k3, am3, hs i w τ2 M2 hw p2, fun σ4 H4 τ4 M4 k4 am4 as4 h4 => ⟨τ4, M4, _, as4, am4, h4, ?_⟩⟩
      have kk := ((k2.trans k3).trans k4)
      have again : UpS X.K H4 M4 (fun τ' M' => ∃ M'', Sub M'' M' ∧ Pv (i + 1) τ' M'') (fun σ' H' => ∃ τ' M', Kp H1 M1 H' M' ∧ AM X.K H' M' ∧ AS X.K H' M' σ' τ' ∧ Pv (i + 1) τ' M') :=
        fun σ' H' τ' M' k' am' as' ⟨M'', q2, q3⟩ => ⟨τ', M'', (kk.trans k').sub q2, am'.sub q2, as'.sub q2, q3⟩
      exact ⟨again, k.rt.kp (k1.trans kk), k.nx.kp (k1.trans kk), again⟩
    · have e : i = ws.length := by omega
      subst e
      exact .inl ⟨it.stop H2 M2 k2 am2 (hk _ τ2 M2 hi p2), k.nx _ _ _ _ (k1.trans k2) am2 as2 (hd τ2 M2 p2)⟩
theorem for3 {ws : List W} {keep : Mm → Prop} {g : TG3} {tb : TS3} {D : D3} {τ : S3} {M : Mm} (Pv : Nat → S3 → Mm → Prop) (h0 : Pv 0 τ M) (hk : ∀ i τ M, i ≤ ws.length → Pv i τ M → keep M)
    (hs : ∀ i w τ M, ws[i]? = some w → Pv i τ M → g w τ M fun τ2 M2 => tb { D with nx := fun τ' M' => ∃ M'', Sub M'' M' ∧ Pv (i + 1) τ' M'', ct := fun τ' M' => ∃ M'', Sub M'' M' ∧ Pv (i + 1) τ' M'', bk := D.nx } τ2 M2)
    (hd : ∀ τ M, Pv ws.length τ M → D.nx τ M) : vForW ws keep g tb D τ M := ⟨Pv, h0, hk, hs, hd⟩
variable {tg l a b : Expr} {tl ta tb' : TE3}
theorem it_list {K : PySem.W.Frag} {H0 : Hp} {M0 : Mm} {p : Addr} {ws : List W} : ItOk K H0 M0 (Itl K p) ws fun M => M p = some (.lst ws) where
  go := fun i H M _ am e hi => by
    obtain ⟨vs, f, q⟩ := am.lst e
    exact ⟨vs, vs[i]'(by rw [q.length]; exact hi), SqL.of f, by simp⟩
  stop := fun H M _ am e => by
    obtain ⟨vs, f, q⟩ := am.lst e
    exact ⟨vs, SqL.of f, by rw [q.length]; exact Nat.le_refl _⟩
  yld := fun i H M x H' _ am e hi y => by
    obtain ⟨rfl, y⟩ := y
    obtain ⟨vs, f, q⟩ := am.lst e
    obtain ⟨w, hw, av⟩ := q.getV (y vs (SqL.of f))
    exact ⟨w, hw, Kp.refl am, am, av⟩
theorem it_st {K : PySem.W.Frag} {H0 : Hp} {M0 : Mm} {p : Addr} {vs : List V} {ws : List W} (am0 : AM K H0 M0) (st : ∀ H M, Kp H0 M0 H M → SqL K H p vs) (q0 : AVs K H0 M0 vs ws) : ItOk K H0 M0 (Itl K p) ws fun _ => True := by
  refine ⟨fun i H M k am _ hi => ⟨vs, vs[i]'(by rw [q0.length]; exact hi), st H M k, by simp⟩, fun H M k am _ => ⟨vs, st H M k, by rw [q0.length]; exact Nat.le_refl _⟩, fun i H M x H' k am _ hi y => ?_⟩
  obtain ⟨rfl, y⟩ := y
  obtain ⟨w, hw, av⟩ := (q0.kp am0 k).getV (y vs (st _ M k))
  exact ⟨w, hw, Kp.refl am, am, av⟩
theorem it_sc {K : PySem.W.Frag} {H0 : Hp} {M0 : Mm} {p : Addr} {vs : List V} {ws : List W} (am0 : AM K H0 M0) (e : SqR K H0 p vs) (q0 : AVs K H0 M0 vs ws) : ItOk K H0 M0 (Itl K p) ws fun _ => True :=
  it_st am0 (fun H M k => by
    refine SqR.sq ?_
    rcases e with ⟨o, e⟩ | e
    · exact .inl ⟨o, (k.fr _ _ (am0.noFrz e) e).1⟩
    · exact .inr e) q0
theorem it_rl {K : PySem.W.Frag} {H0 : Hp} {M0 : Mm} {p : Addr} {vs : List V} {ws : List W} (am0 : AM K H0 M0) (e : H0 p = some (.lst vs)) (n : M0 p = none) (q0 : AVs K H0 M0 vs ws) : ItOk K H0 M0 (Itl K p) ws fun _ => True :=
  it_st am0 (fun H M k => SqL.of (k.fr _ _ n e).1) q0
theorem it_tup {K : PySem.W.Frag} {H0 : Hp} {M0 : Mm} {p : Addr} {vs : List V} {ws : List W} (am0 : AM K H0 M0) (e : H0 p = some (.tup vs)) (q0 : AVs K H0 M0 vs ws) : ItOk K H0 M0 (Itt K p) ws fun _ => True := by
  have st : ∀ H M, Kp H0 M0 H M → SqT K H p vs := fun H M k => SqT.of (k.fr _ _ (am0.noTup e) e).1
  refine ⟨fun i H M k am _ hi => ⟨vs, vs[i]'(by rw [q0.length]; exact hi), st H M k, by simp⟩, fun H M k am _ => ⟨vs, st H M k, by rw [q0.length]; exact Nat.le_refl _⟩, fun i H M x H' k am _ hi y => ?_⟩
  obtain ⟨rfl, y⟩ := y
  obtain ⟨w, hw, av⟩ := (q0.kp am0 k).getV (y vs (st _ M k))
  exact ⟨w, hw, Kp.refl am, am, av⟩
theorem it_rng {K : PySem.W.Frag} {H0 : Hp} {M0 : Mm} {lo : Int} {n : Nat} : ItOk K H0 M0 (Itr lo n) ((List.range n).map fun i => W.int (lo + (i : Nat))) fun _ => True where
  go := fun i H M _ am _ hi => by show i < n; simpa using hi
  stop := fun H M _ am _ => by show n ≤ _; simp
  yld := fun i H M x H' _ am _ hi y => by
    obtain ⟨rfl, rfl⟩ := y
    have hi : i < n := by simpa using hi
    exact ⟨.int (lo + i), by simp [hi], Kp.refl am, am, .int _⟩
theorem it_str {K : PySem.W.Frag} {H0 : Hp} {M0 : Mm} {z : Str} : ItOk K H0 M0 (Its z) (z.cps.toList.map fun c => W.str ⟨#[c]⟩) fun _ => True where
  go := fun i H M _ am _ hi => by show i < z.cps.size; simpa using hi
  stop := fun H M _ am _ => by show z.cps.size ≤ _; simp
  yld := fun i H M x H' _ am _ hi y => by
    obtain ⟨rfl, c, hc, rfl⟩ := y
    exact ⟨.str ⟨#[c]⟩, by rw [List.getElem?_map, hc]; rfl, Kp.refl am, am, .str _⟩
def ItR (X : Cx) (tg : Expr) (r : V → Hp → (It → Hp → Prop) → Prop) : Prop :=
  ∀ (pins : List (Addr × Obj)) (s : Shared) (σ : SV) (H : Hp) (x : V) (u : Value) (R : It → Hp → Prop), Inv X pins σ H s → RelV x u → r x H R → wpAny (model X.prog X.w) X.A (pyIter u) (PIE X pins σ tg R) X.xe s
theorem ir_list : ItR X tg (fun x H R => ∃ a, x = .ref a ∧ (∃ xs, SqL X.K H a xs) ∧ R (Itl X.K a) H) := by
  rintro pins s1 σ H1 x u R I1 r1 ⟨a, rfl, ⟨xs, hq⟩, q⟩
  cases r1
  obtain ⟨its, rv, p, hz⟩ := I1.list hq
  refine wpAny_pyIter_list p.isList ?_
  refine ⟨s1.heap.objs.size, [s1.heap.objs.size], _, _, H1, rfl, I1.kept (t' := s1.toks) fun b o e => Heap.get?_push_of_some _ e, turn_list a _, ⟨_, Heap.get?_push_size _ rfl, rfl, rfl⟩, fun b hb => ?_, q⟩
  have e : b = s1.heap.objs.size := by simpa using hb
  subst e
  exact I1.fpOk (Nat.le_refl _) (I1.hok.fresh (Nat.le_refl _))
theorem ir_tup : ItR X tg (fun x H R => ∃ a, x = .ref a ∧ (∃ xs, SqT X.K H a xs) ∧ R (Itt X.K a) H) := by
  rintro pins s1 σ H1 x u R I1 r1 ⟨a, rfl, ⟨xs, hq⟩, q⟩
  cases r1
  obtain ⟨its, rv, p, hz⟩ := I1.tuple hq
  refine wpAny_pyIter_tuple (show s1.heap.IsTuple a its.toArray from p) ?_
  refine ⟨s1.heap.objs.size, [s1.heap.objs.size], _, _, H1, rfl, I1.kept (t' := s1.toks) fun b o e => Heap.get?_push_of_some _ e, turn_tuple a _, ⟨_, Heap.get?_push_size _ rfl, rfl, rfl⟩, fun b hb => ?_, q⟩
  have e : b = s1.heap.objs.size := by simpa using hb
  subst e
  exact I1.fpOk (Nat.le_refl _) (I1.hok.fresh (Nat.le_refl _))
theorem ir_str {x : Str} {px : Pos} : ItR X (.Name x px) (fun x H R => ∃ z, x = .str z ∧ R (Its z) H) := by
  rintro pins s1 σ H1 x u R I1 r1 ⟨z, rfl, q⟩
  obtain ⟨t, rfl⟩ := r1
  have fp : ∀ b ∈ [s1.heap.objs.size], FpOk X pins H1 b := fun b hb => by
    have e : b = s1.heap.objs.size := by simpa using hb
    subst e
    exact I1.fpOk (Nat.le_refl _) (I1.hok.fresh (Nat.le_refl _))
  cases ha : z.cps.all (· < 128)
  · refine wpAny_pyIter_wide ha ?_
    exact ⟨s1.heap.objs.size, [s1.heap.objs.size], _, _, H1, rfl, I1.kept (t' := s1.toks) fun b o e => Heap.get?_push_of_some _ e,
      turn_str z _ "str_iterator" t (fun A s i c Q E a b d => wpAny_pyNext_wide_item a b d) (fun A s i Q E a b c d => wpAny_pyNext_wide_end a b c d) (fun A i s Q E a b => wpAny_pyIter_striter_wide a b), ⟨_, Heap.get?_push_size _ rfl, rfl, rfl⟩, fp, q⟩
  · refine wpAny_pyIter_ascii ha ?_
    exact ⟨s1.heap.objs.size, [s1.heap.objs.size], _, _, H1, rfl, I1.kept (t' := s1.toks) fun b o e => Heap.get?_push_of_some _ e,
      turn_str z _ "str_ascii_iterator" t (fun A s i c Q E a b d => wpAny_pyNext_ascii_item a b d) (fun A s i Q E a b c d => wpAny_pyNext_ascii_end a b c d) (fun A i s Q E a b => wpAny_pyIter_striter_ascii a b), ⟨_, Heap.get?_push_size _ rfl, rfl, rfl⟩, fp, q⟩
theorem _root_.L2.PI.of {r : V → Hp → (It → Hp → Prop) → Prop} {tl : TE} (hl : PE X l tl) (hr : ItR X tg r) : PI X tg l (fun σ H R => tl σ H fun x H1 => r x H1 R) := fun pins s σ H R I h =>
  thn (hl pins s σ H _ I h) fun u s1 ⟨x, H1, I1, r1, q1⟩ => hr pins s1 σ H1 x u R I1 r1 q1
def upIr (K : PySem.W.Frag) (r : W → Mm → (List W → (Mm → Prop) → Mm → Prop) → Prop) : V → Hp → (It → Hp → Prop) → Prop := fun x H R' => ∃ (wx : W) (M : Mm) (R : List W → (Mm → Prop) → Mm → Prop), AV K H M x wx ∧ AM K H M ∧ r wx M R ∧
  ∀ J H' ws keep M', Kp H M H' M' → AM K H' M' → ItOk K H' M' J ws keep → R ws keep M' → R' J H'
def rIt : W → Mm → (List W → (Mm → Prop) → Mm → Prop) → Prop
  | .tup ws, M1, R => R ws (fun _ => True) M1
  | .rl ws, M1, R => R ws (fun _ => True) M1
  | .sc ws, M1, R => R ws (fun _ => True) M1
  | .ref a, M1, R => ∃ ws, M1 a = some (.lst ws) ∧ R ws (fun M => M a = some (.lst ws)) M1
  | _, _, _ => False
def rItN : W → Mm → (List W → (Mm → Prop) → Mm → Prop) → Prop
  | .tup ws, M1, R => R ws (fun _ => True) M1
  | .rl ws, M1, R => R ws (fun _ => True) M1
  | .sc ws, M1, R => R ws (fun _ => True) M1
  | .str z, M1, R => R (z.cps.toList.map fun c => W.str ⟨#[c]⟩) (fun _ => True) M1
  | .ref a, M1, R => ∃ ws, M1 a = some (.lst ws) ∧ R ws (fun M => M a = some (.lst ws)) M1
  | _, _, _ => False
theorem ir_seq : ItR X tg (upIr X.K rIt) := by
  rintro pins s σ H x u R' I r1 ⟨wx, M, R, ax, am, h, k⟩
  cases ax <;> first | exact (show False from h).elim | skip
  case tup a xs ws e q => exact ir_tup pins s σ H _ u R' I r1 ⟨a, rfl, ⟨xs, SqT.of e⟩, k _ _ _ _ _ (Kp.refl am) am (it_tup am e q) h⟩
  case rl a xs ws e n q => exact ir_list pins s σ H _ u R' I r1 ⟨a, rfl, ⟨xs, SqL.of e⟩, k _ _ _ _ _ (Kp.refl am) am (it_rl am e n q) h⟩
  case sc a xs ws e q => exact ir_list pins s σ H _ u R' I r1 ⟨a, rfl, ⟨xs, e.sq⟩, k _ _ _ _ _ (Kp.refl am) am (it_sc am e q) h⟩
  case ref a =>
    obtain ⟨ws, e, r⟩ := h
    obtain ⟨vs, f, q⟩ := am.lst e
    exact ir_list pins s σ H _ u R' I r1 ⟨a, rfl, ⟨vs, SqL.of f⟩, k _ _ _ _ _ (Kp.refl am) am it_list r⟩
theorem ir_seqN {y : Str} {py : Pos} : ItR X (.Name y py) (upIr X.K rItN) := by
  rintro pins s σ H x u R' I r1 ⟨wx, M, R, ax, am, h, k⟩
  cases ax <;> first | exact (show False from h).elim | skip
  case str z => exact ir_str pins s σ H _ u R' I r1 ⟨z, rfl, k _ _ _ _ _ (Kp.refl am) am it_str h⟩
  case tup a xs ws e q => exact ir_tup pins s σ H _ u R' I r1 ⟨a, rfl, ⟨xs, SqT.of e⟩, k _ _ _ _ _ (Kp.refl am) am (it_tup am e q) h⟩
  case rl a xs ws e n q => exact ir_list pins s σ H _ u R' I r1 ⟨a, rfl, ⟨xs, SqL.of e⟩, k _ _ _ _ _ (Kp.refl am) am (it_rl am e n q) h⟩
  case sc a xs ws e q => exact ir_list pins s σ H _ u R' I r1 ⟨a, rfl, ⟨xs, e.sq⟩, k _ _ _ _ _ (Kp.refl am) am (it_sc am e q) h⟩
  case ref a =>
    obtain ⟨ws, e, r⟩ := h
    obtain ⟨vs, f, q⟩ := am.lst e
    exact ir_list pins s σ H _ u R' I r1 ⟨a, rfl, ⟨vs, SqL.of f⟩, k _ _ _ _ _ (Kp.refl am) am it_list r⟩
def iIt (r : W → Mm → (List W → (Mm → Prop) → Mm → Prop) → Prop) (tl : TE3) : TI3 := fun τ M R => tl τ M fun w M1 => r w M1 R
theorem iIt_up {r : W → Mm → (List W → (Mm → Prop) → Mm → Prop) → Prop} (hl : E3 X l tl) (hr : ItR X tg (upIr X.K r)) : PI X tg l (upI X.K (iIt r tl)) := (PI.of hl hr).weak fun σ H R' ⟨τ, M, R, as, am, h, k⟩ =>
  ⟨τ, M, _, as, am, h, fun x H1 wx M1 k1 am1 ax h1 => ⟨wx, M1, R, ax, am1, h1, fun J H' ws keep M' k' am' it r => k J H' ws keep M' (k1.trans k') am' it r⟩⟩
theorem i_seq (hl : E3 X l tl) : PI X tg l (upI X.K (iIt rIt tl)) := iIt_up hl ir_seq
theorem i_seqN {y : Str} {py : Pos} (hl : E3 X l tl) : PI X (.Name y py) l (upI X.K (iIt rItN tl)) := iIt_up hl ir_seqN
def rangeW (lo : Int) (n : Nat) : List W := (List.range n).map fun i => W.int (lo + (i : Nat))
def iR1 (ta : TA3) : TI3 := fun τ M R => ta τ M fun ws M1 => ∃ j : Int, ws = [.int j] ∧ -(2 ^ 62) ≤ j ∧ j < 2 ^ 62 ∧ R (rangeW 0 j.toNat) (fun _ => True) M1
def iR2 (ta : TA3) : TI3 := fun τ M R => ta τ M fun ws M1 => ∃ i j : Int, ws = [.int i, .int j] ∧ (-(2 ^ 62) ≤ i ∧ i < 2 ^ 62 ∧ -(2 ^ 62) ≤ j ∧ j < 2 ^ 62) ∧ R (rangeW i (j - i).toNat) (fun _ => True) M1
theorem i_range1 {tA : TA3} {p pos : Pos} (hg : Gl X "range") (hm : X.mg "range" = none) (ha : A3 X [a] tA) (hs : starEach [a] X.env = [(false, eval a X.env)] := by rfl) : PI X tg (.Call (.Name "range" p) [a] [] pos) (upI X.K (iR1 tA)) :=
  (pi_range1 hg hm ha hs).weak fun σ H R' ⟨τ, M, R, as, am, h, k⟩ => ⟨τ, M, _, as, am, h, fun vs H1 ws M1 k1 am1 ax ⟨j, e, h1, h2, r⟩ => by
    subst e
    obtain ⟨v, rfl, av⟩ := ax.one
    cases av
    exact ⟨j, rfl, h1, h2, k _ _ _ _ _ k1 am1 it_rng r⟩⟩
theorem i_range2 {tA : TA3} {p pos : Pos} (hg : Gl X "range") (hm : X.mg "range" = none) (ha : A3 X [a, b] tA) (hs : starEach [a, b] X.env = [(false, eval a X.env), (false, eval b X.env)] := by rfl) (hs2 : starEach [b] X.env = [(false, eval b X.env)] := by rfl) :
    PI X tg (.Call (.Name "range" p) [a, b] [] pos) (upI X.K (iR2 tA)) :=
  (pi_range2 hg hm ha hs hs2).weak fun σ H R' ⟨τ, M, R, as, am, h, k⟩ => ⟨τ, M, _, as, am, h, fun vs H1 ws M1 k1 am1 ax ⟨i, j, e, h1, r⟩ => by
    subst e
    obtain ⟨v, u, rfl, av, au⟩ := ax.two
    cases av; cases au
    exact ⟨i, j, rfl, h1, k _ _ _ _ _ k1 am1 it_rng r⟩⟩
def vCompW (ws : List W) (keep : Mm → Prop) (g : TG3) (tt : TT3) (te : TE3) (τ₀ : S3) (M1 : Mm) (R : K3) : Prop :=
  ∀ p, M1 p = none → ∃ Pv : Nat → S3 → List W → Mm → Prop, Pv 0 τ₀ [] M1 ∧ (∀ vs i τ acc M, i ≤ ws.length → M p = none → Pv i τ acc M → keep (put M p (.fix vs))) ∧
    (∀ vs i w τ acc M, ws[i]? = some w → M p = none → Pv i τ acc M → g w τ (put M p (.fix vs)) fun τ2 M2 => tt τ2 M2 fun b M3 =>
      if b = true then te τ2 M3 fun y M4 => M4 p = some (.fix vs) ∧ acc.length < sizeLine ∧ ∃ M5, Sub M5 (del M4 p) ∧ Pv (i + 1) τ2 (acc ++ [y]) M5
      else M3 p = some (.fix vs) ∧ ∃ M5, Sub M5 (del M3 p) ∧ Pv (i + 1) τ2 acc M5) ∧
    ∀ τ acc M, M p = none → Pv ws.length τ acc M → R (.ref p) (put M p (.lst acc))
def cmap3 (js : List (Option Nat)) (τ : S3) : S3 := js.map fun o => o.bind fun j => (τ[j]?).join
theorem AS.cmap {K : PySem.W.Frag} {H : Hp} {M : Mm} {σ : SV} {τ : S3} (h : AS K H M σ τ) : ∀ js : List (Option Nat), AS K H M (cmap js σ) (cmap3 js τ)
  | [] => .nil
  | none :: r => .cons (fun _ e => nomatch e) (AS.cmap h r)
  | some j :: r => .cons (fun w e => by
      have e : (τ[j]?).join = some w := e
      cases q : τ[j]? with
      | none => rw [q] at e; cases e
      | some z =>
        rw [q] at e
        have e : z = some w := e
        subst e
        obtain ⟨v, h1, h2⟩ := h.get q
        exact ⟨v, by show (σ[j]?).join = some v; rw [h1]; rfl, h2⟩) (AS.cmap h r)
def vComp (wi : TI3) (g : TG3) (tt : TT3) (te : TE3) (js : List (Option Nat)) : TE3 := fun τ M R => wi τ M fun ws keep M1 => vCompW ws keep g tt te (cmap3 js τ) M1 R
theorem vComp_up {wi : TI3} {g : TG3} {tt : TT3} {te : TE3} {js : List (Option Nat)} {σ : SV} {H : Hp} {Q : VK} (h : up X.K (vComp wi g tt te js) σ H Q) : tComp (upI X.K wi) (fun _ => upG X.K g) (fun _ => upT X.K tt) (fun _ => up X.K te) js σ H Q := by
  obtain ⟨τ, M, R, as, am, h, k⟩ := h
  refine ⟨τ, M, _, as, am, h, fun J H1 ws keep M1 k1 am1 it hall p hp B => ?_⟩
  obtain ⟨Pv, h0, hk, hs, hd⟩ := hall p (am1.nonM hp)
  obtain ⟨amp, kp⟩ := am1.laid (o := .fix []) (u := .lst []) hp upd_same
  have hMp := am1.nonM hp
  refine comp_by ws.length (fun i σ' acc' H' => ∃ τ' acc M', M' p = none ∧ Kp H1 M1 H' (put M' p (.fix acc')) ∧ AM X.K H' (put M' p (.fix acc')) ∧ AS X.K H' (put M' p (.fix acc')) σ' τ' ∧ AVs X.K H' (put M' p (.fix acc')) acc' acc ∧ Pv i τ' acc M') ?_ ?_ ?_
  · exact ⟨cmap3 js τ, [], M1, hMp, kp, amp, ((as.kp am k1).kp am1 kp).cmap js, .nil, h0⟩
  · rintro σ' acc' H' ⟨τ', acc, M', mp, k', am', as', av, pv⟩
    refine ⟨it.stop H' _ k' am' (hk _ _ _ _ _ (Nat.le_refl _) mp pv), ?_⟩
    have hp' : H' p = some (.lst acc') := am' p _ put_same
    refine k _ H' _ (put M' p (.lst acc)) (k1.trans ⟨fun a o n e => ?_, k'.dom⟩) (fun a o e => ?_) (.ref p) (hd τ' acc M' mp pv)
    · obtain ⟨x, y⟩ := k'.fr a o n e
      exact ⟨x, by rw [put_ne (ne_of_none e hp)] at y ⊢; exact y⟩
    · by_cases ha : a = p
      · subst ha; rw [put_same] at e; cases e; exact ⟨acc', hp', av.go go_re⟩
      · rw [put_ne ha] at e; exact (am' a o (by rw [put_ne ha]; exact e)).go go_re rfl
  · rintro i σ' acc' H' hi ⟨τ', acc, M', mp, k', am', as', av, pv⟩
    have hkp := hk acc' i τ' acc M' (Nat.le_of_lt hi) mp pv
    refine ⟨it.go i H' _ k' am' hkp hi, fun x H3 y => ?_⟩
    obtain ⟨w, hw, k3, am3, ax⟩ := it.yld i H' _ x H3 k' am' hkp hi y
    refine ⟨w, τ', _, _, ax, as'.kp am' k3, am3, hs acc' i w τ' acc M' hw mp pv, fun σ4 H4 τ4 M4 k4 am4 as4 h4 => ⟨τ4, M4, _, as4, am4, h4, fun b H5 M5 k5 am5 h5 => ?_⟩⟩
    have kk : Kp H' (put M' p (.fix acc')) H5 M5 := (k3.trans k4).trans k5
    cases b with
    | false =>
      obtain ⟨m5, M6, sb, pv6⟩ : M5 p = some (.fix acc') ∧ ∃ M6, Sub M6 (del M5 p) ∧ Pv (i + 1) τ4 acc M6 := h5
      have sb' : Sub (put M6 p (.fix acc')) M5 := by
        have := (sb.trans Sub.del).put (a := p) (o := .fix acc')
        rwa [put_self m5] at this
      exact iteF ⟨τ4, acc, M6, sb.non del_same, (k'.trans kk).sub sb', am5.sub sb', (as4.kp am4 k5).sub sb', (av.kp am' kk).sub sb', pv6⟩
    | true =>
      have h5 : te τ4 M5 fun y M4 => M4 p = some (.fix acc') ∧ acc.length < sizeLine ∧ ∃ M5, Sub M5 (del M4 p) ∧ Pv (i + 1) τ4 (acc ++ [y]) M5 := h5
      refine iteT ⟨τ4, M5, _, as4.kp am4 k5, am5, h5, fun y H6 wy M6 k6 am6 ay ⟨m6, hl, M7, sb, pv7⟩ => ?_⟩
      have kk6 := kk.trans k6
      have hp6 : H6 p = some (.lst acc') := am6 p _ m6
      obtain ⟨am8, k8⟩ := am6.write (o := .fix (acc' ++ [y])) (u := .lst (acc' ++ [y])) m6 upd_same
      have sb' : Sub (put M7 p (.fix (acc' ++ [y]))) (put M6 p (.fix (acc' ++ [y]))) := (sb.trans Sub.del).put
      refine ⟨hp6, by rw [av.length]; exact hl, τ4, acc ++ [wy], M7, sb.non del_same, ((k'.trans kk6).trans k8).sub sb', am8.sub sb', (((as4.kp am4 k5).kp am5 k6).kp am6 k8).sub sb', ?_, pv7⟩
      exact (((av.kp am' kk6).append (.cons ay .nil)).kp am6 k8).sub sb'
variable {sc : Scope} {N' : List Str} {js : List (Option Nat)} {iter elt : Expr} {ifs : List Expr} {wi : TI3} {g : TG3} {tt : TT3}
def vTrue : TT3 := fun _ M Q => Q true M
theorem if_nil : PIfs X [] (upT X.K vTrue) := pifs_nil.weak fun σ H Q ⟨τ, M, R, as, am, h, k⟩ => k true H M (Kp.refl am) am h
theorem if_one {c : Expr} {t : TT3} (h : T3 X c t) : PIfs X [c] (upT X.K t) := pifs_one h
theorem v_comp (N' : List Str) (js : List (Option Nat)) (hi : PI X tg iter (upI X.K wi))
    (hg : ∀ B, PG (cxB X sc N' B) tg (upG X.K g)) (ht : ∀ B, PIfs (cxB X sc N' B) ifs (upT X.K tt)) (he : ∀ B, PE (cxB X sc N' B) elt (up X.K te))
    (S0 : cscopeB N' sc X.env.scope = true := by kernel_rfl) (hj : jsOk N' X.N sc js N' = true := by kernel_rfl) (hc : X.calm = true := by rfl) (hs : ∀ x, foldedSetIterable iter X.env x = pure x := by intro _; rfl) :
    E3 X (.ListComp elt [⟨tg, iter, ifs, 0⟩] sc pos) (vComp wi g tt te js) := (pe_comp N' js hi hg ht he S0 hj hc hs).weak fun _ _ _ h => vComp_up h
theorem s_setcomp {i : Nat} {x : Str} {px spos : Pos} (hN : X.N.Nodup) (hi0 : X.N[i]? = some x) (hx : Loc X.env.scope x) (N' : List Str) (js : List (Option Nat)) (hi : PI X tg iter (upI X.K wi))
    (hg : ∀ B, PG (cxB X sc N' B) tg (upG X.K g)) (ht : ∀ B, PIfs (cxB X sc N' B) ifs (upT X.K tt)) (he : ∀ B, PE (cxB X sc N' B) elt (up X.K te))
    (S0 : cscopeB N' sc X.env.scope = true := by kernel_rfl) (hj : jsOk N' X.N sc js N' = true := by kernel_rfl) (hc : X.calm = true := by rfl) (hsw : swapsWith (.ListComp elt [⟨tg, iter, ifs, 0⟩] sc pos) (some (.Name x px)) spos.line X.env = pure true := by rfl)
    (hf : X.fn x = true ∨ X.env.scope.names.lookup x = some .local := by first | exact .inl rfl | exact .inr rfl | assumption)
    (hs : ∀ x, foldedSetIterable iter X.env x = pure x := by intro _; rfl) : P3 X (.Assign [.Name x px] (.ListComp elt [⟨tg, iter, ifs, 0⟩] sc pos) spos) (vSet i (vComp wi g tt te js)) :=
  (ps_setcomp hN hi0 hx N' js hi hg ht he S0 hj hc hsw hf hs).weak fun D σ H ⟨τ, M, D', as, am, h, k⟩ => vComp_up ⟨τ, M, _, as, am, h, fun y H1 wy M1 k1 am1 ay h1 => k.nx _ _ _ _ k1 am1 ((as.kp am k1).set ay i) h1⟩
end
def start3 (N : List Str) (ws : List W) : S3 := ws.map some ++ List.replicate (N.length - ws.length) none
def ends3 (R : K3) : D3 := { nx := fun _ M' => ∃ M'', Sub M'' M' ∧ R .non M'', rt := fun w M' => ∃ M'', Sub M'' M' ∧ R w M'' }
section
variable {P : Program} {w : World} {K : PySem.W.Frag} {mg : Str → Option Value} {base : Heap}
theorem ok3 {x qual : Str} {st : Stmt} {f : Addr} {fd : FuncData} {N ps : List Str} {k : Nat} {sp : Sp3} (F : Fun K x qual st f fd) (S : FnScope N ps (defScope st)) (len : ∀ ws M R, sp ws M R → ws.length = ps.length)
    (hbody : ∀ (cdv : Value) (A : Around) (outer : List Env) (s : Shared) (H : Hp) (E : XK) (ws : List W) (M : Mm) (R : K3), Room k (A.deeper (envOfC qual (defScope st) s.heap.objs.size f cdv)) → sp ws M R →
      ∃ t, Ps3 (cxOf CX0 P w K mg base N qual (defScope st) f cdv A outer s H E).nox (defBody st) t ∧ t (ends3 R) (start3 N ws) M) : FnOk P w K mg base CX0 (k + 1) f fd ps (upSp K sp) := by
  refine F.ok S (fun vs H Q E ⟨ws, M, R, am, av, h, _⟩ => by rw [av.length]; exact len ws M R h) fun cdv A outer s H vs Q E hr ⟨ws, M, R, am, av, h, kk⟩ => ?_
  obtain ⟨t, ht, h'⟩ := hbody cdv A outer s H E ws M R hr h
  refine ⟨_, ht, start3 N ws, M, ends3 R, ?_, am, h', ⟨fun σ' H' τ' M' k' am' as' ⟨M'', sb, r⟩ => kk _ H' _ M'' (k'.sub sb) (am'.sub sb) .non r, fun v H' w M' k' am' av' ⟨M'', sb, r⟩ => kk v H' w M'' (k'.sub sb) (am'.sub sb) (av'.sub sb) r, fun _ _ _ _ _ _ _ z => z.elim, fun _ _ _ _ _ _ _ z => z.elim⟩⟩
  unfold L2.start start3
  rw [av.length]
  exact AS.start av _
def spLaw3 : Sp3 := fun ws M R => ∃ ns : List Int, ws = [.sc (ns.map W.int)] ∧ ns.length ≤ 63 ∧ (M = fun _ => none) ∧ ∀ M', R (.bl true) M'
theorem law_sp {H : Hp} {a : Addr} {ns : List Int} (hl : ns.length ≤ 63) (ho : Only H) (hs : SqL K H a (ns.map V.int)) : upSp K spLaw3 [.ref a] H (fun v _ => v = .bl true) fun _ _ _ => False := by
  have hr : SqR K H a (ns.map V.int) := by
    rcases hs with (e | ⟨o, e⟩) | e
    · rcases ho a with z | ⟨o, xs, z⟩
      · rw [z] at e; cases e
      · rw [z] at e; cases e
    · exact .inl ⟨o, e⟩
    · exact .inr e
  exact ⟨[.sc (ns.map W.int)], fun _ => none, fun w _ => w = .bl true, fun a o e => (nomatch e), .cons (.sc hr (AVs.int ns)) .nil, ⟨ns, rfl, hl, rfl, fun _ => rfl⟩, fun v H' w M' _ _ av r => by subst r; exact av.bl_inv⟩
end
end L3
namespace L3
open PySem PySem.Spec PyProof.Rows L2
section
variable {X : Cx} {a b c : Expr} {ta tb tc : TE3} {pos : Pos}
def vChain (r r' : R3) (ta tb tc : TE3) : TE3 := fun τ M R => ta τ M fun x M1 => tb τ M1 fun y M2 => r x y M2 fun z M3 => ∃ k, z = .bl k ∧ if k = true then tc τ M3 fun w M4 => r' y w M4 R else R (.bl false) M3
def vNever : TS3 := fun _ _ _ => False
def nameW (M : Mm) : W → String → Prop
  | .non, T => T = "NoneType"
  | .bl _, T => T = "bool"
  | .int _, T => T = "int"
  | .str _, T => T = "str"
  | .tup _, T => T = "tuple"
  | .rl _, T => T = "list"
  | .dk _, T => T = "dict"
  | .ref a, T => (T = "list" ∧ ∃ ws, M a = some (.lst ws)) ∨ (T = "dict" ∧ ((∃ kvs, M a = some (.dK kvs)) ∨ ∃ kvs, M a = some (.dT kvs)))
  | _, _ => False
def subL : List (String × String × Bool) := [("int", "int", true), ("int", "bool", false), ("int", "str", false), ("int", "tuple", false), ("int", "list", false), ("bool", "bool", true), ("bool", "int", true), ("bool", "str", false), ("bool", "list", false), ("bool", "tuple", false), ("str", "str", true), ("str", "int", false), ("str", "tuple", false), ("str", "list", false), ("str", "bool", false), ("tuple", "tuple", true), ("tuple", "list", false), ("tuple", "str", false), ("tuple", "int", false), ("tuple", "bool", false), ("list", "list", true), ("list", "tuple", false), ("list", "str", false), ("list", "int", false), ("list", "bool", false), ("NoneType", "list", false), ("NoneType", "tuple", false), ("NoneType", "int", false), ("NoneType", "str", false), ("NoneType", "bool", false), ("dict", "dict", true), ("dict", "list", false)]
def subT (n T : String) : Option Bool := (subL.find? fun p => p.1 == n && p.2.1 == T).map fun p => p.2.2
def AllSub (K : PySem.W.Frag) : List (String × String × Bool) → Prop
  | [] => True
  | p :: l => PySem.W.kitOne K (.type p.1) (.type p.2.1) = some p.2.2 ∧ AllSub K l
theorem all_sub {K : PySem.W.Frag} : ∀ {l : List (String × String × Bool)}, AllSub K l → ∀ p ∈ l, PySem.W.kitOne K (.type p.1) (.type p.2.1) = some p.2.2
  | _ :: _, h, _, m => by
    cases m with
    | head => exact h.1
    | tail _ m => exact all_sub h.2 _ m
theorem sub_all (K : PySem.W.Frag) : ∀ p ∈ subL, PySem.W.kitOne K (.type p.1) (.type p.2.1) = some p.2.2 := by
  refine all_sub ?_
  refine ⟨by kernel_rfl, by kernel_rfl, by kernel_rfl, by kernel_rfl, by kernel_rfl, by kernel_rfl, by kernel_rfl, by kernel_rfl, by kernel_rfl, by kernel_rfl, by kernel_rfl, by kernel_rfl, by kernel_rfl, by kernel_rfl, by kernel_rfl, by kernel_rfl, by kernel_rfl, by kernel_rfl, by kernel_rfl, by kernel_rfl, by kernel_rfl, by kernel_rfl, by kernel_rfl, by kernel_rfl, by kernel_rfl, by kernel_rfl, by kernel_rfl, by kernel_rfl, by kernel_rfl, by kernel_rfl, by kernel_rfl, by kernel_rfl, trivial⟩
theorem kit_sub (K : PySem.W.Frag) {n T : String} {b : Bool} (h : subT n T = some b) : PySem.W.kitOne K (.type n) (.type T) = some b := by
  obtain ⟨p, hp, e⟩ := Option.map_eq_some_iff.mp h
  have h1 := List.find?_some hp
  have h2 := sub_all K p (List.mem_of_find?_eq_some hp)
  rw [Bool.and_eq_true, beq_iff_eq, beq_iff_eq] at h1
  rw [← h1.1, ← h1.2, h2, e]
def rIsi : List W → Mm → K3 → Prop
  | [w, .ty T], M, R => ∃ n b, nameW M w n ∧ subT n T = some b ∧ R (.bl b) M
  | _, _, _ => False
theorem c_isi : CallR X (.builtin "isinstance") (upC X.K rIsi) := by
  rintro pins s σ H xs us Q I rs ⟨ws, M, R, am, axs, h, k⟩
  match ws, h with
  | [w, .ty T], h =>
    obtain ⟨v, u, rfl, av, au⟩ := axs.two
    cases au
    obtain ⟨n, b, hn, hs, r⟩ := h
    have ty : TyOf X.K H v (.type n) := by
      cases av <;> first | exact (show False from hn).elim | skip
      case non => cases (show n = _ from hn); exact .non
      case bl b => cases (show n = _ from hn); exact .bl b
      case int i => cases (show n = _ from hn); exact .int i
      case str x => cases (show n = _ from hn); exact .str x
      case tup e q => cases (show n = _ from hn); exact .tup e
      case rl e _ q => cases (show n = _ from hn); exact .lst e
      case dk e _ _ q => cases (show n = _ from hn); exact .dK e
      case ref a =>
        rcases hn with ⟨e, ws, h⟩ | ⟨e, h⟩
        · subst e
          obtain ⟨vs, f, _⟩ := am.lst h
          exact .lst f
        · subst e
          rcases h with ⟨kvs, h⟩ | ⟨kvs, h⟩
          · obtain ⟨ks, f, _⟩ := am _ _ h; exact .dK f
          · obtain ⟨ks, f, _⟩ := am _ _ h; exact .dT f
    exact call_isinst pins s σ H _ us Q I rs ⟨v, T, _, b, rfl, ty, kit_sub X.K hs, k.at am (.bl b) r⟩
def rUpper : W → List W → Mm → K3 → Prop
  | .str z, [], M, R => z.length ≤ 5592405 ∧ R (.str (Txt.upper z)) M
  | _, _, _, _ => False
theorem m_upper : MtR X "str.upper" (upM X.K rUpper) := by
  rintro pins s σ H x xs v us Q I rx rs ⟨wx, ws, M, R, am, ax, axs, h, k⟩
  match wx, ws, h with
  | .str z, [], h =>
    cases ax; cases axs
    exact mt_upper pins s σ H _ _ v us Q I rx rs ⟨z, rfl, rfl, h.1, k.at am (.str _) h.2⟩
def rPart : W → List W → Mm → K3 → Prop
  | .str z, [.str y], M, R => (y.length == 0) = false ∧ z.length ≤ sizeLine ∧ R (.tup [.str (Txt.partition z y).1, .str (Txt.partition z y).2.1, .str (Txt.partition z y).2.2]) M
  | _, _, _, _ => False
theorem m_partition : MtR X "str.partition" (upM X.K rPart) := by
  rintro pins s σ H x xs v us Q I rx rs ⟨wx, ws, M, R, am, ax, axs, h, k⟩
  match wx, ws, h with
  | .str z, [.str y], h =>
    obtain ⟨u, rfl, au⟩ := axs.one
    cases ax; cases au
    exact mt_partition pins s σ H _ _ v us Q I rx rs ⟨z, y, rfl, rfl, h.1, h.2.1, fun p hp => laidT am k hp (.cons (.str _) (.cons (.str _) (.cons (.str _) .nil))) h.2.2⟩
end
end L3
namespace L3
open PySem PySem.Spec PyProof.Rows L2
section
variable {X : Cx} {a b : Expr} {ta tb : TE3} {pos : Pos} {es : List Expr} {t : TA3}
theorem laidF {K : PySem.W.Frag} {H : Hp} {M : Mm} {R : K3} {Q : VK} {p : Addr} {xs : List V} {ws : List W} (am : AM K H M) (k : Up K H M R Q) (hp : H p = none) (ax : AVs K H M xs ws) (r : R (.rl ws) M) : Q (.ref p) (upd H p (.lst xs)) := by
  obtain ⟨am2, k2⟩ := am.tup (u := .lst xs) hp
  exact k _ _ _ _ k2 am2 (.rl upd_same (am.nonM hp) (ax.newT hp)) r
def vLstF (t : TA3) : TE3 := fun τ M R => t τ M fun ws M1 => ws.length ≤ sizeLine ∧ R (.rl ws) M1
theorem v_lstF (h : A3 X es t) : E3 X (.List es pos) (vLstF t) :=
  (pe_lst h).weak fun σ H Q ⟨τ, M, R, as, am, h, k⟩ => ⟨τ, M, _, as, am, h, fun xs H1 ws M1 k1 am1 axs ⟨hl, r⟩ => ⟨by rw [axs.length]; exact hl, fun p hp => laidF am1 (k.kp k1) hp axs r⟩⟩
theorem opw {f : Value → Value → Sem Value} {r r' : R3} (h : OpR X f (upO X.K r)) (k : ∀ x y M R, r' x y M R → r x y M fun w M' => frz w M' R) : OpR X f (upO X.K r') := fun pins s σ H x y v u Q I rx ry ⟨wx, wy, M, R, am, ax, ay, h', kk⟩ =>
  h pins s σ H x y v u Q I rx ry ⟨wx, wy, M, _, am, ax, ay, k _ _ _ _ h', kk.frz⟩
theorem clw {f : Value} {r r' : List W → Mm → K3 → Prop} (h : CallR X f (upC X.K r)) (k : ∀ x M R, r' x M R → r x M fun w M' => frz w M' R) : CallR X f (upC X.K r') := fun pins s σ H xs us Q I rs ⟨ws, M, R, am, ax, h', kk⟩ =>
  h pins s σ H xs us Q I rs ⟨ws, M, _, am, ax, k _ _ _ h', kk.frz⟩
def rAddF : R3
  | .int i, .int j, M, R => R (.int (i + j)) M
  | .str i, .str j, M, R => i.length + j.length ≤ sizeLine ∧ R (.str (i ++ j)) M
  | .tup xs, .tup ys, M, R => xs ≠ [] ∧ xs.length + ys.length ≤ sizeLine ∧ R (.tup (xs ++ ys)) M
  | .ref a, .ref b, M, R => ∃ xs ys, M a = some (.lst xs) ∧ M b = some (.lst ys) ∧ xs.length + ys.length ≤ sizeLine ∧ R (.rl (xs ++ ys)) M
  | .rl xs, .ref b, M, R => ∃ ys, M b = some (.lst ys) ∧ xs.length + ys.length ≤ sizeLine ∧ R (.rl (xs ++ ys)) M
  | .ref a, .rl ys, M, R => ∃ xs, M a = some (.lst xs) ∧ xs.length + ys.length ≤ sizeLine ∧ R (.rl (xs ++ ys)) M
  | .rl xs, .rl ys, M, R => xs.length + ys.length ≤ sizeLine ∧ R (.rl (xs ++ ys)) M
  | _, _, _, _ => False
theorem o_addF : OpR X (binaryOp .Add) (upO X.K rAddF) := opw o_add fun x y M R h => by
  cases x <;> cases y <;> first | exact (show False from h).elim | skip
  case int.int i j => exact h
  case str.str i j => exact h
  case tup.tup i j => exact h
  case ref.ref i j => obtain ⟨xs, ys, h1, h2, h3, r⟩ := h; exact ⟨xs, ys, h1, h2, h3, New.frz r⟩
  case rl.ref i j => obtain ⟨ys, h2, h3, r⟩ := h; exact ⟨ys, h2, h3, New.frz r⟩
  case ref.rl i j => obtain ⟨ys, h2, h3, r⟩ := h; exact ⟨ys, h2, h3, New.frz r⟩
  case rl.rl i j => exact ⟨h.1, New.frz h.2⟩
def rMulF : R3
  | .int i, .int j, M, R => (CMul i j ∨ CBig i j) ∧ R (.int (i * j)) M
  | .str z, .int n, M, R => z.length ≤ 16 ∧ -(2 ^ 63) ≤ n ∧ n ≤ 1048576 ∧ R (.str (Txt.mul z n)) M
  | .ref a, .int n, M, R => ∃ xs, M a = some (.lst xs) ∧ -(2 ^ 63) ≤ n ∧ n < 2 ^ 63 ∧ xs.length * n.toNat ≤ sizeLine ∧ R (.rl (List.replicate n.toNat xs).flatten) M
  | .rl xs, .int n, M, R => -(2 ^ 63) ≤ n ∧ n < 2 ^ 63 ∧ xs.length * n.toNat ≤ sizeLine ∧ R (.rl (List.replicate n.toNat xs).flatten) M
  | _, _, _, _ => False
theorem o_mulF : OpR X (binaryOp .Mult) (upO X.K rMulF) := opw o_mul fun x y M R h => by
  cases x <;> cases y <;> first | exact (show False from h).elim | skip
  case int.int i j => exact h
  case str.int i j => exact h
  case ref.int i j => obtain ⟨xs, h1, h2, h3, h4, r⟩ := h; exact ⟨xs, h1, h2, h3, h4, New.frz r⟩
  case rl.int i j => obtain ⟨h2, h3, h4, r⟩ := h; exact ⟨h2, h3, h4, New.frz r⟩
def rListF : List W → Mm → K3 → Prop
  | [.tup ws], M, R => R (.rl ws) M
  | [.rl ws], M, R => R (.rl ws) M
  | [.sc ws], M, R => R (.rl ws) M
  | [.dk kvs], M, R => R (.rl (kvs.map fun kv => wK kv.1)) M
  | [.ref a], M, R => (∃ ws, M a = some (.lst ws) ∧ R (.rl ws) M) ∨ ∃ kvs, M a = some (.dK kvs) ∧ R (.rl (kvs.map fun kv => wK kv.1)) M
  | _, _, _ => False
theorem c_listF (hc : X.calm = true) : CallR X (.type "list") (upC X.K rListF) := clw (c_list hc) fun x M R h => by
  match x, h with
  | [.tup ws], h => exact New.frz h
  | [.rl ws], h => exact New.frz h
  | [.sc ws], h => exact New.frz h
  | [.dk kvs], h => exact New.frz h
  | [.ref a], h =>
    rcases h with ⟨ws, e, r⟩ | ⟨kvs, e, r⟩
    · exact .inl ⟨ws, e, New.frz r⟩
    · exact .inr ⟨kvs, e, New.frz r⟩
def rSlF : W → Option Int → Option Int → Mm → K3 → Prop
  | .rl ws, lo, hi, M, R => R (.rl (cutW ws lo hi)) M
  | .sc ws, lo, hi, M, R => R (.rl (cutW ws lo hi)) M
  | .ref a, lo, hi, M, R => ∃ ws, M a = some (.lst ws) ∧ R (.rl (cutW ws lo hi)) M
  | .tup ws, lo, hi, M, R => ¬ (HT.sIx ws.length 0 lo = 0 ∧ HT.sIx ws.length ws.length hi = ws.length) ∧ R (.tup (cutW ws lo hi)) M
  | _, _, _, _, _ => False
theorem rSlF_rSl {x : W} {l u : Option Int} {M : Mm} {R : K3} (h : rSlF x l u M R) : rSl x l u M fun w M' => frz w M' R := by
  cases x <;> first | exact (show False from h).elim | skip
  case tup ws => exact h
  case rl ws => exact New.frz h
  case sc ws => exact New.frz h
  case ref a => obtain ⟨ws, e, r⟩ := h; exact ⟨ws, e, New.frz r⟩
def vSlF (ta : TE3) (tl th : TO3) : TE3 := fun τ M R => ta τ M fun x M1 => tl τ M1 fun l M2 => th τ M2 fun u M3 => rSlF x l u M3 R
theorem v_sliceF {lo hi : Option Expr} {tl th : TO3} {p2 : Pos} (he : E3 X a ta) (hl : PO X lo (upOp X.K tl)) (hu : PO X hi (upOp X.K th)) : E3 X (.Subscript a (.Slice lo hi none p2) pos) (vSlF ta tl th) :=
  (pe_slice sl_up he hl hu).weak fun σ H Q ⟨τ, M, R, as, am, h, k⟩ => ⟨τ, M, _, as, am, h, fun x H1 wx M1 k1 am1 ax h1 => ⟨τ, M1, _, as.kp am k1, am1, h1, fun l H2 M2 k2 am2 h2 => ⟨τ, M2, _, (as.kp am k1).kp am1 k2, am2, h2, fun u H3 M3 k3 am3 h3 =>
    ⟨wx, M3, _, am3, (ax.kp am1 k2).kp am2 k3, rSlF_rSl h3, (((k.kp k1).kp k2).kp k3).frz⟩⟩⟩⟩
variable {sc : Scope} {N' : List Str} {js : List (Option Nat)} {tg iter elt : Expr} {ifs : List Expr} {wi : TI3} {g : TG3} {tt : TT3} {te : TE3}
theorem s_setcompF {i : Nat} {x : Str} {px spos : Pos} (hN : X.N.Nodup) (hi0 : X.N[i]? = some x) (hx : Loc X.env.scope x) (N' : List Str) (js : List (Option Nat)) (hi : PI X tg iter (upI X.K wi))
    (hg : ∀ B, PG (cxB X sc N' B) tg (upG X.K g)) (ht : ∀ B, PIfs (cxB X sc N' B) ifs (upT X.K tt)) (he : ∀ B, PE (cxB X sc N' B) elt (up X.K te))
    (S0 : cscopeB N' sc X.env.scope = true := by kernel_rfl) (hj : jsOk N' X.N sc js N' = true := by kernel_rfl) (hc : X.calm = true := by rfl) (hsw : swapsWith (.ListComp elt [⟨tg, iter, ifs, 0⟩] sc pos) (some (.Name x px)) spos.line X.env = pure true := by rfl)
    (hf : X.fn x = true ∨ X.env.scope.names.lookup x = some .local := by first | exact .inl rfl | exact .inr rfl | assumption)
    (hs : ∀ x, foldedSetIterable iter X.env x = pure x := by intro _; rfl) : P3 X (.Assign [.Name x px] (.ListComp elt [⟨tg, iter, ifs, 0⟩] sc pos) spos) (vSet i (vFrz (vComp wi g tt te js))) :=
  (ps_setcomp hN hi0 hx N' js hi hg ht he S0 hj hc hsw hf hs).weak fun D σ H ⟨τ, M, D', as, am, h, k⟩ => vComp_up ⟨τ, M, _, as, am, h, Up.frz fun y H1 wy M1 k1 am1 ay h1 => k.nx _ _ _ _ k1 am1 ((as.kp am k1).set ay i) h1⟩
end
def Pl : Nat → W → Prop
  | _, .non => True
  | _, .int _ => True
  | _, .str x => PyData.strOk x = true
  | n + 1, .tup ws => ∀ w ∈ ws, Pl n w
  | n + 1, .rl ws => ∀ w ∈ ws, Pl n w
  | _, _ => False
def der (M : Mm) : W → W
  | .ref a => match M a with
    | some (.lst ws) => .rl ws
    | _ => .ref a
  | w => w
section
variable {M : Mm}
theorem snaps_pl {n : Nat} (ih : ∀ {w : W}, Pl n w → ∃ d, Snap M w d ∧ d.canLay0 = true ∧ d.depth ≤ n) : ∀ {ws : List W}, (∀ w ∈ ws, Pl n w) → ∃ ds, Snaps M ws ds ∧ PyData.canLayAll0 ds = true ∧ PyData.depthAll ds ≤ n
  | [], _ => ⟨[], .nil, rfl, by simp [PyData.depthAll]⟩
  | w :: ws, h => by
    obtain ⟨d, s, c, e⟩ := ih (h w List.mem_cons_self)
    obtain ⟨ds, ss, cc, ee⟩ := snaps_pl ih fun z hz => h z (List.mem_cons_of_mem _ hz)
    exact ⟨d :: ds, .cons s ss, by simp [PyData.canLayAll0, c, cc], by simp only [PyData.depthAll]; omega⟩
theorem snap_pl : ∀ {n : Nat} {w : W}, Pl n w → ∃ d, Snap M w d ∧ d.canLay0 = true ∧ d.depth ≤ n := by
  intro n
  induction n with
  | zero =>
    intro w h
    cases w <;> first | exact (show False from h).elim | skip
    case non => exact ⟨_, .non, rfl, by simp [PyData.depth]⟩
    case int i => exact ⟨_, .int i, rfl, by simp [PyData.depth]⟩
    case str x => exact ⟨_, .str x, h, by simp [PyData.depth]⟩
  | succ n ih =>
    intro w h
    cases w <;> first | exact (show False from h).elim | skip
    case non => exact ⟨_, .non, rfl, by simp [PyData.depth]⟩
    case int i => exact ⟨_, .int i, rfl, by simp [PyData.depth]⟩
    case str x => exact ⟨_, .str x, h, by simp [PyData.depth]⟩
    case tup ws =>
      obtain ⟨ds, s, c, e⟩ := snaps_pl ih h
      exact ⟨_, .tup s, by simpa [PyData.canLay0] using c, by simp only [PyData.depth]; omega⟩
    case rl ws =>
      obtain ⟨ds, s, c, e⟩ := snaps_pl ih h
      exact ⟨_, .rl s, by simpa [PyData.canLay0] using c, by simp only [PyData.depth]; omega⟩
theorem snap_der {n : Nat} {w : W} (h : Pl n (der M w)) : ∃ d, Snap M w d ∧ Snap M (der M w) d ∧ d.canLay0 = true ∧ d.depth ≤ n := by
  obtain ⟨d, s, c, e⟩ := snap_pl (M := M) h
  refine ⟨d, ?_, s, c, e⟩
  cases w <;> first | exact s | skip
  case ref a =>
    cases q : M a with
    | none =>
      have e : der M (.ref a) = .ref a := by simp [der, q]
      rw [e] at s; exact s
    | some o =>
      cases o with
      | lst ws =>
        have e : der M (.ref a) = .rl ws := by simp [der, q]
        rw [e] at s
        cases s with
        | rl r => exact .ref q r
      | dK _ =>
        have e : der M (.ref a) = .ref a := by simp [der, q]
        rw [e] at s; exact s
      | dT _ =>
        have e : der M (.ref a) = .ref a := by simp [der, q]
        rw [e] at s; exact s
      | fix _ =>
        have e : der M (.ref a) = .ref a := by simp [der, q]
        rw [e] at s; exact s
      | exc _ =>
        have e : der M (.ref a) = .ref a := by simp [der, q]
        rw [e] at s; exact s
      | ins _ _ _ =>
        have e : der M (.ref a) = .ref a := by simp [der, q]
        rw [e] at s; exact s
      | dn _ _ _ _ =>
        have e : der M (.ref a) = .ref a := by simp [der, q]
        rw [e] at s; exact s
      | vw _ =>
        have e : der M (.ref a) = .ref a := by simp [der, q]
        rw [e] at s; exact s
theorem eqvs_pl {n : Nat} (ih : ∀ {x y : W} {dx dy : PyData}, Pl n x → Pl n y → Snap M x dx → Snap M y dy → (PyData.eqv dx dy = true ↔ x = y)) : ∀ {xs ys : List W} {dx dy : List PyData}, (∀ w ∈ xs, Pl n w) → (∀ w ∈ ys, Pl n w) → Snaps M xs dx → Snaps M ys dy → (PyData.eqvAll dx dy = true ↔ xs = ys)
  | [], [], _, _, _, _, .nil, .nil => by simp [PyData.eqvAll]
  | [], _ :: _, _, _, _, _, .nil, .cons _ _ => by simp [PyData.eqvAll]
  | _ :: _, [], _, _, _, _, .cons _ _, .nil => by simp [PyData.eqvAll]
  | x :: xs, y :: ys, _, _, hx, hy, .cons s1 r1, .cons s2 r2 => by
    rw [PyData.eqvAll, Bool.and_eq_true, ih (hx x List.mem_cons_self) (hy y List.mem_cons_self) s1 s2, eqvs_pl ih (fun z hz => hx z (List.mem_cons_of_mem _ hz)) (fun z hz => hy z (List.mem_cons_of_mem _ hz)) r1 r2]
    simp
theorem eqv_pl : ∀ {n : Nat} {x y : W} {dx dy : PyData}, Pl n x → Pl n y → Snap M x dx → Snap M y dy → (PyData.eqv dx dy = true ↔ x = y) := by
  intro n
  induction n with
  | zero =>
    intro x y dx dy hx hy sx sy
    cases sx <;> first | exact (show False from hx).elim | skip
    all_goals cases sy <;> first | exact (show False from hy).elim | simp [PyData.eqv]
  | succ n ih =>
    intro x y dx dy hx hy sx sy
    cases sx <;> first | exact (show False from hx).elim | skip
    all_goals cases sy <;> first | exact (show False from hy).elim | skip
    all_goals first | (simp [PyData.eqv]; done) | skip
    case tup.tup r1 _ _ r2 => rw [PyData.eqv, eqvs_pl ih hx hy r1 r2]; simp
    case rl.rl r1 _ _ r2 => rw [PyData.eqv, eqvs_pl ih hx hy r1 r2]; simp
theorem rEqD_pl {neg : Bool} {x y : W} {R : K3} (n : Nat) (hn : n ≤ 60) (hx : Pl n (der M x)) (hy : Pl n (der M y)) (h : ∀ b : Bool, (b = true ↔ der M x = der M y) → R (.bl (if neg then !b else b)) M) : rEqD neg x y M R := by
  obtain ⟨dx, s1, s1', c1, e1⟩ := snap_der hx
  obtain ⟨dy, s2, s2', c2, e2⟩ := snap_der hy
  exact ⟨dx, dy, s1, s2, ⟨c1, by omega⟩, ⟨c2, by omega⟩, h _ (eqv_pl hx hy s1' s2')⟩
theorem rEq_pl {neg : Bool} {x y : W} {R : K3} (n : Nat) (hn : n ≤ 60) (hx : Pl n (der M x)) (hy : Pl n (der M y)) (h : ∀ b : Bool, (b = true ↔ der M x = der M y) → R (.bl (if neg then !b else b)) M) : rEq neg x y M R := by
  have d := rEqD_pl n hn hx hy h
  cases x <;> first | exact d | skip
  case int i =>
    cases y <;> first | exact d | skip
    case int j => exact h (decide (i = j)) (by simp [der])
  case str i =>
    cases y <;> first | exact d | skip
    case str j => exact h (decide (i = j)) (by simp [der])
  case bl i =>
    cases y <;> first | exact d | skip
    case bl j => exact (show False by cases n <;> exact hx).elim
end
theorem rEq_same {M : Mm} {neg : Bool} {x y : W} {R : K3} (n : Nat) (hn : n ≤ 60) (hx : Pl n (der M x)) (e : der M y = der M x) (h : R (.bl (!neg)) M) : rEq neg x y M R := by
  refine rEq_pl n hn hx (by rw [e]; exact hx) fun b hb => ?_
  have : b = true := hb.mpr e.symm
  subst this
  cases neg <;> exact h
theorem compR {ws : List W} {keep : Mm → Prop} {g : TG3} {tt : TT3} {te : TE3} {τ₀ : S3} {M1 : Mm} {R : K3} (St : S3 → Prop) (tgt : W → S3) (Rel : W → Option W → Prop) (hl : ws.length ≤ sizeLine) (hk : ∀ M, Sub M1 M → keep M)
    (h0 : St τ₀) (ht : ∀ w ∈ ws, St (tgt w)) (hg : ∀ w ∈ ws, ∀ τ M (C : S3 → Mm → Prop), St τ → C (tgt w) M → g w τ M C)
    (hs : ∀ w ∈ ws, ∀ M (C : K3) (D : Mm → Prop), Sub M1 M → (∀ y, Rel w (some y) → C y M) → (Rel w none → D M) → tt (tgt w) M fun b M3 => if b = true then te (tgt w) M3 C else D M3)
    (r : ∀ os, Paired Rel ws os → New (os.filterMap id) M1 R) : vCompW ws keep g tt te τ₀ M1 R := by
  intro p hp
  refine ⟨fun i τ acc M => St τ ∧ (∃ os, Paired Rel (ws.take i) os ∧ acc = os.filterMap id) ∧ M = M1, ⟨h0, ⟨[], by simp; exact .nil, rfl⟩, rfl⟩, ?_, ?_, ?_⟩
  · rintro vs i τ acc M _ mp ⟨_, _, rfl⟩; exact hk _ (Sub.new hp)
  · rintro vs i w τ acc M hw mp ⟨st, ⟨os, po, rfl⟩, rfl⟩
    have hm : w ∈ ws := List.mem_of_getElem? hw
    have hi : i < ws.length := (List.getElem?_eq_some_iff.mp hw).1
    have htk : ws.take (i + 1) = ws.take i ++ [w] := by rw [List.take_add_one, hw]; rfl
    have snoc : ∀ o, Rel w o → Paired Rel (ws.take (i + 1)) (os ++ [o]) := fun o ro => by
      rw [htk]
      clear hw mp st htk
      revert os
      generalize ws.take i = l
      intro os po
      induction po with
      | nil => exact .cons ro .nil
      | cons a b ih => exact .cons a ih
    have hlen : (os.filterMap id).length < sizeLine := by
      have h1 := List.length_filterMap_le id os
      have h2 := Paired.length po
      rw [List.length_take] at h2
      omega
    refine hg w hm τ _ _ st (hs w hm _ _ _ (Sub.new hp) (fun y hy => ⟨put_same, hlen, M, ?_, ht w hm, ⟨_, snoc _ hy, ?_⟩, rfl⟩) fun hn => ⟨put_same, M, ?_, ht w hm, ⟨_, snoc _ hn, ?_⟩, rfl⟩)
    · rw [del_put hp]; exact Sub.refl _
    · simp
    · rw [del_put hp]; exact Sub.refl _
    · simp
  · rintro τ acc M mp ⟨_, ⟨os, po, rfl⟩, rfl⟩
    rw [List.take_length] at po
    exact r os po p hp
def hdSt (rest : S3) : S3 → Prop := fun τ => ∃ o, τ = o :: rest
theorem map1 {ws : List W} {keep : Mm → Prop} {te : TE3} {o : Option W} {rest : S3} {M1 : Mm} {R : K3} (f : W → W) (hl : ws.length ≤ sizeLine) (hk : ∀ M, Sub M1 M → keep M)
    (hs : ∀ w ∈ ws, ∀ M (C : K3), Sub M1 M → C (f w) M → te (some w :: rest) M C) (r : New (ws.map f) M1 R) : vCompW ws keep (wName 0) vTrue te (o :: rest) M1 R := by
  refine compR (hdSt rest) (fun w => some w :: rest) (fun w o => o = some (f w)) hl hk ⟨_, rfl⟩ (fun w _ => ⟨_, rfl⟩) ?_ ?_ ?_
  · rintro w _ τ M C ⟨o, rfl⟩ h; exact h
  · intro w hw M C D sb h1 _
    show (if true = true then te (some w :: rest) M C else D M)
    rw [if_pos rfl]
    exact hs w hw M C sb (h1 _ rfl)
  · intro os po
    have : os.filterMap id = ws.map f := by
      clear r hs hl hk
      induction po with
      | nil => rfl
      | cons a b ih => subst a; simp [ih]
    rw [this]; exact r
theorem filt1 {ws : List W} {keep : Mm → Prop} {tt : TT3} {te : TE3} {o : Option W} {rest : S3} {M1 : Mm} {R : K3} (f : W → Option W) (hl : ws.length ≤ sizeLine) (hk : ∀ M, Sub M1 M → keep M)
    (hs : ∀ w ∈ ws, ∀ M (C : K3) (D : Mm → Prop), Sub M1 M → (∀ y, f w = some y → C y M) → (f w = none → D M) → tt (some w :: rest) M fun b M3 => if b = true then te (some w :: rest) M3 C else D M3)
    (r : New (ws.filterMap f) M1 R) : vCompW ws keep (wName 0) tt te (o :: rest) M1 R := by
  refine compR (hdSt rest) (fun w => some w :: rest) (fun w o => o = f w) hl hk ⟨_, rfl⟩ (fun w _ => ⟨_, rfl⟩) ?_ ?_ ?_
  · rintro w _ τ M C ⟨o, rfl⟩ h; exact h
  · intro w hw M C D sb h1 h2
    exact hs w hw M C D sb (fun y e => h1 y e.symm) fun e => h2 e.symm
  · intro os po
    have : os.filterMap id = ws.filterMap f := by
      clear r hs hl hk
      induction po with
      | nil => rfl
      | @cons a b c d e _ ih =>
        subst e
        cases q : f a <;> simp [q, ih]
    rw [this]; exact r
theorem map1R {ws : List W} {keep : Mm → Prop} {te : TE3} {o : Option W} {rest : S3} {M1 : Mm} {R : K3} (P : W → W → Prop) (hl : ws.length ≤ sizeLine) (hk : ∀ M, Sub M1 M → keep M)
    (hs : ∀ w ∈ ws, ∀ M (C : K3), Sub M1 M → (∀ y, P w y → C y M) → te (some w :: rest) M C) (r : ∀ ys, Paired P ws ys → New ys M1 R) : vCompW ws keep (wName 0) vTrue te (o :: rest) M1 R := by
  refine compR (hdSt rest) (fun w => some w :: rest) (fun w o => ∃ y, o = some y ∧ P w y) hl hk ⟨_, rfl⟩ (fun w _ => ⟨_, rfl⟩) ?_ ?_ ?_
  · rintro w _ τ M C ⟨o, rfl⟩ h; exact h
  · intro w hw M C D sb h1 _
    show (if true = true then te (some w :: rest) M C else D M)
    rw [if_pos rfl]
    exact hs w hw M C sb fun y py => h1 y ⟨y, rfl, py⟩
  · intro os po
    have : ∃ ys, os = ys.map some ∧ Paired P ws ys := by
      clear r hs hl hk
      induction po with
      | nil => exact ⟨[], rfl, .nil⟩
      | cons a b ih =>
        obtain ⟨y, rfl, py⟩ := a
        obtain ⟨ys, rfl, h⟩ := ih
        exact ⟨y :: ys, rfl, .cons py h⟩
    obtain ⟨ys, rfl, py⟩ := this
    rw [List.filterMap_map]
    have : (ys.filterMap (id ∘ some)) = ys := by simp
    rw [this]
    exact r ys py
theorem Paired.all {P : W → W → Prop} {Q : W → Prop} {xs ys : List W} (h : Paired P xs ys) (k : ∀ x y, P x y → Q y) : ∀ y ∈ ys, Q y := by
  induction h with
  | nil => intro y hy; cases hy
  | cons a b ih =>
    intro y hy
    rcases List.mem_cons.mp hy with rfl | hy
    · exact k _ _ a
    · exact ih y hy
end L3
namespace L3
open PySem PySem.Spec PyProof.Rows L2
structure Df (K : PySem.W.Frag) (mg : Str → Option Value) (x : Str) (st : Stmt) (ps : List Str) (f : Addr) (fd : FuncData) : Prop where
  fn : Fun K x x st f fd
  at_ : mg x = some (.ref f)
  bi : Binds K fd ps []
theorem binds_of {K : PySem.W.Frag} {x : Str} {st : Stmt} {f : Addr} {fd : FuncData} {ps : List Str} {mg : Str → Option Value} (F : Fun K x x st f fd) (hm : mg x = some (.ref f))
    (h : ∀ (kV doc pm : Value) (an : Option Addr) (cdv ct : Value) (us : List Value), us.length = ps.length → bindArgs (PySem.W.fnOf x x (defArgs st) (defBody st) (defScope st) .none kV doc pm an cdv ct) ⟨us, []⟩ = pure (ps.zip us)) : Df K mg x st ps f fd := ⟨F, hm, F.binds h⟩
theorem bt_len : bootBuiltins "len" = some (.builtin "len") := PySem.boot_len
theorem bt_list : bootBuiltins "list" = some (.type "list") := by decide +kernel
theorem bt_tuple : bootBuiltins "tuple" = some (.type "tuple") := by decide +kernel
theorem bt_str : bootBuiltins "str" = some (.type "str") := by decide +kernel
theorem bt_bool : bootBuiltins "bool" = some (.type "bool") := by decide +kernel
theorem bt_dict : bootBuiltins "dict" = some (.type "dict") := by decide +kernel
theorem bt_isinstance : bootBuiltins "isinstance" = some (.builtin "isinstance") := by decide +kernel
theorem bt_all : bootBuiltins "all" = some (.builtin "all") := by decide +kernel
theorem bt_max : bootBuiltins "max" = some (.builtin "max") := by decide +kernel
theorem atI0 {α : Type} (x : α) (xs : List α) : atI (x :: xs) 0 = some x := by simp [atI, ixN]
theorem atI1 {α : Type} (x y : α) (xs : List α) : atI (x :: y :: xs) 1 = some y := atI_nat (j := 1) rfl
theorem atI2 {α : Type} (x y z : α) (xs : List α) : atI (x :: y :: z :: xs) 2 = some z := atI_nat (j := 2) rfl
theorem atI_of {α : Type} {xs : List α} {i : Int} (h0 : 0 ≤ i) (h1 : i < xs.length) : ∃ x, atI xs i = some x ∧ xs[i.toNat]? = some x ∧ x ∈ xs := by
  have hlt : i.toNat < xs.length := by omega
  refine ⟨xs[i.toNat], ?_, List.getElem?_eq_getElem hlt, List.getElem_mem hlt⟩
  simp [atI, ixN, h0, h1, hlt]
theorem cutW_mem {ws : List W} {lo hi : Option Int} {w : W} (h : w ∈ cutW ws lo hi) : w ∈ ws := List.mem_of_mem_drop (List.mem_of_mem_take h)
theorem cutW_len {ws : List W} {lo hi : Option Int} : (cutW ws lo hi).length ≤ ws.length := by
  unfold cutW; rw [List.length_take, List.length_drop]; omega
end L3
namespace L3
open PySem PySem.Spec PyProof.Rows L2
theorem cdiv {i j : Int} (h0 : 0 < j) (h1 : j ≤ 1000000000) : CDivB i j := ⟨h0, Int.lt_of_le_of_lt h1 (by decide +kernel)⟩
theorem cdivT {i j : Int} (h0 : 0 < j) (h1 : j ≤ 1000000000) : CDivB i j ↔ True := iff_true_intro (cdiv h0 h1)
def Ints (ws : List W) : Prop := ∀ w ∈ ws, ∃ i, w = W.int i
theorem ints_map (ns : List Int) : Ints (ns.map W.int) := fun w h => by
  obtain ⟨i, _, e⟩ := List.mem_map.mp h
  exact ⟨i, e.symm⟩
theorem Ints.cut {ws : List W} (h : Ints ws) (lo hi : Option Int) : Ints (cutW ws lo hi) := fun w m => h w (cutW_mem m)
theorem small {n : Nat} (h : n ≤ 10000000) : n ≤ sizeLine := Nat.le_trans h (by decide)
theorem smallT {n : Nat} (h : n < 10000000) : n < sizeLine := Nat.lt_of_lt_of_le h (by decide)
theorem cut_mid {S : List W} {i j : Int} (h0 : 0 ≤ i) (h1 : 0 ≤ j) : (cutW S (some i) (some j)).length ≤ (j - i).toNat := by
  unfold cutW HT.sIx
  simp only []
  rw [if_neg (by omega), if_neg (by omega), List.length_take, List.length_drop]
  omega
end L3
namespace L3
open PySem PySem.Spec PyProof.Rows L2
theorem isi_of {w : W} {T n : String} {b : Bool} {M : Mm} {R : K3} (hn : ∀ m, nameW M w m ↔ m = n) (hs : subT n T = some b) : rIsi [w, .ty T] M R ↔ R (.bl b) M :=
  ⟨fun ⟨_, _, h1, h2, h3⟩ => by cases (hn _).mp h1; cases hs.symm.trans h2; exact h3, fun h => ⟨n, b, (hn n).mpr rfl, hs, h⟩⟩
theorem isi_non_list {M : Mm} {R : K3} : rIsi [W.non, .ty "list"] M R ↔ R (.bl false) M := isi_of (fun _ => Iff.rfl) (by decide)
theorem isi_non_tuple {M : Mm} {R : K3} : rIsi [W.non, .ty "tuple"] M R ↔ R (.bl false) M := isi_of (fun _ => Iff.rfl) (by decide)
theorem isi_non_int {M : Mm} {R : K3} : rIsi [W.non, .ty "int"] M R ↔ R (.bl false) M := isi_of (fun _ => Iff.rfl) (by decide)
theorem isi_non_str {M : Mm} {R : K3} : rIsi [W.non, .ty "str"] M R ↔ R (.bl false) M := isi_of (fun _ => Iff.rfl) (by decide)
theorem isi_non_bool {M : Mm} {R : K3} : rIsi [W.non, .ty "bool"] M R ↔ R (.bl false) M := isi_of (fun _ => Iff.rfl) (by decide)
theorem isi_bl_bool {b : Bool} {M : Mm} {R : K3} : rIsi [W.bl b, .ty "bool"] M R ↔ R (.bl true) M := isi_of (fun _ => Iff.rfl) (by decide)
theorem isi_bl_int {b : Bool} {M : Mm} {R : K3} : rIsi [W.bl b, .ty "int"] M R ↔ R (.bl true) M := isi_of (fun _ => Iff.rfl) (by decide)
theorem isi_bl_str {b : Bool} {M : Mm} {R : K3} : rIsi [W.bl b, .ty "str"] M R ↔ R (.bl false) M := isi_of (fun _ => Iff.rfl) (by decide)
theorem isi_bl_list {b : Bool} {M : Mm} {R : K3} : rIsi [W.bl b, .ty "list"] M R ↔ R (.bl false) M := isi_of (fun _ => Iff.rfl) (by decide)
theorem isi_bl_tuple {b : Bool} {M : Mm} {R : K3} : rIsi [W.bl b, .ty "tuple"] M R ↔ R (.bl false) M := isi_of (fun _ => Iff.rfl) (by decide)
theorem isi_int_int {i : Int} {M : Mm} {R : K3} : rIsi [W.int i, .ty "int"] M R ↔ R (.bl true) M := isi_of (fun _ => Iff.rfl) (by decide)
theorem isi_int_bool {i : Int} {M : Mm} {R : K3} : rIsi [W.int i, .ty "bool"] M R ↔ R (.bl false) M := isi_of (fun _ => Iff.rfl) (by decide)
theorem isi_int_str {i : Int} {M : Mm} {R : K3} : rIsi [W.int i, .ty "str"] M R ↔ R (.bl false) M := isi_of (fun _ => Iff.rfl) (by decide)
theorem isi_int_tuple {i : Int} {M : Mm} {R : K3} : rIsi [W.int i, .ty "tuple"] M R ↔ R (.bl false) M := isi_of (fun _ => Iff.rfl) (by decide)
theorem isi_int_list {i : Int} {M : Mm} {R : K3} : rIsi [W.int i, .ty "list"] M R ↔ R (.bl false) M := isi_of (fun _ => Iff.rfl) (by decide)
theorem isi_str_str {x : Str} {M : Mm} {R : K3} : rIsi [W.str x, .ty "str"] M R ↔ R (.bl true) M := isi_of (fun _ => Iff.rfl) (by decide)
theorem isi_str_int {x : Str} {M : Mm} {R : K3} : rIsi [W.str x, .ty "int"] M R ↔ R (.bl false) M := isi_of (fun _ => Iff.rfl) (by decide)
theorem isi_str_tuple {x : Str} {M : Mm} {R : K3} : rIsi [W.str x, .ty "tuple"] M R ↔ R (.bl false) M := isi_of (fun _ => Iff.rfl) (by decide)
theorem isi_str_list {x : Str} {M : Mm} {R : K3} : rIsi [W.str x, .ty "list"] M R ↔ R (.bl false) M := isi_of (fun _ => Iff.rfl) (by decide)
theorem isi_str_bool {x : Str} {M : Mm} {R : K3} : rIsi [W.str x, .ty "bool"] M R ↔ R (.bl false) M := isi_of (fun _ => Iff.rfl) (by decide)
theorem isi_tup_tuple {ws : List W} {M : Mm} {R : K3} : rIsi [W.tup ws, .ty "tuple"] M R ↔ R (.bl true) M := isi_of (fun _ => Iff.rfl) (by decide)
theorem isi_tup_list {ws : List W} {M : Mm} {R : K3} : rIsi [W.tup ws, .ty "list"] M R ↔ R (.bl false) M := isi_of (fun _ => Iff.rfl) (by decide)
theorem isi_tup_str {ws : List W} {M : Mm} {R : K3} : rIsi [W.tup ws, .ty "str"] M R ↔ R (.bl false) M := isi_of (fun _ => Iff.rfl) (by decide)
theorem isi_tup_int {ws : List W} {M : Mm} {R : K3} : rIsi [W.tup ws, .ty "int"] M R ↔ R (.bl false) M := isi_of (fun _ => Iff.rfl) (by decide)
theorem isi_tup_bool {ws : List W} {M : Mm} {R : K3} : rIsi [W.tup ws, .ty "bool"] M R ↔ R (.bl false) M := isi_of (fun _ => Iff.rfl) (by decide)
theorem isi_rl_list {ws : List W} {M : Mm} {R : K3} : rIsi [W.rl ws, .ty "list"] M R ↔ R (.bl true) M := isi_of (fun _ => Iff.rfl) (by decide)
theorem isi_rl_tuple {ws : List W} {M : Mm} {R : K3} : rIsi [W.rl ws, .ty "tuple"] M R ↔ R (.bl false) M := isi_of (fun _ => Iff.rfl) (by decide)
theorem isi_rl_str {ws : List W} {M : Mm} {R : K3} : rIsi [W.rl ws, .ty "str"] M R ↔ R (.bl false) M := isi_of (fun _ => Iff.rfl) (by decide)
theorem isi_rl_int {ws : List W} {M : Mm} {R : K3} : rIsi [W.rl ws, .ty "int"] M R ↔ R (.bl false) M := isi_of (fun _ => Iff.rfl) (by decide)
theorem isi_rl_bool {ws : List W} {M : Mm} {R : K3} : rIsi [W.rl ws, .ty "bool"] M R ↔ R (.bl false) M := isi_of (fun _ => Iff.rfl) (by decide)
theorem isi_put {p : Addr} {ws : List W} {M : Mm} {R : K3} : rIsi [.ref p, .ty "list"] (put M p (.lst ws)) R ↔ R (.bl true) (put M p (.lst ws)) :=
  isi_of (n := "list") (fun m => Iff.intro (fun h => h.elim And.left (fun h => h.2.elim (fun ⟨_, e⟩ => nomatch put_same.symm.trans e) (fun ⟨_, e⟩ => nomatch put_same.symm.trans e))) (fun e => Or.inl ⟨e, ws, put_same⟩)) (by decide)
theorem rEq_ii {neg : Bool} {i j : Int} {M : Mm} {R : K3} : L3.rEq neg (.int i) (.int j) M R = R (.bl (if neg then !decide (i = j) else decide (i = j))) M := rfl
theorem rEq_ss {neg : Bool} {i j : Str} {M : Mm} {R : K3} : L3.rEq neg (.str i) (.str j) M R = R (.bl (if neg then !decide (i = j) else decide (i = j))) M := rfl
theorem rEq_bb {neg : Bool} {i j : Bool} {M : Mm} {R : K3} : L3.rEq neg (.bl i) (.bl j) M R = R (.bl (if neg then !decide (i = j) else decide (i = j))) M := rfl
theorem setK_str {M : Mm} {a : Addr} {k : Str} {v : W} {kvs : List (Key × W)} {Q : Mm → Prop} (h : M a = some (.dK kvs)) (hl : kvs.length < sizeLine) (q : Q (put M a (.dK (putW kvs (Sum.inr k) v)))) : rSetI (.ref a) (.str k) v M Q := .inr (.inl ⟨kvs, .inr k, rfl, h, hl, q⟩)
theorem setT {M : Mm} {a : Addr} {k : List Key} {v : W} {kvs : List (List Key × W)} {Q : Mm → Prop} (h : M a = some (.dT kvs)) (hl : kvs.length < sizeLine) (q : Q (put M a (.dT (putW kvs k v)))) : rSetI (.ref a) (.tup (k.map wK)) v M Q := .inr (.inr ⟨kvs, k, rfl, h, hl, q⟩)
theorem setL {M : Mm} {a : Addr} {k : Int} {v : W} {ws : List W} {Q : Mm → Prop} (h : M a = some (.lst ws)) (h0 : 0 ≤ k) (h1 : k < ws.length) (q : Q (put M a (.lst (ws.set k.toNat v)))) : rSetI (.ref a) (.int k) v M Q :=
  .inl ⟨ws, k, k.toNat, rfl, h, by unfold ixN; rw [if_pos h0, if_pos h1], q⟩
end L3
namespace L3
open PySem PySem.Spec PyProof.Rows L2
section
variable {X : Cx} {a b c : Expr} {ta tb tc : TE3} {pos : Pos}
theorem vChain_up {K : PySem.W.Frag} {r r' : R3} {σ : SV} {H : Hp} {Q : VK} (h : up K (vChain r r' ta tb tc) σ H Q) : tChain (upO K r) (upO K r') (up K ta) (up K tb) (up K tc) σ H Q := by
  obtain ⟨τ, M, R, as, am, h, k⟩ := h
  refine ⟨τ, M, _, as, am, h, fun x H1 wx M1 k1 am1 ax h1 => ⟨τ, M1, _, as.kp am k1, am1, h1, fun y H2 wy M2 k2 am2 ay h2 => ⟨wx, wy, M2, _, am2, ax.kp am1 k2, ay, h2, fun z H3 wz M3 k3 am3 az ⟨c, e, h3⟩ => ?_⟩⟩⟩
  subst e
  refine ⟨c, az.bl_inv, ?_⟩
  cases c with
  | false => exact ((k.kp k1).kp k2).kp k3 |>.at am3 (.bl false) h3
  | true => exact ⟨τ, M3, _, ((as.kp am k1).kp am1 k2).kp am2 k3, am3, h3, fun w H4 ww M4 k4 am4 aw h4 => ⟨wy, ww, M4, R, am4, (ay.kp am2 k3).kp am3 k4, aw, h4, (((k.kp k1).kp k2).kp k3).kp k4⟩⟩
theorem t_chain {op op' : CmpOp} {r r' : R3} (ho : OpR X (compareOp op) (upO X.K r)) (ho' : OpR X (compareOp op') (upO X.K r')) (ha : E3 X a ta) (hb : E3 X b tb) (hc : E3 X c tc)
    (hm : lastMarks [op, op'] [b, c] = false := by with_unfolding_all rfl) : T3 X (.Compare a [op, op'] [b, c] pos) (vTest (vChain r r' ta tb tc)) :=
  (pt_chain ho ho' ha hb hc hm).weak fun σ H Q ⟨τ, M, R, as, am, h, k⟩ => vChain_up ⟨τ, M, _, as, am, h, fun v H' w M' k' am' av ⟨c, e, r⟩ => by
    subst e
    exact ⟨c, av.bl_inv, k c H' M' k' am' r⟩⟩
def rClr : W → List W → Mm → K3 → Prop
  | .ref l, [], M, R => ∃ ws, M l = some (.lst ws) ∧ R .non (put M l (.lst []))
  | _, _, _, _ => False
theorem m_clear : MtR X "list.clear" (upM X.K rClr) := by
  rintro pins s σ H x xs v us Q I rx rs ⟨wx, ws, M, R, am, ax, axs, h, k⟩
  match wx, ws, h with
  | .ref l, [], h =>
    cases axs
    cases ax
    obtain ⟨ws, e, r⟩ := h
    obtain ⟨vs, f, q⟩ := am.lst e
    exact mt_clear pins s σ H _ _ v us Q I rx rs ⟨l, vs, rfl, rfl, f, wroteL am k e .nil .non r⟩
end
end L3
namespace L3
open PySem PySem.Spec PyProof.Rows L2
def enumW : Nat → List W → List W
  | _, [] => []
  | n, w :: r => .tup [.int n, w] :: enumW (n + 1) r
theorem enumW_len : ∀ {ws : List W} {n : Nat}, (enumW n ws).length = ws.length
  | [], _ => rfl
  | _ :: r, n => by simp [enumW, enumW_len (ws := r)]
theorem enumW_get : ∀ {ws : List W} {n i : Nat}, (enumW n ws)[i]? = (ws[i]?).map fun w => W.tup [.int ((n + i : Nat) : Int), w]
  | [], _, _ => by simp [enumW]
  | w :: r, n, 0 => by simp [enumW]
  | w :: r, n, i + 1 => by
    rw [enumW, List.getElem?_cons_succ, List.getElem?_cons_succ, enumW_get]
    congr 2
    funext w
    congr 4
    omega
section
variable {X : Cx} {a b c : Expr} {ta tb tc : TE3} {pos : Pos}
theorem it_enum {K : PySem.W.Frag} {H0 : Hp} {M0 : Mm} {p : Addr} {vs : List V} {ws : List W} {keep : Mm → Prop} (q0 : AVs K H0 M0 vs ws) (am0 : AM K H0 M0) (st : ∀ H M, Kp H0 M0 H M → AM K H M → keep M → SqL K H p vs) : ItOk K H0 M0 (Ite K p vs) (enumW 0 ws) keep := by
  refine ⟨fun i H M k am kp hi => ⟨st H M k am kp, by rw [enumW_len] at hi; rw [q0.length]; exact hi⟩, fun H M k am kp => ⟨st H M k am kp, by rw [enumW_len, q0.length]; exact Nat.le_refl _⟩, fun i H M x H' k am kp hi y => ?_⟩
  obtain ⟨pp, u, hu, hn, rfl, rfl⟩ := y
  obtain ⟨w, hw, av⟩ := (q0.kp am0 k).getV hu
  obtain ⟨am2, k2⟩ := am.tup (u := .tup [.int (i : Nat), u]) hn
  refine ⟨.tup [.int ((i : Nat) : Int), w], by rw [enumW_get, hw]; simp, k2, am2, .tup upd_same (.cons (.int _) (.cons (av.go (go_same hn)) .nil))⟩
def iEnumerate (ta : TA3) : TI3 := fun τ M R => ta τ M fun ws M1 => match ws with
  | [.rl zs] => R (enumW 0 zs) (fun _ => True) M1
  | [.sc zs] => R (enumW 0 zs) (fun _ => True) M1
  | [.ref p] => ∃ zs, M1 p = some (.lst zs) ∧ False
  | _ => False
theorem i_enumerate {tA : TA3} {p pos : Pos} {es : List Expr} {kx : Nat} {px : Pos} (hg : Gl X "enumerate") (hm : X.mg "enumerate" = none) (ha : A3 X [a] tA) (hs : starEach [a] X.env = [(false, eval a X.env)] := by rfl) : PI X (.Tuple es kx px) (.Call (.Name "enumerate" p) [a] [] pos) (upI X.K (iEnumerate tA)) :=
  (pi_enum hg hm ha hs).weak fun σ H R' ⟨τ, M, R, as, am, h, k⟩ => ⟨τ, M, _, as, am, h, fun vs H1 ws M1 k1 am1 ax r => by
    match ws, r with
    | [.rl zs], r =>
      obtain ⟨v, rfl, av⟩ := ax.one
      cases av with
      | rl e n q => exact ⟨_, _, rfl, SqL.of e, k _ _ _ _ _ k1 am1 (it_enum q am1 fun H M k _ _ => SqL.of (k.fr _ _ n e).1) r⟩
    | [.sc zs], r =>
      obtain ⟨v, rfl, av⟩ := ax.one
      cases av with
      | sc e q => exact ⟨_, _, rfl, e.sq, k _ _ _ _ _ k1 am1 (it_enum q am1 fun H M k _ _ => by
          refine SqR.sq ?_
          rcases e with ⟨o, e⟩ | e
          · exact .inl ⟨o, (k.fr _ _ (am1.noFrz e) e).1⟩
          · exact .inr e) r⟩
    | [.ref p], r => obtain ⟨_, _, f⟩ := r; exact f.elim⟩
end
end L3
namespace L3
open PySem PySem.Spec PyProof.Rows L2
theorem vTru_q1 : ∀ (z0 : Mm) (z1 : Bool → Mm → Prop), vTru W.non z0 z1 = z1 Bool.false z0 := by intros; rfl
theorem vTru_q2 : ∀ (z0 : Mm) (z1 : Bool → Mm → Prop) (b : Bool), vTru (W.bl b) z0 z1 = z1 b z0 := by intros; rfl
theorem vTru_q3 : ∀ (z0 : Mm) (z1 : Bool → Mm → Prop) (i : Int), vTru (W.int i) z0 z1 = z1 (i != 0) z0 := by intros; rfl
theorem vTru_q4 : ∀ (z0 : Mm) (z1 : Bool → Mm → Prop) (y : PySem.Str), vTru (W.str y) z0 z1 = (Str.length y ≤ PySem.sizeLine ∧ z1 ((↑(Str.length y) : Int) != 0) z0) := by intros; rfl
theorem vTru_q5 : ∀ (z0 : Mm) (z1 : Bool → Mm → Prop) (ws : List W), vTru (W.tup ws) z0 z1 = z1 (!List.isEmpty ws) z0 := by intros; rfl
theorem vTru_q6 : ∀ (z0 : Mm) (z1 : Bool → Mm → Prop) (ws : List W), vTru (W.rl ws) z0 z1 = z1 (!List.isEmpty ws) z0 := by intros; rfl
theorem vTru_q7 : ∀ (z0 : Mm) (z1 : Bool → Mm → Prop) (ws : List W), vTru (W.sc ws) z0 z1 = z1 (!List.isEmpty ws) z0 := by intros; rfl
theorem vTru_q8 : ∀ (z0 : Mm) (z1 : Bool → Mm → Prop) (kvs : List (L2.Key × W)), vTru (W.dk kvs) z0 z1 = z1 (!List.isEmpty kvs) z0 := by intros; rfl
theorem vTru_q9 : ∀ (z0 : Mm) (z1 : Bool → Mm → Prop) (p : PySem.Addr), vTru (W.ref p) z0 z1 = ((∃ (ws : List W), z0 p = Option.some (MO.lst ws) ∧ z1 (!List.isEmpty ws) z0) ∨ ∃ (kvs : List (L2.Key × W)), z0 p = Option.some (MO.dK kvs) ∧ z1 (!List.isEmpty kvs) z0) := by intros; rfl
theorem rItN_q1 : ∀ (z0 : Mm) (z1 : List W → (Mm → Prop) → Mm → Prop) (ws : List W), rItN (W.tup ws) z0 z1 = z1 ws (fun (x : Mm) => True) z0 := by intros; rfl
theorem rItN_q2 : ∀ (z0 : Mm) (z1 : List W → (Mm → Prop) → Mm → Prop) (ws : List W), rItN (W.rl ws) z0 z1 = z1 ws (fun (x : Mm) => True) z0 := by intros; rfl
theorem rItN_q3 : ∀ (z0 : Mm) (z1 : List W → (Mm → Prop) → Mm → Prop) (ws : List W), rItN (W.sc ws) z0 z1 = z1 ws (fun (x : Mm) => True) z0 := by intros; rfl
theorem rItN_q4 : ∀ (z0 : Mm) (z1 : List W → (Mm → Prop) → Mm → Prop) (z : PySem.Str), rItN (W.str z) z0 z1 = z1 (List.map (fun (c : Nat) => W.str { cps := #[c] }) (Array.toList (PySem.Str.cps z))) (fun (x : Mm) => True) z0 := by intros; rfl
theorem rItN_q5 : ∀ (z0 : Mm) (z1 : List W → (Mm → Prop) → Mm → Prop) (a : PySem.Addr), rItN (W.ref a) z0 z1 = ∃ (ws : List W), z0 a = Option.some (MO.lst ws) ∧ z1 ws (fun (M : Mm) => M a = Option.some (MO.lst ws)) z0 := by intros; rfl
theorem rIt_q1 : ∀ (z0 : Mm) (z1 : List W → (Mm → Prop) → Mm → Prop) (ws : List W), rIt (W.tup ws) z0 z1 = z1 ws (fun (x : Mm) => True) z0 := by intros; rfl
theorem rIt_q2 : ∀ (z0 : Mm) (z1 : List W → (Mm → Prop) → Mm → Prop) (ws : List W), rIt (W.rl ws) z0 z1 = z1 ws (fun (x : Mm) => True) z0 := by intros; rfl
theorem rIt_q3 : ∀ (z0 : Mm) (z1 : List W → (Mm → Prop) → Mm → Prop) (ws : List W), rIt (W.sc ws) z0 z1 = z1 ws (fun (x : Mm) => True) z0 := by intros; rfl
theorem rIt_q4 : ∀ (z0 : Mm) (z1 : List W → (Mm → Prop) → Mm → Prop) (a : PySem.Addr), rIt (W.ref a) z0 z1 = ∃ (ws : List W), z0 a = Option.some (MO.lst ws) ∧ z1 ws (fun (M : Mm) => M a = Option.some (MO.lst ws)) z0 := by intros; rfl
theorem rAdd_q1 : ∀ (z0 : Mm) (z1 : K3) (i j : Int), rAdd (W.int i) (W.int j) z0 z1 = z1 (W.int (i + j)) z0 := by intros; rfl
theorem rAdd_q2 : ∀ (z0 : Mm) (z1 : K3) (i j : PySem.Str), rAdd (W.str i) (W.str j) z0 z1 = (Str.length i + Str.length j ≤ PySem.sizeLine ∧ z1 (W.str (i ++ j)) z0) := by intros; rfl
theorem rAdd_q3 : ∀ (z0 : Mm) (z1 : K3) (xs ys : List W), rAdd (W.tup xs) (W.tup ys) z0 z1 = (xs ≠ [] ∧ List.length xs + List.length ys ≤ PySem.sizeLine ∧ z1 (W.tup (xs ++ ys)) z0) := by intros; rfl
theorem rAdd_q4 : ∀ (z0 : Mm) (z1 : K3) (a b : PySem.Addr), rAdd (W.ref a) (W.ref b) z0 z1 = ∃ (xs : List W), ∃ (ys : List W), z0 a = Option.some (MO.lst xs) ∧ z0 b = Option.some (MO.lst ys) ∧ List.length xs + List.length ys ≤ PySem.sizeLine ∧ New (xs ++ ys) z0 z1 := by intros; rfl
theorem rAdd_q5 : ∀ (z0 : Mm) (z1 : K3) (xs : List W) (b : PySem.Addr), rAdd (W.rl xs) (W.ref b) z0 z1 = ∃ (ys : List W), z0 b = Option.some (MO.lst ys) ∧ List.length xs + List.length ys ≤ PySem.sizeLine ∧ New (xs ++ ys) z0 z1 := by intros; rfl
theorem rAdd_q6 : ∀ (z0 : Mm) (z1 : K3) (a : PySem.Addr) (ys : List W), rAdd (W.ref a) (W.rl ys) z0 z1 = ∃ (xs : List W), z0 a = Option.some (MO.lst xs) ∧ List.length xs + List.length ys ≤ PySem.sizeLine ∧ New (xs ++ ys) z0 z1 := by intros; rfl
theorem rAdd_q7 : ∀ (z0 : Mm) (z1 : K3) (xs ys : List W), rAdd (W.rl xs) (W.rl ys) z0 z1 = (List.length xs + List.length ys ≤ PySem.sizeLine ∧ New (xs ++ ys) z0 z1) := by intros; rfl
theorem rAddF_q1 : ∀ (z0 : Mm) (z1 : K3) (i j : Int), rAddF (W.int i) (W.int j) z0 z1 = z1 (W.int (i + j)) z0 := by intros; rfl
theorem rAddF_q2 : ∀ (z0 : Mm) (z1 : K3) (i j : PySem.Str), rAddF (W.str i) (W.str j) z0 z1 = (Str.length i + Str.length j ≤ PySem.sizeLine ∧ z1 (W.str (i ++ j)) z0) := by intros; rfl
theorem rAddF_q3 : ∀ (z0 : Mm) (z1 : K3) (xs ys : List W), rAddF (W.tup xs) (W.tup ys) z0 z1 = (xs ≠ [] ∧ List.length xs + List.length ys ≤ PySem.sizeLine ∧ z1 (W.tup (xs ++ ys)) z0) := by intros; rfl
theorem rAddF_q4 : ∀ (z0 : Mm) (z1 : K3) (a b : PySem.Addr), rAddF (W.ref a) (W.ref b) z0 z1 = ∃ (xs : List W), ∃ (ys : List W), z0 a = Option.some (MO.lst xs) ∧ z0 b = Option.some (MO.lst ys) ∧ List.length xs + List.length ys ≤ PySem.sizeLine ∧ z1 (W.rl (xs ++ ys)) z0 := by intros; rfl
theorem rAddF_q5 : ∀ (z0 : Mm) (z1 : K3) (xs : List W) (b : PySem.Addr), rAddF (W.rl xs) (W.ref b) z0 z1 = ∃ (ys : List W), z0 b = Option.some (MO.lst ys) ∧ List.length xs + List.length ys ≤ PySem.sizeLine ∧ z1 (W.rl (xs ++ ys)) z0 := by intros; rfl
theorem rAddF_q6 : ∀ (z0 : Mm) (z1 : K3) (a : PySem.Addr) (ys : List W), rAddF (W.ref a) (W.rl ys) z0 z1 = ∃ (xs : List W), z0 a = Option.some (MO.lst xs) ∧ List.length xs + List.length ys ≤ PySem.sizeLine ∧ z1 (W.rl (xs ++ ys)) z0 := by intros; rfl
theorem rAddF_q7 : ∀ (z0 : Mm) (z1 : K3) (xs ys : List W), rAddF (W.rl xs) (W.rl ys) z0 z1 = (List.length xs + List.length ys ≤ PySem.sizeLine ∧ z1 (W.rl (xs ++ ys)) z0) := by intros; rfl
theorem rII0_q1 : ∀ (g : Int → Int → W) (z1 : Mm) (z2 : K3) (i j : Int), rII0 g (W.int i) (W.int j) z1 z2 = z2 (g i j) z1 := by intros; rfl
theorem rII_q1 : ∀ (C : Int → Int → Prop) (g : Int → Int → W) (z2 : Mm) (z3 : K3) (i j : Int), rII C g (W.int i) (W.int j) z2 z3 = (C i j ∧ z3 (g i j) z2) := by intros; rfl
theorem rLt_q1 : ∀ (z0 : Mm) (z1 : K3) (i j : Int), rLt (W.int i) (W.int j) z0 z1 = z1 (W.bl (Decidable.decide (i < j))) z0 := by intros; rfl
theorem rLt_q2 : ∀ (z0 : Mm) (z1 : K3) (i j : PySem.Str), rLt (W.str i) (W.str j) z0 z1 = z1 (W.bl (strLt i j)) z0 := by intros; rfl
theorem rIx_q1 : ∀ (z0 : Mm) (z1 : K3) (ws : List W) (i : Int), rIx (W.tup ws) (W.int i) z0 z1 = ∃ (w : W), L2.atI ws i = Option.some w ∧ z1 w z0 := by intros; rfl
theorem rIx_q2 : ∀ (z0 : Mm) (z1 : K3) (ws : List W) (i : Int), rIx (W.rl ws) (W.int i) z0 z1 = ∃ (w : W), L2.atI ws i = Option.some w ∧ z1 w z0 := by intros; rfl
theorem rIx_q3 : ∀ (z0 : Mm) (z1 : K3) (ws : List W) (i : Int), rIx (W.sc ws) (W.int i) z0 z1 = ∃ (w : W), L2.atI ws i = Option.some w ∧ z1 w z0 := by intros; rfl
theorem rIx_q4 : ∀ (z0 : W) (z1 : Mm) (z2 : K3) (kvs : List (L2.Key × W)), rIx (W.dk kvs) z0 z1 z2 = ∃ (w : W), dGet z1 (W.dk kvs) z0 (Option.some w) ∧ z2 w z1 := by intros; rfl
theorem rIx_q5 : ∀ (z0 : W) (z1 : Mm) (z2 : K3) (kvs : List (List L2.Key × W)), rIx (W.dt kvs) z0 z1 z2 = ∃ (w : W), dGet z1 (W.dt kvs) z0 (Option.some w) ∧ z2 w z1 := by intros; rfl
theorem rIx_q6 : ∀ (z0 : Mm) (z1 : K3) (z : PySem.Str) (i : Int), rIx (W.str z) (W.int i) z0 z1 = (Str.length z ≤ PySem.sizeLine ∧ ∃ (c : Nat), L2.atI (Array.toList (PySem.Str.cps z)) i = Option.some c ∧ z1 (W.str { cps := #[c] }) z0) := by intros; rfl
theorem rIx_q7 : ∀ (z0 : Mm) (z1 : K3) (a : PySem.Addr) (i : Int), rIx (W.ref a) (W.int i) z0 z1 = ((∃ (ws : List W), ∃ (w : W), z0 a = Option.some (MO.lst ws) ∧ L2.atI ws i = Option.some w ∧ z1 w z0) ∨ ∃ (w : W), dGet z0 (W.ref a) (W.int i) (Option.some w) ∧ z1 w z0) := by intros; rfl
theorem rIx_q8 : ∀ (z0 : W) (z1 : Mm) (z2 : K3) (a : PySem.Addr), (∀ (i : Int), z0 = W.int i → False) → rIx (W.ref a) z0 z1 z2 = ∃ (w : W), dGet z1 (W.ref a) z0 (Option.some w) ∧ z2 w z1 := by
  intro x M R a h; cases x <;> first | rfl | exact (h _ rfl).elim
theorem rLen_q1 : ∀ (z0 : Mm) (z1 : K3) (ws : List W), rLen [W.tup ws] z0 z1 = z1 (W.int (↑(List.length ws) : Int)) z0 := by intros; rfl
theorem rLen_q2 : ∀ (z0 : Mm) (z1 : K3) (ws : List W), rLen [W.rl ws] z0 z1 = z1 (W.int (↑(List.length ws) : Int)) z0 := by intros; rfl
theorem rLen_q3 : ∀ (z0 : Mm) (z1 : K3) (ws : List W), rLen [W.sc ws] z0 z1 = z1 (W.int (↑(List.length ws) : Int)) z0 := by intros; rfl
theorem rLen_q4 : ∀ (z0 : Mm) (z1 : K3) (kvs : List (L2.Key × W)), rLen [W.dk kvs] z0 z1 = z1 (W.int (↑(List.length kvs) : Int)) z0 := by intros; rfl
theorem rLen_q5 : ∀ (z0 : Mm) (z1 : K3) (z : PySem.Str), rLen [W.str z] z0 z1 = (Str.length z ≤ PySem.sizeLine ∧ z1 (W.int (↑(Str.length z) : Int)) z0) := by intros; rfl
theorem rLen_q6 : ∀ (z0 : Mm) (z1 : K3) (a : PySem.Addr), rLen [W.ref a] z0 z1 = ((∃ (ws : List W), z0 a = Option.some (MO.lst ws) ∧ z1 (W.int (↑(List.length ws) : Int)) z0) ∨ ∃ (kvs : List (L2.Key × W)), z0 a = Option.some (MO.dK kvs) ∧ z1 (W.int (↑(List.length kvs) : Int)) z0) := by intros; rfl
theorem rList_q1 : ∀ (z0 : Mm) (z1 : K3) (ws : List W), rList [W.tup ws] z0 z1 = New ws z0 z1 := by intros; rfl
theorem rList_q2 : ∀ (z0 : Mm) (z1 : K3) (ws : List W), rList [W.rl ws] z0 z1 = New ws z0 z1 := by intros; rfl
theorem rList_q3 : ∀ (z0 : Mm) (z1 : K3) (ws : List W), rList [W.sc ws] z0 z1 = New ws z0 z1 := by intros; rfl
theorem rList_q4 : ∀ (z0 : Mm) (z1 : K3) (kvs : List (L2.Key × W)), rList [W.dk kvs] z0 z1 = New (List.map (fun (kv : L2.Key × W) => wK (Prod.fst kv)) kvs) z0 z1 := by intros; rfl
theorem rList_q5 : ∀ (z0 : Mm) (z1 : K3) (a : PySem.Addr), rList [W.ref a] z0 z1 = ((∃ (ws : List W), z0 a = Option.some (MO.lst ws) ∧ New ws z0 z1) ∨ ∃ (kvs : List (L2.Key × W)), z0 a = Option.some (MO.dK kvs) ∧ New (List.map (fun (kv : L2.Key × W) => wK (Prod.fst kv)) kvs) z0 z1) := by intros; rfl
theorem rListF_q1 : ∀ (z0 : Mm) (z1 : K3) (ws : List W), rListF [W.tup ws] z0 z1 = z1 (W.rl ws) z0 := by intros; rfl
theorem rListF_q2 : ∀ (z0 : Mm) (z1 : K3) (ws : List W), rListF [W.rl ws] z0 z1 = z1 (W.rl ws) z0 := by intros; rfl
theorem rListF_q3 : ∀ (z0 : Mm) (z1 : K3) (ws : List W), rListF [W.sc ws] z0 z1 = z1 (W.rl ws) z0 := by intros; rfl
theorem rListF_q4 : ∀ (z0 : Mm) (z1 : K3) (kvs : List (L2.Key × W)), rListF [W.dk kvs] z0 z1 = z1 (W.rl (List.map (fun (kv : L2.Key × W) => wK (Prod.fst kv)) kvs)) z0 := by intros; rfl
theorem rListF_q5 : ∀ (z0 : Mm) (z1 : K3) (a : PySem.Addr), rListF [W.ref a] z0 z1 = ((∃ (ws : List W), z0 a = Option.some (MO.lst ws) ∧ z1 (W.rl ws) z0) ∨ ∃ (kvs : List (L2.Key × W)), z0 a = Option.some (MO.dK kvs) ∧ z1 (W.rl (List.map (fun (kv : L2.Key × W) => wK (Prod.fst kv)) kvs)) z0) := by intros; rfl
theorem rTuple_q1 : ∀ (z0 : Mm) (z1 : K3) (ws : List W), rTuple [W.tup ws] z0 z1 = z1 (W.tup ws) z0 := by intros; rfl
theorem rTuple_q2 : ∀ (z0 : Mm) (z1 : K3) (ws : List W), rTuple [W.rl ws] z0 z1 = z1 (W.tup ws) z0 := by intros; rfl
theorem rTuple_q3 : ∀ (z0 : Mm) (z1 : K3) (a : PySem.Addr), rTuple [W.ref a] z0 z1 = ∃ (ws : List W), z0 a = Option.some (MO.lst ws) ∧ z1 (W.tup ws) z0 := by intros; rfl
theorem rStr_q1 : ∀ (z0 : Mm) (z1 : K3) (i : Int), rStr [W.int i] z0 z1 = (Nat.log2 (Int.natAbs i) < 1920 ∧ z1 (W.str (PySem.Str.ofString (ToString.toString i))) z0) := by intros; rfl
theorem rSlF_q1 : ∀ (z0 z1 : Option Int) (z2 : Mm) (z3 : K3) (ws : List W), rSlF (W.rl ws) z0 z1 z2 z3 = z3 (W.rl (cutW ws z0 z1)) z2 := by intros; rfl
theorem rSlF_q2 : ∀ (z0 z1 : Option Int) (z2 : Mm) (z3 : K3) (ws : List W), rSlF (W.sc ws) z0 z1 z2 z3 = z3 (W.rl (cutW ws z0 z1)) z2 := by intros; rfl
theorem rSlF_q3 : ∀ (z0 z1 : Option Int) (z2 : Mm) (z3 : K3) (a : PySem.Addr), rSlF (W.ref a) z0 z1 z2 z3 = ∃ (ws : List W), z2 a = Option.some (MO.lst ws) ∧ z3 (W.rl (cutW ws z0 z1)) z2 := by intros; rfl
theorem rSlF_q4 : ∀ (z0 z1 : Option Int) (z2 : Mm) (z3 : K3) (ws : List W), rSlF (W.tup ws) z0 z1 z2 z3 = (¬(HT.sIx (List.length ws) 0 z0 = 0 ∧ HT.sIx (List.length ws) (List.length ws) z1 = List.length ws) ∧ z3 (W.tup (cutW ws z0 z1)) z2) := by intros; rfl
theorem rSl_q1 : ∀ (z0 z1 : Option Int) (z2 : Mm) (z3 : K3) (ws : List W), rSl (W.rl ws) z0 z1 z2 z3 = New (cutW ws z0 z1) z2 z3 := by intros; rfl
theorem rSl_q2 : ∀ (z0 z1 : Option Int) (z2 : Mm) (z3 : K3) (ws : List W), rSl (W.sc ws) z0 z1 z2 z3 = New (cutW ws z0 z1) z2 z3 := by intros; rfl
theorem rSl_q3 : ∀ (z0 z1 : Option Int) (z2 : Mm) (z3 : K3) (a : PySem.Addr), rSl (W.ref a) z0 z1 z2 z3 = ∃ (ws : List W), z2 a = Option.some (MO.lst ws) ∧ New (cutW ws z0 z1) z2 z3 := by intros; rfl
theorem rSl_q4 : ∀ (z0 z1 : Option Int) (z2 : Mm) (z3 : K3) (ws : List W), rSl (W.tup ws) z0 z1 z2 z3 = (¬(HT.sIx (List.length ws) 0 z0 = 0 ∧ HT.sIx (List.length ws) (List.length ws) z1 = List.length ws) ∧ z3 (W.tup (cutW ws z0 z1)) z2) := by intros; rfl
theorem rApp_q1 : ∀ (z0 : Mm) (z1 : K3) (l : PySem.Addr) (y : W), rApp (W.ref l) [y] z0 z1 = ∃ (ws : List W), z0 l = Option.some (MO.lst ws) ∧ List.length ws < PySem.sizeLine ∧ z1 W.non (put z0 l (MO.lst (ws ++ [y]))) := by intros; rfl
theorem tyW_q1 : ∀ (T : String) (z1 : Mm) (x_2 : PySem.Str), tyW T (W.str x_2) z1 = (T = "str") := by intros; rfl
theorem tyW_q2 : ∀ (T : String) (z1 : Mm) (i : Int), tyW T (W.int i) z1 = (T = "int") := by intros; rfl
theorem tyW_q3 : ∀ (T : String) (z1 : Mm) (ws : List W), tyW T (W.rl ws) z1 = (T = "list") := by intros; rfl
theorem tyW_q4 : ∀ (T : String) (z1 : Mm) (ws : List W), tyW T (W.sc ws) z1 = (T = "list") := by intros; rfl
theorem tyW_q5 : ∀ (T : String) (z1 : Mm) (kvs : List (L2.Key × W)), tyW T (W.dk kvs) z1 = (T = "dict") := by intros; rfl
theorem tyW_q6 : ∀ (T : String) (z1 : Mm) (kvs : List (List L2.Key × W)), tyW T (W.dt kvs) z1 = (T = "dict") := by intros; rfl
theorem tyW_q7 : ∀ (T : String) (z1 : Mm) (p : PySem.Addr), tyW T (W.ref p) z1 = ((T = "list" ∧ ∃ (ws : List W), z1 p = Option.some (MO.lst ws)) ∨ T = "dict" ∧ ((∃ (kvs : List (L2.Key × W)), z1 p = Option.some (MO.dK kvs)) ∨ ∃ (kvs : List (List L2.Key × W)), z1 p = Option.some (MO.dT kvs))) := by intros; rfl
theorem rMul_q1 : ∀ (z0 : Mm) (z1 : K3) (i j : Int), rMul (W.int i) (W.int j) z0 z1 = ((L2.CMul i j ∨ L2.CBig i j) ∧ z1 (W.int (i * j)) z0) := by intros; rfl
theorem rMul_q2 : ∀ (z0 : Mm) (z1 : K3) (z : PySem.Str) (n : Int), rMul (W.str z) (W.int n) z0 z1 = (Str.length z ≤ 16 ∧ -2 ^ 63 ≤ n ∧ n ≤ 1048576 ∧ z1 (W.str (PySem.Txt.mul z n)) z0) := by intros; rfl
theorem rMul_q3 : ∀ (z0 : Mm) (z1 : K3) (a : PySem.Addr) (n : Int), rMul (W.ref a) (W.int n) z0 z1 = ∃ (xs : List W), z0 a = Option.some (MO.lst xs) ∧ -2 ^ 63 ≤ n ∧ n < 2 ^ 63 ∧ List.length xs * Int.toNat n ≤ PySem.sizeLine ∧ New (List.flatten (List.replicate (Int.toNat n) xs)) z0 z1 := by intros; rfl
theorem rMul_q4 : ∀ (z0 : Mm) (z1 : K3) (xs : List W) (n : Int), rMul (W.rl xs) (W.int n) z0 z1 = (-2 ^ 63 ≤ n ∧ n < 2 ^ 63 ∧ List.length xs * Int.toNat n ≤ PySem.sizeLine ∧ New (List.flatten (List.replicate (Int.toNat n) xs)) z0 z1) := by intros; rfl
theorem rMulF_q1 : ∀ (z0 : Mm) (z1 : K3) (i j : Int), rMulF (W.int i) (W.int j) z0 z1 = ((L2.CMul i j ∨ L2.CBig i j) ∧ z1 (W.int (i * j)) z0) := by intros; rfl
theorem rMulF_q2 : ∀ (z0 : Mm) (z1 : K3) (z : PySem.Str) (n : Int), rMulF (W.str z) (W.int n) z0 z1 = (Str.length z ≤ 16 ∧ -2 ^ 63 ≤ n ∧ n ≤ 1048576 ∧ z1 (W.str (PySem.Txt.mul z n)) z0) := by intros; rfl
theorem rMulF_q3 : ∀ (z0 : Mm) (z1 : K3) (a : PySem.Addr) (n : Int), rMulF (W.ref a) (W.int n) z0 z1 = ∃ (xs : List W), z0 a = Option.some (MO.lst xs) ∧ -2 ^ 63 ≤ n ∧ n < 2 ^ 63 ∧ List.length xs * Int.toNat n ≤ PySem.sizeLine ∧ z1 (W.rl (List.flatten (List.replicate (Int.toNat n) xs))) z0 := by intros; rfl
theorem rMulF_q4 : ∀ (z0 : Mm) (z1 : K3) (xs : List W) (n : Int), rMulF (W.rl xs) (W.int n) z0 z1 = (-2 ^ 63 ≤ n ∧ n < 2 ^ 63 ∧ List.length xs * Int.toNat n ≤ PySem.sizeLine ∧ z1 (W.rl (List.flatten (List.replicate (Int.toNat n) xs))) z0) := by intros; rfl
end L3
namespace L3
open PySem PySem.Spec PyProof.Rows L2
section
variable {X : Cx} {a b c : Expr} {ta tb tc : TE3} {pos : Pos}
end
end L3
namespace L3
open PySem PySem.Spec PyProof.Rows L2
section
variable {X : Cx}
theorem AVs.intsL {K : PySem.W.Frag} {H : Hp} {M : Mm} {ns : List Int} {vs : List V} (h : AVs K H M vs (ns.map W.int)) : vs = ns.map V.int := h.ints
def rMax1 : List W → Mm → K3 → Prop
  | [.rl ws], M, R => ∃ ns : List Int, ws = ns.map W.int ∧ 0 < ns.length ∧ ∀ m, m ∈ ns → (∀ a ∈ ns, a ≤ m) → R (.int m) M
  | _, _, _ => False
theorem c_max1 (hc : X.calm = true) : CallR X (.builtin "max") (upC X.K rMax1) := by
  rintro pins s σ H xs us Q I rs ⟨ws, M, R, am, axs, h, k⟩
  match ws, h with
  | [.rl ws], h =>
    obtain ⟨v, rfl, av⟩ := axs.one
    obtain ⟨ns, rfl, hn, r⟩ := h
    cases av with
    | rl f _ q =>
      rw [q.intsL] at f
      exact call_maxB hc pins s σ H _ us Q I rs ⟨_, ns, rfl, SqL.of f, hn, fun m hm ha => k.at am (.int _) (r m hm ha)⟩
end
end L3
namespace PySem
namespace Rl
open PyProof.Rows L2 PySem.Spec
section
variable {prog : Program} {w : World} {A : Around} {E : Value → Shared → Prop} {s : Shared}
end
end Rl
end PySem
namespace L2
open PySem PySem.Spec PyProof.Rows
section
variable {X : Cx} {a : Expr} {ta : TA} {p p2 pos pos2 : Pos}
end
end L2
namespace L3
open PySem PySem.Spec PyProof.Rows L2
section
variable {X : Cx} {a : Expr} {ta : TE3} {pos : Pos}
end
end L3
namespace PySem
namespace Dp
open PyProof.Rows L2 PySem.Spec
section
variable {prog : Program} {w : World} {A : Around} {E : Value → Shared → Prop} {s : Shared}
theorem list_keys_none : typeLookup (.type "list") "keys" = pure none := by rw [typeLookup_type, builtinLookup_eq_fast]; kernel_rfl
theorem keys_miss {a : Addr} {xs : Array Value} {k : Nat} {Q : Option Value → Shared → Prop} (hx : s.heap.get? a = some { cls := .type "list", data := .seq xs k }) (hA : A.handled = none)
    (h : ∀ h' tk, (∀ b o, s.heap.get? b = some o → h'.get? b = some o) → Q none { s with heap := h', toks := tk }) : wpAny (model prog w) A (getAttr? (.ref a) (Str.ofString "keys")) Q E s := by
  obtain ⟨hp, g, d, tk, os⟩ := s
  have hT : ∀ tk', (⟨hp, g, d, tk', os⟩ : Shared).TypeIs (.ref a) "list" := fun _ => ⟨_, hx, rfl⟩
  have f1 := sub_AttributeError
  have f3 := F.slot_list_getattribute.lookup
  have f4 := F.slot_list_getattribute.bind (.ref a)
  have f5 := am_list_getattr_none
  unfold getAttr? getAttrBy? getAttrBy
  repeat (any_goals (first | assumption | exact hT _ | ((with_reducible show wpAny _ _ (call (Value.builtin "list.__getattribute__") _ _) _ _ _); refine call_meets F.slot_list_getattribute (hT _) am_entry_list_getattribute (F.args_list_getattribute_2 _ _) (meets_getattribute_miss_list a xs k #[] (Str.ofString "keys") _ list_keys_none (by decide +kernel) (by decide +kernel)) ⟨hx, hA, fun h' tk' e hx' => ?_⟩) | wp_step))
  obtain ⟨t', u', he⟩ := hx'.there
  have hx2 := hx'.of.keeps
  show wpAny _ _ (getattributeRaised _ _ _ _ _ _ _) _ _ _
  unfold getattributeRaised
  repeat (any_goals (first | assumption | wp_step))
  exact h _ _ hx2
theorem entry_loop : entryFor table "dict.update.loop" = some Builtin.«dict.update.loop» := entryFor_of_tree (by kernel_rfl)
theorem plain_loop : plainId "dict.update.loop" = true := by decide +kernel
variable {K : Type} [DecidableEq K] {knd : KeyKind prog w K}
theorem stored_len (kvs : List (K × Value)) (k : K) (v : Value) : (stored kvs k v).length ≤ kvs.length + 1 := by
  unfold stored
  split
  · rw [List.length_map]; omega
  · rw [List.length_append, List.length_singleton]; exact Nat.le_refl _
def all (kvs : List (K × Value)) (ps : List (K × Value)) : List (K × Value) := ps.foldl (fun kvs p => stored kvs p.1 p.2) kvs
theorem loop {d I l : Addr} {items : Array Value} {ps : List (K × Value)} {R : Result → Shared → Prop} (hh : A.handled = none) (hdI : d ≠ I) (hdl : d ≠ l) (hlI : l ≠ I) (hn : ps.length = items.size) (hz : items.size ≤ sizeLine) :
    ∀ (k i : Nat) (s : Shared) (kvs : List (K × Value)), items.size - i = k → i ≤ items.size → kvs.length ≤ i → s.heap.IsListIter I l i → s.heap.IsList l items → s.heap.DictOf knd d kvs →
    (∀ (j : Nat) (p : K × Value), ps[j]? = some p → ∃ (a : Addr) (key : Value), items[j]? = some (.ref a) ∧ a ≠ d ∧ a ≠ I ∧ s.heap.IsTuple a #[key, p.2] ∧ knd.is p.1 key = true) →
    (∀ h' tk, (∀ b o, b ≠ d → b ≠ I → s.heap.get? b = some o → h'.get? b = some o) → h'.DictOf knd d (all kvs (ps.drop i)) → R (.ok (.ret .none)) { s with heap := h', toks := tk }) →
    codeAny (model prog w) A (.builtin "dict.update.loop" ⟨[.ref d, .ref I, rawInt (i : Int), .none], []⟩) R s := by
  intro k
  induction k with
  | zero =>
    intro i s kvs hk hi hl hit hls hd hp hR
    have hin : i = items.size := by omega
    refine codeAny_builtin entry_loop ?_
    rw [Around.under_plainId plain_loop _]
    show wpAny _ A.in1 (pyNext (.ref I) >>= _) _ _ s
    have W := Walks.list (prog := prog) (w := w) (A := A.in1) hh I l hlI items
    refine wpAny_bind (W.done s _ _ (by rw [← hin]; exact ⟨hit, hls⟩) fun h' tk hm => ?_)
    show wpAny _ A.in1 (Builtin.Dict.addKeywords d [] >>= _) _ _ _
    have hd' : h'.DictOf knd d kvs := by
      obtain ⟨o, es, ep, ho, rest⟩ := hd
      exact ⟨o, es, ep, hm d o (by simp [hdI]) ho, rest⟩
    refine wpAny_bind (wpAny_pure (wpAny_pure (hR h' tk (fun b o _ hb e => hm b o (by simp [hb]) e) ?_)))
    rw [List.drop_of_length_le (by omega)]
    exact hd'
  | succ k ih =>
    intro i s kvs hk hi hl hit hls hd hp hR
    have hlt : i < items.size := by omega
    refine codeAny_builtin entry_loop ?_
    rw [Around.under_plainId plain_loop _]
    show wpAny _ A.in1 (pyNext (.ref I) >>= _) _ _ s
    have W := Walks.list (prog := prog) (w := w) (A := A.in1) hh I l hlI items
    refine wpAny_bind (W.item i s _ _ hlt ⟨hit, hls⟩ fun v h' tk hv hst hm => ?_)
    obtain ⟨p, hpi⟩ : ∃ p, ps[i]? = some p := ⟨_, List.getElem?_eq_getElem (by omega)⟩
    obtain ⟨a, key, ha, had, haI, hat, hkey⟩ := hp i p hpi
    rw [ha] at hv
    cases hv
    have hd' : h'.DictOf knd d kvs := by
      obtain ⟨o, es, ep, ho, rest⟩ := hd
      exact ⟨o, es, ep, hm d o (by simp [hdI]) ho, rest⟩
    have hat' : h'.IsTuple a #[key, p.2] := by
      obtain ⟨o, ho, rest⟩ := hat
      exact ⟨o, hm a o (by simp [haI]) ho, rest⟩
    show wpAny _ A.in1 (holding [Value.ref a] _ >>= _) _ _ _
    refine wpAny_bind (wpAny_holding (wpAny_bind (wpAny_tryCatch ?_)))
    unfold Builtin.Dict.pairItems
    obtain ⟨o, ho, hc, n, hd2⟩ := hat'
    refine wpAny_bind (wpAny_typeOf (T := "tuple") ⟨o, ho, hc⟩ ?_)
    rw [if_pos (by decide)]
    refine wpAny_bind (wpAny_seqItems ho hd2 (wpAny_pure ?_))
    show wpAny _ _ (holding [key, p.2] (dictSet d key p.2)) _ _ _
    refine wpAny_holding (wpAny_dictSet_pairs hkey hd' (hsz := by omega) fun h2 hd3 hs2 => ?_)
    have e1 : ps.drop i = p :: ps.drop (i + 1) := by rw [List.drop_eq_getElem_cons (by omega)]; congr 1; exact (List.getElem?_eq_some_iff.mp hpi).2
    refine wpAny_pure ⟨plainId_quiet plain_loop _, ?_⟩
    refine ih (i + 1) _ (stored kvs p.1 p.2) (by omega) hlt (by have := stored_len kvs p.1 p.2; omega) (hst.1.at fun o e => (hs2.2 I (Ne.symm hdI)).trans e) (hst.2.at fun o e => (hs2.2 l (Ne.symm hdl)).trans e) hd3 (fun j q hq => ?_) fun h3 tk3 hk3 hd4 => ?_
    · obtain ⟨a, key, g1, g2, g3, ⟨o, g4, g5⟩, g6⟩ := hp j q hq
      exact ⟨a, key, g1, g2, g3, ⟨o, (hs2.2 a g2).trans (hm a o (by simp [g3]) g4), g5⟩, g6⟩
    · refine hR h3 tk3 (fun b o h1 h2 e => hk3 b o h1 h2 ((hs2.2 b h1).trans (hm b o (by simp [h2]) e))) ?_
      rw [e1]; exact hd4
theorem call_pairs {l : Addr} {items : Array Value} {c : Nat} {ps : List (K × Value)} {Q : Value → Shared → Prop} (hh : A.handled = none) (hx : s.heap.get? l = some { cls := .type "list", data := .seq items c }) (hn : ps.length = items.size) (hz : items.size ≤ sizeLine)
    (hp : ∀ (j : Nat) (p : K × Value), ps[j]? = some p → ∃ (a : Addr) (key : Value), items[j]? = some (.ref a) ∧ s.heap.IsTuple a #[key, p.2] ∧ knd.is p.1 key = true)
    (h : ∀ h' tk, (∀ b o, s.heap.get? b = some o → h'.get? b = some o) → h'.DictOf knd s.heap.objs.size (all [] ps) → Q (.ref s.heap.objs.size) { s with heap := h', toks := tk }) :
    wpAny (model prog w) A (call (.type "dict") [.ref l]) Q E s := by
  refine callType_codes (Q₁ := fun obj s₁ => obj = .ref s.heap.objs.size ∧ s₁ = { s with heap := s.heap.push { cls := .type "dict", data := .dict #[] } }) F.kt_called_dict (F.kt_typeCall_dict_1 _) F.entry_dict_init (kt_code_dict_new _ ⟨rfl, rfl⟩) ?_
  rintro obj s₁ ⟨rfl, rfl⟩
  have lt : l < s.heap.objs.size := Heap.lt_size hx
  have hnew : (s.heap.push { cls := .type "dict", data := .dict #[] }).DictOf knd s.heap.objs.size [] := Heap.DictOf.new s.heap
  have hx' : (s.heap.push { cls := .type "dict", data := .dict #[] }).get? l = some { cls := .type "list", data := .seq items c } := Heap.get?_push_of_some _ hx
  refine ⟨hnew.typeIs, F.args_dict_init_2 _ _, ?_⟩
  unfold Builtin.«dict.__init__»
  refine wpAny_bind ?_
  unfold Builtin.Dict.selfAndRest
  refine wpAny_bind (wpAny_notOrdered_dict hnew.typeIs ?_)
  show wpAny _ _ (pure (s.heap.objs.size, [Value.ref l])) _ _ _
  refine wpAny_pure ?_
  show wpAny _ _ (Builtin.Dict.updateFrom "dict.__init__" s.heap.objs.size (.ref l) [] .none) _ _ _
  unfold Builtin.Dict.updateFrom
  refine wpAny_bind (wpAny_typeOf (T := "list") ⟨_, hx', rfl⟩ ?_)
  rw [if_pos (by decide)]
  refine wpAny_bind (keys_miss hx' hh fun h1 tk1 hk1 => ?_)
  rw [if_pos (by decide)]
  have hx1 := hk1 _ _ hx'
  have hd1 : h1.DictOf knd s.heap.objs.size [] := by
    obtain ⟨o, es, ep, ho, rest⟩ := hnew
    exact ⟨o, es, ep, hk1 _ o ho, rest⟩
  refine wpAny_bind (wpAny_rule (wpAny_bind (wpAny_pyIter_list (items := items) ⟨_, hx1, rfl, c, rfl⟩ ?_)))
  have gI : (h1.push { cls := .type "list_iterator", data := .fields #[.ref l, .int 0 0] }).IsListIter h1.objs.size l 0 := ⟨_, Heap.get?_push_size _ rfl, rfl, rfl⟩
  have up : ∀ b o, s.heap.get? b = some o → (h1.push { cls := .type "list_iterator", data := .fields #[.ref l, .int 0 0] }).get? b = some o := fun b o e => Heap.get?_push_of_some _ (hk1 b o (Heap.get?_push_of_some _ e))
  have l1 : s.heap.objs.size < h1.objs.size := by
    obtain ⟨o, es, ep, ho, rest⟩ := hd1
    exact Heap.lt_size ho
  refine wpAny_pure ⟨plainId_quiet plain_loop _, ?_⟩
  refine loop (A := A.in1) (knd := knd) (d := s.heap.objs.size) (I := h1.objs.size) (l := l) (items := items) (ps := ps) hh (Nat.ne_of_lt l1) (Nat.ne_of_gt lt) (Nat.ne_of_lt (Nat.lt_trans lt l1)) hn hz items.size 0 _ [] rfl (Nat.zero_le _) (Nat.le_refl _) gI ⟨_, Heap.get?_push_of_some _ hx1, rfl, c, rfl⟩ (by
    obtain ⟨o, es, ep, ho, rest⟩ := hd1
    exact ⟨o, es, ep, Heap.get?_push_of_some _ ho, rest⟩) (fun j p hj => ?_) fun h2 tk2 hk2 hd2 => ?_
  · obtain ⟨a, key, g1, ⟨o, g2, g3⟩, g4⟩ := hp j p hj
    have la := Heap.lt_size g2
    exact ⟨a, key, g1, Nat.ne_of_lt la, Nat.ne_of_lt (Nat.lt_trans la l1), ⟨o, up a o g2, g3⟩, g4⟩
  · exact ⟨rfl, h h2 tk2 (fun b o e => hk2 b o (Nat.ne_of_lt (Heap.lt_size e)) (Nat.ne_of_lt (Nat.lt_trans (Heap.lt_size e) l1)) (up b o e)) hd2⟩
end
end Dp
end PySem
namespace L3
open PySem PySem.Spec PyProof.Rows L2
section
variable {X : Cx}
def putsW (kvs : List (Key × W)) (ps : List (Key × W)) : List (Key × W) := ps.foldl (fun kvs p => putW kvs p.1 p.2) kvs
def pairsW (ps : List (Key × W)) : List W := ps.map fun p => .tup [wK p.1, p.2]
theorem pairs_up {pins : List (Addr × Obj)} {σ : L2.St} {H : Hp} {M : Mm} {s : Shared} (I : L2.Inv X pins σ H s) : ∀ {ps : List (Key × W)} {vs : List V} {its : List Value}, AVs X.K H M vs (pairsW ps) → Vals vs its →
    ∃ (ks : List (Key × V)) (rs : List (Key × Value)), PKV X.K H M Key ks ps ∧ KV ks rs ∧ rs.length = its.length ∧
      ∀ (j : Nat) (p : Key × Value), rs[j]? = some p → ∃ (a : Addr) (key : Value), its[j]? = some (.ref a) ∧ s.heap.IsTuple a #[key, p.2] ∧ (mixKind X.prog X.w).is p.1 key = true
  | [], _, _, .nil, .nil => ⟨[], [], .nil, .nil, rfl, fun j p h => by simp at h⟩
  | (k, w) :: ps, _, _, .cons av avs, .cons rv rvs => by
    obtain ⟨ks, rs, h1, h2, h3, h4⟩ := pairs_up I avs rvs
    cases av with
    | tup e q =>
      cases rv
      obtain ⟨u1, u2, rfl, a1, a2⟩ := q.two
      have ek := a1.key
      subst ek
      obtain ⟨its2, r2, pl, _⟩ := I.tuple (SqT.of e)
      cases r2 with
      | cons x1 r3 => cases r3 with
        | cons x2 r4 =>
          cases r4
          refine ⟨(k, u2) :: ks, (k, _) :: rs, .cons ⟨rfl, a2⟩ h1, .cons ⟨rfl, x2⟩ h2, by simp [h3], fun j p hj => ?_⟩
          cases j with
          | zero => simp at hj; subst hj; exact ⟨_, _, rfl, pl, kV_is x1⟩
          | succ j => exact h4 j p (by simpa using hj)
theorem puts_up {H : Hp} {M : Mm} : ∀ {ps : List (Key × W)} {ks : List (Key × V)} {rs : List (Key × Value)} {kvs : List (Key × W)} {ls : List (Key × V)} {us : List (Key × Value)}, PKV X.K H M Key ks ps → KV ks rs → PKV X.K H M Key ls kvs → KV ls us →
    ∃ ls' : List (Key × V), PKV X.K H M Key ls' (putsW kvs ps) ∧ KV ls' (Dp.all us rs) ∧ ls'.length ≤ ls.length + ps.length
  | [], _, _, _, ls, _, .nil, .nil, h1, h2 => ⟨ls, h1, h2, Nat.le_refl _⟩
  | p :: ps, _, _, _, ls, _, .cons (a := a) x r, .cons (b := b) y t, h1, h2 => by
    obtain ⟨k, w⟩ := p
    obtain ⟨k1, v⟩ := a
    obtain ⟨k2, u⟩ := b
    obtain ⟨x1, x2⟩ := x
    obtain ⟨y1, y2⟩ := y
    cases x1; cases y1
    obtain ⟨ls', g1, g2, g3⟩ := puts_up (kvs := putW _ k w) r t (pkv_put h1 k x2) (h2.put k y2)
    have := length_putK ls k v
    exact ⟨ls', g1, g2, by simp at g3 ⊢; omega⟩
def rDictF : List W → Mm → K3 → Prop
  | [.rl ws], M, R => ∃ ps : List (Key × W), ws = pairsW ps ∧ ws.length ≤ sizeLine ∧ R (.dk (putsW [] ps)) M
  | _, _, _ => False
theorem c_dictF (hc : X.calm = true) : CallR X (.type "dict") (upC X.K rDictF) := by
  rintro pins s σ H xs us Q I rs ⟨ws, M, R, am, axs, h, k⟩
  match ws, h with
  | [.rl ws], h =>
    obtain ⟨v, rfl, av⟩ := axs.one
    obtain ⟨ps, rfl, hz, r⟩ := h
    obtain ⟨u, rfl, ru⟩ := vals1 rs
    cases av with
    | rl f n q =>
      cases ru
      obtain ⟨z, its, c, rv, hl, e⟩ := I.lstM f
      obtain ⟨ks, rs', h1, h2, h3, h4⟩ := pairs_up I q rv
      obtain ⟨ls, g1, g2, g3⟩ := puts_up h1 h2 .nil .nil
      refine Dp.call_pairs (knd := mixKind X.prog X.w) (items := its.toArray) (ps := rs') (I.ok.hd hc) e (by simpa using h3) (by rw [List.size_toArray]; omega) (fun j p hj => by simpa using h4 j p hj) fun h' tk hk hd => ?_
      have hz2 : ps.length ≤ sizeLine := by simpa [pairsW] using hz
      have hfr := I.hok.fresh (Nat.le_refl _)
      refine ⟨.ref s.heap.objs.size, upd H s.heap.objs.size (.dK ls), I.laid (o := .dK ls) (t' := tk) hk (Nat.le_refl _) ⟨by simp at g3; omega, beq_eq_false_iff_ne.mpr (Ne.symm (Nat.ne_of_lt I.big)), _, g2, hd⟩, rfl, ?_⟩
      obtain ⟨am2, k2⟩ := am.tup (u := .dK ls) hfr
      exact k _ _ _ _ k2 am2 (.dk upd_same (am.nonM hfr) g1.keys (g1.vals.newT hfr)) r
end
end L3
namespace L3
open PySem PySem.Spec PyProof.Rows L2
section
variable {X : Cx}
end
end L3
namespace L3
open PySem PySem.Spec PyProof.Rows L2
end L3
namespace L3
open PySem PySem.Spec PyProof.Rows L2
def putG (f : Str) (w : W) : List (Str × W) → List (Str × W)
  | [] => [(f, w)]
  | (k, x) :: r => if k = f then (k, w) :: r else (k, x) :: putG f w r
section
variable {K : PySem.W.Frag} {H : Hp} {M : Mm}
theorem PKV.look {f : Str} {w : W} : ∀ {gs : List (Str × V)} {fs : List (Str × W)}, PKV K H M Str gs fs → fs.lookup f = some w → ∃ v, gs.lookup f = some v ∧ AV K H M v w
  | _, _, .nil, h => by cases h
  | _, _, .cons (a := (k, v)) (b := (k', w')) r t, h => by
    obtain ⟨rfl, av⟩ := r
    by_cases hk : (f == k) = true
    · simp only [List.lookup, hk] at h ⊢
      cases h
      exact ⟨v, rfl, av⟩
    · have hk' : (f == k) = false := by simpa using hk
      simp only [List.lookup, hk'] at h ⊢
      exact PKV.look t h
theorem PKV.lookN {f : Str} : ∀ {gs : List (Str × V)} {fs : List (Str × W)}, PKV K H M Str gs fs → fs.lookup f = none → gs.lookup f = none
  | _, _, .nil, _ => rfl
  | _, _, .cons (a := (k, v)) (b := (k', w')) r t, h => by
    obtain ⟨rfl, av⟩ := r
    by_cases hk : (f == k) = true
    · simp only [List.lookup, hk] at h
      cases h
    · have hk' : (f == k) = false := by simpa using hk
      simp only [List.lookup, hk'] at h ⊢
      exact PKV.lookN t h
theorem PKV.putF {f : Str} {v : V} {w : W} (av : AV K H M v w) : ∀ {gs : List (Str × V)} {fs : List (Str × W)}, PKV K H M Str gs fs → PKV K H M Str (L2.putF f v gs) (putG f w fs)
  | _, _, .nil => .cons ⟨rfl, av⟩ .nil
  | _, _, .cons (a := (k, v')) (b := (k', w')) r t => by
    obtain ⟨rfl, av'⟩ := r
    show PKV K H M Str (if k = f then (k, v) :: _ else (k, v') :: L2.putF f v _) (if k = f then (k, w) :: _ else (k, w') :: putG f w _)
    by_cases hk : k = f
    · rw [if_pos hk, if_pos hk]; exact .cons ⟨rfl, av⟩ t
    · rw [if_neg hk, if_neg hk]; exact .cons ⟨rfl, av'⟩ (PKV.putF av t)
theorem PKV.len {κ : Type} {gs : List (κ × V)} {fs : List (κ × W)} (h : PKV K H M κ gs fs) : gs.length = fs.length := by
  have := congrArg List.length h.keys
  simpa using this
end
section
variable {X : Cx} {C : Addr} {f m : Str} {pos apos cpos : Pos} {ta tv : TE3} {o e value : Expr} {es : List Expr} {t : TA3} {sp : Sp3}
def vFld (C : Addr) (ta : TE3) (f : Str) : TE3 := fun τ M R => ta τ M fun x M1 => ∃ a dx fs w, x = .ref a ∧ M1 a = some (.ins C dx fs) ∧ fs.lookup f = some w ∧ R w M1
theorem v_fld (c : Cls X.K C) (n : NoAttr X.K C f) (he : E3 X o ta) (hb : attributeBase o f X.env (eval o X.env) = eval o X.env := by rfl) : E3 X (.Attribute o f pos) (vFld C ta f) :=
  (pe_fld he hb).weak fun σ H Q ⟨τ, M, R, as, am, h, k⟩ => ⟨τ, M, _, as, am, h, fun x H1 wx M1 k1 am1 ax ⟨a, dx, fs, w, e1, e2, e3, r⟩ => by
    subst e1
    cases ax
    obtain ⟨gs, e4, q⟩ := am1 a _ e2
    obtain ⟨v, e5, av⟩ := q.look e3
    exact ⟨a, C, dx, gs, v, rfl, e4, c, n, e5, k _ _ _ _ k1 am1 av r⟩⟩
def vSetF (C : Addr) (ta : TE3) (f : Str) (tv : TE3) : TS3 := fun D τ M => tv τ M fun y M1 => ta τ M1 fun x M2 => ∃ a dx fs, x = .ref a ∧ M2 a = some (.ins C dx fs) ∧ fs.length < 1000 ∧ D.nx τ (put M2 a (.ins C dx (putG f y fs)))
theorem s_fld (c : Cls X.K C) (n : NoAttr X.K C f) (ha : E3 X o ta) (hv : E3 X value tv) (hs : swapsWith value (some (.Attribute o f apos)) pos.line X.env = pure false := by rfl) : P3 X (.Assign [.Attribute o f apos] value pos) (vSetF C ta f tv) :=
  (ps_fld ha hv hs).weak fun D σ H ⟨τ, M, D', as, am, h, k⟩ => ⟨τ, M, _, as, am, h, fun y H1 wy M1 k1 am1 ay h1 => ⟨τ, M1, _, as.kp am k1, am1, h1, fun x H2 wx M2 k2 am2 ax ⟨a, dx, fs, e1, e2, hl, r⟩ => by
    subst e1
    cases ax
    obtain ⟨gs, e4, q⟩ := am2 a _ e2
    refine ⟨a, C, dx, gs, rfl, e4, c, n, by rw [q.len]; exact hl, ?_⟩
    obtain ⟨am3, k3⟩ := am2.write (o := .ins C dx (putG f wy fs)) (u := .ins C dx (L2.putF f y gs)) e2 ⟨_, upd_same, ((q.putF (ay.kp am1 k2))).go (go_wr am2 e2)⟩
    exact k.nx _ _ _ _ ((k1.trans k2).trans k3) am3 (((as.kp am k1).kp am1 k2).kp am2 k3) r⟩⟩
variable {k : Nat} {g : Addr} {fd : FuncData} {ps : List Str}
def vMeth (C : Addr) (m : Str) (sp : Sp3) (ta : TE3) (t : TA3) : TE3 := fun τ M R => ta τ M fun x M1 => ∃ a dx fs, x = .ref a ∧ M1 a = some (.ins C dx fs) ∧ fs.lookup m = none ∧ t τ M1 fun ws M2 => sp (.ref a :: ws) M2 R
theorem vMeth_up {σ : SV} {H : Hp} {Q : VK} (h : up X.K (vMeth C m sp ta t) σ H Q) : tMeth C m (upSp X.K sp) [] E0 (up X.K ta) (upA X.K t) σ H Q := by
  obtain ⟨τ, M, R, as, am, h, k⟩ := h
  refine ⟨τ, M, _, as, am, h, fun x H1 wx M1 k1 am1 ax ⟨a, dx, fs, e1, e2, e3, h1⟩ => ?_⟩
  subst e1
  cases ax
  obtain ⟨gs, e4, q⟩ := am1 a _ e2
  refine ⟨a, dx, gs, rfl, e4, q.lookN e3, τ, M1, _, as.kp am k1, am1, h1, fun vs H2 ws M2 k2 am2 avs h2 => ⟨.ref a :: ws, M2, R, am2, ?_, h2, k.kp (k1.trans k2)⟩⟩
  rw [List.append_nil]
  exact .cons (.ref a) avs
theorem v_meth {pl : Sem Bool} (c : Cls X.K C) (hm : Meth X.K C m g) (F : FnOk X.prog X.w X.K X.mg X.base CX0 k g fd ps (upSp X.K sp)) (hr : Room k X.A) (hb : Binds X.K fd ps []) (he : E3 X o ta) (ha : A3 X (e :: es) t)
    (hst : starEach (e :: es) X.env = (false, eval e X.env) :: starEach es X.env := by rfl) (hpl : (backTo pos (starEach es X.env)).any (·.1) = false := by rfl)
    (ht : eval (.Call (.Attribute o m apos) (e :: es) [] pos) X.env = (do
      let ov ← eval o X.env
      standAt apos.atName
      let (f, first) ← holding [ov] (getMethod ov m pl)
      callWith pos f first (backTo pos (starEach (e :: es) X.env)) (backToKw pos (keywordEach [] X.env))) := by rfl) :
    E3 X (.Call (.Attribute o m apos) (e :: es) [] pos) (vMeth C m sp ta t) := (pe_meth (pl := pl) he c hm F hr hb .nil pass0 ha hst hpl ht).weak fun _ _ _ h => vMeth_up h
theorem v_meth0 {pl : Sem Bool} (c : Cls X.K C) (hm : Meth X.K C m g) (F : FnOk X.prog X.w X.K X.mg X.base CX0 k g fd ps (upSp X.K sp)) (hr : Room k X.A) (hb : Binds X.K fd ps []) (he : E3 X o ta)
    (ht : eval (.Call (.Attribute o m apos) [] [] pos) X.env = (do
      let ov ← eval o X.env
      standAt apos.atName
      let (f, first) ← holding [ov] (getMethod ov m pl)
      callWith pos f first (backTo pos (starEach [] X.env)) (backToKw pos (keywordEach [] X.env))) := by rfl) :
    E3 X (.Call (.Attribute o m apos) [] [] pos) (vMeth C m sp ta aNil) := (pe_meth0 (pl := pl) he c hm F hr hb .nil pass0 ht).weak fun σ H Q h => by
  obtain ⟨τ, M, R, as, am, h, k⟩ := h
  refine ⟨τ, M, _, as, am, h, fun x H1 wx M1 k1 am1 ax ⟨a, dx, fs, e1, e2, e3, h1⟩ => ?_⟩
  subst e1
  cases ax
  obtain ⟨gs, e4, q⟩ := am1 a _ e2
  exact ⟨a, dx, gs, rfl, e4, q.lookN e3, [.ref a], M1, R, am1, .cons (.ref a) .nil, h1, k.kp k1⟩
def vMake (C : Addr) (sp : Sp3) (t : TA3) : TE3 := fun τ M R => t τ M fun ws M1 => ∀ a dx, M1 a = none → M1 dx = none → dx ≠ a → sp (.ref a :: ws) (put M1 a (.ins C dx [])) fun w M2 => w = .non ∧ R (.ref a) M2
theorem AM.made {K : PySem.W.Frag} {H : Hp} {M : Mm} {x dx : Addr} (am : AM K H M) (hx : H x = none) (hd : H dx = none) (ne : dx ≠ x) : AM K (upd (upd H dx (.own x)) x (.ins C dx [])) (put M x (.ins C dx [])) ∧ Kp H M (upd (upd H dx (.own x)) x (.ins C dx [])) (put M x (.ins C dx [])) := by
  obtain ⟨am1, k1⟩ := am.tup (u := .own x) hd
  have hx1 : upd H dx (.own x) x = none := by rw [upd_ne (Ne.symm ne)]; exact hx
  obtain ⟨am2, k2⟩ := am1.laid (o := .ins C dx []) (u := .ins C dx []) hx1 ⟨[], upd_same, .nil⟩
  exact ⟨am2, k1.trans k2⟩
theorem made_up {H : Hp} {M : Mm} {R : K3} {Q : VK} {vs : List V} {ws : List W} (am : AM X.K H M) (avs : AVs X.K H M vs ws) (h : ∀ a dx, M a = none → M dx = none → dx ≠ a → sp (.ref a :: ws) (put M a (.ins C dx [])) fun w M2 => w = .non ∧ R (.ref a) M2) (k : Up X.K H M R Q) :
    ∀ x dx, H x = none → H dx = none → dx ≠ x → upSp X.K sp (.ref x :: (vs ++ [])) (upd (upd H dx (.own x)) x (.ins C dx [])) (fun v H2 => v = .non ∧ Q (.ref x) H2) E0 := by
  intro x dx hx hd ne
  obtain ⟨am1, k1⟩ := am.made (C := C) hx hd ne
  refine ⟨.ref x :: ws, _, _, am1, ?_, h x dx (am.nonM hx) (am.nonM hd) ne, fun v H2 w M2 k2 am2 av r => ?_⟩
  · rw [List.append_nil]; exact .cons (.ref x) (avs.kp am k1)
  · obtain ⟨rfl, r⟩ := r
    cases av
    exact ⟨rfl, k _ _ _ _ (k1.trans k2) am2 (.ref x) r⟩
theorem v_make0 {x : Str} {p : Pos} (M : Mk X.K C g) (F : FnOk X.prog X.w X.K X.mg X.base CX0 k g fd ps (upSp X.K sp)) (hr : Room (k + 1) X.A) (hg : Gl X x) (hm : X.mg x = some (.ref C)) (hb : Binds X.K fd ps [])
    (hdb : (x == ("__debug__" : Str)) = false := by decide) : E3 X (.Call (.Name x p) [] [] pos) (vMake C sp aNil) := (pe_make0 M F hr hg hm hb .nil pass0 hdb).weak fun σ H Q ⟨τ, M, R, as, am, h, k⟩ => made_up am .nil h k
end
end L3
namespace L2
open PySem PySem.Spec PyProof.Rows
section
variable {prog : Program} {w : World} {K : Type} [DecidableEq K] {knd : HeapKind prog w K} {A : Around} {E : Value → Shared → Prop} {s : Shared} {d a : Addr} {k : K} {xs : List (K × Addr × Value)}
theorem hk_setdef {y : Value} {Q : Value → Shared → Prop} (hu : knd.room A) (hkey : knd.is s.heap k a) (hm : s.heap.DictOfH knd d xs) (hsz : xs.length ≤ sizeLine)
    (h1 : ∀ p, atKey xs k = some p → Q p.2 { s with toks := s.toks + knd.draws k })
    (h2 : atKey xs k = none → ∀ h', h'.DictOfH knd d (storedH xs k a y) → Heap.SameBut d s.heap h' → Q y { s with heap := h', toks := s.toks + knd.draws k }) :
    wpAny (model prog w) A (dictSetDefault d (.ref a) y) Q E s := by
  obtain ⟨o, es, ep, ho, hc, hd, he, his, hn⟩ := hm
  unfold dictSetDefault
  refine wpAny_holding (wpAny_bind (knd.pyHash hu hkey (wpAny_bind (wpAny_dictFind_heap (s := { s with toks := s.toks + knd.draws k }) hu hkey ho hd he his hn (fun hno => ?_) fun j p hj => ?_))))
  · have hk := atKey_none_of_get hno
    have hnot : k ∉ xs.map (·.1) := not_mem_keys_of_get hno
    refine wpAny_bind (wpAny_rule (wpAny_bind (wpAny_updateDictKeys (hz := by have e := size_of_entries he; omega) (s := { s with toks := s.toks + knd.draws k }) ho hd (wpAny_pure (h2 hk _ ⟨_, _, ep + 1, Heap.get?_update_self _ ho (Obj.isFreed_of_dict (Obj.data_mapDictKeys hd _)),
      hc.mapDictKeys _, Obj.data_mapDictKeys hd _, ?_, fun x hx => ?_, ?_⟩ (Heap.SameBut.update ..))))))
    · rw [storedH_new hk]
      simp [he, entryOfKey]
    · rw [storedH_new hk] at hx
      rcases List.mem_append.mp hx with q | q
      · exact knd.keeps (his x q) ho hd (Heap.SameBut.update ..)
      · obtain rfl := List.mem_singleton.mp q
        exact knd.keeps hkey ho hd (Heap.SameBut.update ..)
    · rw [storedH_new hk, List.map_append, List.nodup_append]
      refine ⟨hn, by simp, fun x hx y hy => ?_⟩
      simp only [List.map_cons, List.map_nil, List.mem_singleton] at hy
      subst hy
      exact fun e => hnot (e ▸ hx)
  · refine wpAny_bind (wpAny_dictEntries (s := { s with toks := s.toks + knd.draws k }) ho hd ?_)
    rw [entry_at he j, hj]
    exact wpAny_bind (wpAny_rule (wpAny_pure (h1 p (atKey_of_get hn hj))))
end
section
variable {X : Cx} {pins : List (Addr × Obj)} {σ : St} {H : Hp} {s : Shared} {a b : Addr} {v : V} {r : Value} {A : Around} {E : Value → Shared → Prop} {kvs : List (List Key × V)} {k : List Key}
end
end L2
namespace L3
open PySem PySem.Spec PyProof.Rows L2
section
variable {X : Cx}
end
end L3
namespace L2
open PySem PySem.Spec PyProof.Rows
section
variable {X : Cx} {pins : List (Addr × Obj)} {σ : St} {H : Hp} {s : Shared} {a b : Addr} {v : V} {r : Value} {A : Around} {E : Value → Shared → Prop} {es : List (NKey × Addr × V)} {tl : List Int} {x : NKey}
theorem pe_bmN {o e : Expr} {args : List Expr} {to : TE} {t : TA} {name : Str} {apos cpos : Pos} {T id : String} {rr : V → List V → Hp → VK → Prop} {tq : V → Hp → Prop} (pa : PlainAttrs T) (slot : Slot T name id) (hty : typeOf (.builtin id) = pure (.type "method_descriptor")) (hm : MtR X id rr) (ho : PE X o to) (ha : PA X (e :: args) t)
    (tp : ∀ pins σ H s x v, Inv X pins σ H s → RelV x v → tq x H → s.TypeIs v T ∧ ∀ a, v = .ref a → ∃ ob, s.heap.get? a = some ob ∧ ob.dict = none) (hbase : attributeBase o name X.env (eval o X.env) = eval o X.env)
    (hfew : ((backTo cpos (starEach (e :: args) X.env)).all (fun x => !x.1) && (backToKw cpos (keywordEach [] X.env)).all (fun x => x.1.isSome) && decide ((e :: args).length + ([] : List Keyword).length + (if ([] : List Keyword).isEmpty then 0 else 1) < 30)) = true)
    (hline : (apos.endLine == cpos.line) = true) (hs : starEach (e :: args) X.env = (false, eval e X.env) :: starEach args X.env) (hplain : (backTo cpos (starEach args X.env)).any (·.1) = false) :
    PE X (.Call (.Attribute o name apos) (e :: args) [] cpos) (fun σ H Q => to σ H fun x H1 => tq x H1 ∧ t σ H1 fun xs H2 => rr x xs H2 Q) := by
  intro pins s σ H Q I h
  refine wpAny_Call_method_late hbase hfew hline rfl (thn (ho pins s σ H _ I h) fun v s1 ⟨x, H1, I1, r1, ty, q1⟩ => ?_)
  obtain ⟨h1, h2⟩ := tp _ _ _ _ _ _ I1 r1 ty
  refine ⟨T, id, pa, slot, hty, h1, h2, ?_⟩
  have hA := ha cpos pins s1 σ H1 _ I1 q1
  rw [hs] at hA ⊢
  refine Calls.callWith_builtin (by show (false || (backTo cpos (starEach args X.env)).any (·.1)) = false; rw [hplain] <;> rfl) (Calls.evalArgs_plain ?_)
  exact thn hA fun us s2 ⟨vs, H2, I2, r2, q2⟩ => hm pins s2 σ H2 x vs v us Q I2 r1 r2 q2
theorem pe_bmN0 {o : Expr} {to : TE} {name : Str} {apos cpos : Pos} {T id : String} {rr : V → List V → Hp → VK → Prop} {tq : V → Hp → Prop} (pa : PlainAttrs T) (slot : Slot T name id) (hty : typeOf (.builtin id) = pure (.type "method_descriptor")) (hm : MtR X id rr) (ho : PE X o to)
    (tp : ∀ pins σ H s x v, Inv X pins σ H s → RelV x v → tq x H → s.TypeIs v T ∧ ∀ a, v = .ref a → ∃ ob, s.heap.get? a = some ob ∧ ob.dict = none) (hbase : attributeBase o name X.env (eval o X.env) = eval o X.env)
    (hline : (apos.endLine == cpos.line) = true) : PE X (.Call (.Attribute o name apos) [] [] cpos) (fun σ H Q => to σ H fun x H1 => tq x H1 ∧ rr x [] H1 Q) := by
  intro pins s σ H Q I h
  refine wpAny_Call_method0_late hbase hline (thn (ho pins s σ H _ I h) fun v s1 ⟨x, H1, I1, r1, ty, q1⟩ => ?_)
  obtain ⟨h1, h2⟩ := tp _ _ _ _ _ _ I1 r1 ty
  exact ⟨T, id, pa, slot, hty, h1, h2, Calls.callWith_builtin rfl (PySem.evalArgs_none (hm pins s1 σ H1 x [] v [] Q I1 r1 .nil q1))⟩
theorem paired_app {α β : Type} {F : α → β → Prop} : ∀ {a c : List α} {b d : List β}, Paired F a b → Paired F c d → Paired F (a ++ c) (b ++ d)
  | _, _, _, _, .nil, h => h
  | _, _, _, _, .cons r t, h => .cons r (paired_app t h)
theorem dn_of (I : Inv X pins σ H s) (e : H a = some (.ext (DnObj X.prog X.w tl a es))) : DnObj X.prog X.w tl a es s.heap := (show ObjOk X.prog X.w H s.heap a (.ext (DnObj X.prog X.w tl a es)) from I.hok a _ e).1
theorem NX.val {xs : List (NKey × Addr × Value)} (q : NX es xs) (x : NKey) : (atKey xs x = none ∧ ∀ e ∈ es, e.1 ≠ x) ∨ ∃ b v u, atKey xs x = some (b, u) ∧ (x, b, v) ∈ es ∧ RelV v u := by
  induction q with
  | nil => exact .inl ⟨rfl, fun e he => nomatch he⟩
  | @cons p z ps zs h t ih =>
    obtain ⟨p1, p2, p3⟩ := p
    obtain ⟨z1, z2, z3⟩ := z
    obtain ⟨rfl, rfl, h3⟩ := h
    unfold atKey at ih ⊢
    rw [List.find?_cons]
    by_cases hx : p1 = x
    · subst hx
      rw [decide_eq_true rfl]
      exact .inr ⟨p2, p3, z3, rfl, List.mem_cons_self, h3⟩
    · rw [decide_eq_false hx]
      rcases ih with ⟨i1, i2⟩ | ⟨b, v, u, i1, i2, i3⟩
      · refine .inl ⟨i1, fun e he => ?_⟩
        rcases List.mem_cons.mp he with rfl | he
        · exact hx
        · exact i2 e he
      · exact .inr ⟨b, v, u, i1, List.mem_cons_of_mem _ i2, i3⟩
theorem dn_setdef {Q : Value → Shared → Prop} (hu : A.units + 2 < cLine) (I : Inv X pins σ H s) (e : H a = some (.ext (DnObj X.prog X.w tl a es))) (ks : ∀ z ∈ es, NAt H tl z.1 z.2.1) (eb : NAt H tl x b) (rv : RelV v r) (hl : es.length < sizeLine)
    (h1 : ∀ c v0 w' s', (x, c, v0) ∈ es → Inv X pins σ H s' → RelV v0 w' → Q w' s') (h2 : (∀ z ∈ es, z.1 ≠ x) → ∀ s', Inv X pins σ (upd H a (.ext (DnObj X.prog X.w tl a (es ++ [(x, b, v)])))) s' → Q r s') :
    wpAny (model X.prog X.w) A (call (.builtin "dict.setdefault") [.ref a, .ref b, r]) Q E s := by
  obtain ⟨o, ents, ep, xs, ho, hc, hd, he, nx, hn, hz, hsys⟩ := dn_of I e
  have isAll : ∀ z ∈ xs, (nestKind X.prog X.w tl).is s.heap z.1 z.2.1 := by
    have : ∀ {es : List (NKey × Addr × V)} {xs : List (NKey × Addr × Value)}, NX es xs → (∀ z ∈ es, NAt H tl z.1 z.2.1) → ∀ z ∈ xs, (nestKind X.prog X.w tl).is s.heap z.1 z.2.1 := by
      intro es xs q
      induction q with
      | nil => intro _ z hz; cases hz
      | @cons p z ps zs h t ih =>
        intro hk u hu
        rcases List.mem_cons.mp hu with rfl | hu
        · have := (hk p List.mem_cons_self).is I.hok
          rw [h.1, h.2.1] at this
          exact this
        · exact ih (fun y hy => hk y (List.mem_cons_of_mem _ hy)) u hu
    exact this nx ks
  have dd : s.heap.DictOfH (nestKind X.prog X.w tl) a xs := ⟨o, ents, ep, ho, hc, hd, he, isAll, hn⟩
  have hlen : xs.length = es.length := (Paired.length nx).symm
  refine call_meetsIn PySem.F.slot_dict_setdefault dd.typeIs PySem.F.entry_dict_setdefault (PySem.F.args_dict_setdefault_3 _ _ _)
    (S := fun A R s1 => (nestKind X.prog X.w tl).room A.in1 ∧ (nestKind X.prog X.w tl).is s1.heap x b ∧ s1.heap.DictOfH (nestKind X.prog X.w tl) a xs ∧
      (∀ p, atKey xs x = some p → R (.ok (.ret p.2)) { s1 with toks := s1.toks + (nestKind X.prog X.w tl).draws x }) ∧
      (atKey xs x = none → ∀ h', h'.DictOfH (nestKind X.prog X.w tl) a (storedH xs x b r) → Heap.SameBut a s1.heap h' → R (.ok (.ret r)) { s1 with heap := h', toks := s1.toks + (nestKind X.prog X.w tl).draws x }))
    (.of_wp fun A R s1 ⟨q0, q1, q2, q3, q4⟩ => ?_) ⟨hu, eb.is I.hok, dd, fun p hp => ?_, fun hno h' dd' hs => ?_⟩
  · unfold Builtin.«dict.setdefault»
    refine wpAny_bind ?_
    unfold Builtin.Dict.keyAndDefault
    refine wpAny_bind (wpAny_notOrdered_dict q2.typeIs (wpAny_pure ?_))
    dsimp only
    rw [if_neg (by rw [hsys]; exact Bool.false_ne_true)]
    exact wpAny_bind (hk_setdef q0 q1 q2 hz (fun p hp => wpAny_pure ⟨_, rfl, q3 p hp⟩) fun hn h' hm' hs' => wpAny_pure ⟨_, rfl, q4 hn h' hm' hs'⟩)
  · rcases nx.val x with ⟨i1, _⟩ | ⟨c, v0, u, i1, i2, i3⟩
    · rw [i1] at hp; cases hp
    · rw [i1] at hp; cases hp
      exact h1 c v0 u _ i2 (I.tok _) i3
  · rcases nx.val x with ⟨_, i2⟩ | ⟨c, v0, u, i1, _, _⟩
    · rw [storedH_new hno] at dd'
      obtain ⟨q1, es', ep', hq, g2, g3, g4, _, g5⟩ := dd'
      refine h2 i2 _ (d_write (t' := s.toks + (nestKind X.prog X.w tl).draws x) I (by rw [e]; exact True.intro) hs ⟨q1, hq⟩ (DnObj.ok ⟨q1, es', ep', _, hq, g2, g3, g4, paired_app nx (.cons ⟨rfl, rfl, rv⟩ .nil), g5, ?_, hsys⟩))
      rw [List.length_append, hlen]
      simp; omega
    · rw [i1] at hno; cases hno
end
end L2
namespace L3
open PySem PySem.Spec PyProof.Rows L2
def keyW (tl : List Int) (x : NKey) : W := .tup (wK x.1 :: .tup (x.2.map wK) :: tl.map W.int)
section
variable {K : PySem.W.Frag} {H : Hp} {M : Mm}
theorem av_key (k : Key) : AV K H M (kV k) (wK k) := by cases k <;> first | exact .int _ | exact .str _
theorem avs_keys : ∀ ks : List Key, AVs K H M (ks.map kV) (ks.map wK)
  | [] => .nil
  | k :: r => .cons (av_key k) (avs_keys r)
theorem avs_ints : ∀ tl : List Int, AVs K H M (tl.map V.int) (tl.map W.int)
  | [] => .nil
  | i :: r => .cons (.int i) (avs_ints r)
theorem AVs.intsN : ∀ {tl : List Int} {vs : List V}, AVs K H M vs (tl.map W.int) → vs = tl.map V.int
  | [], _, h => by cases h; rfl
  | i :: r, _, h => by
    cases h with
    | cons a b => cases a; rw [AVs.intsN b]; rfl
theorem NAt.av {tl : List Int} {x : NKey} {b : Addr} (n : NAt H tl x b) : AV K H M (.ref b) (keyW tl x) := by
  obtain ⟨pa, e1, e2⟩ := n
  exact .tup e1 (.cons (av_key x.1) (.cons (.tup e2 (avs_keys x.2)) (avs_ints tl)))
theorem nat_of {tl : List Int} {x : NKey} {v : V} (h : AV K H M v (keyW tl x)) : ∃ b, v = .ref b ∧ NAt H tl x b := by
  unfold keyW at h
  cases h with
  | @tup b xs _ e q =>
    cases q with
    | @cons v1 vs1 _ _ a1 q1 =>
      cases q1 with
      | @cons v2 vs2 _ _ a2 q2 =>
        have e1 := a1.key
        subst e1
        have e3 := q2.intsN
        subst e3
        cases a2 with
        | @tup pa ys _ e4 q4 =>
          rw [q4.keys] at e4
          exact ⟨b, rfl, pa, e, e4⟩
end
section
variable {X : Cx}
def vNewN (P : Program) (w : World) (tl : List Int) : TE3 := fun τ M R => ∀ p, M p = none → R (.ref p) (put M p (.dn P w tl []))
theorem v_dnewN {tl : List Int} {pos : Pos} : E3 X (.Dict [] [] pos) (vNewN X.prog X.w tl) := by
  rintro pins s σ H Q I ⟨τ, M, R, as, am, h, k⟩
  have hf := I.hok.fresh (Nat.le_refl s.heap.objs.size)
  have hb := I.big
  obtain ⟨am2, k2⟩ := am.laid (o := .dn X.prog X.w tl []) (u := .ext (DnObj X.prog X.w tl s.heap.objs.size [])) hf ⟨[], upd_same, .nil⟩
  refine wpAny_Dict_empty ⟨.ref s.heap.objs.size, _, I.laid (a := s.heap.objs.size) (o := .ext (DnObj X.prog X.w tl s.heap.objs.size [])) (t' := s.toks) (fun _ _ q => Heap.get?_push_of_some _ q) (Nat.le_refl _) (DnObj.ok ⟨_, #[], 0, [], Heap.get?_push_size _ rfl, ⟨rfl, rfl, rfl⟩, rfl, rfl, .nil, List.nodup_nil, Nat.zero_le _, ?_⟩), rfl, k _ _ _ _ k2 am2 (.ref _) (h _ (am.nonM hf))⟩
  rw [beq_eq_false_iff_ne]
  exact Nat.ne_of_gt hb
abbrev isDn (P : Program) (w : World) (tl : List Int) (x : W) (M : Mm) : Prop := ∃ a kvs, x = .ref a ∧ M a = some (.dn P w tl kvs)
theorem dn_ty {P : Program} {w : World} {tl : List Int} {pins : List (Addr × Obj)} {σ : SV} {H : Hp} {s : Shared} {v : V} {u : Value} (I : Inv X pins σ H s) (r : RelV v u) (h : ∃ a es, v = .ref a ∧ H a = some (.ext (DnObj P w tl a es))) : s.TypeIs u "dict" ∧ ∀ a, u = .ref a → ∃ ob, s.heap.get? a = some ob ∧ ob.dict = none := by
  obtain ⟨a, es, rfl, e⟩ := h
  cases (show u = Value.ref a from r)
  obtain ⟨o, ents, ep, xs, ho, hc, hd, _⟩ := (show ObjOk X.prog X.w H s.heap a (.ext (DnObj P w tl a es)) from I.hok a _ e).1
  refine ⟨⟨o, ho, hc.1⟩, fun b e' => ?_⟩
  cases e'
  exact ⟨o, ho, hc.2.1⟩
def vSetN (P : Program) (w : World) (tl : List Int) (to : TE3) (tk tv : TE3) : TE3 := fun τ M R => to τ M fun d M1 => isDn P w tl d M1 ∧ tk τ M1 fun kw M2 => tv τ M2 fun v M3 => ∃ a kvs x, d = .ref a ∧ M3 a = some (.dn P w tl kvs) ∧ kw = keyW tl x ∧ kvs.length < sizeLine ∧
  (∀ w0, lookW kvs x = some w0 → R w0 M3) ∧ (lookW kvs x = none → R v (put M3 a (.dn P w tl (kvs ++ [(x, v)]))))
abbrev PN (K : PySem.W.Frag) (H : Hp) (M : Mm) (tl : List Int) (es : List (NKey × Addr × V)) (kvs : List (NKey × W)) : Prop := Paired (fun (e : NKey × Addr × V) (p : NKey × W) => e.1 = p.1 ∧ NAt H tl e.1 e.2.1 ∧ AV K H M e.2.2 p.2) es kvs
theorem PN.look {K : PySem.W.Frag} {H : Hp} {M : Mm} {tl : List Int} {es : List (NKey × Addr × V)} {kvs : List (NKey × W)} (q : PN K H M tl es kvs) (hn : (es.map (·.1)).Nodup) (x : NKey) : (lookW kvs x = none ∧ ∀ e ∈ es, e.1 ≠ x) ∨ ∃ w, lookW kvs x = some w ∧ ∀ c v, (x, c, v) ∈ es → AV K H M v w := by
  induction q with
  | nil => exact .inl ⟨rfl, fun e he => nomatch he⟩
  | @cons p z ps zs h t ih =>
    rw [List.map_cons, List.nodup_cons] at hn
    obtain ⟨p1, p2, p3⟩ := p
    obtain ⟨z1, z2⟩ := z
    obtain ⟨rfl, _, h3⟩ := h
    unfold lookW at ih ⊢
    rw [List.find?_cons]
    by_cases hx : p1 = x
    · subst hx
      rw [decide_eq_true rfl]
      refine .inr ⟨z2, rfl, fun c v hm => ?_⟩
      rcases List.mem_cons.mp hm with e | hm
      · cases e; exact h3
      · exact absurd (List.mem_map.mpr ⟨_, hm, rfl⟩) hn.1
    · rw [decide_eq_false hx]
      rcases ih hn.2 with ⟨i1, i2⟩ | ⟨w, i1, i2⟩
      · refine .inl ⟨i1, fun e he => ?_⟩
        rcases List.mem_cons.mp he with rfl | he
        · exact hx
        · exact i2 e he
      · refine .inr ⟨w, i1, fun c v hm => ?_⟩
        rcases List.mem_cons.mp hm with e | hm
        · cases e; exact absurd rfl hx
        · exact i2 c v hm
theorem nx_keys {es : List (NKey × Addr × V)} {xs : List (NKey × Addr × Value)} (nx : NX es xs) : es.map (·.1) = xs.map (·.1) := by
  induction nx with
  | nil => rfl
  | cons h _ ih => rw [List.map_cons, List.map_cons, ih, h.1]
theorem DnObj.nodup {P : Program} {w : World} {tl : List Int} {a : Addr} {es : List (NKey × Addr × V)} {h : Heap} (x : DnObj P w tl a es h) : (es.map (·.1)).Nodup := by
  obtain ⟨o, ents, ep, xs, _, _, _, _, nx, hn, _⟩ := x
  rw [nx_keys nx]; exact hn
theorem PN.keys {K : PySem.W.Frag} {H : Hp} {M : Mm} {tl : List Int} {es : List (NKey × Addr × V)} {kvs : List (NKey × W)} (q : PN K H M tl es kvs) : AVs K H M (es.map fun e => V.ref e.2.1) (kvs.map fun p => keyW tl p.1) := by
  induction q with
  | nil => exact .nil
  | @cons p z ps zs h _ ih =>
    refine .cons ?_ ih
    show AV K H M (.ref p.2.1) (keyW tl z.1)
    rw [← h.1]; exact NAt.av h.2.1
theorem PN.vals {K : PySem.W.Frag} {H : Hp} {M : Mm} {tl : List Int} {es : List (NKey × Addr × V)} {kvs : List (NKey × W)} (q : PN K H M tl es kvs) : AVs K H M (es.map fun e => e.2.2) (kvs.map fun p => p.2) := by
  induction q with
  | nil => exact .nil
  | cons h _ ih => exact .cons h.2.2 ih
theorem PN.ats {K : PySem.W.Frag} {H : Hp} {M : Mm} {tl : List Int} {es : List (NKey × Addr × V)} {kvs : List (NKey × W)} (q : PN K H M tl es kvs) : ∀ z ∈ es, NAt H tl z.1 z.2.1 := by
  induction q with
  | nil => intro z hz; cases hz
  | cons h _ ih =>
    intro z hz
    rcases List.mem_cons.mp hz with rfl | hz
    · exact h.2.1
    · exact ih z hz
theorem v_setN {tl : List Int} {o ek ev : Expr} {to tk tv : TE3} {apos cpos : Pos} (hu : X.A.units + 2 < cLine) (ho : E3 X o to) (hk : E3 X ek tk) (hv : E3 X ev tv) (hbase : attributeBase o "setdefault" X.env (eval o X.env) = eval o X.env := by rfl)
    (hfew : ((backTo cpos (starEach [ek, ev] X.env)).all (fun x => !x.1) && (backToKw cpos (keywordEach [] X.env)).all (fun x => x.1.isSome) && decide (([ek, ev] : List Expr).length + ([] : List Keyword).length + (if ([] : List Keyword).isEmpty then 0 else 1) < 30)) = true := by rfl)
    (hline : (apos.endLine == cpos.line) = true := by rfl) (hs : starEach [ek, ev] X.env = (false, eval ek X.env) :: starEach [ev] X.env := by rfl) (hs2 : starEach [ev] X.env = (false, eval ev X.env) :: starEach [] X.env := by rfl) (hplain : (backTo cpos (starEach [ev] X.env)).any (·.1) = false := by rfl) :
    E3 X (.Call (.Attribute o "setdefault" apos) [ek, ev] [] cpos) (vSetN X.prog X.w tl to tk tv) := by
  have hm : MtR X "dict.setdefault" (fun d vs H Q => ∃ M R w kw ww a kvs x y z, AM X.K H M ∧ d = .ref a ∧ vs = [y, z] ∧ AV X.K H M y kw ∧ AV X.K H M z ww ∧ M a = some (.dn X.prog X.w tl kvs) ∧ kw = keyW tl x ∧ kvs.length < sizeLine ∧ (∀ w0, lookW kvs x = some w0 → R w0 M) ∧ (lookW kvs x = none → R ww (put M a (.dn X.prog X.w tl (kvs ++ [(x, ww)])))) ∧ w = () ∧ Up X.K H M R Q) := by
    rintro pins s σ H d vs v us Q I rd rs ⟨M, R, _, kw, ww, a, kvs, x, y, z, am, rfl, rfl, ay, az, e, rfl, hl, h1, h2, _, k⟩
    cases (show v = Value.ref a from rd)
    obtain ⟨u, u1, rfl, ru, ru1⟩ := vals2 rs
    obtain ⟨es, e1, q⟩ := am _ _ e
    obtain ⟨b, rfl, nb⟩ := nat_of ay
    cases (show u = Value.ref b from ru)
    have nd := DnObj.nodup (dn_of I e1)
    have lk := PN.look q nd x
    refine dn_setdef hu I e1 (PN.ats q) nb ru1 (by rw [Paired.length q]; exact hl) (fun c v0 w' s' hm I' rw' => ?_) fun hno s' I' => ?_
    · rcases lk with ⟨_, l2⟩ | ⟨w, l1, l2⟩
      · exact absurd rfl (l2 _ hm)
      · exact ⟨_, H, I', rw', k.at am (l2 c v0 hm) (h1 w l1)⟩
    · rcases lk with ⟨l1, _⟩ | ⟨w, l1, l2⟩
      · have g := go_wr (o := .dn X.prog X.w tl (kvs ++ [(x, ww)])) (u := .ext (DnObj X.prog X.w tl a (es ++ [(x, b, z)]))) am e
        obtain ⟨am3, k3⟩ := am.write (o := .dn X.prog X.w tl (kvs ++ [(x, ww)])) (u := .ext (DnObj X.prog X.w tl a (es ++ [(x, b, z)]))) e ⟨_, upd_same, paired_app (Paired.mapP q fun p r t => ⟨t.1, let ⟨pa, n1, n2⟩ := t.2.1; ⟨pa, g.ht _ _ n1, g.ht _ _ n2⟩, t.2.2.go g⟩) (.cons ⟨rfl, let ⟨pa, n1, n2⟩ := nb; ⟨pa, g.ht _ _ n1, g.ht _ _ n2⟩, az.go g⟩ .nil)⟩
        exact ⟨_, _, I', ru1, k _ _ _ _ k3 am3 (az.wr am e) (h2 l1)⟩
      · exfalso
        have : ∀ {es : List (NKey × Addr × V)} {kvs : List (NKey × W)}, PN X.K H M tl es kvs → (∀ z ∈ es, z.1 ≠ x) → lookW kvs x = none := by
          intro es kvs q
          induction q with
          | nil => intro _; rfl
          | @cons p r ps rs h t ih =>
            intro hz
            unfold lookW at ih ⊢
            rw [List.find?_cons, decide_eq_false (by rw [← h.1]; exact hz p List.mem_cons_self)]
            exact ih fun y hy => hz y (List.mem_cons_of_mem _ hy)
        rw [this q hno] at l1; cases l1
  refine (pe_bmN (tq := fun x H => ∃ a es, x = .ref a ∧ H a = some (.ext (DnObj X.prog X.w tl a es))) PySem.F.plainAttrs_dict PySem.F.slot_dict_setdefault PySem.F.type_dict_setdefault hm ho (a_cons hk (a_cons hv a_nil hs2) hs) (fun pins σ H s x v I r h => dn_ty I r h) hbase hfew hline hs hplain).weak ?_
  rintro σ H Q ⟨τ, M, R, as, am, h, k⟩
  refine ⟨τ, M, _, as, am, h, fun d H1 wd M1 k1 am1 ad ⟨⟨a, kvs, e1, e2⟩, h1⟩ => ?_⟩
  subst e1
  cases ad
  obtain ⟨es, e3, q⟩ := am1 _ _ e2
  refine ⟨⟨a, es, rfl, e3⟩, τ, M1, fun ws M3 => match ws with | [kw, v] => ∃ a' kvs x, W.ref a = .ref a' ∧ M3 a' = some (.dn X.prog X.w tl kvs) ∧ kw = keyW tl x ∧ kvs.length < sizeLine ∧ (∀ w0, lookW kvs x = some w0 → R w0 M3) ∧ (lookW kvs x = none → R v (put M3 a' (.dn X.prog X.w tl (kvs ++ [(x, v)])))) | _ => False, as.kp am k1, am1, ?_, fun vs H2 ws M2 k2 am2 avs r => ?_⟩
  · exact h1
  · match ws, r with
    | [kw, ww], ⟨a', kvs, x, ea, e4, e5, hl, g1, g2⟩ =>
      cases ea
      obtain ⟨y, z, rfl, ay, az⟩ := avs.two
      exact ⟨M2, R, (), kw, ww, a, kvs, x, y, z, am2, rfl, rfl, ay, az, e4, e5, hl, g1, g2, rfl, k.kp (k1.trans k2)⟩
end
end L3
namespace L2
open PySem PySem.Spec PyProof.Rows
section
variable {X : Cx} {pins : List (Addr × Obj)} {σ : St} {H : Hp} {s : Shared} {a d : Addr} {es : List (NKey × Addr × V)} {tl : List Int} {A : Around} {E : Value → Shared → Prop}
theorem raw_vals {prog : Program} {w : World} {ents : Array DictEntry} {ep : Nat} {Q : Value → Shared → Prop} (hd : (d == sysModules) = false) (hm : RawD s.heap d ents ep)
    (hQ : Q (.ref s.heap.objs.size) { s with heap := s.heap.push { cls := .type "dict_values", data := .fields #[.ref d] } }) : wpAny (model prog w) A (call (.builtin "dict.values") [.ref d]) Q E s :=
  call_meetsIn PySem.F.slot_dict_values hm.typeIs PySem.F.entry_dict_values (PySem.F.args_dict_values_1 _) (S := fun _ R s1 => RawD s1.heap d ents ep ∧ R (.ok (.ret (.ref s1.heap.objs.size))) { s1 with heap := s1.heap.push { cls := .type "dict_values", data := .fields #[.ref d] } })
    (.of_wp fun A R s1 ⟨q1, q2⟩ => by
      refine wpAny_bind ?_
      unfold Builtin.Dict.noArgs
      refine wpAny_bind (wpAny_notOrdered_dict q1.typeIs (wpAny_pure ?_))
      show wpAny _ _ (Builtin.Dict.showsAll d >>= _) _ _ _
      unfold Builtin.Dict.showsAll
      rw [if_neg (by rw [hd]; exact Bool.false_ne_true)]
      exact wpAny_bind (wpAny_pure (wpAny_bind (wpAny_newObj_type (wpAny_pure ⟨_, rfl, q2⟩))))) ⟨hm, hQ⟩
theorem dn_raw {P : Program} {w : World} {h : Heap} (x : DnObj P w tl a es h) : ∃ ents ep, RawD h a ents ep ∧ ents.size = es.length ∧ ents.size ≤ sizeLine ∧ (a == sysModules) = false ∧
    (∀ (j : Nat) (e : DictEntry), ents[j]? = some e → ∃ z : NKey × Addr × V, es[j]? = some z ∧ e.key = .ref z.2.1 ∧ RelV z.2.2 e.val) := by
  obtain ⟨o, ents, ep, xs, h1, h2, h3, h4, nx, _, h6, h7⟩ := x
  have e1 := size_of_entries h4
  have e2 := Paired.length nx
  refine ⟨ents, ep, ⟨o, h1, h2, h3⟩, by omega, by omega, h7, fun j e he => ?_⟩
  rw [entry_at h4 j] at he
  obtain ⟨q, hq, rfl⟩ := Option.map_eq_some_iff.mp he
  have key : ∀ {es : List (NKey × Addr × V)} {xs : List (NKey × Addr × Value)} {j : Nat} {q : NKey × Addr × Value}, NX es xs → xs[j]? = some q → ∃ z, es[j]? = some z ∧ z.2.1 = q.2.1 ∧ RelV z.2.2 q.2.2 := by
    intro es xs j q n
    induction n generalizing j with
    | nil => intro h; simp at h
    | @cons p z ps zs h t ih =>
      intro hj
      cases j with
      | zero => simp at hj; subst hj; exact ⟨p, rfl, h.2.1, h.2.2⟩
      | succ j => rw [List.getElem?_cons_succ] at hj ⊢; exact ih hj
  obtain ⟨z, g1, g2, g3⟩ := key nx hq
  exact ⟨z, g1, by show Value.ref q.2.1 = _; rw [g2], g3⟩
theorem list_src {T : String} {r : Addr} {n : Nat} {P : Nat → Value → Prop} {OK : Heap → Prop} {xs : List V} {Q : VK} (hc : X.calm = true) (I : Inv X pins σ H s) (S : PySem.W.KdlSrc X.prog X.w T r d n P OK) (ok : OK s.heap) (hn : n ≤ sizeLine) (hx : xs.length = n) (hP : ∀ j v, P j v → ∃ x, xs[j]? = some x ∧ RelV x v)
    (q : ∀ l, H l = none → Q (.ref l) (upd H l (.lst xs))) : wpAny (model X.prog X.w) X.A (call (.type "list") [.ref r]) (EP X pins σ Q) X.xe s := by
  refine PySem.W.kdl_call S (I.ok.hd hc) ok hn fun h' tk acc' c' hk hS hacc => ?_
  refine ⟨.ref s.heap.objs.size, _, I.laid (o := .lst xs) (t' := tk) hk (Nat.le_refl _) ⟨by rw [hx]; exact hn, acc'.toList, c', ?_, by rw [Array.toArray_toList]; exact hS⟩, rfl, q _ (I.hok.fresh (Nat.le_refl _))⟩
  refine vals_of (by have h1 := hacc.1; have h2 : acc'.toList.length = acc'.size := Array.length_toList; omega) fun j v hv => ?_
  exact hP j v (hacc.2 j v (by rw [← Array.getElem?_toList]; exact hv))
end
end L2
namespace L3
open PySem PySem.Spec PyProof.Rows L2
section
variable {X : Cx}
def vValsN (P : Program) (w : World) (tl : List Int) (to : TE3) : TE3 := fun τ M R => to τ M fun d M1 => ∃ a kvs, d = .ref a ∧ M1 a = some (.dn P w tl kvs) ∧ ∀ p, M1 p = none → R (.ref p) (put M1 p (.vw a))
theorem v_valsN {tl : List Int} {o : Expr} {to : TE3} {apos cpos : Pos} (ho : E3 X o to) (hbase : attributeBase o "values" X.env (eval o X.env) = eval o X.env := by rfl) (hline : (apos.endLine == cpos.line) = true := by rfl) :
    E3 X (.Call (.Attribute o "values" apos) [] [] cpos) (vValsN X.prog X.w tl to) := by
  have hm : MtR X "dict.values" (fun x vs H Q => ∃ M R a kvs, AM X.K H M ∧ x = .ref a ∧ vs = [] ∧ M a = some (.dn X.prog X.w tl kvs) ∧ (∀ p, M p = none → R (.ref p) (put M p (.vw a))) ∧ Up X.K H M R Q) := by
    rintro pins s σ H x vs v us Q I rx rs ⟨M, R, a, kvs, am, rfl, rfl, e, h, k⟩
    cases (show v = Value.ref a from rx)
    cases rs
    obtain ⟨es, e1, q⟩ := am _ _ e
    obtain ⟨ents, ep, hr, _, _, hsys, _⟩ := dn_raw (dn_of I e1)
    have hf := I.hok.fresh (Nat.le_refl s.heap.objs.size)
    obtain ⟨am2, k2⟩ := am.laid (o := .vw a) (u := .ext fun h => h.IsValuesView s.heap.objs.size a) hf upd_same
    refine raw_vals hsys hr ⟨.ref s.heap.objs.size, _, I.laid (a := s.heap.objs.size) (o := .ext fun h => h.IsValuesView s.heap.objs.size a) (t' := s.toks) (fun _ _ z => Heap.get?_push_of_some _ z) (Nat.le_refl _) ⟨⟨_, Heap.get?_push_size _ rfl, rfl, rfl⟩, ⟨_, Heap.get?_push_size _ rfl⟩, fun h1 h2 ⟨o, ho, r⟩ kk => ⟨o, kk o ho, r⟩⟩, rfl, k _ _ _ _ k2 am2 (.ref _) (h _ (am.nonM hf))⟩
  refine (pe_bmN0 (tq := fun x H => ∃ a es, x = .ref a ∧ H a = some (.ext (DnObj X.prog X.w tl a es))) PySem.F.plainAttrs_dict PySem.F.slot_dict_values PySem.F.type_dict_values hm ho (fun pins σ H s x v I r h => dn_ty I r h) hbase hline).weak ?_
  rintro σ H Q ⟨τ, M, R, as, am, h, k⟩
  refine ⟨τ, M, _, as, am, h, fun d H1 wd M1 k1 am1 ad ⟨a, kvs, e1, e2, h1⟩ => ?_⟩
  subst e1
  cases ad
  obtain ⟨es, e3, q⟩ := am1 _ _ e2
  exact ⟨⟨a, es, rfl, e3⟩, M1, R, a, kvs, am1, rfl, rfl, e2, h1, k.kp k1⟩
def rListN (P : Program) (w : World) (tl : List Int) : List W → Mm → K3 → Prop
  | [.ref a], M, R => (∃ kvs, M a = some (.dn P w tl kvs) ∧ New (kvs.map fun p => keyW tl p.1) M R) ∨ ∃ d kvs, M a = some (.vw d) ∧ M d = some (.dn P w tl kvs) ∧ New (kvs.map fun p => p.2) M R
  | _, _, _ => False
theorem c_listN {tl : List Int} (hc : X.calm = true) : CallR X (.type "list") (upC X.K (rListN X.prog X.w tl)) := by
  rintro pins s σ H xs us Q I rs ⟨ws, M, R, am, axs, h, k⟩
  match ws, h with
  | [.ref a], h =>
    obtain ⟨v, rfl, av⟩ := axs.one
    cases av
    obtain ⟨u, rfl, ru⟩ := vals1 rs
    cases (show u = Value.ref a from ru)
    rcases h with ⟨kvs, e, r⟩ | ⟨d, kvs, e0, e, r⟩
    · obtain ⟨es, e1, q⟩ := am _ _ e
      obtain ⟨ents, ep, hr, h1, h2, hsys, hget⟩ := dn_raw (dn_of I e1)
      refine list_src hc I (src_keys (es := ents) (ep := ep) hsys) hr h2 (xs := es.map fun e => V.ref e.2.1) (by rw [List.length_map]; exact h1.symm) (fun j v ⟨en, he, hv⟩ => ?_) fun l hl => laidL am k hl (PN.keys q) r
      obtain ⟨z, g1, g2, _⟩ := hget j en he
      exact ⟨.ref z.2.1, by rw [List.getElem?_map, g1]; rfl, by rw [hv, g2]; rfl⟩
    · obtain ⟨es, e1, q⟩ := am _ _ e
      have e2 : H a = some (.ext fun h => h.IsValuesView a d) := am _ _ e0
      have hv : s.heap.IsValuesView a d := (show ObjOk X.prog X.w H s.heap a (.ext fun h => h.IsValuesView a d) from I.hok a _ e2).1
      obtain ⟨ents, ep, hr, h1, h2, hsys, hget⟩ := dn_raw (dn_of I e1)
      refine list_src hc I (src_values (r := a) (d := d) (es := ents) (ep := ep)) ⟨hv, hr⟩ h2 (xs := es.map fun e => e.2.2) (by rw [List.length_map]; exact h1.symm) (fun j v ⟨en, he, hv⟩ => ?_) fun l hl => laidL am k hl (PN.vals q) r
      obtain ⟨z, g1, _, g3⟩ := hget j en he
      exact ⟨z.2.2, by rw [List.getElem?_map, g1]; rfl, by rw [hv]; exact g3⟩
end
end L3
namespace PySem
namespace Tr
open AutoSeq1 (wpAny_loadPart')
section
variable {prog : Program} {w : World} {A : Around} {E : Value → Shared → Prop} {s : Shared}
theorem gather {Q : List Value → Shared → Prop} {r : Addr} {n : Nat} {b : Int} {t u v : Tok} (hh : A.handled = none) (hr : IsRange s.heap r 0 b 1 t u v) (hsm : Builtin.Range.small 0 b 1 = true) (hn : Builtin.Range.rangeSize 0 b 1 = n) (hl : n ≤ 2 ^ 24)
    (hQ : ∀ h' tk acc', (∀ c o, s.heap.get? c = some o → h'.get? c = some o) → ItemsOf (fun i v => ∃ t, v = .int (0 + i * 1) t) acc' n → Q acc'.toList { s with heap := h', toks := tk }) :
    wpAny (model prog w) A (collect (.ref r)) Q E s := by
  unfold collect
  refine wpAny_bind (wpAny_runValue (codeAny_builtin F.entry_proto_collect ?_))
  rw [Around.under_plainId F.plain_proto_collect _]
  show wpAny _ A.in1 (newList [] >>= fun l => again (.builtin "list.__iadd__" ⟨[l, .ref r], []⟩)) _ _ s
  refine wpAny_bind (wpAny_newObj_type (wpAny_pure ⟨plainId_quiet F.plain_list_iadd _, codeAny_builtin F.entry_list_iadd ?_⟩))
  rw [Around.under_plainId F.plain_list_iadd _]
  show wpAny _ A.in1 (Builtin.List.listExtendWith (.ref s.heap.objs.size) (.ref r) (.ref s.heap.objs.size)) _ _ _
  have g0 : (s.heap.push { cls := .type "list", data := .seq ([] : List Value).toArray }).get? s.heap.objs.size = some { cls := .type "list", data := .seq #[] 0 } := Heap.get?_push_size _ rfl
  have last : ∀ (h' : Heap) (tk : Nat) (acc : Array Value) (c : Nat), (∀ b o, b ≠ s.heap.objs.size → (s.heap.push { cls := .type "list", data := .seq ([] : List Value).toArray }).get? b = some o → h'.get? b = some o) → h'.get? s.heap.objs.size = some { cls := .type "list", dict := none, data := .seq acc c, slots := #[] } → ItemsOf (fun i v => ∃ t, v = .int (0 + i * 1) t) acc n →
      wpAny (model prog w) A (match Value.ref s.heap.objs.size with
      | Value.ref a => do
        match (← load a).data with
          | Data.seq xs _ => pure xs.toList
          | _ => unsupported "internal:collect"
      | _ => unsupported "internal:collect") Q E { s with heap := h', toks := tk } := by
    intro h' tk acc c hk hS hacc
    show wpAny _ A (load s.heap.objs.size >>= _) _ _ _
    exact wpAny_bind (wpAny_load hS (wpAny_pure (hQ h' tk acc (fun b o e => hk b o (Nat.ne_of_lt (Heap.lt_size e)) (Heap.get?_push_of_some _ e)) hacc)))
  refine wpAny_mono (wpAny_extend_range (A := A) (R := fun q s' => ∃ h' tk acc c, q = .ok (.ret (.ref s.heap.objs.size)) ∧ s' = { s with heap := h', toks := tk } ∧ (∀ b o, b ≠ s.heap.objs.size → (s.heap.push { cls := .type "list", data := .seq ([] : List Value).toArray }).get? b = some o → h'.get? b = some o) ∧ h'.get? s.heap.objs.size = some { cls := .type "list", dict := none, data := .seq acc c, slots := #[] } ∧ ItemsOf (fun i v => ∃ t, v = .int (0 + i * 1) t) acc n)
    (s := { s with heap := s.heap.push { cls := .type "list", data := .seq ([] : List Value).toArray } }) hh (Heap.get?_push_of_some _ hr) hsm hn hl _ (.ref s.heap.objs.size) 0 g0 fun h' tk acc c hk hS hacc => ⟨h', tk, acc, c, rfl, rfl, hk, hS, hacc⟩) (fun fin s' h => ?_) (fun e s' h => ?_)
  · cases fin with
    | done f =>
      obtain ⟨h', tk, acc, c, e, rfl, q1, q2, q3⟩ := h
      cases e
      exact last h' tk acc c q1 q2 q3
    | again c' => exact ⟨h.1, codeAny_mono h.2 fun q s'' hr => by obtain ⟨h', tk, acc, c, rfl, rfl, q1, q2, q3⟩ := hr; exact last h' tk acc c q1 q2 q3⟩
  · obtain ⟨h', tk, acc, c, e, _⟩ := h
    cases e
theorem made {r : Addr} {n : Nat} {b : Int} {t u v : Tok} {Q : Value → Shared → Prop} (hh : A.handled = none) (hr : IsRange s.heap r 0 b 1 t u v) (hsm : Builtin.Range.small 0 b 1 = true) (hn : Builtin.Range.rangeSize 0 b 1 = n) (hl : n ≤ 2 ^ 24)
    (h : ∀ (h' : Heap) (tk : Nat) (acc : Array Value), (∀ c o, s.heap.get? c = some o → h'.get? c = some o) → ItemsOf (fun i v => ∃ t, v = .int (0 + i * 1) t) acc n → Q (.ref h'.objs.size) { s with heap := h'.push { cls := .type "tuple", data := .seq acc }, toks := tk }) :
    wpAny (model prog w) A (call (.type "tuple") [.ref r]) Q E s := by
  refine callType_newIn F.called_tuple (by decide) (F.typeCall_tuple_1 _) (F.newCall_tuple_1 _) (fun obj => F.args_object_init_2 obj _) F.entry_tuple_new
    (S := fun A R s => A.handled = none ∧ IsRange s.heap r 0 b 1 t u v ∧ ∀ (h' : Heap) (tk : Nat) (acc : Array Value), (∀ c o, s.heap.get? c = some o → h'.get? c = some o) → ItemsOf (fun i v => ∃ t, v = .int (0 + i * 1) t) acc n → R (.ok (.ret (.ref h'.objs.size))) { s with heap := h'.push { cls := .type "tuple", data := .seq acc }, toks := tk })
    (.of_wp fun A R s h => ?_) ⟨hh, hr, fun h' tk acc hk hacc => ⟨⟨_, Heap.get?_push_size _ rfl, rfl⟩, h h' tk acc hk hacc⟩⟩
  obtain ⟨hp, g, d, tk, os⟩ := s; obtain ⟨hA, ht, h⟩ := h
  have hsub := sub_tuple_self
  have hinit := init_tuple_lookup
  have hmh := madeHere_tuple
  have hT : Shared.TypeIs ⟨hp, g, d, tk, os⟩ (.ref r) "range" := ⟨_, ht, rfl⟩
  wp_walk using wpAny_loadPart' ht, wpAny_typeOf hT, gather (A := A.in1) hA ht hsm hn hl
  intro h' tk acc hk hacc
  show wpAny _ _ (Builtin.Tuple.tupleExact acc.toList.toArray >>= fun v => ret v) _ _ _
  unfold Builtin.Tuple.tupleExact
  refine wpAny_bind (wpAny_newObj_type ?_ (by show acc.toList.toArray.size ≤ sizeLine; rw [Array.toArray_toList, hacc.1, sizeLine_eq]; exact hl))
  refine wpAny_pure ⟨_, rfl, ?_⟩
  rw [Array.toArray_toList]
  exact h h' tk acc hk hacc
end
end Tr
end PySem
namespace L2
open PySem PySem.Spec PyProof.Rows
section
variable {X : Cx} {a : Expr} {ta : TA} {p p2 pos pos2 : Pos}
def tTupRng (ta : TA) : TE := fun σ H Q => ta σ H fun vs H1 => ∃ n : Nat, vs = [.int n] ∧ n ≤ 1000 ∧ ∀ q, H1 q = none → Q (.ref q) (upd H1 q (.tup ((List.range n).map fun (i : Nat) => V.int i)))
theorem pe_tuprng (hc : X.calm = true) (hg : Gl X "tuple") (hm : X.mg "tuple" = none) (hg2 : Gl X "range") (hm2 : X.mg "range" = none) (ha : PA X [a] ta)
    (hs1 : starEach [.Call (.Name "range" p2) [a] [] pos2] X.env = [(false, eval (.Call (.Name "range" p2) [a] [] pos2) X.env)] := by rfl) (hs2 : starEach [a] X.env = [(false, eval a X.env)] := by rfl) :
    PE X (.Call (.Name "tuple" p) [.Call (.Name "range" p2) [a] [] pos2] [] pos) (tTupRng ta) := by
  intro pins s σ H Q I h
  refine wpAny_Call_Name_kw (ld_blt I hg hm (by decide +kernel : bootBuiltins "tuple" = some (.type "tuple")) (PyProof.Rows.callWith_type1 ?_ hs1 rfl))
  rw [hs1]
  refine Calls.spliced_cons (wpAny_Call_Name_kw (ld_blt I hg2 hm2 (by decide +kernel : bootBuiltins "range" = some (.type "range")) (PyProof.Rows.callWith_type1 (thn (ha pos2 pins s σ H _ I h) fun us s1 ⟨vs, H1, I1, r1, q1⟩ => ?_) hs2 rfl)))
  obtain ⟨n, rfl, hn, q⟩ := q1
  obtain ⟨u, rfl, ru⟩ := vals1 r1
  obtain ⟨t, rfl⟩ := ru
  refine call_range_1 (Calls.spliced_nil ?_)
  have sz : Builtin.Range.rangeSize 0 (n : Int) 1 = (n : Nat) := by rw [rangeSize_one]; split <;> omega
  refine Tr.made (n := n) (b := (n : Int)) (I1.ok.hd hc) (IsRange.new _ _ _ _ _ _ _) (PySem.small_one (by decide) (by decide) (by omega) (by omega)) sz (by omega) fun h' tk acc hk hacc => ?_
  have up : ∀ b o, s1.heap.get? b = some o → h'.get? b = some o := fun b o e => hk b o (Heap.get?_push_of_some _ e)
  have le : s1.heap.objs.size ≤ h'.objs.size := by
    exact Nat.le_of_lt (Heap.lt_size (hk s1.heap.objs.size _ (Heap.get?_push_size _ rfl)))
  refine ⟨.ref h'.objs.size, _, I1.laid (a := h'.objs.size) (o := .tup ((List.range n).map fun (i : Nat) => V.int i)) (t' := tk) (fun b o e => Heap.get?_push_of_some _ (up b o e)) le ⟨by simp [sizeLine_eq]; omega, acc.toList, ?_, ⟨_, Heap.get?_push_size _ rfl, rfl, 0, by simp⟩⟩, rfl, q _ (I1.hok.fresh le)⟩
  refine vals_of (by simp [hacc.1]) fun j v hv => ?_
  have hv' : acc[j]? = some v := by simpa using hv
  obtain ⟨t', rfl⟩ := hacc.2 j v hv'
  have hj : j < n := by have := (Array.getElem?_eq_some_iff.mp hv').1; rw [hacc.1] at this; exact this
  refine ⟨.int j, ?_, t', by simp⟩
  simp [hj]
end
end L2
namespace L3
open PySem PySem.Spec PyProof.Rows L2
section
variable {X : Cx} {a : Expr} {ta : TE3}
def vTupRng (ta : TE3) : TE3 := fun τ M R => ta τ M fun w M1 => ∃ n : Nat, w = .int n ∧ n ≤ 1000 ∧ R (.tup ((List.range n).map fun (i : Nat) => W.int i)) M1
theorem v_tuprng {p p2 pos pos2 : Pos} (hg : Gl X "tuple") (hm : X.mg "tuple" = none) (hg2 : Gl X "range") (hm2 : X.mg "range" = none) (ha : E3 X a ta) (hc : X.calm = true := by rfl)
    (hs1 : starEach [.Call (.Name "range" p2) [a] [] pos2] X.env = [(false, eval (.Call (.Name "range" p2) [a] [] pos2) X.env)] := by rfl) (hs2 : starEach [a] X.env = [(false, eval a X.env)] := by rfl) :
    E3 X (.Call (.Name "tuple" p) [.Call (.Name "range" p2) [a] [] pos2] [] pos) (vTupRng ta) :=
  (pe_tuprng hc hg hm hg2 hm2 (a_cons ha a_nil (by rw [hs2]; rfl)) hs1 hs2).weak fun σ H Q ⟨τ, M, R, as, am, h, k⟩ => ⟨τ, M, fun ws M1 => match ws with | [w] => ∃ n : Nat, w = .int n ∧ n ≤ 1000 ∧ R (.tup ((List.range n).map fun (i : Nat) => W.int i)) M1 | _ => False, as, am, h, fun vs H1 ws M1 k1 am1 ax r => by
    match ws, r with
    | [w], ⟨n, e, hn, r⟩ =>
      subst e
      obtain ⟨v, rfl, av⟩ := ax.one
      cases av
      refine ⟨n, rfl, hn, fun q hq => ?_⟩
      obtain ⟨am2, k2⟩ := am1.tup (u := .tup ((List.range n).map fun (i : Nat) => V.int i)) hq
      refine k _ _ _ _ (k1.trans k2) am2 (.tup upd_same ?_) r
      have : ∀ l : List Nat, AVs X.K (upd H1 q (.tup ((List.range n).map fun (i : Nat) => V.int i))) M1 (l.map fun (i : Nat) => V.int i) (l.map fun (i : Nat) => W.int i) := by
        intro l
        induction l with
        | nil => exact .nil
        | cons i r ih => exact .cons (.int _) ih
      exact this _⟩
def rListT : List W → Mm → K3 → Prop
  | [.ref a], M, R => ∃ kvs : List (List Key × W), M a = some (.dT kvs) ∧ New (kvs.map fun p => .tup (p.1.map wK)) M R
  | _, _, _ => False
theorem c_listT (hc : X.calm = true) : CallR X (.type "list") (upC X.K rListT) := by
  rintro pins s σ H xs us Q I rs ⟨ws, M, R, am, axs, h, k⟩
  match ws, h with
  | [.ref a], ⟨kvs, e, r⟩ =>
    obtain ⟨v, rfl, av⟩ := axs.one
    cases av
    obtain ⟨u, rfl, ru⟩ := vals1 rs
    cases (show u = Value.ref a from ru)
    obtain ⟨ks, e1, q⟩ := am _ _ e
    obtain ⟨z, hsys, ys, rel, dd⟩ := dt_of I.hok e1
    obtain ⟨o, ents, ep, ho, hcl, hd, he, _, _⟩ := dd
    have s1 := size_of_entries he
    have s2 := Paired.length rel
    refine list_src hc I (src_keys (es := ents) (ep := ep) hsys) ⟨o, ho, hcl, hd⟩ (by omega) (xs := ys.map fun y => V.ref y.2.1) (by rw [List.length_map]; omega) (fun j v ⟨en, hen, hv⟩ => ?_) fun l hl => laidL am k hl ?_ r
    · rw [entry_at he j] at hen
      obtain ⟨y, hy, rfl⟩ := Option.map_eq_some_iff.mp hen
      exact ⟨.ref y.2.1, by rw [List.getElem?_map, hy]; rfl, by rw [hv]; rfl⟩
    · have : ∀ {ks : List (List Key × V)} {kvs : List (List Key × W)} {ys : List (List Key × Addr × Value)}, PKV X.K H M (List Key) ks kvs → KT H ks ys → AVs X.K H M (ys.map fun y => V.ref y.2.1) (kvs.map fun p => .tup (p.1.map wK)) := by
        intro ks kvs ys q
        induction q generalizing ys with
        | nil => intro rel; cases rel; exact .nil
        | @cons p z ps zs h t ih =>
          intro rel
          cases rel with
          | @cons _ y _ ys' g t' =>
            refine .cons ?_ (ih t')
            have g2 := g.2.1
            rw [h.1] at g2
            exact .tup g2 (avs_keys z.1)
      exact this q rel
end
end L3
namespace PySem
namespace Zd
open PyProof.Rows L2 PySem.Spec Zt
section
variable {prog : Program} {w : World} {A : Around} {E : Value → Shared → Prop} {s : Shared}
variable {z TI TO i1 i2 l1 l2 : Addr} {xs ys : Array Value} {S1 S2 : Nat → Heap → Prop}
abbrev Out (h : Heap) (z TI TO p : Addr) (b : Bool) : Prop :=
  h.get? z = some { cls := .type "zip", dict := none, data := .fields #[rawInt p, .bool b, .bool false, .ref TI, .ref TO], slots := #[] }
theorem not_free {p : Addr} {o : Obj} {b : Bool} {Q : Bool → Shared → Prop} (hz : Out s.heap z TI TO p b) (hp : s.heap.get? p = some o) (h : ∀ h', Out h' z TI TO p true → Heap.SameBut z s.heap h' → Q false { s with heap := h' }) :
    wpAny (model prog w) A (Builtin.SmallTypes.ownedTupleIsFree (.ref z)) Q E s := by
  unfold Builtin.SmallTypes.ownedTupleIsFree
  refine wpAny_bind (wpAny_field hz rfl (x := rawInt p) rfl ?_)
  show wpAny _ _ (loadIfAlive ((p : Int).toNat) >>= _) _ _ _
  rw [Int.toNat_natCast]
  refine wpAny_bind (PySem.W.kdx_alive hp ?_)
  simp only [Option.isNone_some, Bool.false_eq_true, if_false]
  refine wpAny_bind (wpAny_field hz rfl (x := .bool b) rfl ?_)
  cases b with
  | true =>
    rw [if_neg (show ¬ ((Value.bool true != Value.bool true) = true) from Bool.false_ne_true)]
    exact wpAny_pure (h _ hz (Heap.SameBut.refl _ _))
  | false =>
    rw [if_pos (show (Value.bool false != Value.bool true) = true from rfl)]
    exact wpAny_bind (wpAny_setField_rec hz (by simp) fun h' hz' hs' => wpAny_pure (h h' hz' hs'))
theorem item2 {k : Nat} {x y : Value} {p : Addr} {o : Obj} {b : Bool} {Q : Value → Shared → Prop} (D : Zt.Apart z TI TO i1 i2 l1 l2) (W1 : Side prog w i1 l1 xs S1) (W2 : Side prog w i2 l2 ys S2) (hz : Out s.heap z TI TO p b) (hp : s.heap.get? p = some o) (hI : IsPair s.heap TI (.ref i1) (.ref i2))
    (h1 : S1 k s.heap) (h2 : S2 k s.heap) (hx : xs[k]? = some x) (hy : ys[k]? = some y)
    (hQ : ∀ h', Out h' z TI TO p true → S1 (k + 1) h' → S2 (k + 1) h' → IsPair h' s.heap.objs.size x y → (∀ c o, c ≠ z → c ≠ i1 → c ≠ i2 → s.heap.get? c = some o → h'.get? c = some o) → Q (.ref s.heap.objs.size) { s with heap := h' }) :
    wpAny (model prog w) A (Builtin.«zip.__next__» ⟨[.ref z], []⟩) (fun fin s' => ∃ v, fin = .done (.ret v) ∧ Q v s') E s := by
  have nd := D.nd
  simp only [List.nodup_cons, List.mem_cons, List.not_mem_nil, or_false, not_or, not_false_eq_true, List.nodup_nil, and_true] at nd
  obtain ⟨⟨zI, zO, z1, z2⟩, ⟨IO, I1, I2⟩, ⟨O1, O2⟩, n12⟩ := nd
  obtain ⟨az, aI, aO, a1, a2⟩ := D.a
  obtain ⟨bz, bI, bO, b1, b2⟩ := D.b
  have k1 : ∀ c, c = i1 ∨ c = l1 → c ≠ z ∧ c ≠ i2 := fun c hc => by
    rcases hc with rfl | rfl
    · exact ⟨Ne.symm z1, n12⟩
    · exact ⟨az, a2⟩
  have k2 : ∀ c, c = i2 ∨ c = l2 → c ≠ z ∧ c ≠ i1 := fun c hc => by
    rcases hc with rfl | rfl
    · exact ⟨Ne.symm z2, Ne.symm n12⟩
    · exact ⟨bz, b1⟩
  show wpAny _ _ (field (.ref z) 2 >>= fun q => _) _ _ _
  refine wpAny_bind (wpAny_field hz rfl (x := .bool false) rfl ?_)
  show wpAny _ _ (field (.ref z) 3 >>= fun q => _) _ _ _
  refine wpAny_bind (wpAny_field hz rfl (x := .ref TI) rfl (wpAny_bind (wpAny_seqItems hI rfl ?_)))
  show wpAny _ _ (Builtin.SmallTypes.ownedTupleIsFree (.ref z) >>= fun q => _) _ _ _
  refine wpAny_bind (not_free hz hp fun g1 q1 s1 => ?_)
  simp only [Bool.false_eq_true, if_false]
  refine wpAny_bind ?_
  rw [← Array.forIn_toList]
  simp only [List.forIn_cons, List.forIn_nil]
  refine wpAny_bind (wpAny_bind (wpAny_holding ?_))
  show wpAny _ _ (Builtin.SmallTypes.nextOf (.ref i1) >>= fun q => _) _ _ _
  refine wpAny_bind (W1.item _ _ { s with heap := g1 } k x _ (W1.keep k _ _ h1 fun c hc o e => s1.extBut c o (k1 c hc).1 e) hx fun g2 t2 s2 => wpAny_pure ?_)
  refine wpAny_pure ?_
  refine wpAny_bind (wpAny_bind (wpAny_holding ?_))
  show wpAny _ _ (Builtin.SmallTypes.nextOf (.ref i2) >>= fun q => _) _ _ _
  refine wpAny_bind (W2.item _ _ { s with heap := g2 } k y _ (W2.keep k _ _ h2 fun c hc o e => s2.extBut c o (k2 c hc).2 (s1.extBut c o (k2 c hc).1 e)) hy fun g3 t3 s3 => wpAny_pure ?_)
  refine wpAny_pure (wpAny_pure ?_)
  refine wpAny_bind (wpAny_newTuple (wpAny_pure ⟨_, rfl, ?_⟩) (hsz := by show 2 ≤ sizeLine; decide))
  have size3 : g3.objs.size = s.heap.objs.size := by rw [s3.1, s2.1, s1.1]
  have up : ∀ c o, c ≠ z → c ≠ i1 → c ≠ i2 → s.heap.get? c = some o → (g3.push { cls := .type "tuple", data := .seq #[x, y] }).get? c = some o := fun c o c1 c2 c3 e => Heap.get?_push_of_some _ (s3.extBut _ _ c3 (s2.extBut _ _ c2 (s1.extBut _ _ c1 e)))
  show Q (.ref g3.objs.size) _
  rw [size3]
  refine hQ _ (Heap.get?_push_of_some _ (s3.extBut _ _ z2 (s2.extBut _ _ z1 q1))) (W1.keep _ _ _ t2 fun c hc o e => Heap.get?_push_of_some _ (s3.extBut _ _ (k1 c hc).2 e)) (W2.keep _ _ _ t3 fun c hc o e => Heap.get?_push_of_some _ e) ?_ up
  rw [← size3]
  exact Heap.get?_push_size _ rfl
theorem stop2 {k : Nat} {p : Addr} {o : Obj} {b : Bool} {Q : Fin → Shared → Prop} (hh : A.handled = none) (D : Zt.Apart z TI TO i1 i2 l1 l2) (W1 : Side prog w i1 l1 xs S1) (W2 : Side prog w i2 l2 ys S2) (hz : Out s.heap z TI TO p b) (hp : s.heap.get? p = some o) (hI : IsPair s.heap TI (.ref i1) (.ref i2))
    (h1 : S1 k s.heap) (hend : xs[k]? = none)
    (hE : ∀ h' e, (∀ c o, c ≠ z → c ≠ i1 → s.heap.get? c = some o → h'.get? c = some o) → (∃ o, h'.get? e = some o ∧ o.cls = .type "StopIteration") → E (.ref e) { s with heap := h' }) :
    wpAny (model prog w) A (Builtin.«zip.__next__» ⟨[.ref z], []⟩) Q E s := by
  have nd := D.nd
  simp only [List.nodup_cons, List.mem_cons, List.not_mem_nil, or_false, not_or, not_false_eq_true, List.nodup_nil, and_true] at nd
  obtain ⟨⟨zI, zO, z1, z2⟩, ⟨IO, I1, I2⟩, ⟨O1, O2⟩, n12⟩ := nd
  obtain ⟨az, aI, aO, a1, a2⟩ := D.a
  have k1 : ∀ c, c = i1 ∨ c = l1 → c ≠ z ∧ c ≠ i2 := fun c hc => by
    rcases hc with rfl | rfl
    · exact ⟨Ne.symm z1, n12⟩
    · exact ⟨az, a2⟩
  show wpAny _ _ (field (.ref z) 2 >>= fun q => _) _ _ _
  refine wpAny_bind (wpAny_field hz rfl (x := .bool false) rfl ?_)
  show wpAny _ _ (field (.ref z) 3 >>= fun q => _) _ _ _
  refine wpAny_bind (wpAny_field hz rfl (x := .ref TI) rfl (wpAny_bind (wpAny_seqItems hI rfl ?_)))
  show wpAny _ _ (Builtin.SmallTypes.ownedTupleIsFree (.ref z) >>= fun q => _) _ _ _
  refine wpAny_bind (not_free hz hp fun g1 q1 s1 => ?_)
  simp only [Bool.false_eq_true, if_false]
  refine wpAny_bind ?_
  rw [← Array.forIn_toList]
  simp only [List.forIn_cons, List.forIn_nil]
  refine wpAny_bind (wpAny_bind (wpAny_holding ?_))
  show wpAny _ _ (Builtin.SmallTypes.nextOf (.ref i1) >>= fun q => _) _ _ _
  exact wpAny_bind (W1.stop _ _ { s with heap := g1 } k _ hh (W1.keep k _ _ h1 fun c hc o e => s1.extBut c o (k1 c hc).1 e) hend fun g2 e s2 he => hE g2 e (fun c o c1 c3 u => s2 _ _ c3 (s1.extBut _ _ c1 u)) he)
def Zs (d z TI TO i1 i2 : Addr) (S1 S2 : Nat → Heap → Prop) (k : Nat) (h : Heap) : Prop :=
  IsPair h TI (.ref i1) (.ref i2) ∧ S1 k h ∧ S2 k h ∧ d < h.objs.size ∧ z < h.objs.size ∧ TO < h.objs.size ∧ i1 < h.objs.size ∧ i2 < h.objs.size ∧
    ((IsZip h z TI TO .none ∧ ∃ a b, IsPair h TO a b) ∨ ∃ p b o, Out h z TI TO p b ∧ h.get? p = some o ∧ p ≠ z ∧ p ≠ TO ∧ p ≠ i1 ∧ p ≠ i2 ∧ p ≠ d)
theorem next {d : Addr} {k : Nat} {x y : Value} {Q : Option Value → Shared → Prop} (D : Zt.Apart z TI TO i1 i2 l1 l2) (W1 : Side prog w i1 l1 xs S1) (W2 : Side prog w i2 l2 ys S2) (st : Zs d z TI TO i1 i2 S1 S2 k s.heap) (hx : xs[k]? = some x) (hy : ys[k]? = some y)
    (hQ : ∀ h', Zs d z TI TO i1 i2 S1 S2 (k + 1) h' → IsPair h' s.heap.objs.size x y → (∀ c o, c ≠ z → c ≠ TO → c ≠ i1 → c ≠ i2 → s.heap.get? c = some o → h'.get? c = some o) → Q (some (.ref s.heap.objs.size)) { s with heap := h' }) :
    wpAny (model prog w) A (pyNext (.ref z)) Q E s := by
  have nd := D.nd
  simp only [List.nodup_cons, List.mem_cons, List.not_mem_nil, or_false, not_or, not_false_eq_true, List.nodup_nil, and_true] at nd
  obtain ⟨⟨zI, zO, z1, z2⟩, ⟨IO, I1, I2⟩, ⟨O1, O2⟩, n12⟩ := nd
  obtain ⟨hI, s1, s2, ld, lz, lO, li1, li2, st⟩ := st
  rcases st with ⟨hz, a, b, hO⟩ | ⟨p, b, o, hz, hp, p1, p2, p3, p4, p5⟩
  · refine next_item D W1 W2 hz hI hO s1 s2 hx hy fun h' c1 c2 c3 c4 c5 c6 => hQ h' ?_ c5 c6
    have l := Heap.lt_size c5
    exact ⟨c6 _ _ (Ne.symm zI) IO I1 I2 hI, c3, c4, Nat.lt_trans ld l, Nat.lt_trans lz l, Nat.lt_trans lO l, Nat.lt_trans li1 l, Nat.lt_trans li2 l, .inr ⟨s.heap.objs.size, false, _, c1, c5, Nat.ne_of_gt lz, Nat.ne_of_gt lO, Nat.ne_of_gt li1, Nat.ne_of_gt li2, Nat.ne_of_gt ld⟩⟩
  · have ty : s.TypeIs (.ref z) "zip" := ⟨_, hz, rfl⟩
    unfold pyNext
    refine wpAny_bind (wpAny_attempt (wpAny_callSpecial?_slot (name := Str.ofString "__next__") ty F.slot_zip_next (wpAny_call_entry F.slot_zip_next ty F.entry_zip_next (item2 D W1 W2 hz hp hI s1 s2 hx hy fun h' c1 c2 c3 c4 c5 => wpAny_pure (hQ h' ?_ c4 fun c o e1 e2 e3 e4 => c5 c o e1 e3 e4)) (F.args_zip_next_1 _))))
    have l := Heap.lt_size c4
    exact ⟨c5 _ _ (Ne.symm zI) I1 I2 hI, c2, c3, Nat.lt_trans ld l, Nat.lt_trans lz l, Nat.lt_trans lO l, Nat.lt_trans li1 l, Nat.lt_trans li2 l, .inr ⟨p, true, o, c1, c5 p o p1 p3 p4 hp, p1, p2, p3, p4, p5⟩⟩
theorem done {d : Addr} {k : Nat} {Q : Option Value → Shared → Prop} (hh : A.handled = none) (D : Zt.Apart z TI TO i1 i2 l1 l2) (W1 : Side prog w i1 l1 xs S1) (W2 : Side prog w i2 l2 ys S2) (st : Zs d z TI TO i1 i2 S1 S2 k s.heap) (hx : xs[k]? = none)
    (hQ : ∀ h', (∀ c o, c ≠ z → c ≠ TO → c ≠ i1 → c ≠ i2 → s.heap.get? c = some o → h'.get? c = some o) → Q none { s with heap := h' }) :
    wpAny (model prog w) A (pyNext (.ref z)) Q E s := by
  obtain ⟨hI, s1, s2, ld, lz, lO, li1, li2, st⟩ := st
  rcases st with ⟨hz, a, b, hO⟩ | ⟨p, b, o, hz, hp, p1, p2, p3, p4, p5⟩
  · exact next_stop hh D W1 W2 hz hI hO s1 s2 (.inl hx) hQ
  · have ty : s.TypeIs (.ref z) "zip" := ⟨_, hz, rfl⟩
    unfold pyNext
    refine wpAny_bind (wpAny_attempt (wpAny_callSpecial?_slot (name := Str.ofString "__next__") ty F.slot_zip_next (wpAny_call_entry F.slot_zip_next ty F.entry_zip_next (stop2 (xs := xs) hh D W1 W2 hz hp hI s1 hx fun h' e hk ⟨o, ho, hc⟩ => ?_) (F.args_zip_next_1 _))))
    exact wpAny_bind (wpAny_isInstance (T := "StopIteration") (b := true) ⟨o, ho, hc⟩ isSubtype_stop (wpAny_pure (hQ _ fun c o e1 e2 e3 e4 => hk c o e1 e3)))
theorem Zs.at {d : Addr} {k : Nat} {h h' : Heap} (D : Zt.Apart z TI TO i1 i2 l1 l2) (W1 : Side prog w i1 l1 xs S1) (W2 : Side prog w i2 l2 ys S2) (hd : d ≠ z ∧ d ≠ TI ∧ d ≠ TO ∧ d ≠ i1 ∧ d ≠ i2 ∧ d ≠ l1 ∧ d ≠ l2) (st : Zs d z TI TO i1 i2 S1 S2 k h) (hs : Heap.SameBut d h h') : Zs d z TI TO i1 i2 S1 S2 k h' := by
  obtain ⟨hI, s1, s2, ld, lz, lO, li1, li2, st⟩ := st
  obtain ⟨d1, d2, d3, d4, d5, d6, d7⟩ := hd
  refine ⟨(hs.2 _ (Ne.symm d2)).trans hI, W1.keep _ _ _ s1 fun c hc o e => (hs.2 c ?_).trans e, W2.keep _ _ _ s2 fun c hc o e => (hs.2 c ?_).trans e, by rw [hs.1]; exact ld, by rw [hs.1]; exact lz, by rw [hs.1]; exact lO, by rw [hs.1]; exact li1, by rw [hs.1]; exact li2, ?_⟩
  · rcases hc with rfl | rfl
    · exact Ne.symm d4
    · exact Ne.symm d6
  · rcases hc with rfl | rfl
    · exact Ne.symm d5
    · exact Ne.symm d7
  · rcases st with ⟨hz, a, b, hO⟩ | ⟨p, b, o, hz, hp, p1, p2, p3, p4, p5⟩
    · exact .inl ⟨(hs.2 _ (Ne.symm d1)).trans hz, a, b, (hs.2 _ (Ne.symm d3)).trans hO⟩
    · exact .inr ⟨p, b, o, (hs.2 _ (Ne.symm d1)).trans hz, (hs.2 _ p5).trans hp, p1, p2, p3, p4, p5⟩
abbrev TK (prog : Program) (w : World) := tupleKind (mixKind prog w)
def allH (es : List (List Key × Addr × Value)) (ps : List (List Key × Addr × Value)) : List (List Key × Addr × Value) := ps.foldl (fun es p => storedH es p.1 p.2.1 p.2.2) es
theorem storedH_len (es : List (List Key × Addr × Value)) (k : List Key) (a : Addr) (v : Value) : (storedH es k a v).length ≤ es.length + 1 := by
  unfold storedH
  split
  · rw [List.length_map]; omega
  · rw [List.length_append, List.length_singleton]; exact Nat.le_refl _
theorem key_at {h h' : Heap} {k : List Key} {a : Addr} (x : (TK prog w).is h k a) (e : ∀ o, h.get? a = some o → h'.get? a = some o) : (TK prog w).is h' k a := by
  obtain ⟨o, items, n, ho, r⟩ := x
  exact ⟨o, items, n, e o ho, r⟩
theorem loop {d : Addr} {ps : List (List Key × Addr × Value)} {R : Result → Shared → Prop} (hh : A.handled = none) (hu : (TK prog w).room A.in1) (D : Zt.Apart z TI TO i1 i2 l1 l2) (W1 : Side prog w i1 l1 xs S1) (W2 : Side prog w i2 l2 ys S2) (hd : d ≠ z ∧ d ≠ TI ∧ d ≠ TO ∧ d ≠ i1 ∧ d ≠ i2 ∧ d ≠ l1 ∧ d ≠ l2)
    (hz : ps.length ≤ sizeLine) (hx : ∀ j : Nat, xs[j]? = (ps[j]?).map fun p => .ref p.2.1) (hy : ∀ j : Nat, ys[j]? = (ps[j]?).map fun p => p.2.2) (hk : ∀ p ∈ ps, p.2.1 ≠ z ∧ p.2.1 ≠ TO ∧ p.2.1 ≠ i1 ∧ p.2.1 ≠ i2 ∧ p.2.1 ≠ d) :
    ∀ (m k : Nat) (s : Shared) (es : List (List Key × Addr × Value)), ps.length - k = m → k ≤ ps.length → es.length ≤ k → Zs d z TI TO i1 i2 S1 S2 k s.heap → s.heap.DictOfH (TK prog w) d es → (∀ e ∈ es, e ∈ ps ∨ ∃ p ∈ ps, p.2.1 = e.2.1) →
    (∀ p ∈ ps, (TK prog w).is s.heap p.1 p.2.1) →
    (∀ h' tk, (∀ b o, b ≠ d → b ≠ z → b ≠ TO → b ≠ i1 → b ≠ i2 → s.heap.get? b = some o → h'.get? b = some o) → h'.DictOfH (TK prog w) d (allH es (ps.drop k)) → R (.ok (.ret .none)) { s with heap := h', toks := tk }) →
    codeAny (model prog w) A (.builtin "dict.update.loop" ⟨[.ref d, .ref z, rawInt (k : Int), .none], []⟩) R s := by
  intro m
  have dictAt : ∀ {h h' : Heap} {es : List (List Key × Addr × Value)}, h.DictOfH (TK prog w) d es → (∀ e ∈ es, e ∈ ps ∨ ∃ p ∈ ps, p.2.1 = e.2.1) → (∀ c o, c ≠ z → c ≠ TO → c ≠ i1 → c ≠ i2 → h.get? c = some o → h'.get? c = some o) → h'.DictOfH (TK prog w) d es := by
    rintro h h' es ⟨o, en, ep, ho, hc, hdd, he, his, hn⟩ hes hm
    refine ⟨o, en, ep, hm d o hd.1 hd.2.2.1 hd.2.2.2.1 hd.2.2.2.2.1 ho, hc, hdd, he, fun x hx' => key_at (his x hx') fun o' e => ?_, hn⟩
    have : x.2.1 ≠ z ∧ x.2.1 ≠ TO ∧ x.2.1 ≠ i1 ∧ x.2.1 ≠ i2 := by
      rcases hes x hx' with q | ⟨p, q, e'⟩
      · have := hk x q; exact ⟨this.1, this.2.1, this.2.2.1, this.2.2.2.1⟩
      · have := hk p q; rw [e'] at this; exact ⟨this.1, this.2.1, this.2.2.1, this.2.2.2.1⟩
    exact hm _ _ this.1 this.2.1 this.2.2.1 this.2.2.2 e
  induction m with
  | zero =>
    intro k s es hm hle hl st hdd hes hkeys hR
    have hin : k = ps.length := by omega
    refine codeAny_builtin Dp.entry_loop ?_
    rw [Around.under_plainId Dp.plain_loop _]
    show wpAny _ A.in1 (pyNext (.ref z) >>= _) _ _ s
    refine wpAny_bind (done hh D W1 W2 st (by rw [hx, hin]; simp) fun h' hm' => ?_)
    show wpAny _ A.in1 (Builtin.Dict.addKeywords d [] >>= _) _ _ _
    refine wpAny_bind (wpAny_pure (wpAny_pure (hR h' _ (fun b o _ b1 b2 b3 b4 e => hm' b o b1 b2 b3 b4 e) ?_)))
    rw [List.drop_of_length_le (by omega)]
    exact dictAt hdd hes hm'
  | succ m ih =>
    intro k s es hm hle hl st hdd hes hkeys hR
    have hlt : k < ps.length := by omega
    obtain ⟨p, hp⟩ : ∃ p, ps[k]? = some p := ⟨_, List.getElem?_eq_getElem hlt⟩
    have hpm : p ∈ ps := List.mem_of_getElem? hp
    refine codeAny_builtin Dp.entry_loop ?_
    rw [Around.under_plainId Dp.plain_loop _]
    show wpAny _ A.in1 (pyNext (.ref z) >>= _) _ _ s
    refine wpAny_bind (next D W1 W2 st (x := .ref p.2.1) (y := p.2.2) (by rw [hx, hp]; rfl) (by rw [hy, hp]; rfl) fun h' st' hpair hm' => ?_)
    have hdd' := dictAt hdd hes hm'
    have hkeys' : ∀ q ∈ ps, (TK prog w).is h' q.1 q.2.1 := fun q hq => key_at (hkeys q hq) fun o e => hm' _ o (hk q hq).1 (hk q hq).2.1 (hk q hq).2.2.1 (hk q hq).2.2.2.1 e
    show wpAny _ A.in1 (holding [Value.ref s.heap.objs.size] _ >>= _) _ _ _
    refine wpAny_bind (wpAny_holding (wpAny_bind (wpAny_tryCatch ?_)))
    unfold Builtin.Dict.pairItems
    refine wpAny_bind (wpAny_typeOf (T := "tuple") ⟨_, hpair, rfl⟩ ?_)
    rw [if_pos (by decide)]
    refine wpAny_bind (wpAny_seqItems hpair rfl (wpAny_pure ?_))
    show wpAny _ _ (holding [Value.ref p.2.1, p.2.2] (dictSet d (.ref p.2.1) p.2.2)) _ _ _
    refine wpAny_holding (wpAny_dictSet_heap (knd := TK prog w) hu (hkeys' p hpm) hdd' (hsz := by omega) fun h2 hd3 hs2 => ?_)
    have e1 : ps.drop k = p :: ps.drop (k + 1) := by rw [List.drop_eq_getElem_cons hlt]; congr 1; exact (List.getElem?_eq_some_iff.mp hp).2
    refine wpAny_pure ⟨plainId_quiet Dp.plain_loop _, ?_⟩
    refine ih (k + 1) _ (storedH es p.1 p.2.1 p.2.2) (by omega) hlt (by have := storedH_len es p.1 p.2.1 p.2.2; omega) (st'.at D W1 W2 hd hs2) hd3 (fun e he => ?_) (fun q hq => key_at (hkeys' q hq) fun o e => (hs2.2 _ (hk q hq).2.2.2.2).trans e) fun h3 tk3 hk3 hd4 => ?_
    · unfold storedH at he
      split at he
      · obtain ⟨e0, he0, rfl⟩ := List.mem_map.mp he
        have : (putAt p.1 p.2.2 e0).2.1 = e0.2.1 := by unfold putAt; split <;> rfl
        rw [this]
        rcases hes e0 he0 with q | ⟨p', q, e'⟩
        · exact .inr ⟨e0, q, rfl⟩
        · exact .inr ⟨p', q, e'⟩
      · rcases List.mem_append.mp he with q | q
        · exact hes e q
        · obtain rfl := List.mem_singleton.mp q
          exact .inl hpm
    · refine hR h3 tk3 (fun b o h1 b1 b2 b3 b4 e => hk3 b o h1 b1 b2 b3 b4 ((hs2.2 b h1).trans (hm' b o b1 b2 b3 b4 e))) ?_
      rw [e1]; exact hd4
end
end Zd
end PySem
namespace PySem
namespace Zd
open PyProof.Rows L2 PySem.Spec Zt
open Sem (wp)
theorem zip_getattr_none : typeLookup (.type "zip") "__getattr__" = pure none := by rw [typeLookup_type, builtinLookup_eq_fast]; kernel_rfl
theorem zip_keys_none : typeLookup (.type "zip") "keys" = pure none := by rw [typeLookup_type, builtinLookup_eq_fast]; kernel_rfl
theorem entry_getattr : entryFor table "zip.__getattribute__" = some Builtin.«object.__getattribute__» :=
  entryFor_alias (id' := "object.__getattribute__") (by kernel_rfl) (by decide +kernel) (by decide +kernel) (by kernel_rfl)
theorem miss (a : Addr) (vs : Array Value) (name : Str) (u : Tok) (hmiss : typeLookup (.type "zip") name = pure none) (hname : (["__module__", "__name__", "__qualname__", "__doc__", "__annotations__"] : List Str).contains name = false) (hsz : name.length + 100 ≤ sizeLine) :
    Meets (Builtin.«object.__getattribute__» ⟨[.ref a, .str name u], []⟩) (fun A R s => s.heap.get? a = some { cls := .type "zip", dict := none, data := .fields vs, slots := #[] } ∧ raisesAttr (.ref a) name A R s) :=
  Meets.of_wp fun prog w A R s hs => by
    obtain ⟨hp, g, d, tk, os⟩ := s
    obtain ⟨hx, hs⟩ := hs
    have hT : (⟨hp, g, d, tk, os⟩ : Shared).TypeIs (.ref a) "zip" := ⟨_, hx, rfl⟩
    unfold Builtin.«object.__getattribute__»
    repeat (any_goals (first | assumption | wp_step))
    simp only [hname, Bool.false_eq_true, if_false]
    repeat (any_goals (first | assumption | wp_step))
    exact wpAny_raiseAttrError hs.1 hs.2 (attrMsg_fits (by decide +kernel) hsz)
section
variable {prog : Program} {w : World} {A : Around} {E : Value → Shared → Prop} {s : Shared}
theorem keys_miss {a : Addr} {vs : Array Value} {Q : Option Value → Shared → Prop} (hx : s.heap.get? a = some { cls := .type "zip", data := .fields vs }) (hA : A.handled = none)
    (h : ∀ h' tk, (∀ b o, s.heap.get? b = some o → h'.get? b = some o) → Q none { s with heap := h', toks := tk }) : wpAny (model prog w) A (getAttr? (.ref a) (Str.ofString "keys")) Q E s := by
  obtain ⟨hp, g, d, tk, os⟩ := s
  have hT : ∀ tk', (⟨hp, g, d, tk', os⟩ : Shared).TypeIs (.ref a) "zip" := fun _ => ⟨_, hx, rfl⟩
  have f1 := sub_AttributeError
  have f3 := F.slot_zip_getattribute.lookup
  have f4 := F.slot_zip_getattribute.bind (.ref a)
  have f5 := zip_getattr_none
  unfold getAttr? getAttrBy? getAttrBy
  repeat (any_goals (first | assumption | exact hT _ | ((with_reducible show wpAny _ _ (call (Value.builtin "zip.__getattribute__") _ _) _ _ _); refine call_meets F.slot_zip_getattribute (hT _) entry_getattr (F.args_zip_getattribute_2 _ _) (miss a vs (Str.ofString "keys") _ zip_keys_none (by decide +kernel) (by decide +kernel)) ⟨hx, hA, fun h' tk' e hx' => ?_⟩) | wp_step))
  obtain ⟨t', u', he⟩ := hx'.there
  have hx2 := hx'.of.keeps
  show wpAny _ _ (getattributeRaised _ _ _ _ _ _ _) _ _ _
  unfold getattributeRaised
  repeat (any_goals (first | assumption | wp_step))
  exact h _ _ hx2
theorem call_zip {l1 l2 : Addr} {xs ys : Array Value} {ps : List (List Key × Addr × Value)} {Q : Value → Shared → Prop} (hh : A.handled = none) (hu : A.units + 2 < cLine) (h1 : s.heap.IsList l1 xs) (h2 : s.heap.IsList l2 ys)
    (hz : ps.length ≤ sizeLine) (hx : ∀ j : Nat, xs[j]? = (ps[j]?).map fun p => .ref p.2.1) (hy : ∀ j : Nat, ys[j]? = (ps[j]?).map fun p => p.2.2) (hkeys : ∀ p ∈ ps, (TK prog w).is s.heap p.1 p.2.1)
    (h : ∀ h' tk d, s.heap.objs.size ≤ d → (∀ b o, s.heap.get? b = some o → h'.get? b = some o) → h'.DictOfH (TK prog w) d (allH [] ps) → Q (.ref d) { s with heap := h', toks := tk }) :
    wpAny (model prog w) A (call (.type "zip") [.ref l1, .ref l2]) (fun v s1 => wpAny (model prog w) A (call (.type "dict") [v]) Q E s1) E s := by
  have la : @LT.lt Nat _ l1 s.heap.objs.size := by obtain ⟨_, e, _⟩ := h1; exact Heap.lt_size e
  have lb : @LT.lt Nat _ l2 s.heap.objs.size := by obtain ⟨_, e, _⟩ := h2; exact Heap.lt_size e
  refine call_zip_2 h1 h2 fun g g1 g2 g3 g4 g5 g6 gk => ?_
  refine callType_codes (Q₁ := fun obj s₁ => obj = .ref g.objs.size ∧ s₁ = { s with heap := g.push { cls := .type "dict", data := .dict #[] } }) F.kt_called_dict (F.kt_typeCall_dict_1 _) F.entry_dict_init (kt_code_dict_new _ ⟨rfl, rfl⟩) ?_
  rintro obj s₁ ⟨rfl, rfl⟩
  have hnew : (g.push { cls := .type "dict", data := .dict #[] }).DictOfH (TK prog w) g.objs.size [] := Heap.DictOfH.new g
  have z1 := Heap.get?_push_of_some { cls := .type "dict", data := .dict #[] } g1
  have hty : ({ s with heap := g.push { cls := .type "dict", data := .dict #[] } } : Shared).TypeIs (.ref g.objs.size) "dict" := hnew.typeIs
  refine ⟨hty, F.args_dict_init_2 _ _, ?_⟩
  unfold Builtin.«dict.__init__»
  refine wpAny_bind ?_
  unfold Builtin.Dict.selfAndRest
  refine wpAny_bind (wpAny_notOrdered_dict hty ?_)
  show wpAny _ _ (pure (g.objs.size, [Value.ref (s.heap.objs.size + 4)])) _ _ _
  refine wpAny_pure ?_
  show wpAny _ _ (Builtin.Dict.updateFrom "dict.__init__" g.objs.size (.ref (s.heap.objs.size + 4)) [] .none) _ _ _
  unfold Builtin.Dict.updateFrom
  refine wpAny_bind (wpAny_typeOf (T := "zip") ⟨_, z1, rfl⟩ ?_)
  rw [if_pos (by decide)]
  refine wpAny_bind (keys_miss z1 hh fun k1 tk1 hk1 => ?_)
  rw [if_pos (by decide)]
  have up : ∀ b o, g.get? b = some o → k1.get? b = some o := fun b o e => hk1 b o (Heap.get?_push_of_some _ e)
  refine wpAny_bind (wpAny_rule (wpAny_bind (wpAny_pyIter_zip (up _ _ g1) ?_)))
  refine wpAny_pure ⟨plainId_quiet Dp.plain_loop _, ?_⟩
  have hd1 : k1.DictOfH (TK prog w) g.objs.size [] := by
    obtain ⟨o, es, ep, ho, r1, r2, r3, r4, r5⟩ := hnew
    exact ⟨o, es, ep, hk1 _ o ho, r1, r2, r3, (fun x hx => nomatch hx), r5⟩
  have lg : g.objs.size < k1.objs.size := by
    obtain ⟨o, es, ep, ho, _⟩ := hd1
    exact Heap.lt_size ho
  have D : Zt.Apart (s.heap.objs.size + 4) (s.heap.objs.size + 2) (s.heap.objs.size + 3) s.heap.objs.size (s.heap.objs.size + 1) l1 l2 := ⟨nd5 _, ⟨adl 4 la, adl 2 la, adl 3 la, adl0 la, adl 1 la⟩, ⟨adl 4 lb, adl 2 lb, adl 3 lb, adl0 lb, adl 1 lb⟩⟩
  have eg : g.objs.size = s.heap.objs.size + 5 := g6
  have i1 : k1.IsListIter s.heap.objs.size l1 0 := g4.at (up _)
  have i2 : k1.IsListIter (s.heap.objs.size + 1) l2 0 := g5.at (up _)
  have ll1 : k1.IsList l1 xs := h1.at fun o e => up _ _ (gk _ _ e)
  have ll2 : k1.IsList l2 ys := h2.at fun o e => up _ _ (gk _ _ e)
  have lk : ∀ p ∈ ps, @LT.lt Nat _ p.2.1 s.heap.objs.size := fun p hp => by
    obtain ⟨o, items, n, e, _⟩ := hkeys p hp
    exact Heap.lt_size e
  refine loop (A := A.in1) (d := g.objs.size) (ps := ps) hh (tupleKind_room_in1 (A := A.in1) (show (A.units + 1) + 1 < cLine from hu)) D (side_list _ _ (adl0 la) xs) (side_list _ _ (adl 1 lb) ys) ⟨Nat.ne_of_gt (by omega), Nat.ne_of_gt (by omega), Nat.ne_of_gt (by omega), Nat.ne_of_gt (by omega), Nat.ne_of_gt (by omega), Nat.ne_of_gt (by omega), Nat.ne_of_gt (by omega)⟩ hz hx hy (fun p hp => by have := lk p hp; exact ⟨Nat.ne_of_lt (by omega), Nat.ne_of_lt (by omega), Nat.ne_of_lt (by omega), Nat.ne_of_lt (by omega), Nat.ne_of_lt (by omega)⟩) ps.length 0 _ [] rfl (Nat.zero_le _) (Nat.le_refl _)
    ⟨up _ _ g2, ⟨i1, ll1⟩, ⟨i2, ll2⟩, lg, (show @LT.lt Nat _ (s.heap.objs.size + 4) k1.objs.size by omega), (show @LT.lt Nat _ (s.heap.objs.size + 3) k1.objs.size by omega), (show @LT.lt Nat _ s.heap.objs.size k1.objs.size by omega), (show @LT.lt Nat _ (s.heap.objs.size + 1) k1.objs.size by omega), .inl ⟨up _ _ g1, _, _, up _ _ g3⟩⟩ hd1 (fun e he => nomatch he) (fun p hp => key_at (hkeys p hp) fun o e => up _ _ (gk _ _ e)) fun h2 tk2 hk2 hd2 => ?_
  refine ⟨rfl, h h2 tk2 g.objs.size (by omega) (fun b o e => ?_) hd2⟩
  have lb' : @LT.lt Nat _ b s.heap.objs.size := Heap.lt_size e
  exact hk2 b o (Nat.ne_of_lt (by omega)) (Nat.ne_of_lt (by omega)) (Nat.ne_of_lt (by omega)) (Nat.ne_of_lt (by omega)) (Nat.ne_of_lt (by omega)) (up _ _ (gk _ _ e))
end
end Zd
end PySem
namespace L2
open PySem PySem.Spec PyProof.Rows
def putsK (ks : List (List Key × V)) (ps : List (List Key × V)) : List (List Key × V) := ps.foldl (fun k p => putK k p.1 p.2) ks
theorem zs_of {H : Hp} : ∀ {qs : List (List Key × Addr × V)} {us ws : List Value}, Vals (qs.map fun q => V.ref q.2.1) us → Vals (qs.map fun q => q.2.2) ws →
    ∃ ps : List (List Key × Addr × Value), us = ps.map (fun p => .ref p.2.1) ∧ ws = ps.map (fun p => p.2.2) ∧ Paired (fun (q : List Key × Addr × V) (p : List Key × Addr × Value) => q.1 = p.1 ∧ q.2.1 = p.2.1 ∧ RelV q.2.2 p.2.2) qs ps
  | [], _, _, h1, h2 => by cases h1; cases h2; exact ⟨[], rfl, rfl, .nil⟩
  | q :: qs, _, _, h1, h2 => by
    cases h1 with
    | @cons _ u _ us r1 t1 =>
      cases h2 with
      | @cons _ w _ ws r2 t2 =>
        obtain ⟨ps, e1, e2, e3⟩ := zs_of (H := H) t1 t2
        cases (show u = Value.ref q.2.1 from r1)
        exact ⟨(q.1, q.2.1, w) :: ps, by rw [List.map_cons, e1], by rw [List.map_cons, e2], .cons ⟨rfl, rfl, r2⟩ e3⟩
theorem kt_puts {H : Hp} {qs : List (List Key × Addr × V)} {ps : List (List Key × Addr × Value)} (h : Paired (fun (q : List Key × Addr × V) (p : List Key × Addr × Value) => q.1 = p.1 ∧ q.2.1 = p.2.1 ∧ RelV q.2.2 p.2.2) qs ps) :
    ∀ {kvs : List (List Key × V)} {es : List (List Key × Addr × Value)}, (∀ q ∈ qs, H q.2.1 = some (.tup (q.1.map kV))) → KT H kvs es → KT H (putsK kvs (qs.map fun q => (q.1, q.2.2))) (Zd.allH es ps) := by
  induction h with
  | nil => intro kvs es _ k; exact k
  | @cons q p qs ps r t ih =>
    intro kvs es hq k
    obtain ⟨q1, q2, q3⟩ := q
    obtain ⟨p1, p2, p3⟩ := p
    obtain ⟨rfl, rfl, r3⟩ := r
    exact ih (fun z hz => hq z (List.mem_cons_of_mem _ hz)) (k.put q1 (hq _ List.mem_cons_self) r3)
theorem putsK_len : ∀ (ps : List (List Key × V)) (ks : List (List Key × V)), (putsK ks ps).length ≤ ks.length + ps.length
  | [], ks => Nat.le_refl _
  | p :: ps, ks => by
    have h1 := putsK_len ps (putK ks p.1 p.2)
    have h2 := length_putK ks p.1 p.2
    show (putsK (putK ks p.1 p.2) ps).length ≤ ks.length + (ps.length + 1)
    omega
section
variable {X : Cx} {a b : Expr} {ta : TA} {p p2 pos pos2 : Pos}
def tDictZip (K : PySem.W.Frag) (ta : TA) : TE := fun σ H Q => ta σ H fun vs H1 => ∃ a b xs ys, ∃ qs : List (List Key × Addr × V), vs = [.ref a, .ref b] ∧ SqL K H1 a xs ∧ SqL K H1 b ys ∧ xs = (qs.map fun q => .ref q.2.1) ∧ ys = (qs.map fun q => q.2.2) ∧ (∀ q ∈ qs, H1 q.2.1 = some (.tup (q.1.map kV))) ∧
  ∀ p, H1 p = none → Q (.ref p) (upd H1 p (.dT (putsK [] (qs.map fun q => (q.1, q.2.2)))))
theorem pe_dictzip (hc : X.calm = true) (hu : X.A.units + 2 < cLine) (hg : Gl X "dict") (hm : X.mg "dict" = none) (hg2 : Gl X "zip") (hm2 : X.mg "zip" = none) (ha : PA X [a, b] ta)
    (hs1 : starEach [.Call (.Name "zip" p2) [a, b] [] pos2] X.env = [(false, eval (.Call (.Name "zip" p2) [a, b] [] pos2) X.env)] := by rfl) (hs : starEach [a, b] X.env = [(false, eval a X.env), (false, eval b X.env)] := by rfl) (hs2 : starEach [b] X.env = [(false, eval b X.env)] := by rfl) :
    PE X (.Call (.Name "dict" p) [.Call (.Name "zip" p2) [a, b] [] pos2] [] pos) (tDictZip X.K ta) := by
  intro pins s σ H Q I h
  refine wpAny_Call_Name_kw (ld_blt I hg hm (by decide +kernel : bootBuiltins "dict" = some (.type "dict")) (PyProof.Rows.callWith_type1 ?_ hs1 rfl))
  rw [hs1]
  refine Calls.spliced_cons (wpAny_Call_Name_kw (ld_blt I hg2 hm2 bt_zip (PyProof.Rows.callWith_type1 (thn (ha pos2 pins s σ H _ I h) fun us s1 ⟨vs, H1, I1, r1, q1⟩ => ?_) (by rw [hs, hs2]) (by rw [hs2]; rfl))))
  obtain ⟨l1, l2, xs, ys, qs, rfl, hqa, hqb, rfl, rfl, hq, q⟩ := q1
  obtain ⟨u, v, rfl, ru, rv⟩ := vals2 r1
  cases ru; cases rv
  obtain ⟨its, rv1, pl, hz⟩ := I1.list hqa
  obtain ⟨its2, rv2, pl2, hz2⟩ := I1.list hqb
  obtain ⟨ps, e1, e2, e3⟩ := zs_of (H := H1) rv1 rv2
  have ln := Paired.length e3
  rw [List.length_map] at hz
  refine wpAny_mono (Zd.call_zip (E := X.xe) (ps := ps) (I1.ok.hd hc) hu pl.isList pl2.isList (by omega) (fun j => ?_) (fun j => ?_) (fun z hz' => ?_) (fun h' tk d hd hk dd => ?_)) (fun v s2 hv => Calls.spliced_nil hv) fun _ _ e => e
  · rw [e1, ← Array.getElem?_toList]; simp
  · rw [e2, ← Array.getElem?_toList]; simp
  · have : ∀ {qs : List (List Key × Addr × V)} {ps : List (List Key × Addr × Value)}, Paired (fun (q : List Key × Addr × V) (p : List Key × Addr × Value) => q.1 = p.1 ∧ q.2.1 = p.2.1 ∧ RelV q.2.2 p.2.2) qs ps → (∀ q ∈ qs, H1 q.2.1 = some (.tup (q.1.map kV))) → ∀ z ∈ ps, H1 z.2.1 = some (.tup (z.1.map kV)) := by
      intro qs ps h
      induction h with
      | nil => intro _ z hz; cases hz
      | @cons q p qs ps r t ih =>
        intro hq z hz
        rcases List.mem_cons.mp hz with rfl | hz
        · have := hq q List.mem_cons_self
          rw [r.1, r.2.1] at this; exact this
        · exact ih (fun y hy => hq y (List.mem_cons_of_mem _ hy)) z hz
    exact key_of I1.hok (this e3 hq z hz')
  · have hfr := I1.hok.fresh hd
    have hbig := I1.big
    have len := putsK_len (qs.map fun q => (q.1, q.2.2)) []
    rw [List.length_map] at len
    refine ⟨.ref d, _, I1.laid (o := .dT (putsK [] (qs.map fun q => (q.1, q.2.2)))) (t' := tk) hk hd ⟨by simp at len; omega, beq_eq_false_iff_ne.mpr (Nat.ne_of_gt (Nat.lt_of_lt_of_le hbig hd)), _, (kt_puts e3 hq .nil).keeps fun c ys ec => ?_, ?_⟩, rfl, q d hfr⟩
    · rw [upd_ne (ne_of_none ec hfr)]; exact ec
    · obtain ⟨o, en, ep, r1, r2, r3, r4, _, r5⟩ := dd
      exact ⟨o, en, ep, r1, r2, r3, r4, r5⟩
end
end L2
namespace L3
open PySem PySem.Spec PyProof.Rows L2
def putsT (kvs : List (List Key × W)) (ps : List (List Key × W)) : List (List Key × W) := ps.foldl (fun kvs p => putW kvs p.1 p.2) kvs
section
variable {X : Cx} {a b : Expr} {ta : TA3}
def vDictZip (ta : TA3) : TE3 := fun τ M R => ta τ M fun ws M1 => ∃ ps : List (List Key × W), ws = [.rl (ps.map fun p => .tup (p.1.map wK)), .rl (ps.map fun p => p.2)] ∧ R (.dt (putsT [] ps)) M1
theorem v_dictzip {p p2 pos pos2 : Pos} (hu : X.A.units + 2 < cLine) (hg : Gl X "dict") (hm : X.mg "dict" = none) (hg2 : Gl X "zip") (hm2 : X.mg "zip" = none) (ha : A3 X [a, b] ta) (hc : X.calm = true := by rfl)
    (hs1 : starEach [.Call (.Name "zip" p2) [a, b] [] pos2] X.env = [(false, eval (.Call (.Name "zip" p2) [a, b] [] pos2) X.env)] := by rfl) (hs : starEach [a, b] X.env = [(false, eval a X.env), (false, eval b X.env)] := by rfl) (hs2 : starEach [b] X.env = [(false, eval b X.env)] := by rfl) :
    E3 X (.Call (.Name "dict" p) [.Call (.Name "zip" p2) [a, b] [] pos2] [] pos) (vDictZip ta) :=
  (pe_dictzip hc hu hg hm hg2 hm2 ha hs1 hs hs2).weak fun σ H Q ⟨τ, M, R, as, am, h, k⟩ => ⟨τ, M, _, as, am, h, fun vs H1 ws M1 k1 am1 ax r => by
    obtain ⟨ps, rfl, r⟩ := r
    obtain ⟨v, u, rfl, av, au⟩ := ax.two
    cases av with
    | @rl l1 xs _ f1 n1 q1 =>
      cases au with
      | @rl l2 ys _ f2 n2 q2 =>
        have key : ∀ {ps : List (List Key × W)} {xs ys : List V}, AVs X.K H1 M1 xs (ps.map fun p => .tup (p.1.map wK)) → AVs X.K H1 M1 ys (ps.map fun p => p.2) → ∃ qs : List (List Key × Addr × V), xs = (qs.map fun q => .ref q.2.1) ∧ ys = (qs.map fun q => q.2.2) ∧ (∀ q ∈ qs, H1 q.2.1 = some (.tup (q.1.map kV))) ∧ PKV X.K H1 M1 (List Key) (qs.map fun q => (q.1, q.2.2)) ps := by
          intro ps
          induction ps with
          | nil => intro xs ys h1 h2; cases h1; cases h2; exact ⟨[], rfl, rfl, (fun q hq => nomatch hq), .nil⟩
          | cons p ps ih =>
            intro xs ys h1 h2
            cases h1 with
            | @cons x xs' _ _ a1 t1 =>
              cases h2 with
              | @cons y ys' _ _ a2 t2 =>
                obtain ⟨qs, e1, e2, e3, e4⟩ := ih t1 t2
                cases a1 with
                | @tup c zs _ ec qc =>
                  rw [qc.keys] at ec
                  refine ⟨(p.1, c, y) :: qs, by rw [e1]; rfl, by rw [e2]; rfl, fun q hq => ?_, .cons ⟨rfl, a2⟩ e4⟩
                  rcases List.mem_cons.mp hq with rfl | hq
                  · exact ec
                  · exact e3 q hq
        obtain ⟨qs, e1, e2, e3, e4⟩ := key q1 q2
        refine ⟨l1, l2, xs, ys, qs, rfl, SqL.of f1, SqL.of f2, e1, e2, e3, fun d hd => ?_⟩
        have puts : ∀ {ps : List (List Key × W)} {qs : List (List Key × V)} {ks : List (List Key × V)} {kvs : List (List Key × W)}, PKV X.K H1 M1 (List Key) qs ps → PKV X.K H1 M1 (List Key) ks kvs → PKV X.K H1 M1 (List Key) (putsK ks qs) (putsT kvs ps) := by
          intro ps qs ks kvs h
          induction h generalizing ks kvs with
          | nil => intro h; exact h
          | @cons q p qs ps r t ih =>
            intro h
            obtain ⟨q1, q2⟩ := q
            obtain ⟨p1, p2⟩ := p
            obtain ⟨rfl, r2⟩ := r
            exact ih (pkv_put h q1 r2)
        have g := puts (ks := []) (kvs := []) e4 .nil
        obtain ⟨am2, k2⟩ := am1.tup (u := .dT (putsK [] (qs.map fun q => (q.1, q.2.2)))) hd
        exact k _ _ _ _ (k1.trans k2) am2 (.dt upd_same (am1.nonM hd) g.keys (g.vals.newT hd)) r⟩
end
end L3
namespace L3
open PySem PySem.Spec PyProof.Rows L2
structure Dm (K : PySem.W.Frag) (C : Addr) (x qual : Str) (st : Stmt) (ps : List Str) (f : Addr) (fd : FuncData) : Prop where
  fn : Fun K x qual st f fd
  me : Meth K C x f
  bi : Binds K fd ps []
structure Di (K : PySem.W.Frag) (C : Addr) (x qual : Str) (st : Stmt) (ps : List Str) (f : Addr) (fd : FuncData) : Prop where
  fn : Fun K x qual st f fd
  mak : Mk K C f
  bi : Binds K fd ps []
theorem hu2_of {A : Around} {k : Nat} (hr : Room k A) : A.units + 2 < cLine := by have := hr.un; omega
end L3
namespace Rg
open PySem PySem.Spec PyProof.Rows
end Rg
namespace L3
open PySem PySem.Spec PyProof.Rows L2
section
variable {X : Cx}
end
end L3
namespace Rg
open PySem PySem.Spec PyProof.Rows L2 L3
structure Rule where
  name : Str
  parts : List Str
  cost : Int
def Asc (t : Str) : Prop := ∀ c ∈ cs t, c < 128
structure HeadT (t : Str) : Prop where
  len : t.length ≤ 20
  nm : isNameB t = true
  hd : ∃ c r, cs t = c :: r ∧ c ∈ cs GREAT
  asc : Asc t
structure WordT (t : Str) : Prop where
  len : t.length ≤ 20
  ne : cs t ≠ []
  sm : ∀ c ∈ cs t, c ∈ cs SMALL
theorem small_asc : ∀ c ∈ cs SMALL, c < 128 := by decide +kernel
theorem great_asc : ∀ c ∈ cs GREAT, c < 128 := by decide +kernel
theorem figs_asc : ∀ c ∈ cs FIGS, c < 128 := by decide +kernel
theorem WordT.asc {t : Str} (h : WordT t) : Asc t := fun c hc => small_asc c (h.sm c hc)
theorem WordT.nm {t : Str} (h : WordT t) : isNameB t = false := name_not h.ne h.sm
structure RuleOf (hs ws : List Str) (r : Rule) : Prop where
  name : r.name ∈ hs
  parts : ∀ t ∈ r.parts, t ∈ ws ∨ t ∈ hs
  few : r.parts.length ≤ 4
  lo : 0 ≤ r.cost
  hi : r.cost < 10 ^ 60
structure GoodRules (rs : List Rule) : Prop where
  ne : rs ≠ []
  few : rs.length ≤ 60
  ex : ∃ hs ws : List Str, hs.length ≤ 12 ∧ (∀ t ∈ hs, HeadT t) ∧ (∀ t ∈ ws, WordT t) ∧ (∀ r ∈ rs, RuleOf hs ws r) ∧ ∀ t ∈ hs, ∃ r ∈ rs, r.name = t
theorem reps_mem (c : Array Nat) : ∀ (k : Nat) (acc : Array Nat) (d : Nat), d ∈ ((List.replicate k c).foldl (· ++ ·) acc).toList → d ∈ acc.toList ∨ d ∈ c.toList
  | 0, acc, d, h => .inl h
  | k + 1, acc, d, h => by
    rw [List.replicate_succ, List.foldl_cons] at h
    rcases reps_mem c k _ d h with q | q
    · rw [Array.toList_append] at q
      exact List.mem_append.mp q
    · exact .inr q
theorem mul_mem {x : Str} {n : Int} {d : Nat} (h : d ∈ cs (Txt.mul x n)) : d ∈ cs x := by
  unfold Txt.mul at h
  split at h
  · exact absurd h (by rw [show cs Str.empty = [] from rfl]; simp)
  · split at h
    · exact h
    · rcases reps_mem x.cps _ #[] d h with q | q
      · simp at q
      · exact q
theorem mul_len {x : Str} {n : Int} (hx : x.length = 1) (h0 : 0 ≤ n) : ((Txt.mul x n).length : Int) = n := by
  rw [len_mul, hx]
  have : ¬ n < 0 := by omega
  simp [this]
def addN (acc : List Str) (t : Str) : List Str := if t ∈ acc then acc else acc ++ [t]
def namesFrom (acc : List Str) (rs : List Rule) : List Str := (rs.map Rule.name).foldl addN acc
def namesOf (rs : List Rule) : List Str := namesFrom [] rs
theorem addN_mem {acc : List Str} {t u : Str} : u ∈ addN acc t ↔ u ∈ acc ∨ u = t := by
  unfold addN
  split
  · rename_i h
    constructor
    · exact .inl
    · rintro (q | q)
      · exact q
      · rw [q]; exact h
  · rw [List.mem_append, List.mem_singleton]
theorem addN_len {acc : List Str} {t : Str} : (addN acc t).length ≤ acc.length + 1 := by
  unfold addN
  split
  · omega
  · rw [List.length_append]; exact Nat.le_refl _
theorem names_mem : ∀ {ts acc : List Str} {u : Str}, u ∈ ts.foldl addN acc ↔ u ∈ acc ∨ u ∈ ts
  | [], acc, u => by simp
  | t :: r, acc, u => by
    rw [List.foldl_cons, names_mem, addN_mem, List.mem_cons]
    constructor
    · rintro ((h | h) | h)
      · exact .inl h
      · exact .inr (.inl h)
      · exact .inr (.inr h)
    · rintro (h | h | h)
      · exact .inl (.inl h)
      · exact .inl (.inr h)
      · exact .inr h
theorem namesOf_mem {rs : List Rule} {u : Str} : u ∈ namesOf rs ↔ ∃ r ∈ rs, r.name = u := by
  unfold namesOf namesFrom
  rw [names_mem]
  simp
theorem strOk_asc {t : Str} (h : Asc t) : PyData.strOk t = true := by
  unfold PyData.strOk
  rw [Array.all_eq_true']
  intro c hc
  have := h c (by unfold cs; exact Array.mem_toList_iff.mpr hc)
  exact decide_eq_true (by omega)
theorem GoodRules.asc {rs : List Rule} (g : GoodRules rs) {r : Rule} (hr : r ∈ rs) : Asc r.name ∧ ∀ t ∈ r.parts, Asc t := by
  obtain ⟨hs, ws, _, hh, hw, hr', _⟩ := g.ex
  refine ⟨(hh _ (hr' r hr).name).asc, fun t ht => ?_⟩
  rcases (hr' r hr).parts t ht with q | q
  · exact (hw t q).asc
  · exact (hh t q).asc
def UnT (g : Bool) (t : Str) : Prop := if g then HeadT t else WordT t
def lettersOf : Bool → Str
  | true => Txt.upper SMALL
  | false => SMALL
theorem letters_len (g : Bool) : (cs (lettersOf g)).length = 26 := by cases g <;> decide +kernel
theorem at26' {g : Str} (hg : (cs g).length = 26) (n : Int) : ∃ c, atI g.cps.toList (n % 26) = some c ∧ c ∈ cs g := by
  have h0 : 0 ≤ n % 26 := Int.emod_nonneg _ (by decide)
  have h1 : n % 26 < 26 := Int.emod_lt_of_pos _ (by decide)
  obtain ⟨j, hj⟩ := Int.eq_ofNat_of_zero_le h0
  have hlt : j < (cs g).length := by omega
  refine ⟨(cs g)[j], ?_, List.getElem_mem hlt⟩
  rw [hj]
  exact atI_nat (List.getElem?_eq_getElem hlt)
theorem cs_one' (c : Nat) : cs (⟨#[c]⟩ : Str) = [c] := rfl
theorem un_plain {g : Bool} {t : Str} (hl : t.length ≤ 8) (hne : cs t ≠ []) (h : ∀ c ∈ cs t, c ∈ cs (lettersOf g)) : UnT g t := by
  cases g with
  | false => exact ⟨by omega, hne, h⟩
  | true =>
    have eu : lettersOf true = GREAT := by show Txt.upper SMALL = GREAT; decide +kernel
    rw [eu] at h
    refine ⟨by omega, name_letters hne h, ?_, fun c hc => great_asc c (h c hc)⟩
    cases e : cs t with
    | nil => exact absurd e hne
    | cons c r => exact ⟨c, r, rfl, h c (by rw [e]; simp)⟩
theorem un_figs {t : Str} (n : Int) (h0 : 0 ≤ n) (h1 : n < 10000) (hl : t.length ≤ 8) (hne : cs t ≠ []) (h : ∀ c ∈ cs t, c ∈ cs (lettersOf true)) : UnT true (t ++ "_" ++ Str.ofString (toString n)) := by
  have eu : lettersOf true = GREAT := by show Txt.upper SMALL = GREAT; decide +kernel
  rw [eu] at h
  have hfl : (Str.ofString (toString n)).length ≤ 10 := PySem.W.KT.len_num h0 (by omega)
  have hul : ("_" : Str).length = 1 := by decide +kernel
  obtain ⟨m, rfl⟩ := Int.eq_ofNat_of_zero_le h0
  have fg := figs_of (m := m)
  have ec : cs (t ++ "_" ++ Str.ofString (toString ((m : Nat) : Int))) = cs t ++ 95 :: cs (Str.ofString (toString ((m : Nat) : Int))) := by rw [cs_app, cs_app, cs_under]; simp
  refine ⟨by rw [strLen_append, strLen_append, hul]; omega, name_figures ec hne h fg.2 fg.1, ?_, fun c hc => ?_⟩
  · cases e : cs t with
    | nil => exact absurd e hne
    | cons c r => exact ⟨c, _, by rw [ec, e]; rfl, h c (by rw [e]; simp)⟩
  · rw [ec] at hc
    rcases List.mem_append.mp hc with q | q
    · exact great_asc c (h c q)
    · rcases List.mem_cons.mp q with q | q
      · omega
      · exact figs_asc c (fg.1 c q)
theorem log_small {n : Int} (h0 : 0 ≤ n) (h1 : n < 10000) : n.natAbs.log2 < 1920 := by
  rcases Nat.eq_zero_or_pos n.natAbs with h | hp
  · rw [h]; decide
  · have : n.natAbs < 2 ^ 14 := by
      have : (2 : Nat) ^ 14 = 16384 := by decide
      omega
    have := (Nat.log2_lt (Nat.ne_of_gt hp)).mpr this
    omega
theorem drawn_app {ds a b : List Int} (h : Drawn ds (a ++ b)) : ∃ d1 d2, ds = d1 ++ d2 ∧ Drawn d1 a ∧ Drawn d2 b := by
  induction a generalizing ds with
  | nil => exact ⟨[], ds, rfl, .nil, h⟩
  | cons x r ih =>
    cases h with
    | cons h1 h2 =>
      obtain ⟨d1, d2, rfl, e1, e2⟩ := ih h2
      exact ⟨_ :: d1, d2, rfl, .cons h1 e1, e2⟩
theorem drawn4 {ds : List Int} {a b c d : Int} (h : Drawn ds [a, b, c, d]) : ∃ x1 x2 x3 x4, ds = [x1, x2, x3, x4] ∧ Below x1 a ∧ Below x2 b ∧ Below x3 c ∧ Below x4 d := by
  cases h with | cons h1 h => cases h with | cons h2 h => cases h with | cons h3 h => cases h with | cons h4 h => cases h; exact ⟨_, _, _, _, rfl, h1, h2, h3, h4⟩
theorem drawn_mem {ds ss : List Int} {s : Int} (h : Drawn ds ss) (hs : ∀ z ∈ ss, z = s) : ∀ d ∈ ds, Below d s := by
  induction h with
  | nil => intro d hd; cases hd
  | cons r t ih =>
    intro d hd
    rcases List.mem_cons.mp hd with e | hd
    · subst e
      have := hs _ List.mem_cons_self
      rw [← this]; exact r
    · exact ih (fun z hz => hs z (List.mem_cons_of_mem _ hz)) d hd
theorem drawn2 {ds : List Int} {a b : Int} (h : Drawn ds [a, b]) : ∃ x1 x2, ds = [x1, x2] ∧ Below x1 a ∧ Below x2 b := by
  cases h with | cons h1 h => cases h with | cons h2 h => cases h; exact ⟨_, _, rfl, h1, h2⟩
theorem namesFrom_len : ∀ (ts acc : List Str), (ts.foldl addN acc).length ≤ acc.length + ts.length
  | [], acc => by simp
  | t :: r, acc => by
    rw [List.foldl_cons, List.length_cons]
    have := namesFrom_len r (addN acc t)
    have := addN_len (acc := acc) (t := t)
    omega
theorem good_parts {rs : List Rule} (g : GoodRules rs) {r : Rule} (hr : r ∈ rs) : 0 ≤ r.cost ∧ ∀ t ∈ r.parts, t.length ≤ 1000 ∧ (isNameB t = true → t ∈ namesOf rs) := by
  obtain ⟨hs, ws, _, hh, hw, hrs, hall⟩ := g.ex
  refine ⟨(hrs r hr).lo, fun t ht => ?_⟩
  rcases (hrs r hr).parts t ht with q | q
  · have := hw t q
    exact ⟨by have := this.len; omega, fun n => by rw [this.nm] at n; cases n⟩
  · have := hh t q
    exact ⟨by have := this.len; omega, fun _ => namesOf_mem.mpr (hall t q)⟩
def ruleW (r : Rule) : W := .tup [.str r.name, .tup (r.parts.map W.str), .int r.cost]
end Rg
namespace Rg
open PySem PySem.Spec PyProof.Rows L2 L3
def sp_made_of : Sp3 := fun ws M R => ∃ z g : Str, ws = [.str z, .str g] ∧ z.length ≤ 1000 ∧ R (.bl (madeB z g)) M
def sp_is_name : Sp3 := fun ws M R => ∃ z : Str, ws = [.str z] ∧ z.length ≤ 1000 ∧ R (.bl (isNameB z)) M
def sp_check_rule : Sp3 := fun ws M R => ∃ (r : Rule) (ns : List Str), ws = [ruleW r, .rl (ns.map W.str)] ∧ 0 ≤ r.cost ∧ (∀ t ∈ r.parts, t.length ≤ 1000 ∧ (isNameB t = true → t ∈ ns)) ∧ R .non M
def sp_l_cell_at : Sp3 := fun ws M R => ∃ (zs : List W) (k : Int), (ws = [.sc zs, .int k] ∨ ws = [.rl zs, .int k]) ∧ Ints zs ∧ 0 ≤ k ∧ ∀ i, R (.int i) M
def sp_l_stir : Sp3 := fun ws M R => ∃ c k : Int, ws = [.int c, .int k] ∧ 0 ≤ k ∧ k ≤ 1000 ∧ ∀ z : Int, 0 ≤ z → z < 10 ^ 61 → R (.int z) M
def sp_l_drawn : Sp3 := fun ws M R => ∃ (c : Int) (ss : List Int), ws = [.int c, .rl (ss.map W.int)] ∧ ss.length ≤ 100 ∧ (∀ s ∈ ss, 0 < s ∧ s ≤ 10 ^ 59) ∧ ∀ ds, Drawn ds ss → New (ds.map W.int) M R
def sp_l_unlike : Sp3 := fun ws M R => ∃ (n m : Int) (g : Bool), ws = [.int n, .int m, .bl g] ∧ 0 ≤ m ∧ m ≤ 12 ∧ ∀ ts : List Str, ts.length = m.toNat → (∀ t ∈ ts, UnT g t) → New (ts.map W.str) M R
def sp_l_rule : Sp3 := fun ws M R => ∃ (c : Int) (hs wds : List Str) (most : Int), ws = [.int c, .rl (hs.map W.str), .rl (wds.map W.str), .int most] ∧ 0 < hs.length ∧ hs.length ≤ 12 ∧ wds.length = 3 ∧ 0 ≤ most ∧ most ≤ 4 ∧ ∀ r : Rule, RuleOf hs wds r → (r.parts.length : Int) ≤ most → R (ruleW r) M
def sp_l_rules : Sp3 := fun ws M R => ∃ (zs : List W) (many most : Int), ws = [.rl zs, .int many, .int most] ∧ Ints zs ∧ zs.length ≤ 40 ∧ 1 ≤ many ∧ many ≤ 12 ∧ 1 ≤ most ∧ most ≤ 4 ∧ ∀ rs : List Rule, GoodRules rs → (∀ r ∈ rs, (r.parts.length : Int) ≤ most) → (∃ hs : List Str, (hs.length : Int) ≤ many ∧ ∀ r ∈ rs, r.name ∈ hs) → New (rs.map ruleW) M R
abbrev N_made_of : List Str := ["text", "signs"]
def rd_made_of : TS3 :=
      (vRet (vAndV (vOp (rEq true) (vVar 0) (vC (.str ""))) (vCB rAll (aCons (vFrz (vComp (iIt rItN (vVar 0)) (wName 0) vTrue (vOp (rIn false) (vVar 0) (vVar 1)) [none, some 1])) aNil))))
abbrev N_is_name : List Str := ["part", "pieces", "right_end"]
def rd_is_name_0 : TS3 :=
      (vSet 1 (vBM "str" rPart (vVar 0) (aCons (vC (.str "_")) aNil)))
def rd_is_name_1 : TS3 :=
      (vSet 2 (vOrV (vOp (rEq false) (vOp rIx (vVar 1) (vC (.int 1))) (vC (.str ""))) (vCall sp_made_of (aCons (vOp rIx (vVar 1) (vC (.int 2))) (aCons (vC (.str "0123456789")) aNil)))))
def rd_is_name_2 : TS3 :=
      (vRet (vAndV (vVar 2) (vCall sp_made_of (aCons (vOp rIx (vVar 1) (vC (.int 0))) (aCons (vC (.str "ABCDEFGHIJKLMNOPQRSTUVWXYZ")) aNil)))))
def rd_is_name : TS3 := (vSeq rd_is_name_0 (vSeq rd_is_name_1 rd_is_name_2))
abbrev N_check_rule : List Str := ["rule", "known", "part"]
def rd_check_rule : TS3 :=
      (vSeq (vIfS (vTest (vOp rLt (vOp rIx (vVar 0) (vC (.int 2))) (vC (.int 0))))
        vNever
        vNext)
      (vFor (iIt rItN (vOp rIx (vVar 0) (vC (.int 1)))) (wName 2)
        (vIfS (vAnd (vTruth (vCall sp_is_name (aCons (vVar 2) aNil))) (vTest (vOp (rIn true) (vVar 2) (vVar 1))))
        vNever
        vNext)))
abbrev N_l_cell_at : List Str := ["script", "k"]
def rd_l_cell_at : TS3 :=
      (vSeq (vIfS (vTest (vOp rLt (vVar 1) (vCB rLen (aCons (vVar 0) aNil))))
        (vRet (vOp rIx (vVar 0) (vVar 1)))
        vNext)
      (vRet (vC (.int 0))))
abbrev N_l_stir : List Str := ["cell", "k", "number"]
def rd_l_stir_0 : TS3 :=
      (vSet 2 (vOp rAddF (vOp rAddF (vOp rMulF (vOp rMod (vVar 0) (vOp rPow (vC (.int 10)) (vC (.int 40)))) (vC (.int 48271))) (vOp rMulF (vOp rMulF (vOp rPow (vC (.int 3)) (vC (.int 60))) (vOp rAddF (vVar 1) (vC (.int 1)))) (vOp rAddF (vVar 1) (vC (.int 1))))) (vVar 1)))
def rd_l_stir_1 : TS3 :=
      (vSet 2 (vOp rAddF (vOp rMulF (vVar 2) (vVar 2)) (vOp rMulF (vC (.int 69621)) (vVar 2))))
def rd_l_stir_2 : TS3 :=
      (vRet (vOp rFdiv (vOp rMod (vOp rMulF (vVar 2) (vVar 2)) (vOp rAddF (vOp rPow (vC (.int 10)) (vC (.int 61))) (vC (.int 7)))) (vC (.int 8))))
def rd_l_stir : TS3 := (vSeq rd_l_stir_0 (vSeq rd_l_stir_1 rd_l_stir_2))
abbrev N_l_drawn : List Str := ["cell", "sizes", "found", "rest", "k"]
def rd_l_drawn_0 : TS3 :=
      (vSet 2 (vLst aNil))
def rd_l_drawn_1 : TS3 :=
      (vSet 3 (vOp rSub (vVar 0) (vOp rPow (vC (.int 10)) (vC (.int 18)))))
def rd_l_drawn_b2 : TS3 :=
      (vIfS (vTest (vOp rGe (vVar 0) (vOp rPow (vC (.int 10)) (vC (.int 18)))))
        (vSeq (vDrop (vBM "list" rApp (vVar 2) (aCons (vOp rMod (vVar 3) (vOp rIx (vVar 1) (vVar 4))) aNil)))
      (vSet 3 (vOp rFdiv (vVar 3) (vOp rIx (vVar 1) (vVar 4)))))
        (vDrop (vBM "list" rApp (vVar 2) (aCons (vOp rMod (vCall sp_l_stir (aCons (vVar 0) (aCons (vVar 4) aNil))) (vOp rIx (vVar 1) (vVar 4))) aNil))))
def rd_l_drawn_2 : TS3 :=
      (vFor (iR1 (aCons (vCB rLen (aCons (vVar 1) aNil)) aNil)) (wName 4) rd_l_drawn_b2)
def rd_l_drawn_3 : TS3 :=
      (vRet (vVar 2))
def rd_l_drawn : TS3 := (vSeq rd_l_drawn_0 (vSeq rd_l_drawn_1 (vSeq rd_l_drawn_2 rd_l_drawn_3)))
abbrev N_l_unlike : List Str := ["number", "many", "great", "letters", "pad", "size", "at", "first", "found", "k", "sign"]
def rd_l_unlike_0 : TS3 :=
      (vSet 3 (vC (.str "abcdefghijklmnopqrstuvwxyz")))
def rd_l_unlike_1 : TS3 :=
      (vIfS (vTruth (vVar 2))
        (vSet 3 (vBM0 "str" rUpper (vVar 3)))
        vNext)
def rd_l_unlike_2 : TS3 :=
      (vSet 4 (vOp rIx (vVar 3) (vOp rMod (vVar 0) (vC (.int 26)))))
def rd_l_unlike_3 : TS3 :=
      (vSet 5 (vOp rAddF (vC (.int 1)) (vOp rMod (vOp rFdiv (vVar 0) (vC (.int 26))) (vC (.int 8)))))
def rd_l_unlike_4 : TS3 :=
      (vSet 6 (vOp rMod (vOp rFdiv (vVar 0) (vC (.int 208))) (vVar 5)))
def rd_l_unlike_5 : TS3 :=
      (vSet 7 (vOp rMod (vOp rFdiv (vVar 0) (vC (.int 1664))) (vC (.int 26))))
def rd_l_unlike_6 : TS3 :=
      (vSet 8 (vLst aNil))
def rd_l_unlike_b7 : TS3 :=
      (vSeq (vSet 10 (vOp rIx (vVar 3) (vOp rMod (vOp rAddF (vVar 7) (vOp rMulF (vC (.int 3)) (vVar 9))) (vC (.int 26)))))
      (vSeq (vDrop (vBM "list" rApp (vVar 8) (aCons (vOp rAddF (vOp rAddF (vOp rMulF (vVar 4) (vVar 6)) (vVar 10)) (vOp rMulF (vVar 4) (vOp rSub (vOp rSub (vVar 5) (vVar 6)) (vC (.int 1))))) aNil)))
      (vIfS (vAnd (vTruth (vVar 2)) (vAnd (vTest (vOp (rEq false) (vOp rMod (vOp rFdiv (vVar 0) (vC (.int 43264))) (vC (.int 3))) (vC (.int 1)))) (vTest (vOp (rEq false) (vOp rBand (vOp rShr (vOp rFdiv (vVar 0) (vC (.int 129792))) (vVar 9)) (vC (.int 1))) (vC (.int 1))))))
        (vAsg (vOp rAddF (vOp rAddF (vOp rIx (vVar 8) (vVar 9)) (vC (.str "_"))) (vCB rStr (aCons (vOp rMod (vOp rFdiv (vVar 0) (vC (.int 129792))) (vC (.int 10000))) aNil))) (wSub (vVar 8) (vVar 9)))
        vNext)))
def rd_l_unlike_7 : TS3 :=
      (vFor (iR1 (aCons (vVar 1) aNil)) (wName 9) rd_l_unlike_b7)
def rd_l_unlike_8 : TS3 :=
      (vRet (vVar 8))
def rd_l_unlike : TS3 := (vSeq rd_l_unlike_0 (vSeq rd_l_unlike_1 (vSeq rd_l_unlike_2 (vSeq rd_l_unlike_3 (vSeq rd_l_unlike_4 (vSeq rd_l_unlike_5 (vSeq rd_l_unlike_6 (vSeq rd_l_unlike_7 rd_l_unlike_8))))))))
abbrev N_l_rule : List Str := ["cell", "heads", "words", "most", "drawn", "parts", "place"]
def rd_l_rule_0 : TS3 :=
      (vSet 4 (vFrz (vCall sp_l_drawn (aCons (vVar 0) (aCons (vOp rAddF (vLstF (aCons (vCB rLen (aCons (vVar 1) aNil)) (aCons (vOp rAddF (vVar 3) (vC (.int 1))) (aCons (vC (.int 3)) (aCons (vOp rPow (vC (.int 10)) (vC (.int 59))) aNil))))) (vOp rMulF (vLstF (aCons (vC (.int 6)) aNil)) (vVar 3))) aNil)))))
def rd_l_rule_1 : TS3 :=
      (vSet 5 (vLst aNil))
def rd_l_rule_b2 : TS3 :=
      (vIfS (vTest (vOp rLt (vVar 6) (vC (.int 3))))
        (vDrop (vBM "list" rApp (vVar 5) (aCons (vOp rIx (vVar 2) (vVar 6)) aNil)))
        (vDrop (vBM "list" rApp (vVar 5) (aCons (vOp rIx (vVar 1) (vOp rMod (vOp rAddF (vOp rSub (vVar 6) (vC (.int 3))) (vOp rIx (vVar 4) (vC (.int 0)))) (vCB rLen (aCons (vVar 1) aNil)))) aNil))))
def rd_l_rule_2 : TS3 :=
      (vFor (iIt rItN (vSlF (vVar 4) (sPt (vC (.int 4))) (sPt (vOp rAddF (vC (.int 4)) (vOp rIx (vVar 4) (vC (.int 1))))))) (wName 6) rd_l_rule_b2)
def rd_l_rule_3 : TS3 :=
      (vRet (vTup (aCons (vOp rIx (vVar 1) (vOp rIx (vVar 4) (vC (.int 0)))) (aCons (vCB rTuple (aCons (vVar 5) aNil)) (aCons (vOp rMod (vOp rIx (vVar 4) (vC (.int 3))) (vOp rIx (vLstF (aCons (vC (.int 1)) (aCons (vC (.int 10)) (aCons (vOp rPow (vC (.int 10)) (vC (.int 59))) aNil)))) (vOp rIx (vVar 4) (vC (.int 2))))) aNil)))))
def rd_l_rule : TS3 := (vSeq rd_l_rule_0 (vSeq rd_l_rule_1 (vSeq rd_l_rule_2 rd_l_rule_3)))
abbrev N_l_rules : List Str := ["cells", "many", "most", "one", "other", "heads", "words", "rules", "name"]
def rd_l_rules_0 : TS3 :=
      (vAsg (vFrz (vCall sp_l_drawn (aCons (vCall sp_l_cell_at (aCons (vVar 0) (aCons (vC (.int 0)) aNil))) (aCons (vLstF (aCons (vOp rPow (vC (.int 10)) (vC (.int 9))) (aCons (vOp rPow (vC (.int 10)) (vC (.int 9))) aNil))) aNil)))) (wTup 2 (wCons (wName 3) (wCons (wName 4) wNil))))
def rd_l_rules_1 : TS3 :=
      (vSet 5 (vFrz (vCall sp_l_unlike (aCons (vVar 3) (aCons (vVar 1) (aCons (vC (.bl true)) aNil))))))
def rd_l_rules_2 : TS3 :=
      (vSet 6 (vFrz (vCall sp_l_unlike (aCons (vVar 4) (aCons (vC (.int 3)) (aCons (vC (.bl false)) aNil))))))
def rd_l_rules_3 : TS3 :=
      (vSet 7 (vComp (iIt rItN (vSlF (vVar 0) (sPt (vC (.int 1))) sNo)) (wName 0) vTrue (vCall sp_l_rule (aCons (vVar 0) (aCons (vVar 1) (aCons (vVar 2) (aCons (vVar 3) aNil))))) [none, some 5, some 6, some 2]))
def rd_l_rules_b4 : TS3 :=
      (vIfS (vTest (vOp (rIn true) (vVar 8) (vFrz (vComp (iIt rItN (vVar 7)) (wName 0) vTrue (vOp rIx (vVar 0) (vC (.int 0))) [none]))))
        (vDrop (vBM "list" rApp (vVar 7) (aCons (vTup (aCons (vVar 8) (aCons (vTup (aCons (vOp rIx (vVar 6) (vC (.int 0))) aNil)) (aCons (vC (.int 0)) aNil)))) aNil)))
        vNext)
def rd_l_rules_4 : TS3 :=
      (vFor (iIt rItN (vVar 5)) (wName 8) rd_l_rules_b4)
def rd_l_rules_5 : TS3 :=
      (vRet (vVar 7))
def rd_l_rules : TS3 := (vSeq rd_l_rules_0 (vSeq rd_l_rules_1 (vSeq rd_l_rules_2 (vSeq rd_l_rules_3 (vSeq rd_l_rules_4 rd_l_rules_5)))))
end Rg
set_option hygiene false in
local macro_rules | `(tactic| simp? only [$xs,*] $[$l:location]?) => `(tactic| simp only [L3.vAsg, L3.wSub, L3.wTup, L3.wCons, L3.wNil, L3.vNewK, L3.vNewT, L3.vNever, L3.vSeq, L3.vSet, L3.vVar, L3.vC, L3.vOp, L3.vTest, L3.vUn, L3.vCB, L3.vCall, L3.aNil, L3.aCons, L3.vTup, L3.vLst, L3.vLstF, L3.vIf, L3.vIfS, L3.vAnd, L3.vOr, L3.vNot, L3.vAndV, L3.vOrV, L3.vNotV, L3.vTruth, L3.vTru_q1, L3.vTru_q2, L3.vTru_q3, L3.vTru_q4, L3.vTru_q5, L3.vTru_q6, L3.vTru_q7, L3.vTru_q8, L3.vTru_q9, L3.vRet, L3.vDrop, L3.vNext, L3.vBM, L3.vBM0, L3.vSl, L3.vSlF, L3.sNo, L3.sPt, L3.vFor, L3.iIt, L3.iR1, L3.iR2, L3.wName, L3.vComp, L3.vFrz, L3.vTrue, L3.rItN_q1, L3.rItN_q2, L3.rItN_q3, L3.rItN_q4, L3.rItN_q5, L3.rIt_q1, L3.rIt_q2, L3.rIt_q3, L3.rIt_q4, L3.rAdd_q1, L3.rAdd_q2, L3.rAdd_q3, L3.rAdd_q4, L3.rAdd_q5, L3.rAdd_q6, L3.rAdd_q7, L3.rAddF_q1, L3.rAddF_q2, L3.rAddF_q3, L3.rAddF_q4, L3.rAddF_q5, L3.rAddF_q6, L3.rAddF_q7, L3.rII0_q1, L3.rII_q1, L3.rEq_ii, L3.rEq_ss, L3.rEq_bb, isi_non_list, isi_non_tuple, isi_non_int, isi_non_str, isi_non_bool, isi_bl_bool, isi_bl_int, isi_bl_str, isi_bl_list, isi_bl_tuple, isi_int_int, isi_int_bool, isi_int_str, isi_int_tuple, isi_int_list, isi_str_str, isi_str_int, isi_str_tuple, isi_str_list, isi_str_bool, isi_tup_tuple, isi_tup_list, isi_tup_str, isi_tup_int, isi_tup_bool, isi_rl_list, isi_rl_tuple, isi_rl_str, isi_rl_int, isi_rl_bool, isi_put, L3.rLt_q1, L3.rLt_q2, L3.rIx_q1, L3.rIx_q2, L3.rIx_q3, L3.rIx_q4, L3.rIx_q5, L3.rIx_q6, L3.rIx_q7, L3.rIx_q8, L3.rLen_q1, L3.rLen_q2, L3.rLen_q3, L3.rLen_q4, L3.rLen_q5, L3.rLen_q6, L3.rList_q1, L3.rList_q2, L3.rList_q3, L3.rList_q4, L3.rList_q5, L3.rListF_q1, L3.rListF_q2, L3.rListF_q3, L3.rListF_q4, L3.rListF_q5, L3.rTuple_q1, L3.rTuple_q2, L3.rTuple_q3, L3.rStr_q1, L3.rSlF_q1, L3.rSlF_q2, L3.rSlF_q3, L3.rSlF_q4, L3.rSl_q1, L3.rSl_q2, L3.rSl_q3, L3.rSl_q4, L3.rApp_q1, L3.tyW_q1, L3.tyW_q2, L3.tyW_q3, L3.tyW_q4, L3.tyW_q5, L3.tyW_q6, L3.tyW_q7, L3.rMul_q1, L3.rMul_q2, L3.rMul_q3, L3.rMul_q4, L3.rMulF_q1, L3.rMulF_q2, L3.rMulF_q3, L3.rMulF_q4, L3.ends3, L3.cmap3, atI0, atI1, atI2, List.map_cons, List.map_nil, Option.bind_some, Option.bind_none, Option.join_some, List.getElem?_cons_zero, List.getElem?_cons_succ, List.set_cons_zero, List.set_cons_succ, Option.some.injEq, exists_eq_left', exists_eq_left, W.bl.injEq, W.int.injEq, W.str.injEq, Bool.false_eq_true, if_true, if_false, ↓reduceIte, true_and, and_true, sizeLine, put_same, put_put, MO.lst.injEq, MO.dK.injEq, MO.dT.injEq, exists_eq', exists_eq, true_or, or_true, false_and, and_false, or_false, false_or, reduceCtorEq, String.reduceEq, exists_false, cdivT, decide_eq_true_eq, Bool.not_eq_true', Bool.not_true, Bool.not_false, Classical.not_not, decide_eq_false_iff_not, Int.reduceLT, Int.reduceLE, Nat.reduceLT, Nat.reduceLeDiff, Nat.reducePow, List.length_cons, List.length_nil, Nat.reduceAdd, Nat.zero_add, Nat.zero_le, $xs,*] $[$l:location]?)
namespace Rg
open PySem PySem.Spec PyProof.Rows L2 L3
theorem len_made_of : ∀ ws M R, sp_made_of ws M R → ws.length = 2 := by rintro ws M R ⟨_, _, rfl, _⟩; rfl
theorem len_is_name : ∀ ws M R, sp_is_name ws M R → ws.length = 1 := by rintro ws M R ⟨_, rfl, _⟩; rfl
theorem len_check_rule : ∀ ws M R, sp_check_rule ws M R → ws.length = 2 := by rintro ws M R ⟨_, _, rfl, _⟩; rfl
theorem len_l_cell_at : ∀ ws M R, sp_l_cell_at ws M R → ws.length = 2 := by rintro ws M R ⟨_, _, rfl | rfl, _⟩ <;> rfl
theorem len_l_stir : ∀ ws M R, sp_l_stir ws M R → ws.length = 2 := by rintro ws M R ⟨_, _, rfl, _⟩; rfl
theorem len_l_drawn : ∀ ws M R, sp_l_drawn ws M R → ws.length = 2 := by rintro ws M R ⟨_, _, rfl, _⟩; rfl
theorem len_l_unlike : ∀ ws M R, sp_l_unlike ws M R → ws.length = 3 := by rintro ws M R ⟨_, _, _, rfl, _⟩; rfl
theorem len_l_rule : ∀ ws M R, sp_l_rule ws M R → ws.length = 4 := by rintro ws M R ⟨_, _, _, _, rfl, _⟩; rfl
theorem len_l_rules : ∀ ws M R, sp_l_rules ws M R → ws.length = 3 := by rintro ws M R ⟨_, _, _, rfl, _⟩; rfl
theorem occ_one (c : Nat) (g : Str) : occ ⟨#[c]⟩ g = decide (c ∈ cs g) := StrLaws.found_one g c
theorem good_made_of {ws : List W} {M : Mm} {R : K3} (h : sp_made_of ws M R) : rd_made_of (ends3 R) (start3 N_made_of ws) M := by
  obtain ⟨z, g, rfl, hz, r⟩ := h
  show rd_made_of (ends3 R) [some (.str z), some (.str g)] M
  have em : madeB z g = (!decide (V.str z = V.str "") && (cs z).all fun c => decide (c ∈ cs g)) := rfl
  rw [dStr] at em
  simp? only [rd_made_of]
  by_cases hc : z = ""
  · rw [decide_eq_true hc] at em
    simp? only [hc]
    rw [if_neg (by simp)]
    simp at em; rw [em] at r
    exact ⟨_, Sub.refl _, r⟩
  · rw [decide_eq_false hc] at em
    rw [if_pos hc]
    refine map1 (rest := [some (.str g)]) (fun w => match w with | .str x => .bl (occ x g) | _ => .non) (small (by simp; have := cs_len z; unfold cs at this; simp at this; omega)) (fun _ _ => trivial) (fun w hw M' C sb h1 => ?_) (New.frz ?_)
    · obtain ⟨c, _, rfl⟩ := List.mem_map.mp hw
      simp? only [L3.rIn]
      exact h1
    · simp? only [L3.rAll]
      refine ⟨(cs z).map fun c => decide (c ∈ cs g), ?_, _, Sub.refl _, ?_⟩
      · unfold bools
        rw [List.map_map, List.map_map]
        refine List.map_congr_left fun c _ => ?_
        show W.bl (occ ⟨#[c]⟩ g) = _
        rw [occ_one]; rfl
      · rw [List.all_map]
        simp at em
        have e2 : (cs z).all (id ∘ fun c => decide (c ∈ cs g)) = madeB z g := by rw [Bool.eq_iff_iff]; simp [em]
        rw [e2]; exact r
theorem part_len (z : Str) : (Txt.partition z "_").1.length ≤ z.length ∧ (Txt.partition z "_").2.2.length ≤ z.length := by
  have := fact_partition z "_"
  exact ⟨this.1, this.2.2⟩
theorem isName_eq (z : Str) : isNameB z = ((decide ((Txt.partition z "_").2.1 = "") || madeB (Txt.partition z "_").2.2 FIGS) && madeB (Txt.partition z "_").1 GREAT) := by
  unfold isNameB; rw [dStr]
theorem good_is_name {ws : List W} {M : Mm} {R : K3} (h : sp_is_name ws M R) : rd_is_name (ends3 R) (start3 N_is_name ws) M := by
  obtain ⟨z, rfl, hz, r⟩ := h
  show rd_is_name (ends3 R) [some (.str z), none, none] M
  obtain ⟨h1, h3⟩ := part_len z
  have e := isName_eq z
  simp? only [rd_is_name, rd_is_name_0, rd_is_name_1, rd_is_name_2, L3.rPart]
  refine ⟨by decide +kernel, by omega, ?_⟩
  by_cases hc : (Txt.partition z "_").2.1 = ""
  · rw [if_pos hc]
    refine ⟨_, _, rfl, by omega, _, Sub.refl _, ?_⟩
    rw [decide_eq_true hc, Bool.true_or, Bool.true_and] at e
    rw [← e]; exact r
  · rw [if_neg hc]
    rw [decide_eq_false hc, Bool.false_or] at e
    refine ⟨_, _, rfl, by omega, _, rfl, ?_⟩
    split
    · rename_i hb
      rw [show madeB (Txt.partition z "_").2.2 FIGS = true from hb, Bool.true_and] at e
      refine ⟨_, _, rfl, by omega, _, Sub.refl _, ?_⟩
      rw [← e]; exact r
    · rename_i hb
      rw [show madeB (Txt.partition z "_").2.2 FIGS = false by simpa using hb, Bool.false_and] at e
      rw [← e]; exact ⟨_, Sub.refl _, r⟩
def nkw (t : Str) : Key × W := (Sum.inr t, .bl true)
theorem putW_names (acc : List Str) (t : Str) : putW (acc.map nkw) (Sum.inr t : Key) (.bl true) = (addN acc t).map nkw := by
  unfold putW addN
  have e : ((acc.map nkw).any fun kv => decide (kv.1 = Sum.inr t)) = decide (t ∈ acc) := by
    rw [List.any_map, Bool.eq_iff_iff]
    simp [nkw, Function.comp]
  rw [e]
  by_cases h : t ∈ acc
  · rw [if_pos (decide_eq_true h), if_pos h, List.map_map]
    refine List.map_congr_left fun u hu => ?_
    simp [nkw, Function.comp]
  · rw [if_neg (by simpa using h), if_neg h, List.map_append]; rfl
theorem inW_strs {t : Str} {ts : List Str} : inW (.str t) (ts.map W.str) = decide (t ∈ ts) := by
  unfold inW
  rw [List.any_map, Bool.eq_iff_iff]
  simp [Function.comp, eqW]
theorem flat_strsW (ts : List Str) : (ts.map W.str).all flatW = true := by
  rw [List.all_map, List.all_eq_true]; intro t _; rfl
theorem good_check_rule {ws : List W} {M : Mm} {R : K3} (h : sp_check_rule ws M R) : rd_check_rule (ends3 R) (start3 N_check_rule ws) M := by
  obtain ⟨q, ns, rfl, hc, hp, r⟩ := h
  show rd_check_rule (ends3 R) [some (ruleW q), some (.rl (ns.map W.str)), none] M
  simp? only [rd_check_rule, ruleW]
  rw [if_neg (by omega)]
  refine for3 (fun i τ M' => ∃ o, τ = [some (ruleW q), some (.rl (ns.map W.str)), o] ∧ M' = M) ⟨_, rfl, rfl⟩ (fun _ _ _ _ _ => trivial) ?_ ?_
  · rintro i w τ M' hw ⟨o, rfl, rfl⟩
    obtain ⟨t, ht, rfl⟩ := List.mem_map.mp (List.mem_of_getElem? hw)
    obtain ⟨h1, h2⟩ := hp t ht
    simp? only [L3.rIn, inW_strs, flat_strsW, flatW]
    refine ⟨t, rfl, h1, ?_⟩
    simp? only []
    split
    · rename_i hb
      rw [if_neg (by simpa using h2 hb)]
      exact ⟨_, Sub.refl _, _, rfl, rfl⟩
    · exact ⟨_, Sub.refl _, _, rfl, rfl⟩
  · rintro τ M' ⟨o, rfl, rfl⟩
    exact ⟨_, Sub.refl _, r⟩
theorem good_l_cell_at {ws : List W} {M : Mm} {R : K3} (h : sp_l_cell_at ws M R) : rd_l_cell_at (ends3 R) (start3 N_l_cell_at ws) M := by
  obtain ⟨zs, k, e, hi, hk, r⟩ := h
  rcases e with rfl | rfl
  · show rd_l_cell_at (ends3 R) [some (.sc zs), some (.int k)] M
    simp? only [rd_l_cell_at]
    by_cases hd : k < zs.length
    · obtain ⟨x, e, _, m⟩ := atI_of hk hd
      obtain ⟨i, rfl⟩ := hi x m
      rw [if_pos hd]
      exact ⟨_, e, _, Sub.refl _, r i⟩
    · rw [if_neg hd]
      exact ⟨_, Sub.refl _, r 0⟩
  · show rd_l_cell_at (ends3 R) [some (.rl zs), some (.int k)] M
    simp? only [rd_l_cell_at]
    by_cases hd : k < zs.length
    · obtain ⟨x, e, _, m⟩ := atI_of hk hd
      obtain ⟨i, rfl⟩ := hi x m
      rw [if_pos hd]
      exact ⟨_, e, _, Sub.refl _, r i⟩
    · rw [if_neg hd]
      exact ⟨_, Sub.refl _, r 0⟩
abbrev stirE (c k : Int) : Int := c % 10 ^ 40 * 48271 + 3 ^ 60 * (k + 1) * (k + 1) + k
theorem good_l_stir {ws : List W} {M : Mm} {R : K3} (h : sp_l_stir ws M R) : rd_l_stir (ends3 R) (start3 N_l_stir ws) M := by
  obtain ⟨c, k, rfl, h0, h1, r⟩ := h
  show rd_l_stir (ends3 R) [some (.int c), some (.int k), none] M
  simp? only [rd_l_stir, rd_l_stir_0, rd_l_stir_1, rd_l_stir_2]
  have b1 : (stirE c k).natAbs < 2 ^ 200 := stir1 (a := c % 10 ^ 40) (k := k) (Int.emod_nonneg _ (by decide)) (Int.emod_lt_of_pos _ (by decide)) h0 h1
  have b2 : (stirE c k * stirE c k).natAbs < 2 ^ 400 := natAbs_mul_lt b1 b1
  have b3 : (69621 * stirE c k : Int).natAbs < 2 ^ 400 := lt_pow (natAbs_mul_lt (m := 17) (i := 69621) (by decide) b1) (by decide)
  have b4 : (stirE c k * stirE c k + 69621 * stirE c k).natAbs < 2 ^ 401 := natAbs_add_lt b2 b3
  have b1' : (stirE c k).natAbs < 2 ^ 4096 := lt_pow b1 (by decide)
  have b4' : (stirE c k * stirE c k + 69621 * stirE c k).natAbs < 2 ^ 4096 := lt_pow b4 (by decide)
  have p61 : (0 : Int) < 10 ^ (61 : Int).toNat + 7 := by decide
  refine ⟨⟨by decide, by decide, by decide⟩, by decide, .inl (.inr ⟨by decide, by decide⟩), ⟨by decide, by decide, by decide⟩, .inl (.inr ⟨by omega, by omega⟩), .inl (.inr ⟨by omega, by omega⟩), .inr ⟨b1', b1'⟩, .inl (.inl ⟨by decide, by decide⟩), .inr ⟨b4', b4'⟩, ⟨by decide, by decide, by decide⟩, p61, _, Sub.refl _, r _ ?_ ?_⟩
  · exact Int.ediv_nonneg (Int.emod_nonneg _ (Int.ne_of_gt p61)) (by decide)
  · have h2 := Int.emod_lt_of_pos ((stirE c k * stirE c k + 69621 * stirE c k) * (stirE c k * stirE c k + 69621 * stirE c k)) p61
    have h3 : (10 : Int) ^ (61 : Int).toNat + 7 = 10 ^ 61 + 7 := rfl
    rw [h3] at h2
    refine Int.ediv_lt_of_lt_mul (by decide) ?_
    refine Int.lt_trans h2 (by decide)
end Rg
namespace Rg
open PySem PySem.Spec PyProof.Rows L2 L3
theorem drawn_snoc {ds ss : List Int} {i : Nat} {s d : Int} (h : Drawn ds (ss.take i)) (hs : ss[i]? = some s) (hd : Below d s) : Drawn (ds ++ [d]) (ss.take (i + 1)) := by
  rw [List.take_add_one, hs]
  exact Paired.snoc h hd
theorem atI_map {f : Int → W} {ss : List Int} {i : Nat} {s : Int} (h : ss[i]? = some s) : atI (ss.map f) (i : Int) = some (f s) := atI_nat (by rw [List.getElem?_map, h]; rfl)
theorem rangeW_get {lo : Int} {n i : Nat} {w : W} (h : (rangeW lo n)[i]? = some w) : i < n ∧ w = .int (lo + i) := by
  unfold rangeW at h
  rw [List.getElem?_map] at h
  obtain ⟨j, hj, rfl⟩ := Option.map_eq_some_iff.mp h
  obtain ⟨h1, h2⟩ := List.getElem?_eq_some_iff.mp hj
  simp at h1 h2
  subst h2
  exact ⟨h1, rfl⟩
theorem rangeW_len {lo : Int} {n : Nat} : (rangeW lo n).length = n := by unfold rangeW; simp
theorem good_l_drawn {ws : List W} {M : Mm} {R : K3} (h : sp_l_drawn ws M R) : rd_l_drawn (ends3 R) (start3 N_l_drawn ws) M := by
  obtain ⟨c, ss, rfl, hl, hs, r⟩ := h
  show rd_l_drawn (ends3 R) [some (.int c), some (.rl (ss.map W.int)), none, none, none] M
  simp? only [rd_l_drawn, rd_l_drawn_0, rd_l_drawn_1, rd_l_drawn_2]
  intro p hp
  refine ⟨⟨by decide, by decide, by decide⟩, _, rfl, by rw [List.length_map]; omega, by rw [List.length_map]; omega, ?_⟩
  rw [List.length_map, Int.toNat_natCast]
  refine for3 (fun i τ M' => ∃ ds rest o, τ = [some (.int c), some (.rl (ss.map W.int)), some (.ref p), some (.int rest), o] ∧ M' = put M p (.lst (ds.map W.int)) ∧ Drawn ds (ss.take i)) ⟨[], _, _, rfl, rfl, by simp; exact .nil⟩ (fun _ _ _ _ _ => trivial) ?_ ?_
  · rintro i w τ M' hw ⟨ds, rest, o, rfl, rfl, hd⟩
    obtain ⟨hi, rfl⟩ := rangeW_get hw
    rw [Int.zero_add]
    obtain ⟨s, hs'⟩ : ∃ s, ss[i]? = some s := ⟨_, List.getElem?_eq_getElem hi⟩
    obtain ⟨s0, s1⟩ := hs s (List.mem_of_getElem? hs')
    have ea : atI (ss.map W.int) (i : Int) = some (.int s) := atI_map hs'
    have hdl := Paired.length hd
    rw [List.length_take] at hdl
    have hcd : CDivB rest s := ⟨s0, Int.lt_of_le_of_lt s1 (by decide)⟩
    simp? only [rd_l_drawn_b2, ea]
    refine ⟨⟨by decide, by decide, by decide⟩, ?_⟩
    split
    · refine ⟨s0, by rw [List.length_map]; omega, hcd, _, Sub.refl _, ds ++ [rest % s], _, _, rfl, by rw [List.map_append]; rfl, drawn_snoc hd hs' ⟨Int.emod_nonneg _ (by omega), Int.emod_lt_of_pos _ s0⟩⟩
    · refine ⟨c, _, rfl, by omega, by omega, fun z h0 h1 => ?_⟩
      simp? only [ea]
      refine ⟨s0, by rw [List.length_map]; omega, _, Sub.refl _, ds ++ [z % s], _, _, rfl, by rw [List.map_append]; rfl, drawn_snoc hd hs' ⟨Int.emod_nonneg _ (by omega), Int.emod_lt_of_pos _ s0⟩⟩
  · rintro τ M' ⟨ds, rest, o, rfl, rfl, hd⟩
    rw [rangeW_len, List.take_length] at hd
    simp? only [rd_l_drawn_3]
    exact ⟨_, Sub.refl _, r ds hd p hp⟩
theorem good_l_unlike {ws : List W} {M : Mm} {R : K3} (h : sp_l_unlike ws M R) : rd_l_unlike (ends3 R) (start3 N_l_unlike ws) M := by
  obtain ⟨n, m, g, rfl, h0, h1, r⟩ := h
  show rd_l_unlike (ends3 R) [some (.int n), some (.int m), some (.bl g), none, none, none, none, none, none, none, none] M
  have key : ∀ L, L = lettersOf g → (vSeq rd_l_unlike_2 (vSeq rd_l_unlike_3 (vSeq rd_l_unlike_4 (vSeq rd_l_unlike_5 (vSeq rd_l_unlike_6 (vSeq rd_l_unlike_7 rd_l_unlike_8)))))) (ends3 R) [some (.int n), some (.int m), some (.bl g), some (.str L), none, none, none, none, none, none, none] M := by
    rintro L rfl
    obtain ⟨cp, ecp, mcp⟩ := at26' (letters_len g) n
    have hL : (lettersOf g).length ≤ 16777216 := by rw [← cs_len, letters_len]; decide
    simp? only [rd_l_unlike_2, rd_l_unlike_3, rd_l_unlike_4, rd_l_unlike_5, rd_l_unlike_6, rd_l_unlike_7]
    have hsz0 : 0 ≤ n / 26 % 8 := Int.emod_nonneg _ (by decide)
    have hsz1 : n / 26 % 8 < 8 := Int.emod_lt_of_pos _ (by decide)
    have hat0 : 0 ≤ n / 208 % (1 + n / 26 % 8) := Int.emod_nonneg _ (by omega)
    have hat1 : n / 208 % (1 + n / 26 % 8) < 1 + n / 26 % 8 := Int.emod_lt_of_pos _ (by omega)
    refine ⟨hL, cp, ecp, by omega, fun p hp => ⟨m, rfl, by omega, by omega, ?_⟩⟩
    have hpl : (⟨#[cp]⟩ : Str).length = 1 := rfl
    generalize hfi : n / 1664 % 26 = fi
    generalize hsv : n / 26 % 8 = sv at *
    generalize hav : n / 208 % (1 + sv) = av at *
    refine for3 (fun i τ M' => ∃ (ts : List Str) (o9 o10 : Option W), τ = [some (.int n), some (.int m), some (.bl g), some (.str (lettersOf g)), some (.str ⟨#[cp]⟩), some (.int (1 + sv)), some (.int av), some (.int fi), some (.ref p), o9, o10] ∧
      M' = put M p (.lst (ts.map W.str)) ∧ ts.length = i ∧ ∀ t ∈ ts, UnT g t) ⟨[], none, none, rfl, rfl, rfl, fun t ht => nomatch ht⟩ (fun _ _ _ _ _ => trivial) ?_ ?_
    · rintro i w τ M' hw ⟨ts, o9, o10, rfl, rfl, htl, ht⟩
      obtain ⟨hi, rfl⟩ := rangeW_get hw
      rw [Int.zero_add]
      obtain ⟨d, hd, hdm⟩ := at26' (letters_len g) (fi + 3 * (i : Int))
      have hm1 : ((Txt.mul (⟨#[cp]⟩ : Str) av).length : Int) = av := mul_len hpl hat0
      have hm2 : ((Txt.mul (⟨#[cp]⟩ : Str) (1 + sv - av - 1)).length : Int) = 1 + sv - av - 1 := mul_len hpl (by omega)
      have hdl : (⟨#[d]⟩ : Str).length = 1 := rfl
      have l12 : (Txt.mul (⟨#[cp]⟩ : Str) av ++ (⟨#[d]⟩ : Str)).length = (Txt.mul (⟨#[cp]⟩ : Str) av).length + 1 := by rw [strLen_append, hdl]
      have l123 : (Txt.mul (⟨#[cp]⟩ : Str) av ++ (⟨#[d]⟩ : Str) ++ Txt.mul (⟨#[cp]⟩ : Str) (1 + sv - av - 1)).length = (Txt.mul (⟨#[cp]⟩ : Str) av).length + 1 + (Txt.mul (⟨#[cp]⟩ : Str) (1 + sv - av - 1)).length := by rw [strLen_append, l12]
      simp? only [rd_l_unlike_b7]
      refine ⟨.inl (.inl ⟨by decide, by decide⟩), hL, d, hd, by rw [hpl]; decide, by omega, by omega, by omega, by rw [hpl]; decide, by omega, by omega, by omega, by rw [List.length_map]; omega, ?_⟩
      generalize hx : Txt.mul (⟨#[cp]⟩ : Str) av ++ (⟨#[d]⟩ : Str) ++ Txt.mul (⟨#[cp]⟩ : Str) (1 + sv - av - 1) = x at l123 ⊢
      have hxl : x.length ≤ 8 := by omega
      have hxm : ∀ z ∈ cs x, z ∈ cs (lettersOf g) := fun z hz => by
        rw [← hx, cs_app, cs_app] at hz
        rcases List.mem_append.mp hz with q | q
        · rcases List.mem_append.mp q with q | q
          · have := mul_mem q
            rw [cs_one', List.mem_singleton] at this
            rw [this]; exact mcp
          · rw [cs_one', List.mem_singleton] at q
            rw [q]; exact hdm
        · have := mul_mem q
          rw [cs_one', List.mem_singleton] at this
          rw [this]; exact mcp
      have hxn : cs x ≠ [] := fun z => by
        have : x.length = 0 := by rw [← cs_len, z]; rfl
        omega
      have e1 : ts.map W.str ++ [W.str x] = (ts ++ [x]).map W.str := by rw [List.map_append]; rfl
      rw [e1]
      have plain : ∀ o9' o10', ∃ M'', L3.Sub M'' (put M p (.lst ((ts ++ [x]).map W.str))) ∧ ∃ (ts' : List Str) (o9 o10 : Option W), [some (.int n), some (.int m), some (.bl g), some (.str (lettersOf g)), some (.str ⟨#[cp]⟩), some (.int (1 + sv)), some (.int av), some (.int fi), some (.ref p), o9', o10'] = [some (.int n), some (.int m), some (.bl g), some (.str (lettersOf g)), some (.str ⟨#[cp]⟩), some (.int (1 + sv)), some (.int av), some (.int fi), some (.ref p), o9, o10] ∧
          M'' = put M p (.lst (ts'.map W.str)) ∧ ts'.length = i + 1 ∧ ∀ t ∈ ts', UnT g t := fun o9' o10' => by
        refine ⟨_, Sub.refl _, ts ++ [x], _, _, rfl, rfl, by rw [List.length_append, htl]; rfl, fun t h => ?_⟩
        rcases List.mem_append.mp h with q | q
        · exact ht t q
        · rw [List.mem_singleton.mp q]; exact un_plain hxl hxn hxm
      split
      · rename_i hg
        split
        · refine ⟨by omega, ?_⟩
          split
          · have hk : atI ((ts ++ [x]).map W.str) (i : Int) = some (.str x) := by
              refine atI_nat ?_
              rw [List.getElem?_map, List.getElem?_append_right (by omega), htl]
              simp
            have hul : ("_" : Str).length = 1 := by decide +kernel
            have hf0 : 0 ≤ n / 129792 % 10000 := Int.emod_nonneg _ (by decide)
            have hf1 : n / 129792 % 10000 < 10000 := Int.emod_lt_of_pos _ (by decide)
            have hfl : (Str.ofString (toString (n / 129792 % 10000))).length ≤ 10 := PySem.W.KT.len_num hf0 (by omega)
            have hxu : (x ++ ("_" : Str)).length = x.length + 1 := by rw [strLen_append, hul]
            subst hg
            refine .inl ⟨_, _, rfl, hk, ?_⟩
            simp? only []
            refine ⟨by omega, log_small hf0 hf1, by omega, setL put_same (by omega) (by simp; omega) ⟨_, Sub.refl _, ts ++ [x ++ ("_" : Str) ++ Str.ofString (toString (n / 129792 % 10000))], _, _, rfl, ?_, by rw [List.length_append, htl]; rfl, fun t h => ?_⟩⟩
            · rw [put_put, List.map_append, List.map_append]
              congr 2
              rw [List.set_append_right _ _ (by rw [List.length_map, htl]; omega), List.length_map, htl, Int.toNat_natCast, Nat.sub_self]
              rfl
            · rcases List.mem_append.mp h with q | q
              · exact ht t q
              · rw [List.mem_singleton.mp q]; exact un_figs _ hf0 hf1 hxl hxn hxm
          · exact plain _ _
        · exact plain _ _
      · exact plain _ _
    · rintro τ M' ⟨ts, o9, o10, rfl, rfl, htl, ht⟩
      rw [rangeW_len] at htl
      simp? only [rd_l_unlike_8]
      exact ⟨_, Sub.refl _, r ts htl ht p hp⟩
  simp? only [rd_l_unlike, rd_l_unlike_0, rd_l_unlike_1, L3.rUpper]
  cases g with
  | true => exact ⟨by decide +kernel, key _ rfl⟩
  | false => exact key _ rfl
theorem atI_strs {ts : List Str} {k : Int} (h0 : 0 ≤ k) (h1 : k < ts.length) : ∃ t, atI (ts.map W.str) k = some (.str t) ∧ t ∈ ts := by
  obtain ⟨x, e, e2, _⟩ := atI_of (xs := ts.map W.str) h0 (by rw [List.length_map]; exact h1)
  rw [List.getElem?_map] at e2
  obtain ⟨t, ht, rfl⟩ := Option.map_eq_some_iff.mp e2
  exact ⟨t, e, List.mem_of_getElem? ht⟩
theorem flat_six (m : Nat) : (List.replicate m [W.int 6]).flatten = (List.replicate m (6 : Int)).map W.int := by
  induction m with
  | zero => rfl
  | succ m ih => rw [List.replicate_succ, List.flatten_cons, ih, List.replicate_succ]; rfl
theorem cut4 {x1 x2 x3 x4 : Int} {d2 : List Int} {hi : Option Int} {w : W} (h : w ∈ cutW (([x1, x2, x3, x4] ++ d2).map W.int) (some 4) hi) : ∃ d ∈ d2, w = .int d := by
  unfold cutW at h
  have e : HT.sIx (([x1, x2, x3, x4] ++ d2).map W.int).length 0 (some 4) = 4 := by
    have := HT.sIx_nat (([x1, x2, x3, x4] ++ d2).map W.int).length 0 4
    simp at this ⊢
    omega
  rw [e] at h
  have h := List.mem_of_mem_take h
  obtain ⟨d, hd, rfl⟩ := List.mem_map.mp (show w ∈ d2.map W.int from h)
  exact ⟨d, hd, rfl⟩
theorem good_l_rule {ws : List W} {M : Mm} {R : K3} (h : sp_l_rule ws M R) : rd_l_rule (ends3 R) (start3 N_l_rule ws) M := by
  obtain ⟨c, hs, wds, most, rfl, hh0, hh1, hw, hm0, hm1, r⟩ := h
  show rd_l_rule (ends3 R) [some (.int c), some (.rl (hs.map W.str)), some (.rl (wds.map W.str)), some (.int most), none, none, none] M
  simp? only [rd_l_rule, rd_l_rule_0]
  refine ⟨⟨by decide, by decide, by decide⟩, by omega, by omega, by omega, ?_⟩
  rw [flat_six]
  refine ⟨by simp; omega, c, [(hs.length : Int), most + 1, 3, 10 ^ 59] ++ List.replicate most.toNat 6, by simp, by simp; omega, fun s hs' => ?_, fun ds hd => New.frz ?_⟩
  · rcases List.mem_append.mp hs' with q | q
    · simp at q
      rcases q with rfl | rfl | rfl | rfl
      · exact ⟨by omega, Int.le_trans (show (hs.length : Int) ≤ 12 by omega) (by decide)⟩
      · exact ⟨by omega, Int.le_trans (show most + 1 ≤ 5 by omega) (by decide)⟩
      · exact ⟨by decide, by decide⟩
      · exact ⟨by decide, by decide⟩
    · rw [(List.mem_replicate.mp q).2]; exact ⟨by decide, by decide⟩
  · obtain ⟨d1, d2, rfl, e1, e2⟩ := drawn_app hd
    obtain ⟨x1, x2, x3, x4, rfl, b1, b2, b3, b4⟩ := drawn4 e1
    have b6 := drawn_mem e2 (s := 6) fun z hz => (List.mem_replicate.mp hz).2
    have a0 : atI (([x1, x2, x3, x4] ++ d2).map W.int) 0 = some (.int x1) := atI0 _ _
    have a1 : atI (([x1, x2, x3, x4] ++ d2).map W.int) 1 = some (.int x2) := atI_nat (j := 1) rfl
    have a2 : atI (([x1, x2, x3, x4] ++ d2).map W.int) 2 = some (.int x3) := atI_nat (j := 2) rfl
    have a3 : atI (([x1, x2, x3, x4] ++ d2).map W.int) 3 = some (.int x4) := atI_nat (j := 3) rfl
    simp? only [rd_l_rule_1, rd_l_rule_2, a0, a1, a2, a3]
    intro p hp
    have hcl := cut_mid (S := ([x1, x2, x3, x4] ++ d2).map W.int) (i := 4) (j := 4 + x2) (by decide) (by have := b2.1; omega)
    have hcm : ∀ w ∈ cutW (([x1, x2, x3, x4] ++ d2).map W.int) (some 4) (some (4 + x2)), ∃ d, Below d 6 ∧ w = .int d := fun w hw' => by
      obtain ⟨d, hd, e⟩ := cut4 hw'
      exact ⟨d, b6 d hd, e⟩
    generalize cutW (([x1, x2, x3, x4] ++ d2).map W.int) (some 4) (some (4 + x2)) = cw at *
    obtain ⟨b10, b11⟩ := b1
    obtain ⟨b20, b21⟩ := b2
    obtain ⟨b30, b31⟩ := b3
    obtain ⟨b40, b41⟩ := b4
    refine for3 (fun i τ M' => ∃ (ts : List Str) (o6 : Option W), τ = [some (.int c), some (.rl (hs.map W.str)), some (.rl (wds.map W.str)), some (.int most), some (.rl (([x1, x2, x3, x4] ++ d2).map W.int)), some (.ref p), o6] ∧
      M' = put M p (.lst (ts.map W.str)) ∧ ts.length = i ∧ ∀ t ∈ ts, t ∈ wds ∨ t ∈ hs) ⟨[], none, rfl, rfl, rfl, fun t ht => nomatch ht⟩ (fun _ _ _ _ _ => trivial) ?_ ?_
    · rintro i w τ M' hw' ⟨ts, o6, rfl, rfl, htl, ht⟩
      have hi := (List.getElem?_eq_some_iff.mp hw').1
      obtain ⟨d, ⟨hd0, hd1⟩, rfl⟩ := hcm w (List.mem_of_getElem? hw')
      have fin : ∀ t, (t ∈ wds ∨ t ∈ hs) → ∃ (ts' : List Str) (o6 : Option W), [some (.int c), some (.rl (hs.map W.str)), some (.rl (wds.map W.str)), some (.int most), some (.rl (([x1, x2, x3, x4] ++ d2).map W.int)), some (.ref p), some (.int d)] = [some (.int c), some (.rl (hs.map W.str)), some (.rl (wds.map W.str)), some (.int most), some (.rl (([x1, x2, x3, x4] ++ d2).map W.int)), some (.ref p), o6] ∧
          put M p (.lst (ts.map W.str ++ [.str t])) = put M p (.lst (ts'.map W.str)) ∧ ts'.length = i + 1 ∧ ∀ t ∈ ts', t ∈ wds ∨ t ∈ hs := fun t ht' =>
        ⟨ts ++ [t], _, rfl, by rw [List.map_append]; rfl, by rw [List.length_append, htl]; rfl, fun u hu => (List.mem_append.mp hu).elim (ht u) fun q => by rw [List.mem_singleton.mp q]; exact ht'⟩
      simp? only [rd_l_rule_b2, a0]
      split
      · obtain ⟨t, e, m⟩ := atI_strs (ts := wds) (k := d) hd0 (by omega)
        exact ⟨_, e, by rw [List.length_map]; omega, _, Sub.refl _, fin t (.inl m)⟩
      · have hpos : (0 : Int) < ((hs.map W.str).length : Int) := by rw [List.length_map]; omega
        obtain ⟨t, e, m⟩ := atI_strs (ts := hs) (k := (d - 3 + x1) % ((hs.map W.str).length : Int)) (Int.emod_nonneg _ (by omega)) (by have := Int.emod_lt_of_pos (d - 3 + x1) hpos; rw [List.length_map] at this ⊢; exact this)
        exact ⟨hpos, _, e, by rw [List.length_map]; omega, _, Sub.refl _, fin t (.inr m)⟩
    · rintro τ M' ⟨ts, o6, rfl, rfl, htl, ht⟩
      obtain ⟨nm, en, mn⟩ := atI_strs (ts := hs) (k := x1) b10 b11
      simp? only [rd_l_rule_3, a0, a1, a2, a3, en]
      refine ⟨⟨by decide, by decide, by decide⟩, ?_⟩
      obtain ⟨cb, ecb, _, mcb⟩ := atI_of (xs := [W.int 1, W.int 10, W.int (10 ^ (59 : Int).toNat)]) (i := x3) b30 (by simp; omega)
      refine ⟨cb, ecb, ?_⟩
      have hcb : ∃ q : Int, cb = .int q ∧ 0 < q ∧ q ≤ 10 ^ 59 := by
        simp at mcb
        rcases mcb with rfl | rfl | rfl
        · exact ⟨_, rfl, by decide, by decide⟩
        · exact ⟨_, rfl, by decide, by decide⟩
        · exact ⟨_, rfl, by decide, by decide⟩
      obtain ⟨q, rfl, q0, q1⟩ := hcb
      simp? only []
      have hlt := Int.emod_lt_of_pos x4 q0
      refine ⟨q0, _, Sub.new hp, r ⟨nm, ts, x4 % q⟩ ⟨mn, ht, by show ts.length ≤ 4; omega, Int.emod_nonneg _ (by omega), Int.lt_of_lt_of_le hlt (Int.le_trans q1 (by decide))⟩ (by show (ts.length : Int) ≤ most; omega)⟩
end Rg
namespace Rg
open PySem PySem.Spec PyProof.Rows L2 L3
theorem Paired.rules {hs wds : List Str} {most : Int} {xs ys : List W} (h : Paired (fun _ y => ∃ r, y = ruleW r ∧ RuleOf hs wds r ∧ (r.parts.length : Int) ≤ most) xs ys) : ∃ rs : List Rule, ys = rs.map ruleW ∧ rs.length = xs.length ∧ ∀ r ∈ rs, RuleOf hs wds r ∧ (r.parts.length : Int) ≤ most := by
  induction h with
  | nil => exact ⟨[], rfl, rfl, fun r hr => nomatch hr⟩
  | cons a b ih =>
    obtain ⟨r, rfl, h1⟩ := a
    obtain ⟨rs, rfl, hl, h2⟩ := ih
    refine ⟨r :: rs, rfl, by simp [hl], fun q hq => ?_⟩
    rcases List.mem_cons.mp hq with rfl | hq
    · exact h1
    · exact h2 q hq
theorem good_l_rules {ws : List W} {M : Mm} {R : K3} (h : sp_l_rules ws M R) : rd_l_rules (ends3 R) (start3 N_l_rules ws) M := by
  obtain ⟨zs, many, most, rfl, hi, hl, hm0, hm1, ho0, ho1, r⟩ := h
  show rd_l_rules (ends3 R) [some (.rl zs), some (.int many), some (.int most), none, none, none, none, none, none] M
  simp? only [rd_l_rules, rd_l_rules_0]
  refine ⟨zs, 0, .inr rfl, hi, by decide, fun c => ⟨⟨by decide, by decide, by decide⟩, ⟨by decide, by decide, by decide⟩, c, [10 ^ 9, 10 ^ 9], rfl, by decide, fun s hs => ?_, fun ds hd => New.frz ?_⟩⟩
  · simp at hs; subst hs; exact ⟨by decide, by decide⟩
  obtain ⟨x1, x2, rfl, b1, b2⟩ := drawn2 hd
  simp? only [rd_l_rules_1, rd_l_rules_2]
  refine ⟨x1, many, true, rfl, by omega, by omega, fun hs hsl hhs => New.frz ⟨x2, 3, false, rfl, by decide, by decide, fun wds hwl hws => New.frz ?_⟩⟩
  simp? only [rd_l_rules_3]
  have hwl : wds.length = 3 := hwl
  refine map1R (rest := [some (.rl (hs.map W.str)), some (.rl (wds.map W.str)), some (.int most)]) (fun _ y => ∃ r, y = ruleW r ∧ RuleOf hs wds r ∧ (r.parts.length : Int) ≤ most) (small (by have := cutW_len (ws := zs) (lo := some 1) (hi := none); omega)) (fun _ _ => trivial) (fun w hw M' C sb h1 => ?_) fun ys hys p hp => ?_
  · obtain ⟨i, rfl⟩ := hi w (cutW_mem hw)
    simp? only []
    exact ⟨i, hs, wds, most, rfl, by omega, by omega, hwl, by omega, by omega, fun r h2 h3 => h1 _ ⟨r, rfl, h2, h3⟩⟩
  obtain ⟨rs, rfl, hrl, hrs⟩ := Paired.rules hys
  have hcl := cutW_len (ws := zs) (lo := some 1) (hi := none)
  obtain ⟨w0, ew, mw⟩ := atI_strs (ts := wds) (k := 0) (by decide) (by omega)
  simp? only [rd_l_rules_4]
  refine for3 (fun i τ M' => ∃ (qs : List Rule) (o8 : Option W), τ = [some (.rl zs), some (.int many), some (.int most), some (.int x1), some (.int x2), some (.rl (hs.map W.str)), some (.rl (wds.map W.str)), some (.ref p), o8] ∧
      M' = put M p (.lst (qs.map ruleW)) ∧ qs.length ≤ rs.length + i ∧ (∀ r ∈ qs, RuleOf hs wds r ∧ (r.parts.length : Int) ≤ most) ∧ (∀ t ∈ hs.take i, ∃ r ∈ qs, r.name = t)) ⟨rs, _, rfl, rfl, by omega, hrs, by simp⟩ (fun _ _ _ _ _ => trivial) ?_ ?_
  · rintro i w τ M' hw ⟨qs, o8, rfl, rfl, hql, hq, hcov⟩
    rw [List.getElem?_map] at hw
    obtain ⟨t, ht, rfl⟩ := Option.map_eq_some_iff.mp hw
    have hilt := (List.getElem?_eq_some_iff.mp ht).1
    have htm : t ∈ hs := List.mem_of_getElem? ht
    simp? only [rd_l_rules_b4]
    refine map1 (rest := []) (fun w => match w with | .tup (n :: _) => n | _ => .non) (small (by rw [List.length_map]; omega)) (fun M' sb => sb _ _ put_same) (fun w hw M' C sb h1 => ?_) (New.frz ?_)
    · obtain ⟨q, _, rfl⟩ := List.mem_map.mp hw
      simp? only [ruleW]
      exact h1
    have em : (qs.map ruleW).map (fun w => match w with | .tup (n :: _) => n | _ => W.non) = (qs.map Rule.name).map W.str := by
      rw [List.map_map, List.map_map]; rfl
    rw [em]
    simp? only [L3.rIn, inW_strs, flat_strsW, flatW]
    have cov : ∀ qs' : List Rule, (∀ r ∈ qs, r ∈ qs') → (∃ r ∈ qs', r.name = t) → ∀ u ∈ hs.take (i + 1), ∃ r ∈ qs', r.name = u := fun qs' hsub hex u hu => by
      rw [List.take_add_one, ht] at hu
      rcases List.mem_append.mp hu with q | q
      · obtain ⟨r, hr, e⟩ := hcov u q; exact ⟨r, hsub r hr, e⟩
      · simp at q; subst q; exact hex
    split
    · simp? only [ew]
      refine ⟨by rw [List.length_map]; omega, _, Sub.refl _, qs ++ [⟨t, [w0], 0⟩], _, rfl, by rw [List.map_append]; rfl, by simp; omega, fun r hr => ?_, cov _ (fun r hr => List.mem_append_left _ hr) ⟨⟨t, [w0], 0⟩, by simp, rfl⟩⟩
      rcases List.mem_append.mp hr with hr | hr
      · exact hq r hr
      · rw [List.mem_singleton.mp hr]
        exact ⟨⟨htm, fun u hu => .inl (by rw [List.mem_singleton.mp hu]; exact mw), by show 1 ≤ 4; decide, by show (0 : Int) ≤ 0; decide, by show (0 : Int) < 10 ^ 60; decide⟩, by show (1 : Int) ≤ most; omega⟩
    · rename_i hin
      have hin' : t ∈ qs.map Rule.name := Classical.not_not.mp hin
      obtain ⟨r0, hr0, e0⟩ := List.mem_map.mp hin'
      exact ⟨_, Sub.refl _, qs, _, rfl, rfl, by omega, hq, cov _ (fun r hr => hr) ⟨r0, hr0, e0⟩⟩
  · rintro τ M' ⟨qs, o8, rfl, rfl, hql, hq, hcov⟩
    rw [List.length_map] at hql
    rw [List.length_map, List.take_length] at hcov
    simp? only [rd_l_rules_5]
    have hsn : hs.length = many.toNat := hsl
    refine ⟨_, Sub.refl _, r qs ⟨fun e => ?_, by omega, hs, wds, by omega, fun t ht => hhs t ht, fun t ht => hws t ht, fun r hr => (hq r hr).1, hcov⟩ (fun r hr => (hq r hr).2) ⟨hs, by omega, fun r hr => (hq r hr).1.name⟩ p hp⟩
    subst e
    cases hs with
    | nil => simp at hsn; omega
    | cons a b => obtain ⟨r, hr, _⟩ := hcov a List.mem_cons_self; cases hr
end Rg
namespace Rg
open PySem PySem.Spec PyProof.Rows L2 L3
theorem dig_nat : ∀ d, d < 10 → (Nat.digitChar d).toNat = 48 + d := by decide
theorem digits_step {m : Nat} (h : 10 ≤ m) : Nat.toDigits 10 m = Nat.toDigits 10 (m / 10) ++ [Nat.digitChar (m % 10)] := Nat.toDigits_of_base_le (by decide) h
theorem digits_val : ∀ m : Nat, PySem.NumText.digitsVal ((Nat.toDigits 10 m).map Char.toNat) = m := by
  intro m
  induction m using Nat.strongRecOn with
  | ind m ih =>
    by_cases h : m < 10
    · rw [Nat.toDigits_of_lt_base h]
      show 0 * 10 + ((Nat.digitChar m).toNat - 48) = m
      rw [dig_nat m h]; omega
    · rw [digits_step (by omega), List.map_append, List.map_cons, List.map_nil, PySem.NumText.digitsVal_snoc, ih (m / 10) (by omega), dig_nat _ (Nat.mod_lt _ (by decide))]
      omega
def numT (m : Nat) : Str := Str.ofString (toString ((m : Nat) : Int))
theorem cs_num (m : Nat) : cs (numT m) = (Nat.toDigits 10 m).map Char.toNat := PySem.W.KIN.signs_num m
theorem num_len {m : Nat} (h : m < 10 ^ 60) : (numT m).length ≤ 60 := by
  rw [← cs_len, cs_num, List.length_map]
  exact (Nat.length_toDigits_le_iff (by decide) (by decide)).mpr h
theorem fig_range {c : Nat} (h : c ∈ cs FIGS) : 48 ≤ c ∧ c ≤ 57 := by
  have key : ∀ c ∈ cs FIGS, 48 ≤ c ∧ c ≤ 57 := by decide +kernel
  exact key c h
theorem num_int {m : Nat} (h : m < 10 ^ 60) : PySem.intText? (numT m) = some (m : Int) := by
  obtain ⟨h1, h2⟩ := figs_of (m := m)
  have := PySem.intText_digits (x := numT m) (fun c hc => fig_range (h1 c hc)) h2 (by have := num_len h; omega)
  rw [this]
  congr 2
  have e := digits_val m
  rw [← cs_num] at e
  exact e
theorem num_rng {m : Nat} : ∀ c ∈ cs (numT m), 48 ≤ c ∧ c ≤ 57 := fun c hc => fig_range ((figs_of (m := m)).1 c hc)
end Rg
namespace Rg
open PySem PySem.Spec PyProof.Rows L2 L3
def addU {α : Type} [DecidableEq α] (acc : List α) (t : α) : List α := if t ∈ acc then acc else acc ++ [t]
section
variable {α : Type} [DecidableEq α]
theorem addU_mem {acc : List α} {t u : α} : u ∈ addU acc t ↔ u ∈ acc ∨ u = t := by
  unfold addU
  split
  · rename_i h
    constructor
    · exact .inl
    · rintro (q | q)
      · exact q
      · rw [q]; exact h
  · rw [List.mem_append, List.mem_singleton]
theorem addU_len {acc : List α} {t : α} : (addU acc t).length ≤ acc.length + 1 := by
  unfold addU; split
  · omega
  · rw [List.length_append]; exact Nat.le_refl _
theorem addU_nodup {acc : List α} {t : α} (h : acc.Nodup) : (addU acc t).Nodup := by
  unfold addU; split
  · exact h
  · rename_i n
    rw [List.nodup_append]
    refine ⟨h, by simp, fun x hx y hy => ?_⟩
    rw [List.mem_singleton] at hy
    subst hy
    exact fun e => n (e ▸ hx)
def allU (acc ts : List α) : List α := ts.foldl addU acc
theorem allU_mem : ∀ {ts acc : List α} {u : α}, u ∈ allU acc ts ↔ u ∈ acc ∨ u ∈ ts
  | [], acc, u => by simp [allU]
  | t :: r, acc, u => by
    show u ∈ allU (addU acc t) r ↔ _
    rw [allU_mem, addU_mem, List.mem_cons, or_assoc]
theorem allU_len : ∀ {ts acc : List α}, (allU acc ts).length ≤ acc.length + ts.length
  | [], acc => Nat.le_refl _
  | t :: r, acc => by
    have h1 := allU_len (ts := r) (acc := addU acc t)
    have h2 := addU_len (acc := acc) (t := t)
    show (allU (addU acc t) r).length ≤ _
    rw [List.length_cons]; omega
theorem allU_nodup : ∀ {ts acc : List α}, acc.Nodup → (allU acc ts).Nodup
  | [], _, h => h
  | t :: r, acc, h => allU_nodup (ts := r) (addU_nodup h)
end
def endsAt (ps : List Str) : List (List Str) := (List.range (ps.length - 2)).map fun k => ps.drop (k + 1)
def endsAll (rs : List Rule) : List (List Str) := (rs.map fun r => endsAt r.parts).flatten
def endsOf (rs : List Rule) : List (List Str) := allU [] (endsAll rs)
theorem endsAt_mem {ps e : List Str} : e ∈ endsAt ps ↔ ∃ k, k + 2 < ps.length ∧ e = ps.drop (k + 1) := by
  unfold endsAt
  rw [List.mem_map]
  constructor
  · rintro ⟨k, hk, rfl⟩
    rw [List.mem_range] at hk
    exact ⟨k, by omega, rfl⟩
  · rintro ⟨k, hk, rfl⟩
    exact ⟨k, by rw [List.mem_range]; omega, rfl⟩
theorem endsOf_mem {rs : List Rule} {e : List Str} : e ∈ endsOf rs ↔ ∃ r ∈ rs, ∃ k, k + 2 < r.parts.length ∧ e = r.parts.drop (k + 1) := by
  unfold endsOf endsAll
  rw [allU_mem]
  simp only [List.not_mem_nil, false_or, List.mem_flatten, List.mem_map]
  constructor
  · rintro ⟨l, ⟨r, hr, rfl⟩, he⟩
    exact ⟨r, hr, endsAt_mem.mp he⟩
  · rintro ⟨r, hr, h⟩
    exact ⟨_, ⟨r, hr, rfl⟩, endsAt_mem.mpr h⟩
theorem ends_rule {rs : List Rule} {r : Rule} (hr : r ∈ rs) (h : 2 < r.parts.length) : r.parts.drop 1 ∈ endsOf rs := endsOf_mem.mpr ⟨r, hr, 0, by omega, rfl⟩
theorem ends_end {rs : List Rule} {e : List Str} (he : e ∈ endsOf rs) (h : 2 < e.length) : e.drop 1 ∈ endsOf rs := by
  obtain ⟨r, hr, k, hk, rfl⟩ := endsOf_mem.mp he
  rw [List.length_drop] at h
  exact endsOf_mem.mpr ⟨r, hr, k + 1, by omega, by rw [List.drop_drop]⟩
theorem ends_two {rs : List Rule} {e : List Str} (he : e ∈ endsOf rs) : 2 ≤ e.length := by
  obtain ⟨r, hr, k, hk, rfl⟩ := endsOf_mem.mp he
  rw [List.length_drop]; omega
theorem endsAll_len : ∀ {rs : List Rule}, (∀ r ∈ rs, r.parts.length ≤ 4) → (endsAll rs).length ≤ 2 * rs.length
  | [], _ => Nat.le_refl _
  | r :: rs, h => by
    have h1 := endsAll_len (rs := rs) fun q hq => h q (List.mem_cons_of_mem _ hq)
    have h2 := h r List.mem_cons_self
    unfold endsAll at h1 ⊢
    rw [List.map_cons, List.flatten_cons, List.length_append, List.length_cons]
    unfold endsAt
    rw [List.length_map, List.length_range]
    unfold endsAt at h1
    omega
theorem ends_len {rs : List Rule} (h : ∀ r ∈ rs, r.parts.length ≤ 4) : (endsOf rs).length ≤ 2 * rs.length := by
  have h1 := allU_len (ts := endsAll rs) (acc := [])
  have h2 := endsAll_len h
  unfold endsOf
  simp at h1
  omega
theorem ends_nodup {rs : List Rule} : (endsOf rs).Nodup := allU_nodup List.nodup_nil
def mname (i : Nat) : Str := "M" ++ "_" ++ numT i
theorem cs_mname (i : Nat) : cs (mname i) = 77 :: 95 :: cs (numT i) := by
  unfold mname
  rw [cs_app, cs_app, cs_under]
  rfl
theorem num_inj {i j : Nat} (hi : i < 10 ^ 60) (hj : j < 10 ^ 60) (h : cs (numT i) = cs (numT j)) : i = j := by
  have e : numT i = numT j := by
    generalize numT i = a at h ⊢
    generalize numT j = b at h ⊢
    obtain ⟨⟨a⟩⟩ := a
    obtain ⟨⟨b⟩⟩ := b
    simp [cs] at h
    rw [h]
  have h1 := num_int hi
  rw [e, num_int hj] at h1
  injection h1 with h2
  omega
theorem mname_inj {i j : Nat} (hi : i < 10 ^ 60) (hj : j < 10 ^ 60) (h : mname i = mname j) : i = j := by
  have e := congrArg cs h
  rw [cs_mname, cs_mname] at e
  simp only [List.cons.injEq, true_and] at e
  exact num_inj hi hj e
def triedN (old : List Str) (t : Nat) : List Str := ((List.range t).map mname).filter fun n => !decide (n ∈ old)
theorem tried_succ (old : List Str) (t : Nat) : triedN old (t + 1) = if mname t ∈ old then triedN old t else triedN old t ++ [mname t] := by
  unfold triedN
  rw [List.range_succ, List.map_append, List.filter_append]
  by_cases h : mname t ∈ old
  · simp [h]
  · simp [h]
theorem tried_len (old : List Str) (t : Nat) (ht : t < 10 ^ 60) : t ≤ (triedN old t).length + old.length := by
  have key : (((List.range t).map mname).filter fun n => decide (n ∈ old)).length ≤ old.length := by
    refine List.Nodup.length_le_of_subset ?_ fun n hn => by simpa using (List.mem_filter.mp hn).2
    refine List.Nodup.sublist List.filter_sublist ?_
    rw [List.nodup_iff_pairwise_ne, List.pairwise_map]
    refine List.Pairwise.imp_of_mem ?_ (List.nodup_range (n := t))
    intro a b ha hb hab e
    rw [List.mem_range] at ha hb
    exact hab (mname_inj (by omega) (by omega) e)
  have e := List.length_eq_countP_add_countP (fun n => decide (n ∈ old)) (l := (List.range t).map mname)
  rw [List.countP_eq_length_filter, List.countP_eq_length_filter] at e
  rw [List.length_map, List.length_range] at e
  unfold triedN
  have e2 : (((List.range t).map mname).filter fun n => !decide (n ∈ old)) = (((List.range t).map mname).filter fun a => decide ¬ decide (a ∈ old) = true) := by
    congr 1; funext a; simp
  rw [e2]
  omega
def madeN (old : List Str) (n : Nat) : List Str := (triedN old (n + old.length)).take n
theorem tried_pre (old : List Str) {t u : Nat} (h : t ≤ u) : ∃ r, triedN old u = triedN old t ++ r := by
  induction u with
  | zero => obtain rfl : t = 0 := by omega
            exact ⟨[], by simp⟩
  | succ u ih =>
    by_cases e : t = u + 1
    · subst e; exact ⟨[], by simp⟩
    · obtain ⟨r, hr⟩ := ih (by omega)
      rw [tried_succ]
      split
      · exact ⟨r, hr⟩
      · exact ⟨r ++ [mname u], by rw [hr, List.append_assoc]⟩
theorem made_of_tried {old : List Str} {n t : Nat} (hn : (triedN old t).length = n) (ht : t ≤ n + old.length) : triedN old t = madeN old n := by
  obtain ⟨r, hr⟩ := tried_pre old ht
  unfold madeN
  rw [hr, ← hn, List.take_left']
  rfl
theorem made_len {old : List Str} {n : Nat} (h : n + old.length < 10 ^ 60) : (madeN old n).length = n := by
  have := tried_len old (n + old.length) h
  unfold madeN
  rw [List.length_take]
  omega
theorem made_mem {old : List Str} {n : Nat} {t : Str} (h : t ∈ madeN old n) : t ∉ old ∧ ∃ i, i < n + old.length ∧ t = mname i := by
  unfold madeN at h
  have h := List.mem_of_mem_take h
  unfold triedN at h
  obtain ⟨h1, h2⟩ := List.mem_filter.mp h
  obtain ⟨i, hi, rfl⟩ := List.mem_map.mp h1
  rw [List.mem_range] at hi
  exact ⟨by simpa using h2, i, hi, rfl⟩
end Rg
namespace Rg
open PySem PySem.Spec PyProof.Rows L2 L3
def ekey (e : List Str) : List Key := e.map Sum.inr
theorem inr_inj : ∀ {a b : List Str}, a.map (Sum.inr : Str → Key) = b.map Sum.inr → a = b
  | [], [], _ => rfl
  | [], _ :: _, h => by cases h
  | _ :: _, [], h => by cases h
  | x :: a, y :: b, h => by
    simp only [List.map_cons, List.cons.injEq, Sum.inr.injEq] at h
    rw [h.1, inr_inj h.2]
theorem ekey_inj {a b : List Str} (h : ekey a = ekey b) : a = b := inr_inj h
def namesFor (rs : List Rule) : List Str := madeN (namesOf rs) (endsOf rs).length
def pairsE (rs : List Rule) : List (List Str × Str) := (endsOf rs).zip (namesFor rs)
def madeD (rs : List Rule) : List (List Key × W) := (pairsE rs).map fun p => (ekey p.1, .str p.2)
def nameOf (rs : List Rule) (e : List Str) : Str := ((pairsE rs).lookup e).getD ""
theorem lookup_zip : ∀ {es : List (List Str)} {ns : List Str} {e : List Str}, es.length = ns.length → e ∈ es → ∃ n ∈ ns, (es.zip ns).lookup e = some n
  | [], _, e, _, h => by cases h
  | x :: es, [], e, h, _ => by cases h
  | x :: es, n :: ns, e, h, he => by
    rw [List.zip_cons_cons, List.lookup_cons]
    by_cases hx : e = x
    · subst hx
      rw [beq_self_eq_true]
      exact ⟨n, List.mem_cons_self, rfl⟩
    · rw [beq_eq_false_iff_ne.mpr hx]
      rcases List.mem_cons.mp he with h1 | h1
      · exact absurd h1 hx
      · obtain ⟨m, hm, e1⟩ := lookup_zip (es := es) (ns := ns) (by simpa using h) h1
        exact ⟨m, List.mem_cons_of_mem _ hm, e1⟩
theorem look_map : ∀ (l : List (List Str × Str)) (e : List Str), lookW (l.map fun p => ((ekey p.1, W.str p.2) : List Key × W)) (ekey e) = (l.lookup e).map W.str
  | [], e => rfl
  | (x, n) :: l, e => by
    unfold lookW
    rw [List.map_cons, List.find?_cons, List.lookup_cons]
    by_cases hx : e = x
    · subst hx
      simp
    · rw [beq_eq_false_iff_ne.mpr hx, decide_eq_false (fun h => hx (ekey_inj h).symm)]
      exact look_map l e
structure Few (rs : List Rule) : Prop where
  few : rs.length ≤ 60
  prt : ∀ r ∈ rs, r.parts.length ≤ 4
theorem namesOf_len (rs : List Rule) : (namesOf rs).length ≤ rs.length := by
  have := namesFrom_len (rs.map Rule.name) []
  unfold namesOf namesFrom
  simpa using this
theorem Few.sum {rs : List Rule} (f : Few rs) : (endsOf rs).length + (namesOf rs).length ≤ 180 := by
  have h1 := ends_len f.prt
  have h2 := namesOf_len rs
  have := f.few
  omega
theorem Few.len {rs : List Rule} (f : Few rs) : (namesFor rs).length = (endsOf rs).length := made_len (Nat.lt_of_le_of_lt f.sum (by decide))
theorem nameOf_look {rs : List Rule} (f : Few rs) {e : List Str} (he : e ∈ endsOf rs) : lookW (madeD rs) (ekey e) = some (.str (nameOf rs e)) ∧ nameOf rs e ∈ namesFor rs := by
  obtain ⟨n, hn, e1⟩ := lookup_zip (ns := namesFor rs) f.len.symm he
  have e2 : nameOf rs e = n := by unfold nameOf pairsE; rw [e1]; rfl
  rw [e2]
  refine ⟨?_, hn⟩
  unfold madeD
  rw [look_map]
  unfold pairsE
  rw [e1]; rfl
theorem name_mname {rs : List Rule} (f : Few rs) {n : Str} (h : n ∈ namesFor rs) : n ∉ namesOf rs ∧ ∃ i, i < 180 ∧ n = mname i := by
  obtain ⟨h1, i, h2, h3⟩ := made_mem h
  have := f.sum
  exact ⟨h1, i, by omega, h3⟩
def shO (rs : List Rule) (ps : List Str) : List Str := if ps.length ≤ 2 then ps else [ps.headD "", nameOf rs (ps.drop 1)]
theorem sh_two (rs : List Rule) (ps : List Str) : (shO rs ps).length ≤ 2 := by
  unfold shO
  split
  · assumption
  · simp
abbrev NP := Str × List Str
def slotsW (ps : List Str) : W := .tup ((List.range ps.length).map fun (i : Nat) => W.int i)
def itemA (rs : List Rule) (p : Rule × Nat) : NP × W := ((p.1.name, shO rs p.1.parts), .tup [.tup [.int p.2, slotsW (shO rs p.1.parts)]])
def itemB (rs : List Rule) (e : List Str) : NP × W := ((nameOf rs e, shO rs e), slotsW (shO rs e))
def addT (acc : List (NP × W)) (it : NP × W) : List (NP × W) := if it.1 ∈ acc.map Prod.fst then acc else acc ++ [it]
def toldA (rs : List Rule) (n : Nat) : List (NP × W) := ((rs.zipIdx.map (itemA rs)).take n).foldl addT []
def toldB (rs : List Rule) (n : Nat) : List (NP × W) := (((endsOf rs).map (itemB rs)).take n).foldl addT (toldA rs rs.length)
def toldOf (rs : List Rule) : List (NP × W) := toldB rs (endsOf rs).length
theorem addT_mem {acc : List (NP × W)} {it : NP × W} {x : NP} : x ∈ (addT acc it).map Prod.fst ↔ x ∈ acc.map Prod.fst ∨ x = it.1 := by
  unfold addT
  split
  · rename_i h
    constructor
    · exact .inl
    · rintro (q | q)
      · exact q
      · rw [q]; exact h
  · rw [List.map_append, List.mem_append]
    simp
theorem foldT_mem : ∀ {its acc : List (NP × W)} {x : NP}, x ∈ (its.foldl addT acc).map Prod.fst ↔ x ∈ acc.map Prod.fst ∨ x ∈ its.map Prod.fst
  | [], acc, x => by simp
  | it :: r, acc, x => by
    rw [List.foldl_cons, foldT_mem, addT_mem, List.map_cons, List.mem_cons, or_assoc]
theorem foldT_len : ∀ {its acc : List (NP × W)}, (its.foldl addT acc).length ≤ acc.length + its.length
  | [], acc => Nat.le_refl _
  | it :: r, acc => by
    have h1 := foldT_len (its := r) (acc := addT acc it)
    have h2 : (addT acc it).length ≤ acc.length + 1 := by
      unfold addT; split
      · omega
      · rw [List.length_append]; exact Nat.le_refl _
    rw [List.foldl_cons, List.length_cons]; omega
theorem foldT_pre : ∀ {its acc : List (NP × W)}, ∃ r, its.foldl addT acc = acc ++ r
  | [], acc => ⟨[], by simp⟩
  | it :: r, acc => by
    obtain ⟨q, hq⟩ := foldT_pre (its := r) (acc := addT acc it)
    rw [List.foldl_cons, hq]
    unfold addT
    split
    · exact ⟨q, rfl⟩
    · exact ⟨it :: q, by simp⟩
theorem toldA_succ {rs : List Rule} {i : Nat} {r : Rule} (h : rs[i]? = some r) : toldA rs (i + 1) = addT (toldA rs i) (itemA rs (r, i)) := by
  unfold toldA
  rw [List.take_add_one, List.foldl_append]
  have : (rs.zipIdx.map (itemA rs))[i]? = some (itemA rs (r, i)) := by
    rw [List.getElem?_map, List.getElem?_zipIdx, h]; simp
  rw [this]; rfl
theorem toldB_succ {rs : List Rule} {i : Nat} {e : List Str} (h : (endsOf rs)[i]? = some e) : toldB rs (i + 1) = addT (toldB rs i) (itemB rs e) := by
  unfold toldB
  rw [List.take_add_one, List.foldl_append]
  have : ((endsOf rs).map (itemB rs))[i]? = some (itemB rs e) := by rw [List.getElem?_map, h]; rfl
  rw [this]; rfl
theorem toldB_zero (rs : List Rule) : toldB rs 0 = toldA rs rs.length := rfl
theorem toldA_len (rs : List Rule) (i : Nat) : (toldA rs i).length ≤ i := by
  have := foldT_len (its := (rs.zipIdx.map (itemA rs)).take i) (acc := [])
  have h2 := List.length_take_le i (rs.zipIdx.map (itemA rs))
  unfold toldA
  simp only [List.length_nil] at this
  omega
theorem toldB_len (rs : List Rule) (i : Nat) : (toldB rs i).length ≤ rs.length + i := by
  have := foldT_len (its := ((endsOf rs).map (itemB rs)).take i) (acc := toldA rs rs.length)
  have h1 := toldA_len rs rs.length
  have h2 := List.length_take_le i ((endsOf rs).map (itemB rs))
  unfold toldB
  omega
theorem told_len {rs : List Rule} (f : Few rs) : (toldOf rs).length ≤ 180 := by
  have h1 := toldB_len rs (endsOf rs).length
  have h2 := ends_len f.prt
  have := f.few
  unfold toldOf
  omega
theorem told_mem {rs : List Rule} {x : NP} : x ∈ (toldOf rs).map Prod.fst ↔ (∃ r ∈ rs, x = (r.name, shO rs r.parts)) ∨ ∃ e ∈ endsOf rs, x = (nameOf rs e, shO rs e) := by
  unfold toldOf toldB toldA
  rw [foldT_mem, foldT_mem, List.take_of_length_le (by simp), List.take_of_length_le (by simp)]
  simp only [List.map_nil, List.not_mem_nil, false_or, List.map_map, List.mem_map, Function.comp, itemA, itemB]
  constructor
  · rintro (⟨p, hp, rfl⟩ | ⟨e, he, rfl⟩)
    · exact .inl ⟨p.1, by have := List.mem_zipIdx hp; rw [this.2.2]; exact List.getElem_mem _, rfl⟩
    · exact .inr ⟨e, he, rfl⟩
  · rintro (⟨r, hr, rfl⟩ | ⟨e, he, rfl⟩)
    · obtain ⟨i, hi, e⟩ := List.mem_iff_getElem.mp hr
      exact .inl ⟨(r, i), by rw [List.mem_zipIdx_iff_getElem?]; simp [List.getElem?_eq_getElem hi, e], rfl⟩
    · exact .inr ⟨e, he, rfl⟩
theorem told_head {r : Rule} {rs : List Rule} : ∃ v l, toldOf (r :: rs) = ((r.name, shO (r :: rs) r.parts), v) :: l := by
  unfold toldOf toldB
  obtain ⟨l, h⟩ := foldT_pre (its := ((endsOf (r :: rs)).map (itemB (r :: rs))).take (endsOf (r :: rs)).length) (acc := toldA (r :: rs) (r :: rs).length)
  rw [h]
  unfold toldA
  rw [List.zipIdx_cons, List.map_cons, List.length_cons, List.take_succ_cons, List.foldl_cons]
  obtain ⟨l2, h2⟩ := foldT_pre (its := (List.map (itemA (r :: rs)) (rs.zipIdx (0 + 1))).take rs.length) (acc := addT [] (itemA (r :: rs) (r, 0)))
  rw [h2]
  exact ⟨_, _, rfl⟩
def kOf (x : NP) : NKey := (Sum.inr x.1, x.2.map Sum.inr)
theorem kOf_inj {x y : NP} (h : kOf x = kOf y) : x = y := by
  obtain ⟨a, b⟩ := x
  obtain ⟨c, d⟩ := y
  unfold kOf at h
  rw [Prod.mk.injEq] at h
  have h1 := h.1
  injection h1 with h1
  exact Prod.ext h1 (inr_inj h.2)
def kvsOf (l : List (NP × W)) : List (NKey × W) := l.map fun p => (kOf p.1, p.2)
theorem look_kvs (l : List (NP × W)) (x : NP) : (lookW (kvsOf l) (kOf x) = none ∧ x ∉ l.map Prod.fst) ∨ (∃ w, lookW (kvsOf l) (kOf x) = some w) ∧ x ∈ l.map Prod.fst := by
  induction l with
  | nil => exact .inl ⟨rfl, by simp⟩
  | cons p l ih =>
    unfold kvsOf lookW at ih ⊢
    rw [List.map_cons, List.find?_cons, List.map_cons, List.mem_cons]
    by_cases h : p.1 = x
    · rw [decide_eq_true (by rw [h])]
      exact .inr ⟨⟨_, rfl⟩, .inl h.symm⟩
    · rw [decide_eq_false (fun e => h (kOf_inj e))]
      rcases ih with ⟨h1, h2⟩ | ⟨h1, h2⟩
      · exact .inl ⟨h1, fun e => by rcases e with e | e; exact h e.symm; exact h2 e⟩
      · exact .inr ⟨h1, .inr h2⟩
def rOf (x : NP) : Rule := ⟨x.1, x.2, 0⟩
theorem key_rule (x : NP) : keyW [0] (kOf x) = ruleW (rOf x) := by
  unfold keyW kOf ruleW rOf
  simp [wK, Function.comp]
def toldR (rs : List Rule) : List Rule := (toldOf rs).map fun p => rOf p.1
theorem toldR_keys (rs : List Rule) : ((kvsOf (toldOf rs)).map fun p => keyW [0] p.1) = (toldR rs).map ruleW := by
  unfold kvsOf toldR
  rw [List.map_map, List.map_map]
  exact List.map_congr_left fun p _ => key_rule p.1
end Rg
namespace Rg
open PySem PySem.Spec PyProof.Rows L2 L3
def firstG (z : Str) : Bool := match cs z with | c :: _ => decide (c ∈ cs GREAT) | [] => false
theorem word_firstG {t : Str} (h : WordT t) : firstG t = false := by
  unfold firstG
  cases e : cs t with
  | nil => rfl
  | cons c r =>
    have key : ∀ c ∈ cs SMALL, c ∉ cs GREAT := by decide +kernel
    exact decide_eq_false (key c (h.sm c (by rw [e]; simp)))
structure Sh (t : Str) : Prop where
  len : t.length ≤ 60
  ne : cs t ≠ []
  asc : Asc t
theorem Sh.cons {t : Str} (h : Sh t) : ∃ c r, cs t = c :: r := by
  cases e : cs t with
  | nil => exact absurd e h.ne
  | cons c r => exact ⟨c, r, rfl⟩
theorem WordT.sh {t : Str} (h : WordT t) : Sh t := ⟨by have := h.len; omega, h.ne, h.asc⟩
theorem HeadT.sh {t : Str} (h : HeadT t) : Sh t := ⟨by have := h.len; omega, by obtain ⟨c, r, e, _⟩ := h.hd; rw [e]; simp, h.asc⟩
theorem num_len3 {i : Nat} (h : i < 180) : (numT i).length ≤ 3 ∧ 1 ≤ (numT i).length := by
  constructor
  · rw [← cs_len, cs_num, List.length_map]
    exact (Nat.length_toDigits_le_iff (by decide) (by decide)).mpr (by omega)
  · have := (figs_of (m := i)).2
    rw [← cs_len]
    exact List.length_pos_iff.mpr this
theorem mname_len {i : Nat} (h : i < 180) : (mname i).length ≤ 5 := by
  rw [← cs_len, cs_mname]
  have := (num_len3 h).1
  rw [← cs_len] at this
  simp only [List.length_cons]
  omega
theorem mname_sh {i : Nat} (h : i < 180) : Sh (mname i) := ⟨by have := mname_len h; omega, by rw [cs_mname]; simp, fun c hc => by
  rw [cs_mname] at hc
  rcases List.mem_cons.mp hc with rfl | hc
  · decide
  · rcases List.mem_cons.mp hc with rfl | hc
    · decide
    · have := num_rng (m := i) c hc; omega⟩
theorem mname_part (i : Nat) : Txt.partition (mname i) "_" = (("M" : Str), ("_" : Str), numT i) := part_one (by rw [cs_mname]; rfl) (by decide +kernel)
inductive PartOk (rs : List Rule) (p : Str) : Prop
  | word (h : WordT p)
  | old (h : HeadT p) (r : Rule) (hr : r ∈ rs) (e : r.name = p)
  | made (h : p ∈ namesFor rs) (t : Rule) (ht : t ∈ toldR rs) (e : t.name = p)
theorem GoodRules.fewR {rs : List Rule} (g : GoodRules rs) : Few rs := ⟨g.few, fun r hr => by
  obtain ⟨hs, ws, _, _, _, h, _⟩ := g.ex
  exact (h r hr).few⟩
theorem toldR_mem {rs : List Rule} {t : Rule} : t ∈ toldR rs ↔ t.cost = 0 ∧ ((∃ r ∈ rs, t.name = r.name ∧ t.parts = shO rs r.parts) ∨ ∃ e ∈ endsOf rs, t.name = nameOf rs e ∧ t.parts = shO rs e) := by
  unfold toldR
  have key : t ∈ ((toldOf rs).map fun p => rOf p.1) ↔ t.cost = 0 ∧ (t.name, t.parts) ∈ (toldOf rs).map Prod.fst := by
    rw [List.mem_map, List.mem_map]
    constructor
    · rintro ⟨p, hp, rfl⟩
      exact ⟨rfl, p, hp, rfl⟩
    · rintro ⟨h, p, hp, e⟩
      refine ⟨p, hp, ?_⟩
      unfold rOf
      rw [e]
      obtain ⟨n, ps, c⟩ := t
      simp at h
      rw [h]
  rw [key, told_mem]
  simp only [Prod.mk.injEq]
theorem told_old {rs : List Rule} {r : Rule} (hr : r ∈ rs) : ∃ t ∈ toldR rs, t.name = r.name := ⟨⟨r.name, shO rs r.parts, 0⟩, toldR_mem.mpr ⟨rfl, .inl ⟨r, hr, rfl, rfl⟩⟩, rfl⟩
theorem told_new {rs : List Rule} {e : List Str} (he : e ∈ endsOf rs) : ∃ t ∈ toldR rs, t.name = nameOf rs e := ⟨⟨nameOf rs e, shO rs e, 0⟩, toldR_mem.mpr ⟨rfl, .inr ⟨e, he, rfl, rfl⟩⟩, rfl⟩
theorem part_sub {rs : List Rule} (g : GoodRules rs) {ps : List Str} (h : ∀ p ∈ ps, ∃ r ∈ rs, p ∈ r.parts) (h2 : 2 < ps.length → ps.drop 1 ∈ endsOf rs) : ∀ p ∈ shO rs ps, PartOk rs p := by
  have f := g.fewR
  obtain ⟨hs, ws, _, hh, hw, hr, hall⟩ := g.ex
  have old : ∀ p ∈ ps, PartOk rs p := by
    intro p hp
    obtain ⟨r, hr', hp'⟩ := h p hp
    rcases (hr r hr').parts p hp' with q | q
    · exact .word (hw p q)
    · obtain ⟨r2, h3, e⟩ := hall p q
      exact .old (hh p q) r2 h3 e
  intro p hp
  unfold shO at hp
  split at hp
  · exact old p hp
  · rename_i hl
    simp only [List.mem_cons, List.not_mem_nil, or_false] at hp
    rcases hp with rfl | rfl
    · cases ps with
      | nil => simp at hl
      | cons x r => exact old x List.mem_cons_self
    · have he := h2 (by omega)
      obtain ⟨t, ht, e⟩ := told_new he
      exact .made (nameOf_look f he).2 t ht e
theorem ends_parts {rs : List Rule} {e : List Str} (he : e ∈ endsOf rs) : ∀ p ∈ e, ∃ r ∈ rs, p ∈ r.parts := by
  obtain ⟨r, hr, k, hk, rfl⟩ := endsOf_mem.mp he
  exact fun p hp => ⟨r, hr, List.mem_of_mem_drop hp⟩
theorem told_parts {rs : List Rule} (g : GoodRules rs) {t : Rule} (ht : t ∈ toldR rs) : ∀ p ∈ t.parts, PartOk rs p := by
  obtain ⟨_, ⟨r, hr, _, e⟩ | ⟨e', he, _, e⟩⟩ := toldR_mem.mp ht
  · rw [e]; exact part_sub g (fun p hp => ⟨r, hr, hp⟩) (ends_rule hr)
  · rw [e]; exact part_sub g (ends_parts he) (ends_end he)
theorem PartOk.sh {rs : List Rule} (f : Few rs) {p : Str} (h : PartOk rs p) : Sh p := by
  cases h with
  | word h => exact h.sh
  | old h _ _ _ => exact h.sh
  | made h _ _ _ => obtain ⟨_, i, hi, rfl⟩ := name_mname f h; exact mname_sh hi
theorem PartOk.named {rs : List Rule} {p : Str} (h : PartOk rs p) : (WordT p) ∨ ∃ t ∈ toldR rs, t.name = p := by
  cases h with
  | word h => exact .inl h
  | old h r hr e => obtain ⟨t, ht, e2⟩ := told_old hr; exact .inr ⟨t, ht, e2.trans e⟩
  | made h t ht e => exact .inr ⟨t, ht, e⟩
structure OkG (rs : List Rule) : Prop where
  ne : rs ≠ []
  few : rs.length ≤ 400
  ok : ∀ r ∈ rs, 0 ≤ r.cost ∧ ∀ t ∈ r.parts, t.length ≤ 1000 ∧ (isNameB t = true → t ∈ namesOf rs)
theorem GoodRules.okG {rs : List Rule} (g : GoodRules rs) : OkG rs := ⟨g.ne, by have := g.few; omega, fun r hr => good_parts g hr⟩
theorem told_ne {rs : List Rule} (h : rs ≠ []) : ∃ r l v q, rs = r :: l ∧ toldOf rs = ((r.name, shO rs r.parts), v) :: q := by
  cases rs with
  | nil => exact absurd rfl h
  | cons r l => obtain ⟨v, q, e⟩ := told_head (r := r) (rs := l); exact ⟨r, l, v, q, rfl, e⟩
theorem told_okG {rs : List Rule} (g : GoodRules rs) : OkG (toldR rs) := by
  have f := g.fewR
  refine ⟨?_, ?_, fun t ht => ⟨by rw [(toldR_mem.mp ht).1]; exact Int.le_refl _, fun p hp => ?_⟩⟩
  · obtain ⟨r, l, v, q, e, e2⟩ := told_ne g.ne
    unfold toldR
    rw [e2]; simp
  · unfold toldR
    rw [List.length_map]
    have := told_len f
    omega
  · have ok := told_parts g ht p hp
    refine ⟨by have := (ok.sh f).len; omega, fun n => ?_⟩
    rcases ok.named with h | ⟨t', ht', e⟩
    · rw [h.nm] at n; cases n
    · exact namesOf_mem.mpr ⟨t', ht', e⟩
theorem told_names {rs : List Rule} (f : Few rs) {t : Rule} (ht : t ∈ toldR rs) : (∃ r ∈ rs, r.name = t.name) ∨ ∃ i, i < 180 ∧ t.name = mname i := by
  obtain ⟨_, ⟨r, hr, e, _⟩ | ⟨e', he, e, _⟩⟩ := toldR_mem.mp ht
  · exact .inl ⟨r, hr, e.symm⟩
  · obtain ⟨_, i, hi, h⟩ := name_mname f (nameOf_look f he).2
    exact .inr ⟨i, hi, e.trans h⟩
theorem told_two {rs : List Rule} {t : Rule} (ht : t ∈ toldR rs) : t.parts.length ≤ 2 := by
  obtain ⟨_, ⟨r, hr, _, e⟩ | ⟨e', he, _, e⟩⟩ := toldR_mem.mp ht
  · rw [e]; exact sh_two rs _
  · rw [e]; exact sh_two rs _
theorem sh_short {rs : List Rule} {ps : List Str} (h : (shO rs ps).length < 2) : shO rs ps = ps := by
  unfold shO at h ⊢
  split
  · rfl
  · rename_i n
    rw [if_neg n] at h
    simp at h
theorem told_short {rs : List Rule} {t : Rule} (ht : t ∈ toldR rs) (h : t.parts.length < 2) : ∃ r ∈ rs, r.parts = t.parts := by
  obtain ⟨_, ⟨r, hr, _, e⟩ | ⟨e', he, _, e⟩⟩ := toldR_mem.mp ht
  · rw [e] at h ⊢
    exact ⟨r, hr, (sh_short h).symm⟩
  · rw [e] at h
    have h2 := ends_two he
    rw [sh_short h] at h
    omega
theorem put_new {κ : Type} [DecidableEq κ] {kvs : List (κ × W)} {k : κ} {v : W} (h : k ∉ kvs.map Prod.fst) : putW kvs k v = kvs ++ [(k, v)] := by
  unfold putW
  rw [if_neg]
  rw [List.any_eq_true]
  rintro ⟨p, hp, e⟩
  exact h (List.mem_map.mpr ⟨p, hp, by simpa using e⟩)
theorem puts_nodup : ∀ {ps acc : List (List Key × W)}, ((acc ++ ps).map Prod.fst).Nodup → putsT acc ps = acc ++ ps
  | [], acc, _ => by simp [putsT]
  | p :: ps, acc, h => by
    have hn : p.1 ∉ acc.map Prod.fst := by
      rw [List.map_append, List.map_cons, List.nodup_append] at h
      intro hm
      exact h.2.2 _ hm _ List.mem_cons_self rfl
    show putsT (putW acc p.1 p.2) ps = _
    rw [put_new hn]
    have e : acc ++ [(p.1, p.2)] ++ ps = acc ++ p :: ps := by simp
    rw [puts_nodup (by rw [e]; exact h), e]
theorem madeD_keys {rs : List Rule} (f : Few rs) : (madeD rs).map Prod.fst = (endsOf rs).map ekey := by
  unfold madeD pairsE
  rw [List.map_map]
  have : ∀ {es : List (List Str)} {ns : List Str}, es.length = ns.length → (es.zip ns).map (Prod.fst ∘ fun (p : List Str × Str) => ((ekey p.1, W.str p.2) : List Key × W)) = es.map ekey := by
    intro es
    induction es with
    | nil => intro ns _; rfl
    | cons e es ih =>
      intro ns h
      cases ns with
      | nil => cases h
      | cons n ns => rw [List.zip_cons_cons, List.map_cons, List.map_cons, ih (by simpa using h)]; rfl
  exact this f.len.symm
theorem madeD_puts {rs : List Rule} (f : Few rs) : putsT [] (madeD rs) = madeD rs := by
  rw [puts_nodup]
  · simp
  · rw [List.nil_append, madeD_keys f, List.nodup_iff_pairwise_ne, List.pairwise_map]
    exact (List.nodup_iff_pairwise_ne.mp ends_nodup).imp fun h e => h (ekey_inj e)
theorem madeD_vals {rs : List Rule} (f : Few rs) : ((madeD rs).map fun p => p.2) = (namesFor rs).map W.str := by
  unfold madeD pairsE
  rw [List.map_map]
  have : ∀ {es : List (List Str)} {ns : List Str}, es.length = ns.length → (es.zip ns).map ((fun (p : List Key × W) => p.2) ∘ fun (p : List Str × Str) => ((ekey p.1, W.str p.2) : List Key × W)) = ns.map W.str := by
    intro es
    induction es with
    | nil => intro ns h; cases ns with | nil => rfl | cons _ _ => cases h
    | cons e es ih =>
      intro ns h
      cases ns with
      | nil => cases h
      | cons n ns => rw [List.zip_cons_cons, List.map_cons, List.map_cons, ih (by simpa using h)]; rfl
  exact this f.len.symm
theorem wK_inr (l : List Str) : (ekey l).map wK = l.map W.str := by
  unfold ekey
  rw [List.map_map]; rfl
theorem madeD_tups {rs : List Rule} (f : Few rs) : ((madeD rs).map fun p => W.tup (p.1.map wK)) = (endsOf rs).map fun e => W.tup (e.map W.str) := by
  have e : ((madeD rs).map fun p => W.tup (p.1.map wK)) = ((madeD rs).map Prod.fst).map fun k => W.tup (k.map wK) := by rw [List.map_map]; rfl
  rw [e, madeD_keys f, List.map_map]
  exact List.map_congr_left fun l _ => by show W.tup ((ekey l).map wK) = _; rw [wK_inr]
end Rg
namespace Rg
open PySem PySem.Spec PyProof.Rows L2 L3
def sp_namesW : Sp3 := fun ws M R => ∃ rs : List Rule, ws = [.rl (rs.map ruleW)] ∧ rs.length ≤ 400 ∧ New ((namesOf rs).map W.str) M R
def sp_grammar_ofW : Sp3 := fun ws M R => ∃ rs : List Rule, ws = [.rl (rs.map ruleW)] ∧ OkG rs ∧ New (rs.map ruleW) M R
def sp_marks : Sp3 := fun ws M R => ∃ ts : List Str, ws = [.rl (ts.map W.str)] ∧ ts.length ≤ 400 ∧ R (.dk ((ts.foldl addN []).map nkw)) M
def sp_made_names : Sp3 := fun ws M R => ∃ (old : List Str) (n : Nat), ws = [.rl (old.map W.str), .int n] ∧ n + old.length ≤ 400 ∧ New ((madeN old n).map W.str) M R
def sp_slots : Sp3 := fun ws M R => ∃ ps : List Str, ws = [.tup (ps.map W.str)] ∧ ps.length ≤ 1000 ∧ R (slotsW ps) M
structure PlIn (P : Program) (w : World) (C : Addr) (M : Mm) (a d dx : Addr) (l : List (NP × W)) : Prop where
  ob : M a = some (.ins C dx [("backs", .ref d)])
  di : M d = some (.dn P w [0] (kvsOf l))
def sp_Plainer_init (P : Program) (w : World) (C : Addr) : Sp3 := fun ws M R => ∃ a dx, ws = [.ref a] ∧ M a = some (.ins C dx []) ∧ ∀ d, M d = none → R .non (put (put M d (.dn P w [0] [])) a (.ins C dx [("backs", .ref d)]))
def sp_Plainer_put_rule (P : Program) (w : World) (C : Addr) : Sp3 := fun ws M R => ∃ a d dx l, ∃ (x : NP) (v : W), ws = [.ref a, .str x.1, .tup (x.2.map W.str), v] ∧ PlIn P w C M a d dx l ∧ l.length ≤ 400 ∧ R .non (put M d (.dn P w [0] (kvsOf (addT l (x, v)))))
def sp_Plainer_grammar_and_backs (P : Program) (w : World) (C : Addr) : Sp3 := fun ws M R => ∃ a d dx l, ws = [.ref a] ∧ PlIn P w C M a d dx l ∧ ∀ p q, M p = none → M q = none → p ≠ q → R (.tup [.ref p, .ref q]) (put (put M p (.lst ((kvsOf l).map fun z => keyW [0] z.1))) q (.lst ((kvsOf l).map fun z => z.2)))
def sp_long_ends : Sp3 := fun ws M R => ∃ rs : List Rule, ws = [.rl (rs.map ruleW)] ∧ Few rs ∧ New ((endsOf rs).map fun e => W.tup (e.map W.str)) M R
def sp_shortened : Sp3 := fun ws M R => ∃ (rs : List Rule) (ps : List Str), ws = [.tup (ps.map W.str), .dt (madeD rs)] ∧ Few rs ∧ (2 < ps.length → ps.drop 1 ∈ endsOf rs) ∧ R (.tup ((shO rs ps).map W.str)) M
def sp_twos : Sp3 := fun ws M R => ∃ rs : List Rule, ws = [.rl (rs.map ruleW)] ∧ Few rs ∧ ∀ p q, M p = none → M q = none → p ≠ q → R (.tup [.ref p, .ref q]) (put (put M p (.lst ((toldR rs).map ruleW))) q (.lst ((toldOf rs).map fun z => z.2)))
def sp_l_is_name : Sp3 := fun ws M R => ∃ z : Str, ws = [.str z] ∧ Sh z ∧ R (.bl (firstG z)) M
def sp_l_costless : Sp3 := fun ws M R => ∃ (p : Addr) (ts : List Rule), ws = [.ref p] ∧ M p = some (.lst (ts.map ruleW)) ∧ ts.length ≤ 400 ∧ (∀ t ∈ ts, t.cost = 0 ∧ ∀ q ∈ t.parts, Sh q ∧ (firstG q = true → ∃ t' ∈ ts, t'.name = q)) ∧ R (.bl true) M
def sp_l_new_names : Sp3 := fun ws M R => ∃ (rs : List Rule) (p : Addr) (ts : List Rule), ws = [.rl (rs.map ruleW), .ref p] ∧ M p = some (.lst (ts.map ruleW)) ∧ rs.length ≤ 400 ∧ ts.length ≤ 400 ∧ (∀ t ∈ ts, t.name.length ≤ 60 ∧ ((∃ r ∈ rs, r.name = t.name) ∨ ∃ i, i < 180 ∧ t.name = mname i)) ∧ R (.bl true) M
def RPl (rs : List Rule) : Prop := ∀ r ∈ rs, Asc r.name ∧ ∀ t ∈ r.parts, Sh t
def sp_l_none_new : Sp3 := fun ws M R => ∃ (rs : List Rule) (p : Addr) (ts : List Rule), ws = [.rl (rs.map ruleW), .ref p] ∧ M p = some (.lst (ts.map ruleW)) ∧ rs.length ≤ 400 ∧ ts.length ≤ 400 ∧ RPl rs ∧ RPl ts ∧ (∀ t ∈ ts, t.parts.length < 2 → ∃ r ∈ rs, r.parts = t.parts) ∧ R (.bl true) M
abbrev N_namesW : List Str := ["grammar", "found", "rule"]
def rd_namesW_0 : TS3 :=
      (vSet 1 vNewK)
def rd_namesW_b1 : TS3 :=
      (vAsg (vC (.bl true)) (wSub (vVar 1) (vOp rIx (vVar 2) (vC (.int 0)))))
def rd_namesW_1 : TS3 :=
      (vFor (iIt rItN (vVar 0)) (wName 2) rd_namesW_b1)
def rd_namesW_2 : TS3 :=
      (vRet (vCB rList (aCons (vVar 1) aNil)))
def rd_namesW : TS3 := (vSeq rd_namesW_0 (vSeq rd_namesW_1 rd_namesW_2))
abbrev N_grammar_ofW : List Str := ["rules", "known", "rule"]
def rd_grammar_ofW_0 : TS3 :=
      (vIfS (vTest (vOp (rEq false) (vCB rLen (aCons (vVar 0) aNil)) (vC (.int 0))))
        vNever
        vNext)
def rd_grammar_ofW_1 : TS3 :=
      (vSet 1 (vFrz (vCall sp_namesW (aCons (vVar 0) aNil))))
def rd_grammar_ofW_b2 : TS3 :=
      (vDrop (vCall sp_check_rule (aCons (vVar 2) (aCons (vVar 1) aNil))))
def rd_grammar_ofW_2 : TS3 :=
      (vFor (iIt rItN (vVar 0)) (wName 2) rd_grammar_ofW_b2)
def rd_grammar_ofW_3 : TS3 :=
      (vRet (vCB rList (aCons (vVar 0) aNil)))
def rd_grammar_ofW : TS3 := (vSeq rd_grammar_ofW_0 (vSeq rd_grammar_ofW_1 (vSeq rd_grammar_ofW_2 rd_grammar_ofW_3)))
abbrev N_marks : List Str := ["things"]
def rd_marks : TS3 :=
      (vRet (vCB rDictF (aCons (vFrz (vComp (iIt rItN (vVar 0)) (wName 0) vTrue (vTup (aCons (vVar 0) (aCons (vC (.bl true)) aNil))) [none])) aNil)))
abbrev N_made_names : List Str := ["old", "count", "taken", "made", "tried", "name"]
def rd_made_names_0 : TS3 :=
      (vSet 2 (vCall sp_marks (aCons (vVar 0) aNil)))
def rd_made_names_1 : TS3 :=
      (vSet 3 (vLst aNil))
def rd_made_names_2 : TS3 :=
      (vSet 4 (vC (.int 0)))
def rd_made_names_b3 : TS3 :=
      (vSeq (vSet 5 (vOp rAddF (vOp rAddF (vOp rMulF (vC (.str "M")) (vOp rAddF (vC (.int 1)) (vOp rFdiv (vVar 4) (vC (.int 10000))))) (vC (.str "_"))) (vCB rStr (aCons (vOp rMod (vVar 4) (vC (.int 10000))) aNil))))
      (vSeq (vSet 4 (vOp rAddF (vVar 4) (vC (.int 1))))
      (vIfS (vTest (vOp (rIn true) (vVar 5) (vVar 2)))
        (vDrop (vBM "list" rApp (vVar 3) (aCons (vVar 5) aNil)))
        vNext)))
def rd_made_names_3 : TS3 :=
      (vWhile (vTest (vOp rLt (vCB rLen (aCons (vVar 3) aNil)) (vVar 1))) rd_made_names_b3)
def rd_made_names_4 : TS3 :=
      (vRet (vVar 3))
def rd_made_names : TS3 := (vSeq rd_made_names_0 (vSeq rd_made_names_1 (vSeq rd_made_names_2 (vSeq rd_made_names_3 rd_made_names_4))))
abbrev N_slots : List Str := ["parts"]
def rd_slots : TS3 :=
      (vRet (vTupRng (vCB rLen (aCons (vVar 0) aNil))))
abbrev N_Plainer_init : List Str := ["self"]
def rd_Plainer_init (P : Program) (w : World) (C : Addr) : TS3 :=
      (vSetF C (vVar 0) "backs" (vNewN P w [0]))
abbrev N_Plainer_put_rule : List Str := ["self", "name", "parts", "pieces"]
def rd_Plainer_put_rule (P : Program) (w : World) (C : Addr) : TS3 :=
      (vDrop (vSetN P w [0] (vFld C (vVar 0) "backs") (vTup (aCons (vVar 1) (aCons (vVar 2) (aCons (vC (.int 0)) aNil)))) (vVar 3)))
abbrev N_Plainer_grammar_and_backs : List Str := ["self"]
def rd_Plainer_grammar_and_backs (P : Program) (w : World) (C : Addr) : TS3 :=
      (vRet (vTup (aCons (vCB (rListN P w [0]) (aCons (vFld C (vVar 0) "backs") aNil)) (aCons (vCB (rListN P w [0]) (aCons (vValsN P w [0] (vFld C (vVar 0) "backs")) aNil)) aNil))))
abbrev N_long_ends : List Str := ["grammar", "found", "rule", "k"]
def rd_long_ends_0 : TS3 :=
      (vSet 1 vNewT)
def rd_long_ends_b1 : TS3 :=
      (vFor (iR2 (aCons (vC (.int 1)) (aCons (vOp rSub (vCB rLen (aCons (vOp rIx (vVar 2) (vC (.int 1))) aNil)) (vC (.int 1))) aNil))) (wName 3)
        (vAsg (vC (.bl true)) (wSub (vVar 1) (vSlF (vOp rIx (vVar 2) (vC (.int 1))) (sPt (vVar 3)) sNo))))
def rd_long_ends_1 : TS3 :=
      (vFor (iIt rItN (vVar 0)) (wName 2) rd_long_ends_b1)
def rd_long_ends_2 : TS3 :=
      (vRet (vCB rListT (aCons (vVar 1) aNil)))
def rd_long_ends : TS3 := (vSeq rd_long_ends_0 (vSeq rd_long_ends_1 rd_long_ends_2))
abbrev N_shortened : List Str := ["parts", "made"]
def rd_shortened : TS3 :=
      (vRet (vIf (vTest (vOp rLe (vCB rLen (aCons (vVar 0) aNil)) (vC (.int 2)))) (vVar 0) (vTup (aCons (vOp rIx (vVar 0) (vC (.int 0))) (aCons (vOp rIx (vVar 1) (vSlF (vVar 0) (sPt (vC (.int 1))) sNo)) aNil)))))
abbrev N_twos : List Str := ["grammar", "ends", "made", "plain", "number", "rule", "parts", "end"]
def rd_twos_0 (P : Program) (w : World) (C : Addr) : TS3 :=
      (vSet 1 (vFrz (vCall sp_long_ends (aCons (vVar 0) aNil))))
def rd_twos_1 (P : Program) (w : World) (C : Addr) : TS3 :=
      (vSet 2 (vDictZip (aCons (vVar 1) (aCons (vFrz (vCall sp_made_names (aCons (vFrz (vCall sp_namesW (aCons (vVar 0) aNil))) (aCons (vCB rLen (aCons (vVar 1) aNil)) aNil)))) aNil))))
def rd_twos_2 (P : Program) (w : World) (C : Addr) : TS3 :=
      (vSet 3 (vMake C (sp_Plainer_init P w C) aNil))
def rd_twos_b3 (P : Program) (w : World) (C : Addr) : TS3 :=
      (vSeq (vSet 6 (vCall sp_shortened (aCons (vOp rIx (vVar 5) (vC (.int 1))) (aCons (vVar 2) aNil))))
      (vDrop (vMeth C "put_rule" (sp_Plainer_put_rule P w C) (vVar 3) (aCons (vOp rIx (vVar 5) (vC (.int 0))) (aCons (vVar 6) (aCons (vTup (aCons (vTup (aCons (vVar 4) (aCons (vCall sp_slots (aCons (vVar 6) aNil)) aNil))) aNil)) aNil))))))
def rd_twos_3 (P : Program) (w : World) (C : Addr) : TS3 :=
      (vFor (iEnumerate (aCons (vVar 0) aNil)) (wTup 2 (wCons (wName 4) (wCons (wName 5) wNil))) (rd_twos_b3 P w C))
def rd_twos_b4 (P : Program) (w : World) (C : Addr) : TS3 :=
      (vSeq (vSet 6 (vCall sp_shortened (aCons (vVar 7) (aCons (vVar 2) aNil))))
      (vDrop (vMeth C "put_rule" (sp_Plainer_put_rule P w C) (vVar 3) (aCons (vOp rIx (vVar 2) (vVar 7)) (aCons (vVar 6) (aCons (vCall sp_slots (aCons (vVar 6) aNil)) aNil))))))
def rd_twos_4 (P : Program) (w : World) (C : Addr) : TS3 :=
      (vFor (iIt rItN (vVar 1)) (wName 7) (rd_twos_b4 P w C))
def rd_twos_5 (P : Program) (w : World) (C : Addr) : TS3 :=
      (vRet (vMeth C "grammar_and_backs" (sp_Plainer_grammar_and_backs P w C) (vVar 3) aNil))
def rd_twos (P : Program) (w : World) (C : Addr) : TS3 := (vSeq (rd_twos_0 P w C) (vSeq (rd_twos_1 P w C) (vSeq (rd_twos_2 P w C) (vSeq (rd_twos_3 P w C) (vSeq (rd_twos_4 P w C) (rd_twos_5 P w C))))))
abbrev N_l_is_name : List Str := ["part"]
def rd_l_is_name : TS3 :=
      (vRet (vOp (rIn false) (vOp rIx (vVar 0) (vC (.int 0))) (vC (.str "ABCDEFGHIJKLMNOPQRSTUVWXYZ"))))
abbrev N_l_costless : List Str := ["rules", "heads", "rule", "part"]
def rd_l_costless_0 : TS3 :=
      (vSet 1 (vFrz (vComp (iIt rItN (vVar 0)) (wName 0) vTrue (vOp rIx (vVar 0) (vC (.int 0))) [none])))
def rd_l_costless_b1 : TS3 :=
      (vSeq (vIfS (vOr (vNot (vTruth (vCB rIsi (aCons (vVar 2) (aCons (vC (.ty "tuple")) aNil))))) (vOr (vTest (vOp (rEq true) (vCB rLen (aCons (vVar 2) aNil)) (vC (.int 3)))) (vNot (vTruth (vCB rIsi (aCons (vOp rIx (vVar 2) (vC (.int 1))) (aCons (vC (.ty "tuple")) aNil)))))))
        (vRet (vC (.bl false)))
        vNext)
      (vSeq (vIfS (vOr (vTruth (vCB rIsi (aCons (vOp rIx (vVar 2) (vC (.int 2))) (aCons (vC (.ty "bool")) aNil)))) (vTest (vOp (rEq true) (vOp rIx (vVar 2) (vC (.int 2))) (vC (.int 0)))))
        (vRet (vC (.bl false)))
        vNext)
      (vFor (iIt rItN (vOp rIx (vVar 2) (vC (.int 1)))) (wName 3)
        (vIfS (vAnd (vTruth (vCall sp_l_is_name (aCons (vVar 3) aNil))) (vTest (vOp (rIn true) (vVar 3) (vVar 1))))
        (vRet (vC (.bl false)))
        vNext))))
def rd_l_costless_1 : TS3 :=
      (vFor (iIt rItN (vVar 0)) (wName 2) rd_l_costless_b1)
def rd_l_costless_2 : TS3 :=
      (vRet (vC (.bl true)))
def rd_l_costless : TS3 := (vSeq rd_l_costless_0 (vSeq rd_l_costless_1 rd_l_costless_2))
abbrev N_l_new_names : List Str := ["rules", "told", "heads", "name", "letters", "line", "figures"]
def rd_l_new_names_0 : TS3 :=
      (vSet 2 (vFrz (vComp (iIt rItN (vVar 0)) (wName 0) vTrue (vOp rIx (vVar 0) (vC (.int 0))) [none])))
def rd_l_new_names_b1 : TS3 :=
      (vSeq (vAsg (vBM "str" rPart (vVar 3) (aCons (vC (.str "_")) aNil)) (wTup 3 (wCons (wName 4) (wCons (wName 5) (wCons (wName 6) wNil)))))
      (vSeq (vIfS (vAnd (vTest (vOp (rIn true) (vVar 3) (vVar 2))) (vOr (vTest (vOp (rEq false) (vVar 5) (vC (.str "")))) (vOr (vNot (vTest (vChain rLe rLe (vC (.int 1)) (vCB rLen (aCons (vVar 6) aNil)) (vC (.int 4))))) (vNot (vTest (vChain rLe rLe (vC (.int 1)) (vCB rLen (aCons (vVar 4) aNil)) (vC (.int 8))))))))
        (vRet (vC (.bl false)))
        vNext)
      (vIfS (vAnd (vTest (vOp (rIn true) (vVar 3) (vVar 2))) (vTest (vOp (rEq true) (vFrz (vComp (iIt rItN (vVar 6)) (wName 0) (vTest (vOp (rIn true) (vVar 0) (vC (.str "0123456789")))) (vVar 0) [none])) (vLstF aNil))))
        (vRet (vC (.bl false)))
        vNext)))
def rd_l_new_names_1 : TS3 :=
      (vFor (iIt rItN (vFrz (vComp (iIt rItN (vVar 1)) (wName 0) vTrue (vOp rIx (vVar 0) (vC (.int 0))) [none]))) (wName 3) rd_l_new_names_b1)
def rd_l_new_names_2 : TS3 :=
      (vRet (vC (.bl true)))
def rd_l_new_names : TS3 := (vSeq rd_l_new_names_0 (vSeq rd_l_new_names_1 rd_l_new_names_2))
abbrev N_l_none_new : List Str := ["rules", "told", "empty", "single", "name", "parts", "cost"]
def rd_l_none_new_0 : TS3 :=
      (vSet 2 (vOp (rEq true) (vFrz (vComp (iIt rItN (vVar 0)) (wName 0) (vTest (vOp (rEq false) (vOp rIx (vVar 0) (vC (.int 1))) (vTup aNil))) (vVar 0) [none])) (vLstF aNil)))
def rd_l_none_new_1 : TS3 :=
      (vSet 3 (vOp (rEq true) (vFrz (vComp (iIt rItN (vVar 0)) (wName 0) (vAnd (vTest (vOp (rEq false) (vCB rLen (aCons (vOp rIx (vVar 0) (vC (.int 1))) aNil)) (vC (.int 1)))) (vTruth (vCall sp_l_is_name (aCons (vOp rIx (vOp rIx (vVar 0) (vC (.int 1))) (vC (.int 0))) aNil)))) (vVar 0) [none])) (vLstF aNil)))
def rd_l_none_new_b2 : TS3 :=
      (vIfS (vOr (vAnd (vTest (vOp (rEq false) (vVar 5) (vTup aNil))) (vNot (vTruth (vVar 2)))) (vAnd (vTest (vOp (rEq false) (vCB rLen (aCons (vVar 5) aNil)) (vC (.int 1)))) (vAnd (vTruth (vCall sp_l_is_name (aCons (vOp rIx (vVar 5) (vC (.int 0))) aNil))) (vNot (vTruth (vVar 3))))))
        (vRet (vC (.bl false)))
        vNext)
def rd_l_none_new_2 : TS3 :=
      (vFor (iIt rIt (vVar 1)) (wTup 3 (wCons (wName 4) (wCons (wName 5) (wCons (wName 6) wNil)))) rd_l_none_new_b2)
def rd_l_none_new_3 : TS3 :=
      (vRet (vC (.bl true)))
def rd_l_none_new : TS3 := (vSeq rd_l_none_new_0 (vSeq rd_l_none_new_1 (vSeq rd_l_none_new_2 rd_l_none_new_3)))
abbrev N_law : List Str := ["script", "rules", "grammar", "found", "told", "backs", "held", "again"]
def rd_law_0 : TS3 :=
      (vSet 1 (vFrz (vCall sp_l_rules (aCons (vSlF (vVar 0) (sPt (vC (.int 1))) (sPt (vC (.int 34)))) (aCons (vOp rAddF (vC (.int 1)) (vOp rIx (vFrz (vCall sp_l_drawn (aCons (vCall sp_l_cell_at (aCons (vVar 0) (aCons (vC (.int 0)) aNil))) (aCons (vLstF (aCons (vC (.int 4)) aNil)) aNil)))) (vC (.int 0)))) (aCons (vC (.int 4)) aNil))))))
def rd_law_1 : TS3 :=
      (vSet 2 (vFrz (vCall sp_grammar_ofW (aCons (vCB rListF (aCons (vVar 1) aNil)) aNil))))
def rd_law_2 : TS3 :=
      (vSet 3 (vCall sp_twos (aCons (vVar 2) aNil)))
def rd_law_3 : TS3 :=
      (vIfS (vOr (vNot (vTruth (vCB rIsi (aCons (vVar 3) (aCons (vC (.ty "tuple")) aNil))))) (vOr (vTest (vOp (rEq true) (vCB rLen (aCons (vVar 3) aNil)) (vC (.int 2)))) (vTest (vOp (rEq true) (vVar 2) (vVar 1)))))
        (vRet (vC (.bl false)))
        vNext)
def rd_law_4 : TS3 :=
      (vAsg (vVar 3) (wTup 2 (wCons (wName 4) (wCons (wName 5) wNil))))
def rd_law_5 : TS3 :=
      (vIfS (vOr (vNot (vTruth (vCB rIsi (aCons (vVar 4) (aCons (vC (.ty "list")) aNil))))) (vNot (vTruth (vCB rIsi (aCons (vVar 5) (aCons (vC (.ty "list")) aNil))))))
        (vRet (vC (.bl false)))
        vNext)
def rd_law_6 : TS3 :=
      (vIfS (vOr (vTest (vOp (rEq false) (vVar 4) (vLstF aNil))) (vTest (vOp (rEq true) (vCB rLen (aCons (vVar 4) aNil)) (vCB rLen (aCons (vVar 5) aNil)))))
        (vRet (vC (.bl false)))
        vNext)
def rd_law_7 : TS3 :=
      (vIfS (vOr (vNot (vTruth (vCall sp_l_costless (aCons (vVar 4) aNil)))) (vOr (vNot (vTruth (vCall sp_l_new_names (aCons (vVar 1) (aCons (vVar 4) aNil))))) (vNot (vTruth (vCall sp_l_none_new (aCons (vVar 1) (aCons (vVar 4) aNil)))))))
        (vRet (vC (.bl false)))
        vNext)
def rd_law_8 : TS3 :=
      (vIfS (vAnd (vTest (vOp (rEq true) (vOp rIx (vOp rIx (vVar 4) (vC (.int 0))) (vC (.int 0))) (vOp rIx (vOp rIx (vVar 1) (vC (.int 0))) (vC (.int 0))))) (vTest (vOp (rIn false) (vOp rIx (vOp rIx (vVar 4) (vC (.int 0))) (vC (.int 0))) (vFrz (vComp (iIt rItN (vVar 1)) (wName 0) vTrue (vOp rIx (vVar 0) (vC (.int 0))) [none])))))
        (vRet (vC (.bl false)))
        vNext)
def rd_law_9 : TS3 :=
      (vIfS (vTest (vOp rGt (vCB rMax1 (aCons (vFrz (vComp (iIt rItN (vVar 4)) (wName 0) vTrue (vCB rLen (aCons (vOp rIx (vVar 0) (vC (.int 1))) aNil)) [none])) aNil)) (vC (.int 2))))
        (vRet (vC (.bl false)))
        vNext)
def rd_law_10 : TS3 :=
      (vSet 6 (vCB rListF (aCons (vVar 4) aNil)))
def rd_law_11 : TS3 :=
      (vDrop (vBM0 "list" rClr (vVar 4)))
def rd_law_12 : TS3 :=
      (vDrop (vBM0 "list" rClr (vVar 5)))
def rd_law_13 : TS3 :=
      (vSet 7 (vCall sp_twos (aCons (vVar 2) aNil)))
def rd_law_14 : TS3 :=
      (vRet (vAndV (vOp (rEq false) (vOp rIx (vVar 7) (vC (.int 0))) (vVar 6)) (vAndV (vOp (rEq false) (vCB rLen (aCons (vOp rIx (vVar 7) (vC (.int 1))) aNil)) (vCB rLen (aCons (vVar 6) aNil))) (vOp (rEq false) (vFrz (vCall sp_grammar_ofW (aCons (vCB rListF (aCons (vVar 6) aNil)) aNil))) (vVar 6)))))
def rd_law : TS3 := (vSeq rd_law_0 (vSeq rd_law_1 (vSeq rd_law_2 (vSeq rd_law_3 (vSeq rd_law_4 (vSeq rd_law_5 (vSeq rd_law_6 (vSeq rd_law_7 (vSeq rd_law_8 (vSeq rd_law_9 (vSeq rd_law_10 (vSeq rd_law_11 (vSeq rd_law_12 (vSeq rd_law_13 rd_law_14))))))))))))))
end Rg
namespace Rg
open PySem PySem.Spec PyProof.Rows L2 L3
theorem len_namesW : ∀ ws M R, sp_namesW ws M R → ws.length = 1 := by rintro ws M R ⟨_, rfl, _⟩; rfl
theorem len_grammar_ofW : ∀ ws M R, sp_grammar_ofW ws M R → ws.length = 1 := by rintro ws M R ⟨_, rfl, _⟩; rfl
theorem len_marks : ∀ ws M R, sp_marks ws M R → ws.length = 1 := by rintro ws M R ⟨_, rfl, _⟩; rfl
theorem len_made_names : ∀ ws M R, sp_made_names ws M R → ws.length = 2 := by rintro ws M R ⟨_, _, rfl, _⟩; rfl
theorem len_slots : ∀ ws M R, sp_slots ws M R → ws.length = 1 := by rintro ws M R ⟨_, rfl, _⟩; rfl
theorem len_Plainer_init {P : Program} {w : World} {C : Addr} : ∀ ws M R, sp_Plainer_init P w C ws M R → ws.length = 1 := by rintro ws M R ⟨_, _, rfl, _⟩; rfl
theorem len_Plainer_put_rule {P : Program} {w : World} {C : Addr} : ∀ ws M R, sp_Plainer_put_rule P w C ws M R → ws.length = 4 := by rintro ws M R ⟨_, _, _, _, _, _, rfl, _⟩; rfl
theorem len_Plainer_grammar_and_backs {P : Program} {w : World} {C : Addr} : ∀ ws M R, sp_Plainer_grammar_and_backs P w C ws M R → ws.length = 1 := by rintro ws M R ⟨_, _, _, _, rfl, _⟩; rfl
theorem len_long_ends : ∀ ws M R, sp_long_ends ws M R → ws.length = 1 := by rintro ws M R ⟨_, rfl, _⟩; rfl
theorem len_shortened : ∀ ws M R, sp_shortened ws M R → ws.length = 2 := by rintro ws M R ⟨_, _, rfl, _⟩; rfl
theorem good_namesW {ws : List W} {M : Mm} {R : K3} (h : sp_namesW ws M R) : rd_namesW (ends3 R) (start3 N_namesW ws) M := by
  obtain ⟨rs, rfl, hl, r⟩ := h
  show rd_namesW (ends3 R) [some (.rl (rs.map ruleW)), none, none] M
  simp? only [rd_namesW, rd_namesW_0, rd_namesW_1]
  intro p hp
  refine for3 (fun i τ M' => ∃ o, τ = [some (.rl (rs.map ruleW)), some (.ref p), o] ∧ M' = put M p (.dK ((namesOf (rs.take i)).map nkw))) ⟨_, rfl, rfl⟩ (fun _ _ _ _ _ => trivial) ?_ ?_
  · rintro i w τ M' hw ⟨o, rfl, rfl⟩
    rw [List.getElem?_map] at hw
    obtain ⟨q, hq, rfl⟩ := Option.map_eq_some_iff.mp hw
    have hi : i < rs.length := (List.getElem?_eq_some_iff.mp hq).1
    simp? only [rd_namesW_b1, ruleW]
    have e : namesOf (rs.take (i + 1)) = addN (namesOf (rs.take i)) q.name := by
      rw [List.take_add_one, hq]
      unfold namesOf namesFrom
      simp
    have hlen : (namesOf (rs.take i)).length ≤ i := by
      have := namesFrom_len ((rs.take i).map Rule.name) []
      unfold namesOf namesFrom
      simp at this
      simp; omega
    refine setK_str put_same (by rw [List.length_map]; exact smallT (by omega)) ⟨_, Sub.refl _, _, rfl, ?_⟩
    rw [put_put, putW_names, e]
  · rintro τ M' ⟨o, rfl, rfl⟩
    rw [List.length_map, List.take_length]
    simp? only [rd_namesW_2]
    intro q hq
    have hpq : q ≠ p := fun e => by subst e; rw [put_same] at hq; cases hq
    rw [put_ne hpq] at hq
    refine ⟨_, ?_, r q hq⟩
    rw [List.map_map]
    exact Sub.put (Sub.new hp)
theorem good_grammar_ofW {ws : List W} {M : Mm} {R : K3} (h : sp_grammar_ofW ws M R) : rd_grammar_ofW (ends3 R) (start3 N_grammar_ofW ws) M := by
  obtain ⟨rs, rfl, g, r⟩ := h
  show rd_grammar_ofW (ends3 R) [some (.rl (rs.map ruleW)), none, none] M
  simp? only [rd_grammar_ofW, rd_grammar_ofW_0, rd_grammar_ofW_1]
  rw [if_neg (by rw [List.length_map]; have := g.ne; cases rs; exact absurd rfl this; simp; omega)]
  refine ⟨rs, rfl, g.few, New.frz ?_⟩
  simp? only [rd_grammar_ofW_2]
  refine for3 (fun i τ M' => ∃ o, τ = [some (.rl (rs.map ruleW)), some (.rl ((namesOf rs).map W.str)), o] ∧ M' = M) ⟨_, rfl, rfl⟩ (fun _ _ _ _ _ => trivial) ?_ ?_
  · rintro i w τ M' hw ⟨o, rfl, rfl⟩
    obtain ⟨t, ht, rfl⟩ := List.mem_map.mp (List.mem_of_getElem? hw)
    obtain ⟨h1, h2⟩ := g.ok t ht
    simp? only [rd_grammar_ofW_b2]
    exact ⟨t, _, rfl, h1, h2, _, Sub.refl _, _, rfl, rfl⟩
  · rintro τ M' ⟨o, rfl, rfl⟩
    simp? only [rd_grammar_ofW_3]
    exact fun q hq => ⟨_, Sub.refl _, r q hq⟩
theorem puts_marks : ∀ (ts acc : List Str), putsW (acc.map nkw) (ts.map nkw) = (ts.foldl addN acc).map nkw
  | [], acc => rfl
  | t :: r, acc => by
    show putsW (putW (acc.map nkw) (Sum.inr t) (.bl true)) (r.map nkw) = _
    rw [putW_names, puts_marks, List.foldl_cons]
theorem good_marks {ws : List W} {M : Mm} {R : K3} (h : sp_marks ws M R) : rd_marks (ends3 R) (start3 N_marks ws) M := by
  obtain ⟨ts, rfl, hl, r⟩ := h
  show rd_marks (ends3 R) [some (.rl (ts.map W.str))] M
  simp? only [rd_marks]
  refine map1 (rest := []) (fun w => .tup [w, .bl true]) (small (by rw [List.length_map]; omega)) (fun _ _ => trivial) (fun w hw M' C sb h1 => ?_) (New.frz ?_)
  · simp? only []
    exact h1
  · simp? only [L3.rDictF]
    refine ⟨ts.map nkw, ?_, small (by simp; omega), _, Sub.refl _, ?_⟩
    · unfold pairsW
      rw [List.map_map, List.map_map]; rfl
    · rw [show ([] : List (Key × W)) = ([] : List Str).map nkw from rfl, puts_marks]
      exact r
theorem look_nkw (ts : List Str) (n : Str) : (lookW (ts.map nkw) (Sum.inr n : Key)).isSome = decide (n ∈ ts) := by
  induction ts with
  | nil => rfl
  | cons t ts ih =>
    unfold lookW at ih ⊢
    rw [List.map_cons, List.find?_cons]
    by_cases h : t = n
    · subst h; simp [nkw]
    · rw [show decide ((nkw t).1 = (Sum.inr n : Key)) = false by simp [nkw, h]]
      rw [ih]
      have h2 : ¬ n = t := fun e => h e.symm
      simp [h2]
theorem lk_backs {d : Addr} : List.lookup ("backs" : Str) [(("backs" : Str), W.ref d)] = some (.ref d) := by rw [List.lookup_cons, beq_self_eq_true]
theorem mul_M1 : Txt.mul ("M" : Str) 1 = "M" := by decide +kernel
theorem good_made_names {ws : List W} {M : Mm} {R : K3} (h : sp_made_names ws M R) : rd_made_names (ends3 R) (start3 N_made_names ws) M := by
  obtain ⟨old, n, rfl, hl, r⟩ := h
  show rd_made_names (ends3 R) [some (.rl (old.map W.str)), some (.int n), none, none, none, none] M
  simp? only [rd_made_names, rd_made_names_0, rd_made_names_1, rd_made_names_2]
  refine ⟨old, rfl, by omega, fun p hp => ?_⟩
  simp? only [rd_made_names_3, L3.vWhile]
  refine ⟨fun m τ M' => ∃ t o, m = n + old.length - t ∧ t ≤ n + old.length ∧ (triedN old t).length ≤ n ∧ τ = [some (.rl (old.map W.str)), some (.int n), some (.dk ((old.foldl addN []).map nkw)), some (.ref p), some (.int t), o] ∧ M' = put M p (.lst ((triedN old t).map W.str)), ⟨_, 0, none, rfl, Nat.zero_le _, Nat.zero_le _, rfl, rfl⟩, ?_⟩
  rintro m τ M' ⟨t, o, rfl, ht, hlen, rfl, rfl⟩
  simp? only []
  rw [List.length_map]
  have tl := tried_len old t (Nat.lt_of_le_of_lt ht (Nat.lt_of_le_of_lt hl (by decide)))
  by_cases hc : (triedN old t).length < n
  · rw [if_pos (by omega)]
    have e1 : (t : Int) / 10000 = 0 := Int.ediv_eq_zero_of_lt (by omega) (by omega)
    have e2 : (t : Int) % 10000 = t := Int.emod_eq_of_lt (by omega) (by omega)
    have e3 : ((1 : Int) + 0) = 1 := rfl
    have en : (("M" : Str) ++ "_" ++ Str.ofString (toString ((t : Nat) : Int))) = mname t := rfl
    simp? only [rd_made_names_b3, e1, e2, e3, mul_M1]
    have l1 : ("M" : Str).length = 1 := by decide +kernel
    have l2 : ("_" : Str).length = 1 := by decide +kernel
    have l3 : (Str.ofString (toString ((t : Nat) : Int))).length ≤ 10 := PySem.W.KT.len_num (by omega) (by omega)
    refine ⟨by omega, by decide, by omega, log_small (by omega) (by omega), by rw [strLen_append]; omega, ?_⟩
    rw [en]
    have dec : decide (mname t ∈ old.foldl addN []) = decide (mname t ∈ old) := by
      rw [Bool.eq_iff_iff, decide_eq_true_eq, decide_eq_true_eq, names_mem]; simp
    refine ⟨_, ⟨Sum.inr (mname t), rfl, rfl⟩, _, rfl, ?_⟩
    rw [if_pos rfl, look_nkw, dec]
    have ts := tried_succ old t
    have cast : ((t : Int) + 1) = ((t + 1 : Nat) : Int) := by omega
    rw [cast]
    by_cases hm : mname t ∈ old
    · rw [decide_eq_true hm, if_neg (by simp)]
      rw [if_pos hm] at ts
      exact ⟨_, _, by omega, Sub.refl _, t + 1, _, rfl, by omega, by rw [ts]; exact hlen, rfl, by rw [ts]⟩
    · rw [decide_eq_false hm, if_pos (by simp)]
      rw [if_neg hm] at ts
      refine ⟨⟨_, put_same⟩, _, put_same, by rw [List.length_map]; omega, _, _, ?_, Sub.refl _, t + 1, _, rfl, by omega, by rw [ts, List.length_append, List.length_singleton]; omega, rfl, ?_⟩
      · omega
      · rw [put_put, ts, List.map_append]; rfl
  · rw [if_neg (by omega)]
    have e := made_of_tried (old := old) (n := n) (t := t) (by omega) ht
    simp? only [rd_made_names_4]
    rw [e]
    exact ⟨_, Sub.refl _, r p hp⟩
theorem good_slots {ws : List W} {M : Mm} {R : K3} (h : sp_slots ws M R) : rd_slots (ends3 R) (start3 N_slots ws) M := by
  obtain ⟨ps, rfl, hl, r⟩ := h
  show rd_slots (ends3 R) [some (.tup (ps.map W.str))] M
  simp? only [rd_slots, L3.vTupRng]
  refine ⟨ps.length, by rw [List.length_map], hl, _, Sub.refl _, r⟩
theorem good_Plainer_init {P : Program} {w : World} {C : Addr} {ws : List W} {M : Mm} {R : K3} (h : sp_Plainer_init P w C ws M R) : rd_Plainer_init P w C (ends3 R) (start3 N_Plainer_init ws) M := by
  obtain ⟨a, dx, rfl, ha, r⟩ := h
  show rd_Plainer_init P w C (ends3 R) [some (.ref a)] M
  simp? only [rd_Plainer_init, L3.vSetF, L3.vNewN]
  intro d hd
  have hne : a ≠ d := fun e => by subst e; rw [ha] at hd; cases hd
  exact ⟨a, dx, [], rfl, by rw [put_ne hne]; exact ha, by decide, _, Sub.refl _, r d hd⟩
theorem good_Plainer_put_rule {P : Program} {w : World} {C : Addr} {ws : List W} {M : Mm} {R : K3} (h : sp_Plainer_put_rule P w C ws M R) : rd_Plainer_put_rule P w C (ends3 R) (start3 N_Plainer_put_rule ws) M := by
  obtain ⟨a, d, dx, l, x, v, rfl, i, hl, r⟩ := h
  show rd_Plainer_put_rule P w C (ends3 R) [some (.ref a), some (.str x.1), some (.tup (x.2.map W.str)), some v] M
  simp? only [rd_Plainer_put_rule, L3.vSetN, L3.vFld]
  refine ⟨a, dx, _, .ref d, rfl, i.ob, lk_backs, ⟨d, _, rfl, i.di⟩, d, _, kOf x, rfl, i.di, ?_, by unfold kvsOf; rw [List.length_map]; exact smallT (by omega), ?_, ?_⟩
  · unfold keyW kOf
    simp [wK, Function.comp]
  · intro w0 e
    rcases look_kvs l x with ⟨h1, _⟩ | ⟨_, h2⟩
    · rw [h1] at e; cases e
    · unfold addT at r
      rw [if_pos h2, put_self i.di] at r
      exact ⟨_, Sub.refl _, r⟩
  · intro e
    rcases look_kvs l x with ⟨_, h2⟩ | ⟨⟨w0, h1⟩, _⟩
    · unfold addT at r
      rw [if_neg h2] at r
      unfold kvsOf at r
      rw [List.map_append] at r
      exact ⟨_, Sub.refl _, r⟩
    · rw [h1] at e; cases e
theorem good_Plainer_grammar_and_backs {P : Program} {w : World} {C : Addr} {ws : List W} {M : Mm} {R : K3} (h : sp_Plainer_grammar_and_backs P w C ws M R) : rd_Plainer_grammar_and_backs P w C (ends3 R) (start3 N_Plainer_grammar_and_backs ws) M := by
  obtain ⟨a, d, dx, l, rfl, i, r⟩ := h
  show rd_Plainer_grammar_and_backs P w C (ends3 R) [some (.ref a)] M
  simp? only [rd_Plainer_grammar_and_backs, L3.vFld, L3.vValsN]
  refine ⟨a, dx, _, .ref d, rfl, i.ob, lk_backs, .inl ⟨_, i.di, fun p hp => ?_⟩⟩
  have np : ∀ {c : Addr} {o : MO}, M c = some o → c ≠ p := fun hc e => by rw [e, hp] at hc; cases hc
  refine ⟨a, dx, _, .ref d, rfl, by rw [put_ne (np i.ob)]; exact i.ob, lk_backs, d, _, rfl, by rw [put_ne (np i.di)]; exact i.di, fun v hv => ?_⟩
  have vp : v ≠ p := fun e => by rw [e, put_same] at hv; cases hv
  rw [put_ne vp] at hv
  have nv : ∀ {c : Addr} {o : MO}, M c = some o → c ≠ v := fun hc e => by rw [e, hv] at hc; cases hc
  refine .inr ⟨d, _, put_same, by rw [put_ne (nv i.di), put_ne (np i.di)]; exact i.di, fun q hq => ?_⟩
  have qv : q ≠ v := fun e => by rw [e, put_same] at hq; cases hq
  rw [put_ne qv] at hq
  have qp : q ≠ p := fun e => by rw [e, put_same] at hq; cases hq
  have hq' := hq
  rw [put_ne qp] at hq'
  exact ⟨_, Sub.put (Sub.new (by rw [put_ne vp]; exact hv)), r p q hp hq' (Ne.symm qp)⟩
def ekw (e : List Str) : List Key × W := (ekey e, .bl true)
theorem putW_ends (acc : List (List Str)) (e : List Str) : putW (acc.map ekw) (ekey e) (.bl true) = (addU acc e).map ekw := by
  unfold putW addU
  have h : ((acc.map ekw).any fun kv => decide (kv.1 = ekey e)) = decide (e ∈ acc) := by
    rw [List.any_map, Bool.eq_iff_iff, List.any_eq_true, decide_eq_true_eq]
    constructor
    · rintro ⟨x, hx, h⟩
      have := ekey_inj (of_decide_eq_true h)
      rw [← this]; exact hx
    · intro h; exact ⟨e, h, by simp [ekw]⟩
  rw [h]
  by_cases h : e ∈ acc
  · rw [if_pos (decide_eq_true h), if_pos h, List.map_map]
    refine List.map_congr_left fun u hu => ?_
    show (if (ekw u).1 = ekey e then ((ekw u).1, W.bl true) else ekw u) = ekw u
    by_cases hh : (ekw u).1 = ekey e
    · rw [if_pos hh]; rfl
    · rw [if_neg hh]
  · rw [if_neg (by simpa using h), if_neg h, List.map_append]; rfl
theorem endsAll_snoc {rs : List Rule} {i : Nat} {r : Rule} (h : rs[i]? = some r) : endsAll (rs.take (i + 1)) = endsAll (rs.take i) ++ endsAt r.parts := by
  unfold endsAll
  rw [List.take_add_one, h, List.map_append, List.flatten_append]
  simp
theorem allU_app {α : Type} [DecidableEq α] (acc a b : List α) : allU acc (a ++ b) = allU (allU acc a) b := List.foldl_append
theorem endsOf_snoc {rs : List Rule} {i : Nat} {r : Rule} (h : rs[i]? = some r) : endsOf (rs.take (i + 1)) = allU (endsOf (rs.take i)) (endsAt r.parts) := by
  unfold endsOf
  rw [endsAll_snoc h, allU_app]
theorem endsAt_snoc {ps : List Str} {j : Nat} (h : j < ps.length - 2) : (endsAt ps).take (j + 1) = (endsAt ps).take j ++ [ps.drop (j + 1)] := by
  have : (endsAt ps)[j]? = some (ps.drop (j + 1)) := by
    unfold endsAt
    rw [List.getElem?_map, List.getElem?_range h]; rfl
  rw [List.take_add_one, this]; rfl
theorem Few.take {rs : List Rule} (f : Few rs) (i : Nat) : Few (rs.take i) := ⟨by rw [List.length_take]; have := f.few; omega, fun r hr => f.prt r (List.mem_of_mem_take hr)⟩
theorem cut_drop {ws : List W} {k : Nat} (h : k ≤ ws.length) : cutW ws (some (k : Int)) none = ws.drop k := by
  unfold cutW
  have e1 : HT.sIx ws.length 0 (some (k : Int)) = k := by
    rw [HT.sIx_nat]; omega
  have e2 : HT.sIx ws.length ws.length none = ws.length := rfl
  rw [e1, e2, List.take_of_length_le (by rw [List.length_drop]; exact Nat.le_refl _)]
theorem good_shortened {ws : List W} {M : Mm} {R : K3} (h : sp_shortened ws M R) : rd_shortened (ends3 R) (start3 N_shortened ws) M := by
  obtain ⟨rs, ps, rfl, f, he, r⟩ := h
  show rd_shortened (ends3 R) [some (.tup (ps.map W.str)), some (.dt (madeD rs))] M
  simp? only [rd_shortened]
  rw [List.length_map]
  unfold shO at r
  by_cases hl : ps.length ≤ 2
  · rw [if_pos (by omega)]
    rw [if_pos hl] at r
    exact ⟨_, Sub.refl _, r⟩
  · rw [if_neg (by omega)]
    rw [if_neg hl] at r
    cases ps with
    | nil => simp at hl
    | cons x ps =>
      have hm := he (by omega)
      simp? only []
      have ec : (1 : Int) = ((1 : Nat) : Int) := rfl
      refine ⟨fun hx => ?_, _, ⟨ekey ps, ?_, (nameOf_look f hm).1.symm⟩, _, Sub.refl _, ?_⟩
      · have h1 := hx.1
        rw [ec, HT.sIx_nat] at h1
        simp at h1
      · rw [ec, cut_drop (by simp), wK_inr]; rfl
      · exact r
theorem good_long_ends {ws : List W} {M : Mm} {R : K3} (h : sp_long_ends ws M R) : rd_long_ends (ends3 R) (start3 N_long_ends ws) M := by
  obtain ⟨rs, rfl, f, r⟩ := h
  show rd_long_ends (ends3 R) [some (.rl (rs.map ruleW)), none, none, none] M
  simp? only [rd_long_ends, rd_long_ends_0, rd_long_ends_1]
  intro p hp
  refine for3 (fun i τ M' => ∃ o1 o2, τ = [some (.rl (rs.map ruleW)), some (.ref p), o1, o2] ∧ M' = put M p (.dT ((endsOf (rs.take i)).map ekw))) ⟨_, _, rfl, rfl⟩ (fun _ _ _ _ _ => trivial) ?_ ?_
  · rintro i w τ M' hw ⟨o1, o2, rfl, rfl⟩
    rw [List.getElem?_map] at hw
    obtain ⟨q, hq, rfl⟩ := Option.map_eq_some_iff.mp hw
    have hm : q ∈ rs := List.mem_of_getElem? hq
    have h4 := f.prt q hm
    have hi : i < rs.length := (List.getElem?_eq_some_iff.mp hq).1
    have hfew := f.few
    have le0 := ends_len (f.take i).prt
    rw [List.length_take] at le0
    simp? only [rd_long_ends_b1, ruleW]
    rw [List.length_map]
    refine ⟨1, _, rfl, ⟨by decide, by decide, by omega, by omega⟩, ?_⟩
    have er : ((q.parts.length : Int) - 1 - 1).toNat = q.parts.length - 2 := by omega
    rw [er]
    refine for3 (fun j τ M' => ∃ o2, τ = [some (.rl (rs.map ruleW)), some (.ref p), some (ruleW q), o2] ∧ M' = put M p (.dT ((allU (endsOf (rs.take i)) ((endsAt q.parts).take j)).map ekw))) ⟨_, rfl, rfl⟩ (fun _ _ _ _ _ => trivial) ?_ ?_
    · rintro j w τ M' hw ⟨o2, rfl, rfl⟩
      unfold rangeW at hw
      rw [List.getElem?_map] at hw
      obtain ⟨j', hj, rfl⟩ := Option.map_eq_some_iff.mp hw
      have hjl : j < q.parts.length - 2 := by have := (List.getElem?_eq_some_iff.mp hj).1; simpa using this
      obtain rfl : j' = j := by rw [List.getElem?_range hjl] at hj; exact (Option.some.inj hj).symm
      simp? only [ruleW]
      have ec : ((1 : Int) + (j' : Int)) = ((j' + 1 : Nat) : Int) := by omega
      have hml : (q.parts.map W.str).length = q.parts.length := List.length_map ..
      rw [ec]
      refine ⟨fun hx => ?_, ?_⟩
      · rw [HT.sIx_nat] at hx
        have := hx.1
        omega
      · rw [cut_drop (by omega), ← List.map_drop, ← wK_inr]
        have l1 := allU_len (ts := (endsAt q.parts).take j') (acc := endsOf (rs.take i))
        have l2 := List.length_take_le j' (endsAt q.parts)
        refine setT put_same (by rw [List.length_map]; exact smallT (by omega)) ⟨_, Sub.refl _, _, rfl, ?_⟩
        rw [put_put, putW_ends, endsAt_snoc hjl, allU_app]; rfl
    · rintro τ M' ⟨o2, rfl, rfl⟩
      refine ⟨_, Sub.refl _, _, _, rfl, ?_⟩
      have : (rangeW 1 (q.parts.length - 2)).length = (endsAt q.parts).length := by unfold rangeW endsAt; simp
      rw [this, List.take_length, endsOf_snoc hq]
  · rintro τ M' ⟨o1, o2, rfl, rfl⟩
    rw [List.length_map, List.take_length]
    simp? only [rd_long_ends_2, L3.rListT]
    intro q hq
    have hpq : q ≠ p := fun e => by subst e; rw [put_same] at hq; cases hq
    rw [put_ne hpq] at hq
    refine ⟨_, ?_, r q hq⟩
    rw [List.map_map]
    have e : (endsOf rs).map ((fun (p : List Key × W) => W.tup (p.1.map wK)) ∘ ekw) = (endsOf rs).map fun e => W.tup (e.map W.str) := List.map_congr_left fun l _ => by show W.tup ((ekey l).map wK) = _; rw [wK_inr]
    rw [e]
    exact Sub.put (Sub.new hp)
end Rg
namespace Rg
open PySem PySem.Spec PyProof.Rows L2 L3
theorem len_twos : ∀ ws M R, sp_twos ws M R → ws.length = 1 := by rintro ws M R ⟨_, rfl, _⟩; rfl
def Bt (P : Program) (w : World) (C : Addr) (M : Mm) (a d dx : Addr) (l : List (NP × W)) : Mm := put (put M a (.ins C dx [("backs", .ref d)])) d (.dn P w [0] (kvsOf l))
theorem Bt.pl {P : Program} {w : World} {C : Addr} {M : Mm} {a d dx : Addr} {l : List (NP × W)} (h : a ≠ d) : PlIn P w C (Bt P w C M a d dx l) a d dx l := ⟨by unfold Bt; rw [put_ne h, put_same], put_same⟩
theorem Bt.sub {P : Program} {w : World} {C : Addr} {M : Mm} {a d dx : Addr} {l : List (NP × W)} (ha : M a = none) (hd : M d = none) (h : a ≠ d) : Sub M (Bt P w C M a d dx l) := (Sub.new ha).trans (Sub.new (by rw [put_ne (Ne.symm h)]; exact hd))
theorem Bt.put {P : Program} {w : World} {C : Addr} {M : Mm} {a d dx : Addr} {l l' : List (NP × W)} : L3.put (Bt P w C M a d dx l) d (.dn P w [0] (kvsOf l')) = Bt P w C M a d dx l' := put_put
theorem Bt.first {P : Program} {w : World} {C : Addr} {M : Mm} {a d dx : Addr} {o : MO} (h : a ≠ d) : L3.put (L3.put (L3.put M a o) d (.dn P w [0] [])) a (.ins C dx [("backs", .ref d)]) = Bt P w C M a d dx [] := by
  unfold Bt kvsOf
  rw [put_comm (Ne.symm h), put_put]; rfl
theorem lk_put {d : Addr} : List.lookup ("put_rule" : Str) [(("backs" : Str), W.ref d)] = none := by
  rw [List.lookup_cons, show (("put_rule" : Str) == ("backs" : Str)) = false by decide +kernel]; rfl
theorem lk_gab {d : Addr} : List.lookup ("grammar_and_backs" : Str) [(("backs" : Str), W.ref d)] = none := by
  rw [List.lookup_cons, show (("grammar_and_backs" : Str) == ("backs" : Str)) = false by decide +kernel]; rfl
theorem good_twos {P : Program} {w : World} {C : Addr} {ws : List W} {M : Mm} {R : K3} (h : sp_twos ws M R) : rd_twos P w C (ends3 R) (start3 N_twos ws) M := by
  obtain ⟨rs, rfl, f, r⟩ := h
  have hf := f.few
  have fsum := f.sum
  show rd_twos P w C (ends3 R) [some (.rl (rs.map ruleW)), none, none, none, none, none, none, none] M
  simp? only [rd_twos, rd_twos_0, rd_twos_1, rd_twos_2]
  refine ⟨rs, rfl, f, New.frz ?_⟩
  simp? only [L3.vDictZip]
  refine ⟨rs, rfl, by omega, New.frz ⟨namesOf rs, (endsOf rs).length, by rw [List.length_map], by omega, New.frz ⟨madeD rs, by rw [madeD_tups f, madeD_vals f]; rfl, ?_⟩⟩⟩
  rw [madeD_puts f]
  simp? only [L3.vMake]
  intro a dx ha hdx hne
  refine ⟨a, dx, rfl, put_same, fun d hd => ⟨rfl, ?_⟩⟩
  have had : a ≠ d := fun e => by rw [← e, put_same] at hd; cases hd
  rw [put_ne (Ne.symm had)] at hd
  rw [Bt.first had]
  generalize hE : (endsOf rs).map (fun e => W.tup (e.map W.str)) = E
  simp? only [rd_twos_3, L3.iEnumerate]
  refine for3 (fun i τ M' => ∃ o4 o5 o6, τ = [some (.rl (rs.map ruleW)), some (.rl E), some (.dt (madeD rs)), some (.ref a), o4, o5, o6, none] ∧ M' = Bt P w C M a d dx (toldA rs i)) ⟨_, _, _, rfl, rfl⟩ (fun _ _ _ _ _ => trivial) ?_ ?_
  · rintro i v τ M' hw ⟨o4, o5, o6, rfl, rfl⟩
    rw [enumW_get, List.getElem?_map, Option.map_map] at hw
    obtain ⟨q, hq, rfl⟩ := Option.map_eq_some_iff.mp hw
    have hm : q ∈ rs := List.mem_of_getElem? hq
    simp? only [rd_twos_b3, Function.comp, ruleW, L3.vMeth]
    have h2 := sh_two rs q.parts
    have hl := toldA_len rs i
    have hi : i < rs.length := (List.getElem?_eq_some_iff.mp hq).1
    refine ⟨rs, q.parts, rfl, f, ends_rule hm, a, dx, _, rfl, (Bt.pl had).ob, lk_put, shO rs q.parts, rfl, by omega, a, d, dx, toldA rs i, (q.name, shO rs q.parts), _, rfl, Bt.pl had, by omega, _, Sub.refl _, _, _, _, rfl, ?_⟩
    rw [Bt.put, toldA_succ hq]; rfl
  · rintro τ M' ⟨o4, o5, o6, rfl, rfl⟩
    rw [enumW_len, List.length_map]
    simp? only [rd_twos_4]
    refine for3 (fun i τ M' => ∃ o4 o5 o6 o7, τ = [some (.rl (rs.map ruleW)), some (.rl E), some (.dt (madeD rs)), some (.ref a), o4, o5, o6, o7] ∧ M' = Bt P w C M a d dx (toldB rs i)) ⟨_, _, _, _, rfl, by rw [toldB_zero]⟩ (fun _ _ _ _ _ => trivial) ?_ ?_
    · rintro i v τ M' hw ⟨o4, o5, o6, o7, rfl, rfl⟩
      rw [← hE, List.getElem?_map] at hw
      obtain ⟨e, he, rfl⟩ := Option.map_eq_some_iff.mp hw
      have hm : e ∈ endsOf rs := List.mem_of_getElem? he
      simp? only [rd_twos_b4, L3.vMeth]
      have h2 := sh_two rs e
      have hl := toldB_len rs i
      have hi : i < (endsOf rs).length := (List.getElem?_eq_some_iff.mp he).1
      refine ⟨rs, e, rfl, f, ends_end hm, a, dx, _, rfl, (Bt.pl had).ob, lk_put, .str (nameOf rs e), ⟨ekey e, by rw [wK_inr], (nameOf_look f hm).1.symm⟩, shO rs e, rfl, by omega, a, d, dx, toldB rs i, (nameOf rs e, shO rs e), _, rfl, Bt.pl had, by omega, _, Sub.refl _, _, _, _, _, rfl, ?_⟩
      rw [Bt.put, toldB_succ he]; rfl
    · rintro τ M' ⟨o4, o5, o6, o7, rfl, rfl⟩
      rw [← hE, List.length_map]
      simp? only [rd_twos_5, L3.vMeth]
      refine ⟨a, dx, _, rfl, (Bt.pl had).ob, lk_gab, a, d, dx, toldB rs (endsOf rs).length, rfl, Bt.pl had, fun p q hp hq ne => ?_⟩
      have sb := Bt.sub (P := P) (w := w) (C := C) (dx := dx) (l := toldB rs (endsOf rs).length) ha hd had
      have np : ∀ {c : Addr}, Bt P w C M a d dx (toldB rs (endsOf rs).length) c = none → M c = none := fun {c} h => by
        cases e : M c with
        | none => rfl
        | some o => rw [sb c o e] at h; cases h
      refine ⟨_, ?_, r p q (np hp) (np hq) ne⟩
      have e1 : ((kvsOf (toldB rs (endsOf rs).length)).map fun z => keyW [0] z.1) = (toldR rs).map ruleW := toldR_keys rs
      have e2 : ((kvsOf (toldB rs (endsOf rs).length)).map fun z => z.2) = (toldOf rs).map fun z => z.2 := by unfold kvsOf; rw [List.map_map]; rfl
      rw [e1, e2]
      exact Sub.put (Sub.put sb)
end Rg
namespace Rg
open PySem PySem.Spec PyProof.Rows L2 L3
theorem len_l_is_name : ∀ ws M R, sp_l_is_name ws M R → ws.length = 1 := by rintro ws M R ⟨_, rfl, _⟩; rfl
theorem len_l_costless : ∀ ws M R, sp_l_costless ws M R → ws.length = 1 := by rintro ws M R ⟨_, _, rfl, _⟩; rfl
theorem len_l_new_names : ∀ ws M R, sp_l_new_names ws M R → ws.length = 2 := by rintro ws M R ⟨_, _, _, rfl, _⟩; rfl
theorem len_l_none_new : ∀ ws M R, sp_l_none_new ws M R → ws.length = 2 := by rintro ws M R ⟨_, _, _, rfl, _⟩; rfl
theorem good_l_is_name {ws : List W} {M : Mm} {R : K3} (h : sp_l_is_name ws M R) : rd_l_is_name (ends3 R) (start3 N_l_is_name ws) M := by
  obtain ⟨z, rfl, sh, r⟩ := h
  show rd_l_is_name (ends3 R) [some (.str z)] M
  obtain ⟨c, l, e⟩ := sh.cons
  have hl := sh.len
  simp? only [rd_l_is_name]
  have ea : atI z.cps.toList 0 = some c := by
    show atI (cs z) 0 = some c
    rw [e, atI0]
  refine ⟨by omega, c, ea, ?_⟩
  simp? only [L3.rIn]
  rw [occ_one]
  unfold firstG at r
  rw [e] at r
  exact ⟨_, Sub.refl _, r⟩
theorem good_l_costless {ws : List W} {M : Mm} {R : K3} (h : sp_l_costless ws M R) : rd_l_costless (ends3 R) (start3 N_l_costless ws) M := by
  obtain ⟨p, ts, rfl, hp, hl, hok, r⟩ := h
  show rd_l_costless (ends3 R) [some (.ref p), none, none, none] M
  simp? only [rd_l_costless, rd_l_costless_0]
  refine ⟨_, hp, ?_⟩
  refine map1 (rest := []) (fun w => match w with | .tup (n :: _) => n | _ => .non) (small (by rw [List.length_map]; omega)) (fun M' sb => sb _ _ hp) (fun w hw M' C sb h1 => ?_) (New.frz ?_)
  · obtain ⟨t, _, rfl⟩ := List.mem_map.mp hw
    simp? only [ruleW]
    exact h1
  · rw [show ((ts.map ruleW).map fun w => match w with | .tup (n :: _) => n | _ => W.non) = ts.map fun t => W.str t.name by rw [List.map_map]; rfl]
    simp? only [rd_l_costless_1]
    refine ⟨_, hp, ?_⟩
    refine for3 (fun i τ M' => ∃ o2 o3, τ = [some (.ref p), some (.rl (ts.map fun t => W.str t.name)), o2, o3] ∧ M' = M) ⟨_, _, rfl, rfl⟩ (fun i τ M' _ ⟨_, _, _, e⟩ => by rw [e]; exact hp) ?_ ?_
    · rintro i w τ M' hw ⟨o2, o3, rfl, rfl⟩
      obtain ⟨t, ht, rfl⟩ := List.mem_map.mp (List.mem_of_getElem? hw)
      obtain ⟨hc, hq⟩ := hok t ht
      simp? only [rd_l_costless_b1, ruleW, hc]
      refine for3 (fun j τ M2 => ∃ o3, τ = [some (.ref p), some (.rl (ts.map fun t => W.str t.name)), some (ruleW t), o3] ∧ M2 = M') ⟨_, by rw [ruleW, hc], rfl⟩ (fun _ _ _ _ _ => trivial) ?_ ?_
      · rintro j w τ M2 hw ⟨o3, rfl, rfl⟩
        obtain ⟨q, hqm, rfl⟩ := List.mem_map.mp (List.mem_of_getElem? hw)
        obtain ⟨sh, hn⟩ := hq q hqm
        simp? only []
        refine ⟨q, rfl, sh, ?_⟩
        simp? only []
        split
        · rename_i hb
          obtain ⟨t', ht', e⟩ := hn hb
          have ein : inW (.str q) (ts.map fun t => W.str t.name) = true := by
            rw [show (ts.map fun t => W.str t.name) = (ts.map Rule.name).map W.str by rw [List.map_map]; rfl, inW_strs]
            exact decide_eq_true (List.mem_map.mpr ⟨t', ht', e⟩)
          have efl : (ts.map fun t => W.str t.name).all flatW = true := by rw [List.all_map, List.all_eq_true]; intro t _; rfl
          simp? only [L3.rIn, ein, efl, flatW]
          exact ⟨_, Sub.refl _, _, rfl, rfl⟩
        · exact ⟨_, Sub.refl _, _, rfl, rfl⟩
      · rintro τ M2 ⟨o3, rfl, rfl⟩
        exact ⟨_, Sub.refl _, _, _, rfl, rfl⟩
    · rintro τ M' ⟨o2, o3, rfl, rfl⟩
      simp? only [rd_l_costless_2]
      exact ⟨_, Sub.refl _, r⟩
theorem good_l_new_names {ws : List W} {M : Mm} {R : K3} (h : sp_l_new_names ws M R) : rd_l_new_names (ends3 R) (start3 N_l_new_names ws) M := by
  obtain ⟨rs, p, ts, rfl, hp, hl, hl2, hok, r⟩ := h
  show rd_l_new_names (ends3 R) [some (.rl (rs.map ruleW)), some (.ref p), none, none, none, none, none] M
  have first : ∀ l : List Rule, ((l.map ruleW).map fun w => match w with | .tup (n :: _) => n | _ => W.non) = (l.map Rule.name).map W.str := fun l => by rw [List.map_map, List.map_map]; rfl
  simp? only [rd_l_new_names, rd_l_new_names_0]
  refine map1 (rest := []) (fun w => match w with | .tup (n :: _) => n | _ => .non) (small (by rw [List.length_map]; omega)) (fun _ _ => trivial) (fun w hw M' C sb h1 => ?_) (New.frz ?_)
  · obtain ⟨t, _, rfl⟩ := List.mem_map.mp hw
    simp? only [ruleW]
    exact h1
  rw [first]
  simp? only [rd_l_new_names_1]
  refine ⟨_, hp, ?_⟩
  refine map1 (rest := []) (fun w => match w with | .tup (n :: _) => n | _ => .non) (small (by rw [List.length_map]; omega)) (fun M' sb => sb _ _ hp) (fun w hw M' C sb h1 => ?_) (New.frz ?_)
  · obtain ⟨t, _, rfl⟩ := List.mem_map.mp hw
    simp? only [ruleW]
    exact h1
  rw [first]
  simp? only []
  refine for3 (fun i τ M' => ∃ o3 o4 o5 o6, τ = [some (.rl (rs.map ruleW)), some (.ref p), some (.rl ((rs.map Rule.name).map W.str)), o3, o4, o5, o6] ∧ M' = M) ⟨_, _, _, _, rfl, rfl⟩ (fun _ _ _ _ _ => trivial) ?_ ?_
  · rintro i w τ M' hw ⟨o3, o4, o5, o6, rfl, rfl⟩
    obtain ⟨z, hz, rfl⟩ := List.mem_map.mp (List.mem_of_getElem? hw)
    obtain ⟨t, ht, rfl⟩ := List.mem_map.mp hz
    obtain ⟨h60, hcase⟩ := hok t ht
    simp? only [rd_l_new_names_b1, L3.rPart, L3.rIn, inW_strs, flat_strsW, flatW]
    refine ⟨by decide +kernel, by omega, ?_⟩
    by_cases hm : t.name ∈ rs.map Rule.name
    · rw [if_neg (fun h => h hm), if_neg (fun h => h hm)]
      exact ⟨_, Sub.refl _, _, _, _, _, rfl, rfl⟩
    · rw [if_pos hm]
      obtain ⟨i, hi, e⟩ : ∃ i, i < 180 ∧ t.name = mname i := by
        rcases hcase with ⟨q, hq, e⟩ | h
        · exact absurd (List.mem_map.mpr ⟨q, hq, e⟩) hm
        · exact h
      rw [e] at hm ⊢
      rw [mname_part]
      have n3 := num_len3 hi
      have lM : (("M" : Str).length : Int) = 1 := by decide +kernel
      dsimp only
      rw [if_neg (show ¬ (("_" : Str) = "") by decide +kernel)]
      simp? only [L3.vChain, lM]
      refine ⟨by omega, ?_⟩
      rw [if_pos (by omega), if_neg (by omega)]
      refine ⟨by decide +kernel, ?_⟩
      rw [if_neg (fun h => h trivial), if_pos hm]
      refine filt1 (rest := []) (fun _ => none) (small ?_) (fun _ _ => trivial) (fun w hw M2 C D sb h1 h2 => ?_) (New.frz ?_)
      · rw [List.length_map]
        have := cs_len (numT i)
        unfold cs at this
        omega
      · obtain ⟨c, hc, rfl⟩ := List.mem_map.mp hw
        simp? only [L3.rIn]
        rw [occ_one, decide_eq_true ((figs_of (m := i)).1 c hc)]
        exact h2 rfl
      · rw [show (List.map (fun c => W.str { cps := #[c] }) (numT i).cps.toList).filterMap (fun _ => (none : Option W)) = [] by simp]
        refine rEq_same 1 (by decide) (fun w hw => nomatch hw) rfl ⟨_, rfl, ?_⟩
        rw [if_neg (by decide)]
        exact ⟨_, Sub.refl _, _, _, _, _, rfl, rfl⟩
  · rintro τ M' ⟨o3, o4, o5, o6, rfl, rfl⟩
    simp? only [rd_l_new_names_2]
    exact ⟨_, Sub.refl _, r⟩
theorem parts_pl {ps : List Str} {M : Mm} (h : ∀ t ∈ ps, Sh t) : Pl 2 (der M (.tup (ps.map W.str))) := fun w hw => by
  obtain ⟨t, ht, rfl⟩ := List.mem_map.mp hw
  exact strOk_asc (h t ht).asc
theorem rule_pl {q : Rule} (h : Asc q.name ∧ ∀ t ∈ q.parts, Sh t) : Pl 3 (ruleW q) := fun w hw => by
  simp only [List.mem_cons, List.not_mem_nil, or_false] at hw
  rcases hw with rfl | rfl | rfl
  · exact strOk_asc h.1
  · exact fun w hw => by
      obtain ⟨t, ht, rfl⟩ := List.mem_map.mp hw
      exact strOk_asc (h.2 t ht).asc
  · trivial
theorem some_pl {l : List Rule} {M : Mm} (h : RPl l) : Pl 4 (der M (.rl (l.map ruleW))) := fun w hw => by
  obtain ⟨q, hq, rfl⟩ := List.mem_map.mp hw
  exact rule_pl (h q hq)
theorem fm_rules (g : Rule → Bool) (f : W → Option W) (hf : ∀ q : Rule, f (ruleW q) = if g q then some (ruleW q) else none) : ∀ l : List Rule, (l.map ruleW).filterMap f = (l.filter g).map ruleW
  | [] => rfl
  | q :: l => by
    rw [List.map_cons, List.filterMap_cons, hf, List.filter_cons]
    cases g q
    · simp only [Bool.false_eq_true, if_false]; exact fm_rules g f hf l
    · simp only [if_true, List.map_cons]; rw [fm_rules g f hf l]
theorem rl_nil {l : List W} : (W.rl l = W.rl []) ↔ l = [] := by constructor; intro h; injection h; intro h; rw [h]
theorem good_l_none_new {ws : List W} {M : Mm} {R : K3} (h : sp_l_none_new ws M R) : rd_l_none_new (ends3 R) (start3 N_l_none_new ws) M := by
  obtain ⟨rs, p, ts, rfl, hp, hl, hl2, pr, pt, hok, r⟩ := h
  show rd_l_none_new (ends3 R) [some (.rl (rs.map ruleW)), some (.ref p), none, none, none, none, none] M
  have tup_nil : ∀ {l : List W}, (W.tup l = W.tup []) ↔ l = [] := by intro l; constructor; intro h; injection h; intro h; rw [h]
  simp? only [rd_l_none_new, rd_l_none_new_0]
  refine filt1 (rest := []) (fun w => match w with | .tup (_ :: .tup ps :: _) => if ps.isEmpty then some w else none | _ => none) (small (by rw [List.length_map]; omega)) (fun _ _ => trivial) (fun w hw M2 C D sb h1 h2 => ?_) (New.frz ?_)
  · obtain ⟨q, hq, rfl⟩ := List.mem_map.mp hw
    simp? only [ruleW] at h1 h2 ⊢
    refine rEq_pl 2 (by decide) (parts_pl (pr q hq).2) (parts_pl (ps := []) (fun t ht => nomatch ht)) fun b hb => ⟨b, rfl, ?_⟩
    have hb' : b = (q.parts.map W.str).isEmpty := by
      rw [Bool.eq_iff_iff, hb, List.isEmpty_iff]
      exact tup_nil
    rw [hb']
    cases e : (q.parts.map W.str).isEmpty with
    | true => rw [if_pos rfl]; exact h1 _ (by rw [e]; rfl)
    | false => rw [if_neg (by decide)]; exact h2 (by rw [e]; rfl)
  rw [fm_rules (fun q => (q.parts.map W.str).isEmpty) _ (fun q => rfl)]
  refine rEq_pl 4 (by decide) (some_pl fun q hq => pr q (List.mem_filter.mp hq).1) (some_pl (l := []) (fun t ht => nomatch ht)) fun b1 hb1 => ?_
  have he : b1 = false ↔ ∃ q ∈ rs, q.parts = [] := by
    rw [← Bool.not_eq_true, hb1]
    show (¬ (W.rl _ = W.rl [])) ↔ _
    rw [rl_nil, List.map_eq_nil_iff, List.filter_eq_nil_iff]
    simp
  simp? only [rd_l_none_new_1]
  refine filt1 (rest := []) (fun w => match w with | .tup (_ :: .tup [.str z] :: _) => if firstG z then some w else none | _ => none) (small (by rw [List.length_map]; omega)) (fun _ _ => trivial) (fun w hw M2 C D sb h1 h2 => ?_) (New.frz ?_)
  · obtain ⟨q, hq, rfl⟩ := List.mem_map.mp hw
    have hsh := (pr q hq).2
    obtain ⟨nm, ps, c⟩ := q
    simp only at hsh
    match ps, hsh with
    | [], _ =>
      simp? only [ruleW] at h1 h2 ⊢
      exact h2 trivial
    | [z], hsh =>
      simp? only [ruleW] at h1 h2 ⊢
      refine ⟨z, rfl, hsh z List.mem_cons_self, ?_⟩
      simp? only []
      cases e : firstG z with
      | true => rw [if_pos rfl]; exact h1 _ (by rw [e]; rfl)
      | false => rw [if_neg (by decide)]; exact h2 (by rw [e]; rfl)
    | z1 :: z2 :: l, _ =>
      simp? only [ruleW] at h1 h2 ⊢
      rw [if_neg (by omega)]
      exact h2 trivial
  rw [fm_rules (fun q => match q.parts with | [z] => firstG z | _ => false) _ (fun q => by
    obtain ⟨nm, ps, c⟩ := q
    match ps with
    | [] => rfl
    | [z] => rfl
    | _ :: _ :: _ => rfl)]
  refine rEq_pl 4 (by decide) (some_pl fun q hq => pr q (List.mem_filter.mp hq).1) (some_pl (l := []) (fun t ht => nomatch ht)) fun b2 hb2 => ?_
  have hs : b2 = false ↔ ∃ q ∈ rs, ∃ z, q.parts = [z] ∧ firstG z = true := by
    rw [← Bool.not_eq_true, hb2]
    show (¬ (W.rl _ = W.rl [])) ↔ _
    rw [rl_nil, List.map_eq_nil_iff, List.filter_eq_nil_iff]
    constructor
    · intro h
      rw [Classical.not_forall] at h
      obtain ⟨q, h⟩ := h
      rw [Classical.not_imp, Classical.not_not] at h
      refine ⟨q, h.1, ?_⟩
      have h2 := h.2
      split at h2
      · rename_i z e; exact ⟨z, e, h2⟩
      · cases h2
    · rintro ⟨q, hq, z, e, hz⟩ h
      refine h q hq ?_
      rw [e]; exact hz
  simp? only [rd_l_none_new_2]
  refine ⟨_, hp, ?_⟩
  refine for3 (fun i τ M' => ∃ o4 o5 o6, τ = [some (.rl (rs.map ruleW)), some (.ref p), some (.bl (!b1)), some (.bl (!b2)), o4, o5, o6] ∧ M' = M) ⟨_, _, _, rfl, rfl⟩ (fun i τ M' _ ⟨_, _, _, _, e⟩ => by rw [e]; exact hp) ?_ ?_
  · rintro i w τ M' hw ⟨o4, o5, o6, rfl, rfl⟩
    obtain ⟨q, hq, rfl⟩ := List.mem_map.mp (List.mem_of_getElem? hw)
    have hsh := (pt q hq).2
    have hk := hok q hq
    simp? only [rd_l_none_new_b2, ruleW]
    refine rEq_pl 2 (by decide) (parts_pl hsh) (parts_pl (ps := []) (fun t ht => nomatch ht)) fun b hb => ⟨b, rfl, ?_⟩
    have hb' : b = true ↔ q.parts = [] := by
      rw [hb]
      exact tup_nil.trans List.map_eq_nil_iff
    clear hb hw
    obtain ⟨nm, ps, c⟩ := q
    simp only at hsh hk hb'
    match ps, hsh, hk, hb' with
    | [], _, hk, hb' =>
      have e1 : b1 = false := he.mpr (hk (by decide))
      rw [if_pos (hb'.mpr rfl), if_neg (by rw [e1]; decide), if_neg (by simp)]
      exact ⟨_, Sub.refl _, _, _, _, rfl, rfl⟩
    | [z], hsh, hk, hb' =>
      rw [if_neg (fun h => by have := hb'.mp h; cases this), if_pos (by simp)]
      refine ⟨.str z, by rw [List.map_cons, atI0], z, rfl, hsh z List.mem_cons_self, ?_⟩
      simp? only []
      split
      · rename_i hz
        have e2 : b2 = false := hs.mpr (by obtain ⟨q', hq', e⟩ := hk (by simp); exact ⟨q', hq', z, e, hz⟩)
        rw [if_neg (by rw [e2]; decide)]
        exact ⟨_, Sub.refl _, _, _, _, rfl, rfl⟩
      · exact ⟨_, Sub.refl _, _, _, _, rfl, rfl⟩
    | z1 :: z2 :: l, _, _, hb' =>
      rw [if_neg (fun h => by have := hb'.mp h; cases this), if_neg (by simp; omega)]
      exact ⟨_, Sub.refl _, _, _, _, rfl, rfl⟩
  · rintro τ M' ⟨o4, o5, o6, rfl, rfl⟩
    simp? only [rd_l_none_new_3]
    exact ⟨_, Sub.refl _, r⟩
end Rg
namespace Rg
open PySem PySem.Spec PyProof.Rows L2 L3
abbrev sp_law : Sp3 := spLaw3
theorem len_law : ∀ ws M R, sp_law ws M R → ws.length = 1 := by rintro ws M R ⟨_, rfl, _⟩; rfl
theorem told_rpl {rs : List Rule} (g : GoodRules rs) : RPl (toldR rs) := fun t ht => by
  refine ⟨?_, fun p hp => (told_parts g ht p hp).sh g.fewR⟩
  rcases told_names g.fewR ht with ⟨q, hq, e⟩ | ⟨i, hi, e⟩
  · rw [← e]; exact (g.asc hq).1
  · rw [e]; exact (mname_sh hi).asc
theorem good_rpl {rs : List Rule} (g : GoodRules rs) : RPl rs := fun q hq => by
  refine ⟨(g.asc hq).1, fun t ht => ?_⟩
  obtain ⟨hs, ws, _, hh, hw, hr, _⟩ := g.ex
  rcases (hr q hq).parts t ht with h | h
  · exact (hw t h).sh
  · exact (hh t h).sh
theorem told_costless {rs : List Rule} (g : GoodRules rs) : ∀ t ∈ toldR rs, t.cost = 0 ∧ ∀ q ∈ t.parts, Sh q ∧ (firstG q = true → ∃ t' ∈ toldR rs, t'.name = q) := fun t ht => ⟨(toldR_mem.mp ht).1, fun q hq => by
  have ok := told_parts g ht q hq
  refine ⟨ok.sh g.fewR, fun h => ?_⟩
  rcases ok.named with w | n
  · rw [word_firstG w] at h; cases h
  · exact n⟩
theorem told_names60 {rs : List Rule} (g : GoodRules rs) : ∀ t ∈ toldR rs, t.name.length ≤ 60 ∧ ((∃ r ∈ rs, r.name = t.name) ∨ ∃ i, i < 180 ∧ t.name = mname i) := fun t ht => by
  refine ⟨?_, told_names g.fewR ht⟩
  rcases told_names g.fewR ht with ⟨q, hq, e⟩ | ⟨i, hi, e⟩
  · obtain ⟨hs, ws, _, hh, hw, hr, _⟩ := g.ex
    have := (hh _ (hr q hq).name).len
    rw [← e]; omega
  · have := (mname_sh hi).len
    rw [e]; exact this
theorem good_law {ws : List W} {M : Mm} {R : K3} (h : sp_law ws M R) : rd_law (ends3 R) (start3 N_law ws) M := by
  obtain ⟨ns, rfl, hl, hM, r⟩ := h
  have hi := L3.ints_map ns
  show rd_law (ends3 R) [some (.sc (ns.map W.int)), none, none, none, none, none, none, none] M
  simp? only [rd_law, rd_law_0]
  refine ⟨_, 0, .inl rfl, hi, by decide, fun c0 => ⟨c0, [4], rfl, by decide, fun s hs => ?_, fun ds hds => New.frz ?_⟩⟩
  · simp at hs; subst hs; decide
  obtain ⟨d, rfl, hd⟩ : ∃ d, ds = [d] ∧ Below d 4 := by
    cases hds with
    | cons a b => cases b; exact ⟨_, rfl, a⟩
  simp? only []
  have hd1 := hd.1
  have hd2 := hd.2
  refine ⟨_, 1 + d, 4, rfl, hi.cut _ _, ?_, by omega, by omega, by decide, by decide, fun rs g hpm _ => New.frz ?_⟩
  · have := cut_mid (S := ns.map W.int) (i := 1) (j := 34) (by decide) (by decide); omega
  have f := g.fewR
  have ff := f.few
  have tl := told_len f
  have tok := told_okG g
  have trp := told_rpl g
  obtain ⟨r0, rl, v0, q0, ers, etold⟩ := told_ne g.ne
  have ehd : toldR rs = rOf (r0.name, shO rs r0.parts) :: q0.map fun p => rOf p.1 := by unfold toldR; rw [etold]; rfl
  have tlR : (toldR rs).length = (toldOf rs).length := by unfold toldR; rw [List.length_map]
  simp? only [rd_law_1]
  refine ⟨rs, rfl, g.okG, New.frz ?_⟩
  simp? only [rd_law_2]
  refine ⟨rs, rfl, f, fun p q hp hq hpq => ?_⟩
  generalize hB : (toldOf rs).map (fun z => z.2) = B
  have lB : B.length = (toldOf rs).length := by rw [← hB, List.length_map]
  generalize hM2 : put (put M p (.lst ((toldR rs).map ruleW))) q (.lst B) = M2
  have hp2 : M2 p = some (.lst ((toldR rs).map ruleW)) := by rw [← hM2, put_ne hpq, put_same]
  have hq2 : M2 q = some (.lst B) := by rw [← hM2, put_same]
  have dp : der M2 (.ref p) = .rl ((toldR rs).map ruleW) := by simp [der, hp2]
  simp? only [rd_law_3]
  rw [if_neg (by simp)]
  refine rEq_same 4 (by decide) (some_pl (good_rpl g)) rfl ⟨_, rfl, ?_⟩
  rw [if_neg (by decide)]
  simp? only [rd_law_4, rd_law_5]
  refine ⟨"list", true, .inl ⟨rfl, _, hp2⟩, by decide, ?_⟩
  simp? only []
  refine ⟨"list", true, .inl ⟨rfl, _, hq2⟩, by decide, ?_⟩
  simp? only [rd_law_6]
  refine rEq_pl 4 (by decide) (by rw [dp]; exact some_pl trp (M := M2)) (some_pl (l := []) (fun t ht => nomatch ht)) fun b hb => ⟨_, rfl, ?_⟩
  have eb : b = false := by
    cases b with
    | false => rfl
    | true =>
      have := hb.mp rfl
      rw [dp] at this
      have := rl_nil.mp this
      rw [ehd] at this
      cases this
  rw [eb, if_neg (by decide)]
  simp? only [hp2, hq2]
  rw [if_neg (by rw [List.length_map, tlR, lB]; simp)]
  simp? only [rd_law_7]
  refine ⟨p, toldR rs, rfl, hp2, by omega, told_costless g, ?_⟩
  simp? only []
  refine ⟨rs, p, toldR rs, rfl, hp2, by omega, by omega, told_names60 g, ?_⟩
  simp? only []
  refine ⟨rs, p, toldR rs, rfl, hp2, by omega, by omega, good_rpl g, trp, fun t ht h2 => told_short ht h2, ?_⟩
  simp? only [rd_law_8]
  have e0 : atI ((toldR rs).map ruleW) 0 = some (ruleW (rOf (r0.name, shO rs r0.parts))) := by rw [ehd, List.map_cons, atI0]
  have e1 : atI (rs.map ruleW) 0 = some (ruleW r0) := by rw [ers, List.map_cons, atI0]
  simp? only [hp2, e0, e1, ruleW, rOf]
  refine .inl ⟨_, _, rfl, e0, ?_⟩
  simp? only [ruleW, rOf]
  rw [if_neg (fun h => h trivial)]
  simp? only [rd_law_9]
  refine ⟨_, hp2, ?_⟩
  refine map1 (rest := []) (fun w => match w with | .tup (_ :: .tup ps :: _) => .int ps.length | _ => .non) (small (by rw [List.length_map]; omega)) (fun M' sb => sb _ _ hp2) (fun w hw M' C sb h1 => ?_) (New.frz ?_)
  · obtain ⟨t, _, rfl⟩ := List.mem_map.mp hw
    simp? only [ruleW]
    exact h1
  have el : (((toldR rs).map ruleW).map fun w => match w with | .tup (_ :: .tup ps :: _) => W.int ps.length | _ => .non) = ((toldR rs).map fun t => (t.parts.length : Int)).map W.int := by
    rw [List.map_map, List.map_map]
    refine List.map_congr_left fun t _ => ?_
    show W.int ((t.parts.map W.str).length : Int) = _
    rw [List.length_map]; rfl
  rw [el]
  simp? only [L3.rMax1]
  refine ⟨_, rfl, by rw [List.length_map, ehd]; simp, fun m hm _ => ?_⟩
  have m2 : m ≤ 2 := by
    obtain ⟨t, ht, rfl⟩ := List.mem_map.mp hm
    have := told_two ht
    omega
  rw [if_neg (by omega)]
  simp? only [rd_law_10, rd_law_11, rd_law_12, L3.rClr, hp2, hq2]
  have hq3 : put M2 p (.lst []) q = some (.lst B) := by rw [put_ne (Ne.symm hpq)]; exact hq2
  refine ⟨⟨_, hq3⟩, _, hq3, ?_⟩
  simp? only [rd_law_13]
  generalize put (put M2 p (.lst [])) q (.lst []) = M3
  refine ⟨rs, rfl, f, fun a c ha hc hac => ?_⟩
  rw [hB]
  generalize hM4 : put (put M3 a (.lst ((toldR rs).map ruleW))) c (.lst B) = M4
  have ha4 : M4 a = some (.lst ((toldR rs).map ruleW)) := by rw [← hM4, put_ne hac, put_same]
  have hc4 : M4 c = some (.lst B) := by rw [← hM4, put_same]
  have da : der M4 (.ref a) = .rl ((toldR rs).map ruleW) := by simp [der, ha4]
  simp? only [rd_law_14]
  refine rEq_same 4 (by decide) (by rw [da]; exact some_pl trp (M := M4)) (by rw [da]; rfl) ?_
  simp? only [hc4]
  rw [if_pos (by rw [List.length_map, tlR, lB])]
  refine ⟨toldR rs, rfl, tok, New.frz ?_⟩
  refine rEq_same 4 (by decide) (some_pl trp) rfl ⟨_, Sub.refl _, r _⟩
end Rg
namespace Rg
open PySem PySem.Spec PyProof.Rows L2 L3
noncomputable def top (i : Nat) : Stmt := PySem.Challenge.pw_readgrove_k63_two_parts.main.body.getD i (.Pass ⟨0, 0, 0, 0⟩)
noncomputable abbrev s_made_of : Stmt := top 7
noncomputable abbrev s_is_name : Stmt := top 8
noncomputable abbrev s_namesW : Stmt := top 9
noncomputable abbrev s_check_rule : Stmt := top 10
noncomputable abbrev s_grammar_ofW : Stmt := top 11
noncomputable abbrev s_marks : Stmt := top 13
noncomputable abbrev s_made_names : Stmt := top 16
noncomputable abbrev s_slots : Stmt := top 17
noncomputable abbrev s_Plainer_init : Stmt := inClass (top 18) 0
noncomputable abbrev s_Plainer_put_rule : Stmt := inClass (top 18) 1
noncomputable abbrev s_Plainer_grammar_and_backs : Stmt := inClass (top 18) 3
noncomputable abbrev s_long_ends : Stmt := top 19
noncomputable abbrev s_shortened : Stmt := top 20
noncomputable abbrev s_twos : Stmt := top 21
noncomputable abbrev s_l_cell_at : Stmt := top 23
noncomputable abbrev s_l_stir : Stmt := top 24
noncomputable abbrev s_l_drawn : Stmt := top 25
noncomputable abbrev s_l_unlike : Stmt := top 26
noncomputable abbrev s_l_rule : Stmt := top 27
noncomputable abbrev s_l_rules : Stmt := top 28
noncomputable abbrev s_l_is_name : Stmt := top 29
noncomputable abbrev s_l_costless : Stmt := top 30
noncomputable abbrev s_l_new_names : Stmt := top 31
noncomputable abbrev s_l_none_new : Stmt := top 32
noncomputable abbrev s_law : Stmt := top 33
structure Tx (mg : Str → Option Value) : Prop where
  c_FIGURED_NAMES : ∃ t, mg "FIGURED_NAMES" = some (.int 10000 t)
  c_FIGURES : ∃ t, mg "FIGURES" = some (.str "0123456789" t)
  c_GREAT_LETTERS : ∃ t, mg "GREAT_LETTERS" = some (.str "ABCDEFGHIJKLMNOPQRSTUVWXYZ" t)
  all_ : mg "all" = none
  bool_ : mg "bool" = none
  dict_ : mg "dict" = none
  enumerate_ : mg "enumerate" = none
  isinstance_ : mg "isinstance" = none
  len_ : mg "len" = none
  list_ : mg "list" = none
  max_ : mg "max" = none
  range_ : mg "range" = none
  str_ : mg "str" = none
  tuple_ : mg "tuple" = none
  zip_ : mg "zip" = none
structure Kc (K : PySem.W.Frag) (mg : Str → Option Value) (C : Addr) : Prop where
  cls : Cls K C
  at_ : mg "Plainer" = some (.ref C)
  na_backs : NoAttr K C "backs"
section
variable {P : Program} {w : World} {K : PySem.W.Frag} {mg : Str → Option Value} {base : Heap} {C : Addr}
seal L2.PE L2.PA L2.PS L2.PSs L2.PT L2.PG L2.PI L2.PO
theorem sc_made_of : FnScope N_made_of ["text", "signs"] (defScope s_made_of) := ⟨rfl, rfl, rfl, by decide +kernel, rfl, by decide +kernel, by decide +kernel⟩
theorem tm_made_of {f : Addr} {cdv : Value} {A : Around} {outer : List Env} {s : Shared} {H : Hp} {E : XK} (T : Tx mg) (hr : Room 0 (A.deeper (envOfC "made_of" (defScope s_made_of) s.heap.objs.size f cdv))) :
    Ps3 (cxOf CX0 P w K mg base N_made_of "made_of" (defScope s_made_of) f cdv A outer s H E).nox (defBody s_made_of) rd_made_of := by
  have nd := sc_made_of.nd
  have hu := hu_of hr
  exact (ss_one (s_ret (v_and (v_cmp (o_ne hr.units) (v 0) v_str (by first | exact nomark _ | with_unfolding_all rfl)) (v_one (v_callB (c_all rfl) (by rfl) T.all_ bt_all (a_cons (v_frz (v_comp ["sign", "signs"] [none, some 1] (i_seqN (v 0)) (fun B => (w_name (i := 0) (show (["sign", "signs"] : List Str).Nodup by decide +kernel) rfl (by first | exact Or.inl rfl | exact Or.inr rfl))) (fun B => if_nil) (fun B => (v_cmp (o_in hu) (v 0) (v 1) (by first | exact nomark _ | with_unfolding_all rfl))))) a_nil))))))
theorem ok_made_of (T : Tx mg) {f_made_of : Addr} {fd_made_of : FuncData} (F_made_of : Df K mg "made_of" s_made_of ["text", "signs"] f_made_of fd_made_of) : FnOk P w K mg base CX0 1 f_made_of fd_made_of ["text", "signs"] (upSp K sp_made_of) :=
  ok3 F_made_of.fn sc_made_of len_made_of fun cdv A outer s H E ws M R hr h => ⟨rd_made_of, tm_made_of T hr, good_made_of h⟩
theorem sc_is_name : FnScope N_is_name ["part"] (defScope s_is_name) := ⟨rfl, rfl, rfl, by decide +kernel, rfl, by decide +kernel, by decide +kernel⟩
theorem tm_is_name {f : Addr} {cdv : Value} {A : Around} {outer : List Env} {s : Shared} {H : Hp} {E : XK} (T : Tx mg) {f_made_of : Addr} {fd_made_of : FuncData} (F_made_of : Df K mg "made_of" s_made_of ["text", "signs"] f_made_of fd_made_of) (G_made_of : FnOk P w K mg base CX0 1 f_made_of fd_made_of ["text", "signs"] (upSp K sp_made_of)) (hr : Room 1 (A.deeper (envOfC "is_name" (defScope s_is_name) s.heap.objs.size f cdv))) :
    Ps3 (cxOf CX0 P w K mg base N_is_name "is_name" (defScope s_is_name) f cdv A outer s H E).nox (defBody s_is_name) rd_is_name := by
  obtain ⟨t_GREAT_LETTERS, h_GREAT_LETTERS⟩ := T.c_GREAT_LETTERS
  obtain ⟨t_FIGURES, h_FIGURES⟩ := T.c_FIGURES
  have nd := sc_is_name.nd
  have hu := hu_of hr
  exact (ss_cons (s_set (i := 1) nd rfl (by first | exact Or.inl rfl | exact Or.inr rfl) (v_bm PySem.F.plainAttrs_str PySem.F.slot_str_partition PySem.F.type_str_partition m_partition (v 0) (a_cons v_str a_nil)))
      (ss_cons (s_set (i := 2) nd rfl (by first | exact Or.inl rfl | exact Or.inr rfl) (v_or (v_cmp (o_eq hr.units) (v_ix hu (v 1) v_int) v_str (by first | exact nomark _ | with_unfolding_all rfl)) (v_one (v_call G_made_of (hr.mono (by decide)) (by rfl) F_made_of.at_ F_made_of.fn.kp F_made_of.bi (a_cons (v_ix hu (v 1) v_int) (a_cons (v_glob (y := V.str "0123456789") (by rfl) h_FIGURES ⟨_, rfl⟩ (fun _ _ => .str _)) a_nil))))))
      (ss_one (s_ret (v_and (v 2) (v_one (v_call G_made_of (hr.mono (by decide)) (by rfl) F_made_of.at_ F_made_of.fn.kp F_made_of.bi (a_cons (v_ix hu (v 1) v_int) (a_cons (v_glob (y := V.str "ABCDEFGHIJKLMNOPQRSTUVWXYZ") (by rfl) h_GREAT_LETTERS ⟨_, rfl⟩ (fun _ _ => .str _)) a_nil)))))))))
theorem ok_is_name (T : Tx mg) {f_is_name : Addr} {fd_is_name : FuncData} (F_is_name : Df K mg "is_name" s_is_name ["part"] f_is_name fd_is_name) {f_made_of : Addr} {fd_made_of : FuncData} (F_made_of : Df K mg "made_of" s_made_of ["text", "signs"] f_made_of fd_made_of) : FnOk P w K mg base CX0 2 f_is_name fd_is_name ["part"] (upSp K sp_is_name) :=
  ok3 F_is_name.fn sc_is_name len_is_name fun cdv A outer s H E ws M R hr h => ⟨rd_is_name, tm_is_name T F_made_of (ok_made_of T F_made_of) hr, good_is_name h⟩
theorem sc_namesW : FnScope N_namesW ["grammar"] (defScope s_namesW) := ⟨rfl, rfl, rfl, by decide +kernel, rfl, by decide +kernel, by decide +kernel⟩
theorem tm_namesW {f : Addr} {cdv : Value} {A : Around} {outer : List Env} {s : Shared} {H : Hp} {E : XK} (T : Tx mg) (hr : Room 0 (A.deeper (envOfC "names" (defScope s_namesW) s.heap.objs.size f cdv))) :
    Ps3 (cxOf CX0 P w K mg base N_namesW "names" (defScope s_namesW) f cdv A outer s H E).nox (defBody s_namesW) rd_namesW := by
  have nd := sc_namesW.nd
  have hu := hu_of hr
  exact (ss_cons (s_set (i := 1) nd rfl (by first | exact Or.inl rfl | exact Or.inr rfl) v_dnewK)
      (ss_cons (s_for PassesOwn.never rfl (i_seqN (v 0)) (w_name (i := 2) nd rfl (by first | exact Or.inl rfl | exact Or.inr rfl))
        (ss_one (s_asg v_bl (w_sub hu (v 1) (v_ix hu (v 2) v_int)))))
      (ss_one (s_ret (v_callTy (c_list rfl) (by rfl) T.list_ bt_list (a_cons (v 1) a_nil))))))
theorem ok_namesW (T : Tx mg) {f_namesW : Addr} {fd_namesW : FuncData} (F_namesW : Df K mg "names" s_namesW ["grammar"] f_namesW fd_namesW) : FnOk P w K mg base CX0 1 f_namesW fd_namesW ["grammar"] (upSp K sp_namesW) :=
  ok3 F_namesW.fn sc_namesW len_namesW fun cdv A outer s H E ws M R hr h => ⟨rd_namesW, tm_namesW T hr, good_namesW h⟩
theorem sc_check_rule : FnScope N_check_rule ["rule", "known"] (defScope s_check_rule) := ⟨rfl, rfl, rfl, by decide +kernel, rfl, by decide +kernel, by decide +kernel⟩
theorem tm_check_rule {f : Addr} {cdv : Value} {A : Around} {outer : List Env} {s : Shared} {H : Hp} {E : XK} (T : Tx mg) {f_is_name : Addr} {fd_is_name : FuncData} (F_is_name : Df K mg "is_name" s_is_name ["part"] f_is_name fd_is_name) (G_is_name : FnOk P w K mg base CX0 2 f_is_name fd_is_name ["part"] (upSp K sp_is_name)) (hr : Room 2 (A.deeper (envOfC "check_rule" (defScope s_check_rule) s.heap.objs.size f cdv))) :
    Ps3 (cxOf CX0 P w K mg base N_check_rule "check_rule" (defScope s_check_rule) f cdv A outer s H E).nox (defBody s_check_rule) rd_check_rule := by
  have nd := sc_check_rule.nd
  have hu := hu_of hr
  exact (ss_cons (s_if (t_cmp o_lt (v_ix hu (v 0) v_int) v_int (by first | exact nomark _ | with_unfolding_all rfl))
        (ss_one s_never)
        ss_nil)
      (ss_one (s_for PassesOwn.never rfl (i_seqN (v_ix hu (v 0) v_int)) (w_name (i := 2) nd rfl (by first | exact Or.inl rfl | exact Or.inr rfl))
        (ss_one (s_if (PW.pt (t_and (t_val (v_call G_is_name (hr.mono (by decide)) (by rfl) F_is_name.at_ F_is_name.fn.kp F_is_name.bi (a_cons (v 2) a_nil))) (t_and1 (t_cmp (o_notin hu) (v 2) (v 1) (by first | exact nomark _ | with_unfolding_all rfl)))))
        (ss_one s_never)
        ss_nil)))))
theorem ok_check_rule (T : Tx mg) {f_check_rule : Addr} {fd_check_rule : FuncData} (F_check_rule : Df K mg "check_rule" s_check_rule ["rule", "known"] f_check_rule fd_check_rule) {f_made_of : Addr} {fd_made_of : FuncData} (F_made_of : Df K mg "made_of" s_made_of ["text", "signs"] f_made_of fd_made_of) {f_is_name : Addr} {fd_is_name : FuncData} (F_is_name : Df K mg "is_name" s_is_name ["part"] f_is_name fd_is_name) : FnOk P w K mg base CX0 3 f_check_rule fd_check_rule ["rule", "known"] (upSp K sp_check_rule) :=
  ok3 F_check_rule.fn sc_check_rule len_check_rule fun cdv A outer s H E ws M R hr h => ⟨rd_check_rule, tm_check_rule T F_is_name (ok_is_name T F_is_name F_made_of) hr, good_check_rule h⟩
theorem sc_grammar_ofW : FnScope N_grammar_ofW ["rules"] (defScope s_grammar_ofW) := ⟨rfl, rfl, rfl, by decide +kernel, rfl, by decide +kernel, by decide +kernel⟩
theorem tm_grammar_ofW {f : Addr} {cdv : Value} {A : Around} {outer : List Env} {s : Shared} {H : Hp} {E : XK} (T : Tx mg) {f_namesW : Addr} {fd_namesW : FuncData} (F_namesW : Df K mg "names" s_namesW ["grammar"] f_namesW fd_namesW) (G_namesW : FnOk P w K mg base CX0 1 f_namesW fd_namesW ["grammar"] (upSp K sp_namesW)) {f_check_rule : Addr} {fd_check_rule : FuncData} (F_check_rule : Df K mg "check_rule" s_check_rule ["rule", "known"] f_check_rule fd_check_rule) (G_check_rule : FnOk P w K mg base CX0 3 f_check_rule fd_check_rule ["rule", "known"] (upSp K sp_check_rule)) (hr : Room 3 (A.deeper (envOfC "grammar_of" (defScope s_grammar_ofW) s.heap.objs.size f cdv))) :
    Ps3 (cxOf CX0 P w K mg base N_grammar_ofW "grammar_of" (defScope s_grammar_ofW) f cdv A outer s H E).nox (defBody s_grammar_ofW) rd_grammar_ofW := by
  have nd := sc_grammar_ofW.nd
  have hu := hu_of hr
  exact (ss_cons (s_if (t_cmp (o_eq hr.units) (v_callB c_len (by rfl) T.len_ bt_len (a_cons (v 0) a_nil)) v_int (by first | exact nomark _ | with_unfolding_all rfl))
        (ss_one s_never)
        ss_nil)
      (ss_cons (s_set (i := 1) nd rfl (by first | exact Or.inl rfl | exact Or.inr rfl) (v_frz (v_call G_namesW (hr.mono (by decide)) (by rfl) F_namesW.at_ F_namesW.fn.kp F_namesW.bi (a_cons (v 0) a_nil))))
      (ss_cons (s_for PassesOwn.never rfl (i_seqN (v 0)) (w_name (i := 2) nd rfl (by first | exact Or.inl rfl | exact Or.inr rfl))
        (ss_one (s_expr (v_call G_check_rule (hr.mono (by decide)) (by rfl) F_check_rule.at_ F_check_rule.fn.kp F_check_rule.bi (a_cons (v 2) (a_cons (v 1) a_nil))))))
      (ss_one (s_ret (v_callTy (c_list rfl) (by rfl) T.list_ bt_list (a_cons (v 0) a_nil)))))))
theorem ok_grammar_ofW (T : Tx mg) {f_grammar_ofW : Addr} {fd_grammar_ofW : FuncData} (F_grammar_ofW : Df K mg "grammar_of" s_grammar_ofW ["rules"] f_grammar_ofW fd_grammar_ofW) {f_made_of : Addr} {fd_made_of : FuncData} (F_made_of : Df K mg "made_of" s_made_of ["text", "signs"] f_made_of fd_made_of) {f_is_name : Addr} {fd_is_name : FuncData} (F_is_name : Df K mg "is_name" s_is_name ["part"] f_is_name fd_is_name) {f_namesW : Addr} {fd_namesW : FuncData} (F_namesW : Df K mg "names" s_namesW ["grammar"] f_namesW fd_namesW) {f_check_rule : Addr} {fd_check_rule : FuncData} (F_check_rule : Df K mg "check_rule" s_check_rule ["rule", "known"] f_check_rule fd_check_rule) : FnOk P w K mg base CX0 4 f_grammar_ofW fd_grammar_ofW ["rules"] (upSp K sp_grammar_ofW) :=
  ok3 F_grammar_ofW.fn sc_grammar_ofW len_grammar_ofW fun cdv A outer s H E ws M R hr h => ⟨rd_grammar_ofW, tm_grammar_ofW T F_namesW (ok_namesW T F_namesW) F_check_rule (ok_check_rule T F_check_rule F_made_of F_is_name) hr, good_grammar_ofW h⟩
theorem sc_marks : FnScope N_marks ["things"] (defScope s_marks) := ⟨rfl, rfl, rfl, by decide +kernel, rfl, by decide +kernel, by decide +kernel⟩
theorem tm_marks {f : Addr} {cdv : Value} {A : Around} {outer : List Env} {s : Shared} {H : Hp} {E : XK} (T : Tx mg) (hr : Room 0 (A.deeper (envOfC "marks" (defScope s_marks) s.heap.objs.size f cdv))) :
    Ps3 (cxOf CX0 P w K mg base N_marks "marks" (defScope s_marks) f cdv A outer s H E).nox (defBody s_marks) rd_marks := by
  have nd := sc_marks.nd
  have hu := hu_of hr
  exact (ss_one (s_ret (v_callTy (c_dictF rfl) (by rfl) T.dict_ bt_dict (a_cons (v_frz (v_comp ["thing"] [none] (i_seqN (v 0)) (fun B => (w_name (i := 0) (show (["thing"] : List Str).Nodup by decide +kernel) rfl (by first | exact Or.inl rfl | exact Or.inr rfl))) (fun B => if_nil) (fun B => (v_tup (a_cons (v 0) (a_cons v_bl a_nil)))))) a_nil))))
theorem ok_marks (T : Tx mg) {f_marks : Addr} {fd_marks : FuncData} (F_marks : Df K mg "marks" s_marks ["things"] f_marks fd_marks) : FnOk P w K mg base CX0 1 f_marks fd_marks ["things"] (upSp K sp_marks) :=
  ok3 F_marks.fn sc_marks len_marks fun cdv A outer s H E ws M R hr h => ⟨rd_marks, tm_marks T hr, good_marks h⟩
theorem sc_made_names : FnScope N_made_names ["old", "count"] (defScope s_made_names) := ⟨rfl, rfl, rfl, by decide +kernel, rfl, by decide +kernel, by decide +kernel⟩
theorem tm_made_names {f : Addr} {cdv : Value} {A : Around} {outer : List Env} {s : Shared} {H : Hp} {E : XK} (T : Tx mg) {f_marks : Addr} {fd_marks : FuncData} (F_marks : Df K mg "marks" s_marks ["things"] f_marks fd_marks) (G_marks : FnOk P w K mg base CX0 1 f_marks fd_marks ["things"] (upSp K sp_marks)) (hr : Room 1 (A.deeper (envOfC "made_names" (defScope s_made_names) s.heap.objs.size f cdv))) :
    Ps3 (cxOf CX0 P w K mg base N_made_names "made_names" (defScope s_made_names) f cdv A outer s H E).nox (defBody s_made_names) rd_made_names := by
  obtain ⟨t_FIGURED_NAMES, h_FIGURED_NAMES⟩ := T.c_FIGURED_NAMES
  have nd := sc_made_names.nd
  have hu := hu_of hr
  exact (ss_cons (s_set (i := 2) nd rfl (by first | exact Or.inl rfl | exact Or.inr rfl) (v_call G_marks (hr.mono (by decide)) (by rfl) F_marks.at_ F_marks.fn.kp F_marks.bi (a_cons (v 0) a_nil)))
      (ss_cons (s_set (i := 3) nd rfl (by first | exact Or.inl rfl | exact Or.inr rfl) (v_lst a_nil))
      (ss_cons (s_set (i := 4) nd rfl (by first | exact Or.inl rfl | exact Or.inr rfl) v_int)
      (ss_cons (s_while PassesOwn.never (t_cmp o_lt (v_callB c_len (by rfl) T.len_ bt_len (a_cons (v 3) a_nil)) (v 1) (by first | exact nomark _ | with_unfolding_all rfl))
        (ss_cons (s_set (i := 5) nd rfl (by first | exact Or.inl rfl | exact Or.inr rfl) (v_op o_addF (v_op o_addF (v_op o_mulF v_str (v_op o_addF v_int (v_op o_fdiv (v 4) (v_glob (y := V.int 10000) (by rfl) h_FIGURED_NAMES ⟨_, rfl⟩ (fun _ _ => .int _))))) v_str) (v_callTy c_str (by rfl) T.str_ bt_str (a_cons (v_op o_mod (v 4) (v_glob (y := V.int 10000) (by rfl) h_FIGURED_NAMES ⟨_, rfl⟩ (fun _ _ => .int _))) a_nil))))
      (ss_cons (s_set (i := 4) nd rfl (by first | exact Or.inl rfl | exact Or.inr rfl) (v_op o_addF (v 4) v_int))
      (ss_one (s_if (t_cmp (o_notin hu) (v 5) (v 2) (by first | exact nomark _ | with_unfolding_all rfl))
        (ss_one (s_expr (v_bm PySem.F.plainAttrs_list PySem.F.slot_list_append PySem.F.type_list_append m_append (v 3) (a_cons (v 5) a_nil))))
        ss_nil)))))
      (ss_one (s_ret (v 3)))))))
theorem ok_made_names (T : Tx mg) {f_made_names : Addr} {fd_made_names : FuncData} (F_made_names : Df K mg "made_names" s_made_names ["old", "count"] f_made_names fd_made_names) {f_marks : Addr} {fd_marks : FuncData} (F_marks : Df K mg "marks" s_marks ["things"] f_marks fd_marks) : FnOk P w K mg base CX0 2 f_made_names fd_made_names ["old", "count"] (upSp K sp_made_names) :=
  ok3 F_made_names.fn sc_made_names len_made_names fun cdv A outer s H E ws M R hr h => ⟨rd_made_names, tm_made_names T F_marks (ok_marks T F_marks) hr, good_made_names h⟩
theorem sc_slots : FnScope N_slots ["parts"] (defScope s_slots) := ⟨rfl, rfl, rfl, by decide +kernel, rfl, by decide +kernel, by decide +kernel⟩
theorem tm_slots {f : Addr} {cdv : Value} {A : Around} {outer : List Env} {s : Shared} {H : Hp} {E : XK} (T : Tx mg) (hr : Room 0 (A.deeper (envOfC "slots" (defScope s_slots) s.heap.objs.size f cdv))) :
    Ps3 (cxOf CX0 P w K mg base N_slots "slots" (defScope s_slots) f cdv A outer s H E).nox (defBody s_slots) rd_slots := by
  have nd := sc_slots.nd
  have hu := hu_of hr
  exact (ss_one (s_ret (v_tuprng (by rfl) T.tuple_ (by rfl) T.range_ (v_callB c_len (by rfl) T.len_ bt_len (a_cons (v 0) a_nil)))))
theorem ok_slots (T : Tx mg) {f_slots : Addr} {fd_slots : FuncData} (F_slots : Df K mg "slots" s_slots ["parts"] f_slots fd_slots) : FnOk P w K mg base CX0 1 f_slots fd_slots ["parts"] (upSp K sp_slots) :=
  ok3 F_slots.fn sc_slots len_slots fun cdv A outer s H E ws M R hr h => ⟨rd_slots, tm_slots T hr, good_slots h⟩
theorem sc_Plainer_init : FnScope N_Plainer_init ["self"] (defScope s_Plainer_init) := ⟨rfl, rfl, rfl, by decide +kernel, rfl, by decide +kernel, by decide +kernel⟩
theorem tm_Plainer_init {f : Addr} {cdv : Value} {A : Around} {outer : List Env} {s : Shared} {H : Hp} {E : XK} (T : Tx mg) (Z : Kc K mg C) (hr : Room 0 (A.deeper (envOfC "Plainer.__init__" (defScope s_Plainer_init) s.heap.objs.size f cdv))) :
    Ps3 (cxOf CX0 P w K mg base N_Plainer_init "Plainer.__init__" (defScope s_Plainer_init) f cdv A outer s H E).nox (defBody s_Plainer_init) (rd_Plainer_init P w C) := by
  have nd := sc_Plainer_init.nd
  have hu := hu_of hr
  exact (ss_one (s_fld Z.cls Z.na_backs (v 0) (v_dnewN (tl := [0]))))
theorem ok_Plainer_init (T : Tx mg) (Z : Kc K mg C) {f_Plainer_init : Addr} {fd_Plainer_init : FuncData} (F_Plainer_init : Di K C "__init__" "Plainer.__init__" s_Plainer_init ["self"] f_Plainer_init fd_Plainer_init) : FnOk P w K mg base CX0 1 f_Plainer_init fd_Plainer_init ["self"] (upSp K (sp_Plainer_init P w C)) :=
  ok3 F_Plainer_init.fn sc_Plainer_init len_Plainer_init fun cdv A outer s H E ws M R hr h => ⟨(rd_Plainer_init P w C), tm_Plainer_init T Z hr, good_Plainer_init h⟩
theorem sc_Plainer_put_rule : FnScope N_Plainer_put_rule ["self", "name", "parts", "pieces"] (defScope s_Plainer_put_rule) := ⟨rfl, rfl, rfl, by decide +kernel, rfl, by decide +kernel, by decide +kernel⟩
theorem tm_Plainer_put_rule {f : Addr} {cdv : Value} {A : Around} {outer : List Env} {s : Shared} {H : Hp} {E : XK} (T : Tx mg) (Z : Kc K mg C) (hr : Room 0 (A.deeper (envOfC "Plainer.put_rule" (defScope s_Plainer_put_rule) s.heap.objs.size f cdv))) :
    Ps3 (cxOf CX0 P w K mg base N_Plainer_put_rule "Plainer.put_rule" (defScope s_Plainer_put_rule) f cdv A outer s H E).nox (defBody s_Plainer_put_rule) (rd_Plainer_put_rule P w C) := by
  have nd := sc_Plainer_put_rule.nd
  have hu := hu_of hr
  exact (ss_one (s_expr (v_setN (tl := [0]) (hu2_of hr) (v_fld Z.cls Z.na_backs (v 0)) (v_tup (a_cons (v 1) (a_cons (v 2) (a_cons v_int a_nil)))) (v 3))))
theorem ok_Plainer_put_rule (T : Tx mg) (Z : Kc K mg C) {f_Plainer_put_rule : Addr} {fd_Plainer_put_rule : FuncData} (F_Plainer_put_rule : Dm K C "put_rule" "Plainer.put_rule" s_Plainer_put_rule ["self", "name", "parts", "pieces"] f_Plainer_put_rule fd_Plainer_put_rule) : FnOk P w K mg base CX0 1 f_Plainer_put_rule fd_Plainer_put_rule ["self", "name", "parts", "pieces"] (upSp K (sp_Plainer_put_rule P w C)) :=
  ok3 F_Plainer_put_rule.fn sc_Plainer_put_rule len_Plainer_put_rule fun cdv A outer s H E ws M R hr h => ⟨(rd_Plainer_put_rule P w C), tm_Plainer_put_rule T Z hr, good_Plainer_put_rule h⟩
theorem sc_Plainer_grammar_and_backs : FnScope N_Plainer_grammar_and_backs ["self"] (defScope s_Plainer_grammar_and_backs) := ⟨rfl, rfl, rfl, by decide +kernel, rfl, by decide +kernel, by decide +kernel⟩
theorem tm_Plainer_grammar_and_backs {f : Addr} {cdv : Value} {A : Around} {outer : List Env} {s : Shared} {H : Hp} {E : XK} (T : Tx mg) (Z : Kc K mg C) (hr : Room 0 (A.deeper (envOfC "Plainer.grammar_and_backs" (defScope s_Plainer_grammar_and_backs) s.heap.objs.size f cdv))) :
    Ps3 (cxOf CX0 P w K mg base N_Plainer_grammar_and_backs "Plainer.grammar_and_backs" (defScope s_Plainer_grammar_and_backs) f cdv A outer s H E).nox (defBody s_Plainer_grammar_and_backs) (rd_Plainer_grammar_and_backs P w C) := by
  have nd := sc_Plainer_grammar_and_backs.nd
  have hu := hu_of hr
  exact (ss_one (s_ret (v_tup (a_cons (v_callTy (c_listN (tl := [0]) rfl) (by rfl) T.list_ bt_list (a_cons (v_fld Z.cls Z.na_backs (v 0)) a_nil)) (a_cons (v_callTy (c_listN (tl := [0]) rfl) (by rfl) T.list_ bt_list (a_cons (v_valsN (tl := [0]) (v_fld Z.cls Z.na_backs (v 0))) a_nil)) a_nil)))))
theorem ok_Plainer_grammar_and_backs (T : Tx mg) (Z : Kc K mg C) {f_Plainer_grammar_and_backs : Addr} {fd_Plainer_grammar_and_backs : FuncData} (F_Plainer_grammar_and_backs : Dm K C "grammar_and_backs" "Plainer.grammar_and_backs" s_Plainer_grammar_and_backs ["self"] f_Plainer_grammar_and_backs fd_Plainer_grammar_and_backs) : FnOk P w K mg base CX0 1 f_Plainer_grammar_and_backs fd_Plainer_grammar_and_backs ["self"] (upSp K (sp_Plainer_grammar_and_backs P w C)) :=
  ok3 F_Plainer_grammar_and_backs.fn sc_Plainer_grammar_and_backs len_Plainer_grammar_and_backs fun cdv A outer s H E ws M R hr h => ⟨(rd_Plainer_grammar_and_backs P w C), tm_Plainer_grammar_and_backs T Z hr, good_Plainer_grammar_and_backs h⟩
theorem sc_long_ends : FnScope N_long_ends ["grammar"] (defScope s_long_ends) := ⟨rfl, rfl, rfl, by decide +kernel, rfl, by decide +kernel, by decide +kernel⟩
theorem tm_long_ends {f : Addr} {cdv : Value} {A : Around} {outer : List Env} {s : Shared} {H : Hp} {E : XK} (T : Tx mg) (hr : Room 0 (A.deeper (envOfC "long_ends" (defScope s_long_ends) s.heap.objs.size f cdv))) :
    Ps3 (cxOf CX0 P w K mg base N_long_ends "long_ends" (defScope s_long_ends) f cdv A outer s H E).nox (defBody s_long_ends) rd_long_ends := by
  have nd := sc_long_ends.nd
  have hu := hu_of hr
  exact (ss_cons (s_set (i := 1) nd rfl (by first | exact Or.inl rfl | exact Or.inr rfl) v_dnewT)
      (ss_cons (s_for PassesOwn.never rfl (i_seqN (v 0)) (w_name (i := 2) nd rfl (by first | exact Or.inl rfl | exact Or.inr rfl))
        (ss_one (s_for PassesOwn.never rfl (i_range2 (by rfl) T.range_ (a_cons v_int (a_cons (v_op o_sub (v_callB c_len (by rfl) T.len_ bt_len (a_cons (v_ix hu (v 2) v_int) a_nil)) v_int) a_nil))) (w_name (i := 3) nd rfl (by first | exact Or.inl rfl | exact Or.inr rfl))
        (ss_one (s_asg v_bl (w_sub hu (v 1) (v_sliceF (v_ix hu (v 2) v_int) (s_some (v 3)) s_none)))))))
      (ss_one (s_ret (v_callTy (c_listT rfl) (by rfl) T.list_ bt_list (a_cons (v 1) a_nil))))))
theorem ok_long_ends (T : Tx mg) {f_long_ends : Addr} {fd_long_ends : FuncData} (F_long_ends : Df K mg "long_ends" s_long_ends ["grammar"] f_long_ends fd_long_ends) : FnOk P w K mg base CX0 1 f_long_ends fd_long_ends ["grammar"] (upSp K sp_long_ends) :=
  ok3 F_long_ends.fn sc_long_ends len_long_ends fun cdv A outer s H E ws M R hr h => ⟨rd_long_ends, tm_long_ends T hr, good_long_ends h⟩
theorem sc_shortened : FnScope N_shortened ["parts", "made"] (defScope s_shortened) := ⟨rfl, rfl, rfl, by decide +kernel, rfl, by decide +kernel, by decide +kernel⟩
theorem tm_shortened {f : Addr} {cdv : Value} {A : Around} {outer : List Env} {s : Shared} {H : Hp} {E : XK} (T : Tx mg) (hr : Room 0 (A.deeper (envOfC "shortened" (defScope s_shortened) s.heap.objs.size f cdv))) :
    Ps3 (cxOf CX0 P w K mg base N_shortened "shortened" (defScope s_shortened) f cdv A outer s H E).nox (defBody s_shortened) rd_shortened := by
  have nd := sc_shortened.nd
  have hu := hu_of hr
  exact (ss_one (s_ret (v_if (t_cmp o_le (v_callB c_len (by rfl) T.len_ bt_len (a_cons (v 0) a_nil)) v_int (by first | exact nomark _ | with_unfolding_all rfl)) (v 0) (v_tup (a_cons (v_ix hu (v 0) v_int) (a_cons (v_ix hu (v 1) (v_sliceF (v 0) (s_some v_int) s_none)) a_nil))))))
theorem ok_shortened (T : Tx mg) {f_shortened : Addr} {fd_shortened : FuncData} (F_shortened : Df K mg "shortened" s_shortened ["parts", "made"] f_shortened fd_shortened) : FnOk P w K mg base CX0 1 f_shortened fd_shortened ["parts", "made"] (upSp K sp_shortened) :=
  ok3 F_shortened.fn sc_shortened len_shortened fun cdv A outer s H E ws M R hr h => ⟨rd_shortened, tm_shortened T hr, good_shortened h⟩
theorem sc_twos : FnScope N_twos ["grammar"] (defScope s_twos) := ⟨rfl, rfl, rfl, by decide +kernel, rfl, by decide +kernel, by decide +kernel⟩
theorem tm_twos {f : Addr} {cdv : Value} {A : Around} {outer : List Env} {s : Shared} {H : Hp} {E : XK} (T : Tx mg) (Z : Kc K mg C) {f_long_ends : Addr} {fd_long_ends : FuncData} (F_long_ends : Df K mg "long_ends" s_long_ends ["grammar"] f_long_ends fd_long_ends) (G_long_ends : FnOk P w K mg base CX0 1 f_long_ends fd_long_ends ["grammar"] (upSp K sp_long_ends)) {f_Plainer_init : Addr} {fd_Plainer_init : FuncData} (F_Plainer_init : Di K C "__init__" "Plainer.__init__" s_Plainer_init ["self"] f_Plainer_init fd_Plainer_init) (G_Plainer_init : FnOk P w K mg base CX0 1 f_Plainer_init fd_Plainer_init ["self"] (upSp K (sp_Plainer_init P w C))) {f_Plainer_grammar_and_backs : Addr} {fd_Plainer_grammar_and_backs : FuncData} (F_Plainer_grammar_and_backs : Dm K C "grammar_and_backs" "Plainer.grammar_and_backs" s_Plainer_grammar_and_backs ["self"] f_Plainer_grammar_and_backs fd_Plainer_grammar_and_backs) (G_Plainer_grammar_and_backs : FnOk P w K mg base CX0 1 f_Plainer_grammar_and_backs fd_Plainer_grammar_and_backs ["self"] (upSp K (sp_Plainer_grammar_and_backs P w C))) {f_shortened : Addr} {fd_shortened : FuncData} (F_shortened : Df K mg "shortened" s_shortened ["parts", "made"] f_shortened fd_shortened) (G_shortened : FnOk P w K mg base CX0 1 f_shortened fd_shortened ["parts", "made"] (upSp K sp_shortened)) {f_Plainer_put_rule : Addr} {fd_Plainer_put_rule : FuncData} (F_Plainer_put_rule : Dm K C "put_rule" "Plainer.put_rule" s_Plainer_put_rule ["self", "name", "parts", "pieces"] f_Plainer_put_rule fd_Plainer_put_rule) (G_Plainer_put_rule : FnOk P w K mg base CX0 1 f_Plainer_put_rule fd_Plainer_put_rule ["self", "name", "parts", "pieces"] (upSp K (sp_Plainer_put_rule P w C))) {f_made_names : Addr} {fd_made_names : FuncData} (F_made_names : Df K mg "made_names" s_made_names ["old", "count"] f_made_names fd_made_names) (G_made_names : FnOk P w K mg base CX0 2 f_made_names fd_made_names ["old", "count"] (upSp K sp_made_names)) {f_slots : Addr} {fd_slots : FuncData} (F_slots : Df K mg "slots" s_slots ["parts"] f_slots fd_slots) (G_slots : FnOk P w K mg base CX0 1 f_slots fd_slots ["parts"] (upSp K sp_slots)) {f_namesW : Addr} {fd_namesW : FuncData} (F_namesW : Df K mg "names" s_namesW ["grammar"] f_namesW fd_namesW) (G_namesW : FnOk P w K mg base CX0 1 f_namesW fd_namesW ["grammar"] (upSp K sp_namesW)) (hr : Room 2 (A.deeper (envOfC "twos" (defScope s_twos) s.heap.objs.size f cdv))) :
    Ps3 (cxOf CX0 P w K mg base N_twos "twos" (defScope s_twos) f cdv A outer s H E).nox (defBody s_twos) (rd_twos P w C) := by
  have nd := sc_twos.nd
  have hu := hu_of hr
  exact (ss_cons (s_set (i := 1) nd rfl (by first | exact Or.inl rfl | exact Or.inr rfl) (v_frz (v_call G_long_ends (hr.mono (by decide)) (by rfl) F_long_ends.at_ F_long_ends.fn.kp F_long_ends.bi (a_cons (v 0) a_nil))))
      (ss_cons (s_set (i := 2) nd rfl (by first | exact Or.inl rfl | exact Or.inr rfl) (v_dictzip (hu2_of hr) (by rfl) T.dict_ (by rfl) T.zip_ (a_cons (v 1) (a_cons (v_frz (v_call G_made_names (hr.mono (by decide)) (by rfl) F_made_names.at_ F_made_names.fn.kp F_made_names.bi (a_cons (v_frz (v_call G_namesW (hr.mono (by decide)) (by rfl) F_namesW.at_ F_namesW.fn.kp F_namesW.bi (a_cons (v 0) a_nil))) (a_cons (v_callB c_len (by rfl) T.len_ bt_len (a_cons (v 1) a_nil)) a_nil)))) a_nil))))
      (ss_cons (s_set (i := 3) nd rfl (by first | exact Or.inl rfl | exact Or.inr rfl) (v_make0 F_Plainer_init.mak G_Plainer_init (hr.mono (by decide)) (by rfl) Z.at_ F_Plainer_init.bi))
      (ss_cons (s_for PassesOwn.never rfl (i_enumerate (by rfl) T.enumerate_ (a_cons (v 0) a_nil)) (w_tup rfl (w_cons (w_name (i := 4) nd rfl (by first | exact Or.inl rfl | exact Or.inr rfl)) (w_cons (w_name (i := 5) nd rfl (by first | exact Or.inl rfl | exact Or.inr rfl)) w_nil)))
        (ss_cons (s_set (i := 6) nd rfl (by first | exact Or.inl rfl | exact Or.inr rfl) (v_call G_shortened (hr.mono (by decide)) (by rfl) F_shortened.at_ F_shortened.fn.kp F_shortened.bi (a_cons (v_ix hu (v 5) v_int) (a_cons (v 2) a_nil))))
      (ss_one (s_expr (v_meth Z.cls F_Plainer_put_rule.me G_Plainer_put_rule (hr.mono (by decide)) F_Plainer_put_rule.bi (v 3) (a_cons (v_ix hu (v 5) v_int) (a_cons (v 6) (a_cons (v_tup (a_cons (v_tup (a_cons (v 4) (a_cons (v_call G_slots (hr.mono (by decide)) (by rfl) F_slots.at_ F_slots.fn.kp F_slots.bi (a_cons (v 6) a_nil)) a_nil))) a_nil)) a_nil))))))))
      (ss_cons (s_for PassesOwn.never rfl (i_seqN (v 1)) (w_name (i := 7) nd rfl (by first | exact Or.inl rfl | exact Or.inr rfl))
        (ss_cons (s_set (i := 6) nd rfl (by first | exact Or.inl rfl | exact Or.inr rfl) (v_call G_shortened (hr.mono (by decide)) (by rfl) F_shortened.at_ F_shortened.fn.kp F_shortened.bi (a_cons (v 7) (a_cons (v 2) a_nil))))
      (ss_one (s_expr (v_meth Z.cls F_Plainer_put_rule.me G_Plainer_put_rule (hr.mono (by decide)) F_Plainer_put_rule.bi (v 3) (a_cons (v_ix hu (v 2) (v 7)) (a_cons (v 6) (a_cons (v_call G_slots (hr.mono (by decide)) (by rfl) F_slots.at_ F_slots.fn.kp F_slots.bi (a_cons (v 6) a_nil)) a_nil))))))))
      (ss_one (s_ret (v_meth0 Z.cls F_Plainer_grammar_and_backs.me G_Plainer_grammar_and_backs (hr.mono (by decide)) F_Plainer_grammar_and_backs.bi (v 3)))))))))
theorem ok_twos (T : Tx mg) (Z : Kc K mg C) {f_twos : Addr} {fd_twos : FuncData} (F_twos : Df K mg "twos" s_twos ["grammar"] f_twos fd_twos) {f_namesW : Addr} {fd_namesW : FuncData} (F_namesW : Df K mg "names" s_namesW ["grammar"] f_namesW fd_namesW) {f_marks : Addr} {fd_marks : FuncData} (F_marks : Df K mg "marks" s_marks ["things"] f_marks fd_marks) {f_made_names : Addr} {fd_made_names : FuncData} (F_made_names : Df K mg "made_names" s_made_names ["old", "count"] f_made_names fd_made_names) {f_slots : Addr} {fd_slots : FuncData} (F_slots : Df K mg "slots" s_slots ["parts"] f_slots fd_slots) {f_Plainer_init : Addr} {fd_Plainer_init : FuncData} (F_Plainer_init : Di K C "__init__" "Plainer.__init__" s_Plainer_init ["self"] f_Plainer_init fd_Plainer_init) {f_Plainer_put_rule : Addr} {fd_Plainer_put_rule : FuncData} (F_Plainer_put_rule : Dm K C "put_rule" "Plainer.put_rule" s_Plainer_put_rule ["self", "name", "parts", "pieces"] f_Plainer_put_rule fd_Plainer_put_rule) {f_Plainer_grammar_and_backs : Addr} {fd_Plainer_grammar_and_backs : FuncData} (F_Plainer_grammar_and_backs : Dm K C "grammar_and_backs" "Plainer.grammar_and_backs" s_Plainer_grammar_and_backs ["self"] f_Plainer_grammar_and_backs fd_Plainer_grammar_and_backs) {f_long_ends : Addr} {fd_long_ends : FuncData} (F_long_ends : Df K mg "long_ends" s_long_ends ["grammar"] f_long_ends fd_long_ends) {f_shortened : Addr} {fd_shortened : FuncData} (F_shortened : Df K mg "shortened" s_shortened ["parts", "made"] f_shortened fd_shortened) : FnOk P w K mg base CX0 3 f_twos fd_twos ["grammar"] (upSp K sp_twos) :=
  ok3 F_twos.fn sc_twos len_twos fun cdv A outer s H E ws M R hr h => ⟨(rd_twos P w C), tm_twos T Z F_long_ends (ok_long_ends T F_long_ends) F_Plainer_init (ok_Plainer_init T Z F_Plainer_init) F_Plainer_grammar_and_backs (ok_Plainer_grammar_and_backs T Z F_Plainer_grammar_and_backs) F_shortened (ok_shortened T F_shortened) F_Plainer_put_rule (ok_Plainer_put_rule T Z F_Plainer_put_rule) F_made_names (ok_made_names T F_made_names F_marks) F_slots (ok_slots T F_slots) F_namesW (ok_namesW T F_namesW) hr, good_twos h⟩
theorem sc_l_cell_at : FnScope N_l_cell_at ["script", "k"] (defScope s_l_cell_at) := ⟨rfl, rfl, rfl, by decide +kernel, rfl, by decide +kernel, by decide +kernel⟩
theorem tm_l_cell_at {f : Addr} {cdv : Value} {A : Around} {outer : List Env} {s : Shared} {H : Hp} {E : XK} (T : Tx mg) (hr : Room 0 (A.deeper (envOfC "_law_cell_at" (defScope s_l_cell_at) s.heap.objs.size f cdv))) :
    Ps3 (cxOf CX0 P w K mg base N_l_cell_at "_law_cell_at" (defScope s_l_cell_at) f cdv A outer s H E).nox (defBody s_l_cell_at) rd_l_cell_at := by
  have nd := sc_l_cell_at.nd
  have hu := hu_of hr
  exact (ss_cons (s_if (t_cmp o_lt (v 1) (v_callB c_len (by rfl) T.len_ bt_len (a_cons (v 0) a_nil)) (by first | exact nomark _ | with_unfolding_all rfl))
        (ss_one (s_ret (v_ix hu (v 0) (v 1))))
        ss_nil)
      (ss_one (s_ret v_int)))
theorem ok_l_cell_at (T : Tx mg) {f_l_cell_at : Addr} {fd_l_cell_at : FuncData} (F_l_cell_at : Df K mg "_law_cell_at" s_l_cell_at ["script", "k"] f_l_cell_at fd_l_cell_at) : FnOk P w K mg base CX0 1 f_l_cell_at fd_l_cell_at ["script", "k"] (upSp K sp_l_cell_at) :=
  ok3 F_l_cell_at.fn sc_l_cell_at len_l_cell_at fun cdv A outer s H E ws M R hr h => ⟨rd_l_cell_at, tm_l_cell_at T hr, good_l_cell_at h⟩
theorem sc_l_stir : FnScope N_l_stir ["cell", "k"] (defScope s_l_stir) := ⟨rfl, rfl, rfl, by decide +kernel, rfl, by decide +kernel, by decide +kernel⟩
theorem tm_l_stir {f : Addr} {cdv : Value} {A : Around} {outer : List Env} {s : Shared} {H : Hp} {E : XK} (T : Tx mg) (hr : Room 0 (A.deeper (envOfC "_law_stir" (defScope s_l_stir) s.heap.objs.size f cdv))) :
    Ps3 (cxOf CX0 P w K mg base N_l_stir "_law_stir" (defScope s_l_stir) f cdv A outer s H E).nox (defBody s_l_stir) rd_l_stir := by
  have nd := sc_l_stir.nd
  have hu := hu_of hr
  exact (ss_cons (s_set (i := 2) nd rfl (by first | exact Or.inl rfl | exact Or.inr rfl) (v_op o_addF (v_op o_addF (v_op o_mulF (v_op o_mod (v 0) (v_op o_pow v_int v_int)) v_int) (v_op o_mulF (v_op o_mulF (v_op o_pow v_int v_int) (v_op o_addF (v 1) v_int)) (v_op o_addF (v 1) v_int))) (v 1)))
      (ss_cons (s_set (i := 2) nd rfl (by first | exact Or.inl rfl | exact Or.inr rfl) (v_op o_addF (v_op o_mulF (v 2) (v 2)) (v_op o_mulF v_int (v 2))))
      (ss_one (s_ret (v_op o_fdiv (v_op o_mod (v_op o_mulF (v 2) (v 2)) (v_op o_addF (v_op o_pow v_int v_int) v_int)) v_int)))))
theorem ok_l_stir (T : Tx mg) {f_l_stir : Addr} {fd_l_stir : FuncData} (F_l_stir : Df K mg "_law_stir" s_l_stir ["cell", "k"] f_l_stir fd_l_stir) : FnOk P w K mg base CX0 1 f_l_stir fd_l_stir ["cell", "k"] (upSp K sp_l_stir) :=
  ok3 F_l_stir.fn sc_l_stir len_l_stir fun cdv A outer s H E ws M R hr h => ⟨rd_l_stir, tm_l_stir T hr, good_l_stir h⟩
theorem sc_l_drawn : FnScope N_l_drawn ["cell", "sizes"] (defScope s_l_drawn) := ⟨rfl, rfl, rfl, by decide +kernel, rfl, by decide +kernel, by decide +kernel⟩
theorem tm_l_drawn {f : Addr} {cdv : Value} {A : Around} {outer : List Env} {s : Shared} {H : Hp} {E : XK} (T : Tx mg) {f_l_stir : Addr} {fd_l_stir : FuncData} (F_l_stir : Df K mg "_law_stir" s_l_stir ["cell", "k"] f_l_stir fd_l_stir) (G_l_stir : FnOk P w K mg base CX0 1 f_l_stir fd_l_stir ["cell", "k"] (upSp K sp_l_stir)) (hr : Room 1 (A.deeper (envOfC "_law_drawn" (defScope s_l_drawn) s.heap.objs.size f cdv))) :
    Ps3 (cxOf CX0 P w K mg base N_l_drawn "_law_drawn" (defScope s_l_drawn) f cdv A outer s H E).nox (defBody s_l_drawn) rd_l_drawn := by
  have nd := sc_l_drawn.nd
  have hu := hu_of hr
  exact (ss_cons (s_set (i := 2) nd rfl (by first | exact Or.inl rfl | exact Or.inr rfl) (v_lst a_nil))
      (ss_cons (s_set (i := 3) nd rfl (by first | exact Or.inl rfl | exact Or.inr rfl) (v_op o_sub (v 0) (v_op o_pow v_int v_int)))
      (ss_cons (s_for PassesOwn.never rfl (i_range1 (by rfl) T.range_ (a_cons (v_callB c_len (by rfl) T.len_ bt_len (a_cons (v 1) a_nil)) a_nil)) (w_name (i := 4) nd rfl (by first | exact Or.inl rfl | exact Or.inr rfl))
        (ss_one (s_if (t_cmp o_ge (v 0) (v_op o_pow v_int v_int) (by first | exact nomark _ | with_unfolding_all rfl))
        (ss_cons (s_expr (v_bm PySem.F.plainAttrs_list PySem.F.slot_list_append PySem.F.type_list_append m_append (v 2) (a_cons (v_op o_mod (v 3) (v_ix hu (v 1) (v 4))) a_nil)))
      (ss_one (s_set (i := 3) nd rfl (by first | exact Or.inl rfl | exact Or.inr rfl) (v_op o_fdiv (v 3) (v_ix hu (v 1) (v 4))))))
        (ss_one (s_expr (v_bm PySem.F.plainAttrs_list PySem.F.slot_list_append PySem.F.type_list_append m_append (v 2) (a_cons (v_op o_mod (v_call G_l_stir (hr.mono (by decide)) (by rfl) F_l_stir.at_ F_l_stir.fn.kp F_l_stir.bi (a_cons (v 0) (a_cons (v 4) a_nil))) (v_ix hu (v 1) (v 4))) a_nil)))))))
      (ss_one (s_ret (v 2))))))
theorem ok_l_drawn (T : Tx mg) {f_l_drawn : Addr} {fd_l_drawn : FuncData} (F_l_drawn : Df K mg "_law_drawn" s_l_drawn ["cell", "sizes"] f_l_drawn fd_l_drawn) {f_l_stir : Addr} {fd_l_stir : FuncData} (F_l_stir : Df K mg "_law_stir" s_l_stir ["cell", "k"] f_l_stir fd_l_stir) : FnOk P w K mg base CX0 2 f_l_drawn fd_l_drawn ["cell", "sizes"] (upSp K sp_l_drawn) :=
  ok3 F_l_drawn.fn sc_l_drawn len_l_drawn fun cdv A outer s H E ws M R hr h => ⟨rd_l_drawn, tm_l_drawn T F_l_stir (ok_l_stir T F_l_stir) hr, good_l_drawn h⟩
theorem sc_l_unlike : FnScope N_l_unlike ["number", "many", "great"] (defScope s_l_unlike) := ⟨rfl, rfl, rfl, by decide +kernel, rfl, by decide +kernel, by decide +kernel⟩
theorem tm_l_unlike {f : Addr} {cdv : Value} {A : Around} {outer : List Env} {s : Shared} {H : Hp} {E : XK} (T : Tx mg) (hr : Room 0 (A.deeper (envOfC "_law_unlike" (defScope s_l_unlike) s.heap.objs.size f cdv))) :
    Ps3 (cxOf CX0 P w K mg base N_l_unlike "_law_unlike" (defScope s_l_unlike) f cdv A outer s H E).nox (defBody s_l_unlike) rd_l_unlike := by
  have nd := sc_l_unlike.nd
  have hu := hu_of hr
  exact (ss_cons (s_set (i := 3) nd rfl (by first | exact Or.inl rfl | exact Or.inr rfl) v_str)
      (ss_cons (s_if (t_val (v 2))
        (ss_one (s_set (i := 3) nd rfl (by first | exact Or.inl rfl | exact Or.inr rfl) (v_bm0 PySem.F.plainAttrs_str PySem.F.slot_str_upper PySem.F.type_str_upper m_upper (v 3))))
        ss_nil)
      (ss_cons (s_set (i := 4) nd rfl (by first | exact Or.inl rfl | exact Or.inr rfl) (v_ix hu (v 3) (v_op o_mod (v 0) v_int)))
      (ss_cons (s_set (i := 5) nd rfl (by first | exact Or.inl rfl | exact Or.inr rfl) (v_op o_addF v_int (v_op o_mod (v_op o_fdiv (v 0) v_int) v_int)))
      (ss_cons (s_set (i := 6) nd rfl (by first | exact Or.inl rfl | exact Or.inr rfl) (v_op o_mod (v_op o_fdiv (v 0) v_int) (v 5)))
      (ss_cons (s_set (i := 7) nd rfl (by first | exact Or.inl rfl | exact Or.inr rfl) (v_op o_mod (v_op o_fdiv (v 0) v_int) v_int))
      (ss_cons (s_set (i := 8) nd rfl (by first | exact Or.inl rfl | exact Or.inr rfl) (v_lst a_nil))
      (ss_cons (s_for PassesOwn.never rfl (i_range1 (by rfl) T.range_ (a_cons (v 1) a_nil)) (w_name (i := 9) nd rfl (by first | exact Or.inl rfl | exact Or.inr rfl))
        (ss_cons (s_set (i := 10) nd rfl (by first | exact Or.inl rfl | exact Or.inr rfl) (v_ix hu (v 3) (v_op o_mod (v_op o_addF (v 7) (v_op o_mulF v_int (v 9))) v_int)))
      (ss_cons (s_expr (v_bm PySem.F.plainAttrs_list PySem.F.slot_list_append PySem.F.type_list_append m_append (v 8) (a_cons (v_op o_addF (v_op o_addF (v_op o_mulF (v 4) (v 6)) (v 10)) (v_op o_mulF (v 4) (v_op o_sub (v_op o_sub (v 5) (v 6)) v_int))) a_nil)))
      (ss_one (s_if (PW.pt (t_and (t_val (v 2)) (t_and (t_cmp (o_eq hr.units) (v_op o_mod (v_op o_fdiv (v 0) v_int) v_int) v_int (by first | exact nomark _ | with_unfolding_all rfl)) (t_and1 (t_cmp (o_eq hr.units) (v_op o_band (v_op o_shr (v_op o_fdiv (v 0) v_int) (v 9)) v_int) v_int (by first | exact nomark _ | with_unfolding_all rfl))))))
        (ss_one (s_asg (v_op o_addF (v_op o_addF (v_ix hu (v 8) (v 9)) v_str) (v_callTy c_str (by rfl) T.str_ bt_str (a_cons (v_op o_mod (v_op o_fdiv (v 0) v_int) v_int) a_nil))) (w_sub hu (v 8) (v 9))))
        ss_nil)))))
      (ss_one (s_ret (v 8)))))))))))
theorem ok_l_unlike (T : Tx mg) {f_l_unlike : Addr} {fd_l_unlike : FuncData} (F_l_unlike : Df K mg "_law_unlike" s_l_unlike ["number", "many", "great"] f_l_unlike fd_l_unlike) : FnOk P w K mg base CX0 1 f_l_unlike fd_l_unlike ["number", "many", "great"] (upSp K sp_l_unlike) :=
  ok3 F_l_unlike.fn sc_l_unlike len_l_unlike fun cdv A outer s H E ws M R hr h => ⟨rd_l_unlike, tm_l_unlike T hr, good_l_unlike h⟩
theorem sc_l_rule : FnScope N_l_rule ["cell", "heads", "words", "most"] (defScope s_l_rule) := ⟨rfl, rfl, rfl, by decide +kernel, rfl, by decide +kernel, by decide +kernel⟩
theorem tm_l_rule {f : Addr} {cdv : Value} {A : Around} {outer : List Env} {s : Shared} {H : Hp} {E : XK} (T : Tx mg) {f_l_drawn : Addr} {fd_l_drawn : FuncData} (F_l_drawn : Df K mg "_law_drawn" s_l_drawn ["cell", "sizes"] f_l_drawn fd_l_drawn) (G_l_drawn : FnOk P w K mg base CX0 2 f_l_drawn fd_l_drawn ["cell", "sizes"] (upSp K sp_l_drawn)) (hr : Room 2 (A.deeper (envOfC "_law_rule" (defScope s_l_rule) s.heap.objs.size f cdv))) :
    Ps3 (cxOf CX0 P w K mg base N_l_rule "_law_rule" (defScope s_l_rule) f cdv A outer s H E).nox (defBody s_l_rule) rd_l_rule := by
  have nd := sc_l_rule.nd
  have hu := hu_of hr
  exact (ss_cons (s_set (i := 4) nd rfl (by first | exact Or.inl rfl | exact Or.inr rfl) (v_frz (v_call G_l_drawn (hr.mono (by decide)) (by rfl) F_l_drawn.at_ F_l_drawn.fn.kp F_l_drawn.bi (a_cons (v 0) (a_cons (v_op o_addF (v_lstF (a_cons (v_callB c_len (by rfl) T.len_ bt_len (a_cons (v 1) a_nil)) (a_cons (v_op o_addF (v 3) v_int) (a_cons v_int (a_cons (v_op o_pow v_int v_int) a_nil))))) (v_op o_mulF (v_lstF (a_cons v_int a_nil)) (v 3))) a_nil)))))
      (ss_cons (s_set (i := 5) nd rfl (by first | exact Or.inl rfl | exact Or.inr rfl) (v_lst a_nil))
      (ss_cons (s_for PassesOwn.never rfl (i_seqN (v_sliceF (v 4) (s_some v_int) (s_some (v_op o_addF v_int (v_ix hu (v 4) v_int))))) (w_name (i := 6) nd rfl (by first | exact Or.inl rfl | exact Or.inr rfl))
        (ss_one (s_if (t_cmp o_lt (v 6) v_int (by first | exact nomark _ | with_unfolding_all rfl))
        (ss_one (s_expr (v_bm PySem.F.plainAttrs_list PySem.F.slot_list_append PySem.F.type_list_append m_append (v 5) (a_cons (v_ix hu (v 2) (v 6)) a_nil))))
        (ss_one (s_expr (v_bm PySem.F.plainAttrs_list PySem.F.slot_list_append PySem.F.type_list_append m_append (v 5) (a_cons (v_ix hu (v 1) (v_op o_mod (v_op o_addF (v_op o_sub (v 6) v_int) (v_ix hu (v 4) v_int)) (v_callB c_len (by rfl) T.len_ bt_len (a_cons (v 1) a_nil)))) a_nil)))))))
      (ss_one (s_ret (v_tup (a_cons (v_ix hu (v 1) (v_ix hu (v 4) v_int)) (a_cons (v_callTy c_tuple (by rfl) T.tuple_ bt_tuple (a_cons (v 5) a_nil)) (a_cons (v_op o_mod (v_ix hu (v 4) v_int) (v_ix hu (v_lstF (a_cons v_int (a_cons v_int (a_cons (v_op o_pow v_int v_int) a_nil)))) (v_ix hu (v 4) v_int))) a_nil)))))))))
theorem ok_l_rule (T : Tx mg) {f_l_rule : Addr} {fd_l_rule : FuncData} (F_l_rule : Df K mg "_law_rule" s_l_rule ["cell", "heads", "words", "most"] f_l_rule fd_l_rule) {f_l_stir : Addr} {fd_l_stir : FuncData} (F_l_stir : Df K mg "_law_stir" s_l_stir ["cell", "k"] f_l_stir fd_l_stir) {f_l_drawn : Addr} {fd_l_drawn : FuncData} (F_l_drawn : Df K mg "_law_drawn" s_l_drawn ["cell", "sizes"] f_l_drawn fd_l_drawn) : FnOk P w K mg base CX0 3 f_l_rule fd_l_rule ["cell", "heads", "words", "most"] (upSp K sp_l_rule) :=
  ok3 F_l_rule.fn sc_l_rule len_l_rule fun cdv A outer s H E ws M R hr h => ⟨rd_l_rule, tm_l_rule T F_l_drawn (ok_l_drawn T F_l_drawn F_l_stir) hr, good_l_rule h⟩
theorem sc_l_rules : FnScope N_l_rules ["cells", "many", "most"] (defScope s_l_rules) := ⟨rfl, rfl, rfl, by decide +kernel, rfl, by decide +kernel, by decide +kernel⟩
theorem tm_l_rules {f : Addr} {cdv : Value} {A : Around} {outer : List Env} {s : Shared} {H : Hp} {E : XK} (T : Tx mg) {f_l_drawn : Addr} {fd_l_drawn : FuncData} (F_l_drawn : Df K mg "_law_drawn" s_l_drawn ["cell", "sizes"] f_l_drawn fd_l_drawn) (G_l_drawn : FnOk P w K mg base CX0 2 f_l_drawn fd_l_drawn ["cell", "sizes"] (upSp K sp_l_drawn)) {f_l_unlike : Addr} {fd_l_unlike : FuncData} (F_l_unlike : Df K mg "_law_unlike" s_l_unlike ["number", "many", "great"] f_l_unlike fd_l_unlike) (G_l_unlike : FnOk P w K mg base CX0 1 f_l_unlike fd_l_unlike ["number", "many", "great"] (upSp K sp_l_unlike)) {f_l_cell_at : Addr} {fd_l_cell_at : FuncData} (F_l_cell_at : Df K mg "_law_cell_at" s_l_cell_at ["script", "k"] f_l_cell_at fd_l_cell_at) (G_l_cell_at : FnOk P w K mg base CX0 1 f_l_cell_at fd_l_cell_at ["script", "k"] (upSp K sp_l_cell_at)) {f_l_rule : Addr} {fd_l_rule : FuncData} (F_l_rule : Df K mg "_law_rule" s_l_rule ["cell", "heads", "words", "most"] f_l_rule fd_l_rule) (G_l_rule : FnOk P w K mg base CX0 3 f_l_rule fd_l_rule ["cell", "heads", "words", "most"] (upSp K sp_l_rule)) (hr : Room 3 (A.deeper (envOfC "_law_rules" (defScope s_l_rules) s.heap.objs.size f cdv))) :
    Ps3 (cxOf CX0 P w K mg base N_l_rules "_law_rules" (defScope s_l_rules) f cdv A outer s H E).nox (defBody s_l_rules) rd_l_rules := by
  have nd := sc_l_rules.nd
  have hu := hu_of hr
  exact (ss_cons (s_asg (v_frz (v_call G_l_drawn (hr.mono (by decide)) (by rfl) F_l_drawn.at_ F_l_drawn.fn.kp F_l_drawn.bi (a_cons (v_call G_l_cell_at (hr.mono (by decide)) (by rfl) F_l_cell_at.at_ F_l_cell_at.fn.kp F_l_cell_at.bi (a_cons (v 0) (a_cons v_int a_nil))) (a_cons (v_lstF (a_cons (v_op o_pow v_int v_int) (a_cons (v_op o_pow v_int v_int) a_nil))) a_nil)))) (w_tup rfl (w_cons (w_name (i := 3) nd rfl (by first | exact Or.inl rfl | exact Or.inr rfl)) (w_cons (w_name (i := 4) nd rfl (by first | exact Or.inl rfl | exact Or.inr rfl)) w_nil))))
      (ss_cons (s_set (i := 5) nd rfl (by first | exact Or.inl rfl | exact Or.inr rfl) (v_frz (v_call G_l_unlike (hr.mono (by decide)) (by rfl) F_l_unlike.at_ F_l_unlike.fn.kp F_l_unlike.bi (a_cons (v 3) (a_cons (v 1) (a_cons v_bl a_nil))))))
      (ss_cons (s_set (i := 6) nd rfl (by first | exact Or.inl rfl | exact Or.inr rfl) (v_frz (v_call G_l_unlike (hr.mono (by decide)) (by rfl) F_l_unlike.at_ F_l_unlike.fn.kp F_l_unlike.bi (a_cons (v 4) (a_cons v_int (a_cons v_bl a_nil))))))
      (ss_cons (s_setcomp (i := 7) nd rfl (by first | exact Or.inl rfl | exact Or.inr rfl) ["cell", "heads", "words", "most"] [none, some 5, some 6, some 2] (i_seqN (v_sliceF (v 0) (s_some v_int) s_none)) (fun B => (w_name (i := 0) (show (["cell", "heads", "words", "most"] : List Str).Nodup by decide +kernel) rfl (by first | exact Or.inl rfl | exact Or.inr rfl))) (fun B => if_nil) (fun B => (v_call G_l_rule (hr.mono (by decide)) (by rfl) F_l_rule.at_ F_l_rule.fn.kp F_l_rule.bi (a_cons (v 0) (a_cons (v 1) (a_cons (v 2) (a_cons (v 3) a_nil)))))))
      (ss_cons (s_for PassesOwn.never rfl (i_seqN (v 5)) (w_name (i := 8) nd rfl (by first | exact Or.inl rfl | exact Or.inr rfl))
        (ss_one (s_if (t_cmp (o_notin hu) (v 8) (v_frz (v_comp ["rule"] [none] (i_seqN (v 7)) (fun B => (w_name (i := 0) (show (["rule"] : List Str).Nodup by decide +kernel) rfl (by first | exact Or.inl rfl | exact Or.inr rfl))) (fun B => if_nil) (fun B => (v_ix hu (v 0) v_int)))) (by first | exact nomark _ | with_unfolding_all rfl))
        (ss_one (s_expr (v_bm PySem.F.plainAttrs_list PySem.F.slot_list_append PySem.F.type_list_append m_append (v 7) (a_cons (v_tup (a_cons (v 8) (a_cons (v_tup (a_cons (v_ix hu (v 6) v_int) a_nil)) (a_cons v_int a_nil)))) a_nil))))
        ss_nil)))
      (ss_one (s_ret (v 7))))))))
theorem ok_l_rules (T : Tx mg) {f_l_rules : Addr} {fd_l_rules : FuncData} (F_l_rules : Df K mg "_law_rules" s_l_rules ["cells", "many", "most"] f_l_rules fd_l_rules) {f_l_cell_at : Addr} {fd_l_cell_at : FuncData} (F_l_cell_at : Df K mg "_law_cell_at" s_l_cell_at ["script", "k"] f_l_cell_at fd_l_cell_at) {f_l_stir : Addr} {fd_l_stir : FuncData} (F_l_stir : Df K mg "_law_stir" s_l_stir ["cell", "k"] f_l_stir fd_l_stir) {f_l_drawn : Addr} {fd_l_drawn : FuncData} (F_l_drawn : Df K mg "_law_drawn" s_l_drawn ["cell", "sizes"] f_l_drawn fd_l_drawn) {f_l_unlike : Addr} {fd_l_unlike : FuncData} (F_l_unlike : Df K mg "_law_unlike" s_l_unlike ["number", "many", "great"] f_l_unlike fd_l_unlike) {f_l_rule : Addr} {fd_l_rule : FuncData} (F_l_rule : Df K mg "_law_rule" s_l_rule ["cell", "heads", "words", "most"] f_l_rule fd_l_rule) : FnOk P w K mg base CX0 4 f_l_rules fd_l_rules ["cells", "many", "most"] (upSp K sp_l_rules) :=
  ok3 F_l_rules.fn sc_l_rules len_l_rules fun cdv A outer s H E ws M R hr h => ⟨rd_l_rules, tm_l_rules T F_l_drawn (ok_l_drawn T F_l_drawn F_l_stir) F_l_unlike (ok_l_unlike T F_l_unlike) F_l_cell_at (ok_l_cell_at T F_l_cell_at) F_l_rule (ok_l_rule T F_l_rule F_l_stir F_l_drawn) hr, good_l_rules h⟩
theorem sc_l_is_name : FnScope N_l_is_name ["part"] (defScope s_l_is_name) := ⟨rfl, rfl, rfl, by decide +kernel, rfl, by decide +kernel, by decide +kernel⟩
theorem tm_l_is_name {f : Addr} {cdv : Value} {A : Around} {outer : List Env} {s : Shared} {H : Hp} {E : XK} (T : Tx mg) (hr : Room 0 (A.deeper (envOfC "_law_is_name" (defScope s_l_is_name) s.heap.objs.size f cdv))) :
    Ps3 (cxOf CX0 P w K mg base N_l_is_name "_law_is_name" (defScope s_l_is_name) f cdv A outer s H E).nox (defBody s_l_is_name) rd_l_is_name := by
  have nd := sc_l_is_name.nd
  have hu := hu_of hr
  exact (ss_one (s_ret (v_cmp (o_in hu) (v_ix hu (v 0) v_int) v_str (by first | exact nomark _ | with_unfolding_all rfl))))
theorem ok_l_is_name (T : Tx mg) {f_l_is_name : Addr} {fd_l_is_name : FuncData} (F_l_is_name : Df K mg "_law_is_name" s_l_is_name ["part"] f_l_is_name fd_l_is_name) : FnOk P w K mg base CX0 1 f_l_is_name fd_l_is_name ["part"] (upSp K sp_l_is_name) :=
  ok3 F_l_is_name.fn sc_l_is_name len_l_is_name fun cdv A outer s H E ws M R hr h => ⟨rd_l_is_name, tm_l_is_name T hr, good_l_is_name h⟩
theorem sc_l_costless : FnScope N_l_costless ["rules"] (defScope s_l_costless) := ⟨rfl, rfl, rfl, by decide +kernel, rfl, by decide +kernel, by decide +kernel⟩
theorem tm_l_costless {f : Addr} {cdv : Value} {A : Around} {outer : List Env} {s : Shared} {H : Hp} {E : XK} (T : Tx mg) {f_l_is_name : Addr} {fd_l_is_name : FuncData} (F_l_is_name : Df K mg "_law_is_name" s_l_is_name ["part"] f_l_is_name fd_l_is_name) (G_l_is_name : FnOk P w K mg base CX0 1 f_l_is_name fd_l_is_name ["part"] (upSp K sp_l_is_name)) (hr : Room 1 (A.deeper (envOfC "_law_costless" (defScope s_l_costless) s.heap.objs.size f cdv))) :
    Ps3 (cxOf CX0 P w K mg base N_l_costless "_law_costless" (defScope s_l_costless) f cdv A outer s H E).nox (defBody s_l_costless) rd_l_costless := by
  have nd := sc_l_costless.nd
  have hu := hu_of hr
  exact (ss_cons (s_setcompF (i := 1) nd rfl (by first | exact Or.inl rfl | exact Or.inr rfl) ["rule"] [none] (i_seqN (v 0)) (fun B => (w_name (i := 0) (show (["rule"] : List Str).Nodup by decide +kernel) rfl (by first | exact Or.inl rfl | exact Or.inr rfl))) (fun B => if_nil) (fun B => (v_ix hu (v 0) v_int)))
      (ss_cons (s_for PassesOwn.never rfl (i_seqN (v 0)) (w_name (i := 2) nd rfl (by first | exact Or.inl rfl | exact Or.inr rfl))
        (ss_cons (s_if (PW.pt (t_or (t_not (t_val (v_callB c_isi (by rfl) T.isinstance_ bt_isinstance (a_cons (v 2) (a_cons (v_bltn (by rfl) T.tuple_ bt_tuple (y := .ty "tuple") rfl (fun _ _ => .ty _)) a_nil))))) (t_or (t_cmp (o_ne hr.units) (v_callB c_len (by rfl) T.len_ bt_len (a_cons (v 2) a_nil)) v_int (by first | exact nomark _ | with_unfolding_all rfl)) (t_or1 (t_not (t_val (v_callB c_isi (by rfl) T.isinstance_ bt_isinstance (a_cons (v_ix hu (v 2) v_int) (a_cons (v_bltn (by rfl) T.tuple_ bt_tuple (y := .ty "tuple") rfl (fun _ _ => .ty _)) a_nil)))))))))
        (ss_one (s_ret v_bl))
        ss_nil)
      (ss_cons (s_if (PW.pt (t_or (t_val (v_callB c_isi (by rfl) T.isinstance_ bt_isinstance (a_cons (v_ix hu (v 2) v_int) (a_cons (v_bltn (by rfl) T.bool_ bt_bool (y := .ty "bool") rfl (fun _ _ => .ty _)) a_nil)))) (t_or1 (t_cmp (o_ne hr.units) (v_ix hu (v 2) v_int) v_int (by first | exact nomark _ | with_unfolding_all rfl)))))
        (ss_one (s_ret v_bl))
        ss_nil)
      (ss_one (s_for PassesOwn.never rfl (i_seqN (v_ix hu (v 2) v_int)) (w_name (i := 3) nd rfl (by first | exact Or.inl rfl | exact Or.inr rfl))
        (ss_one (s_if (PW.pt (t_and (t_val (v_call G_l_is_name (hr.mono (by decide)) (by rfl) F_l_is_name.at_ F_l_is_name.fn.kp F_l_is_name.bi (a_cons (v 3) a_nil))) (t_and1 (t_cmp (o_notin hu) (v 3) (v 1) (by first | exact nomark _ | with_unfolding_all rfl)))))
        (ss_one (s_ret v_bl))
        ss_nil)))))))
      (ss_one (s_ret v_bl))))
theorem ok_l_costless (T : Tx mg) {f_l_costless : Addr} {fd_l_costless : FuncData} (F_l_costless : Df K mg "_law_costless" s_l_costless ["rules"] f_l_costless fd_l_costless) {f_l_is_name : Addr} {fd_l_is_name : FuncData} (F_l_is_name : Df K mg "_law_is_name" s_l_is_name ["part"] f_l_is_name fd_l_is_name) : FnOk P w K mg base CX0 2 f_l_costless fd_l_costless ["rules"] (upSp K sp_l_costless) :=
  ok3 F_l_costless.fn sc_l_costless len_l_costless fun cdv A outer s H E ws M R hr h => ⟨rd_l_costless, tm_l_costless T F_l_is_name (ok_l_is_name T F_l_is_name) hr, good_l_costless h⟩
theorem sc_l_new_names : FnScope N_l_new_names ["rules", "told"] (defScope s_l_new_names) := ⟨rfl, rfl, rfl, by decide +kernel, rfl, by decide +kernel, by decide +kernel⟩
theorem tm_l_new_names {f : Addr} {cdv : Value} {A : Around} {outer : List Env} {s : Shared} {H : Hp} {E : XK} (T : Tx mg) (hr : Room 0 (A.deeper (envOfC "_law_new_names" (defScope s_l_new_names) s.heap.objs.size f cdv))) :
    Ps3 (cxOf CX0 P w K mg base N_l_new_names "_law_new_names" (defScope s_l_new_names) f cdv A outer s H E).nox (defBody s_l_new_names) rd_l_new_names := by
  have nd := sc_l_new_names.nd
  have hu := hu_of hr
  exact (ss_cons (s_setcompF (i := 2) nd rfl (by first | exact Or.inl rfl | exact Or.inr rfl) ["rule"] [none] (i_seqN (v 0)) (fun B => (w_name (i := 0) (show (["rule"] : List Str).Nodup by decide +kernel) rfl (by first | exact Or.inl rfl | exact Or.inr rfl))) (fun B => if_nil) (fun B => (v_ix hu (v 0) v_int)))
      (ss_cons (s_for PassesOwn.never rfl (i_seqN (v_frz (v_comp ["rule"] [none] (i_seqN (v 1)) (fun B => (w_name (i := 0) (show (["rule"] : List Str).Nodup by decide +kernel) rfl (by first | exact Or.inl rfl | exact Or.inr rfl))) (fun B => if_nil) (fun B => (v_ix hu (v 0) v_int))))) (w_name (i := 3) nd rfl (by first | exact Or.inl rfl | exact Or.inr rfl))
        (ss_cons (s_asg (v_bm PySem.F.plainAttrs_str PySem.F.slot_str_partition PySem.F.type_str_partition m_partition (v 3) (a_cons v_str a_nil)) (w_tup rfl (w_cons (w_name (i := 4) nd rfl (by first | exact Or.inl rfl | exact Or.inr rfl)) (w_cons (w_name (i := 5) nd rfl (by first | exact Or.inl rfl | exact Or.inr rfl)) (w_cons (w_name (i := 6) nd rfl (by first | exact Or.inl rfl | exact Or.inr rfl)) w_nil)))))
      (ss_cons (s_if (PW.pt (t_and (t_cmp (o_notin hu) (v 3) (v 2) (by first | exact nomark _ | with_unfolding_all rfl)) (t_and1 (PW.pt (t_or (t_cmp (o_eq hr.units) (v 5) v_str (by first | exact nomark _ | with_unfolding_all rfl)) (t_or (t_not (t_chain o_le o_le v_int (v_callB c_len (by rfl) T.len_ bt_len (a_cons (v 6) a_nil)) v_int)) (t_or1 (t_not (t_chain o_le o_le v_int (v_callB c_len (by rfl) T.len_ bt_len (a_cons (v 4) a_nil)) v_int)))))))))
        (ss_one (s_ret v_bl))
        ss_nil)
      (ss_one (s_if (PW.pt (t_and (t_cmp (o_notin hu) (v 3) (v 2) (by first | exact nomark _ | with_unfolding_all rfl)) (t_and1 (t_cmp (o_ne hr.units) (v_frz (v_comp ["one"] [none] (i_seqN (v 6)) (fun B => (w_name (i := 0) (show (["one"] : List Str).Nodup by decide +kernel) rfl (by first | exact Or.inl rfl | exact Or.inr rfl))) (fun B => (if_one (t_cmp (o_notin hu) (v 0) v_str (by first | exact nomark _ | with_unfolding_all rfl)))) (fun B => (v 0)))) (v_lstF a_nil) (by first | exact nomark _ | with_unfolding_all rfl)))))
        (ss_one (s_ret v_bl))
        ss_nil)))))
      (ss_one (s_ret v_bl))))
theorem ok_l_new_names (T : Tx mg) {f_l_new_names : Addr} {fd_l_new_names : FuncData} (F_l_new_names : Df K mg "_law_new_names" s_l_new_names ["rules", "told"] f_l_new_names fd_l_new_names) : FnOk P w K mg base CX0 1 f_l_new_names fd_l_new_names ["rules", "told"] (upSp K sp_l_new_names) :=
  ok3 F_l_new_names.fn sc_l_new_names len_l_new_names fun cdv A outer s H E ws M R hr h => ⟨rd_l_new_names, tm_l_new_names T hr, good_l_new_names h⟩
theorem sc_l_none_new : FnScope N_l_none_new ["rules", "told"] (defScope s_l_none_new) := ⟨rfl, rfl, rfl, by decide +kernel, rfl, by decide +kernel, by decide +kernel⟩
theorem tm_l_none_new {f : Addr} {cdv : Value} {A : Around} {outer : List Env} {s : Shared} {H : Hp} {E : XK} (T : Tx mg) {f_l_is_name : Addr} {fd_l_is_name : FuncData} (F_l_is_name : Df K mg "_law_is_name" s_l_is_name ["part"] f_l_is_name fd_l_is_name) (G_l_is_name : FnOk P w K mg base CX0 1 f_l_is_name fd_l_is_name ["part"] (upSp K sp_l_is_name)) (hr : Room 1 (A.deeper (envOfC "_law_none_new" (defScope s_l_none_new) s.heap.objs.size f cdv))) :
    Ps3 (cxOf CX0 P w K mg base N_l_none_new "_law_none_new" (defScope s_l_none_new) f cdv A outer s H E).nox (defBody s_l_none_new) rd_l_none_new := by
  have nd := sc_l_none_new.nd
  have hu := hu_of hr
  exact (ss_cons (s_set (i := 2) nd rfl (by first | exact Or.inl rfl | exact Or.inr rfl) (v_cmp (o_ne hr.units) (v_frz (v_comp ["rule"] [none] (i_seqN (v 0)) (fun B => (w_name (i := 0) (show (["rule"] : List Str).Nodup by decide +kernel) rfl (by first | exact Or.inl rfl | exact Or.inr rfl))) (fun B => (if_one (t_cmp (o_eq hr.units) (v_ix hu (v 0) v_int) (v_tup a_nil) (by first | exact nomark _ | with_unfolding_all rfl)))) (fun B => (v 0)))) (v_lstF a_nil) (by first | exact nomark _ | with_unfolding_all rfl)))
      (ss_cons (s_set (i := 3) nd rfl (by first | exact Or.inl rfl | exact Or.inr rfl) (v_cmp (o_ne hr.units) (v_frz (v_comp ["rule"] [none] (i_seqN (v 0)) (fun B => (w_name (i := 0) (show (["rule"] : List Str).Nodup by decide +kernel) rfl (by first | exact Or.inl rfl | exact Or.inr rfl))) (fun B => (if_one (PW.pt (t_and (t_cmp (o_eq hr.units) (v_callB c_len (by rfl) T.len_ bt_len (a_cons (v_ix hu (v 0) v_int) a_nil)) v_int (by first | exact nomark _ | with_unfolding_all rfl)) (t_and1 (t_val (v_call G_l_is_name (hr.mono (by decide)) (by rfl) F_l_is_name.at_ F_l_is_name.fn.kp F_l_is_name.bi (a_cons (v_ix hu (v_ix hu (v 0) v_int) v_int) a_nil)))))))) (fun B => (v 0)))) (v_lstF a_nil) (by first | exact nomark _ | with_unfolding_all rfl)))
      (ss_cons (s_for PassesOwn.never rfl (i_seq (v 1)) (w_tup rfl (w_cons (w_name (i := 4) nd rfl (by first | exact Or.inl rfl | exact Or.inr rfl)) (w_cons (w_name (i := 5) nd rfl (by first | exact Or.inl rfl | exact Or.inr rfl)) (w_cons (w_name (i := 6) nd rfl (by first | exact Or.inl rfl | exact Or.inr rfl)) w_nil))))
        (ss_one (s_if (PW.pt (t_or (PW.pt (t_and (t_cmp (o_eq hr.units) (v 5) (v_tup a_nil) (by first | exact nomark _ | with_unfolding_all rfl)) (t_and1 (t_not (t_val (v 2)))))) (t_or1 (PW.pt (t_and (t_cmp (o_eq hr.units) (v_callB c_len (by rfl) T.len_ bt_len (a_cons (v 5) a_nil)) v_int (by first | exact nomark _ | with_unfolding_all rfl)) (t_and (t_val (v_call G_l_is_name (hr.mono (by decide)) (by rfl) F_l_is_name.at_ F_l_is_name.fn.kp F_l_is_name.bi (a_cons (v_ix hu (v 5) v_int) a_nil))) (t_and1 (t_not (t_val (v 3))))))))))
        (ss_one (s_ret v_bl))
        ss_nil)))
      (ss_one (s_ret v_bl)))))
theorem ok_l_none_new (T : Tx mg) {f_l_none_new : Addr} {fd_l_none_new : FuncData} (F_l_none_new : Df K mg "_law_none_new" s_l_none_new ["rules", "told"] f_l_none_new fd_l_none_new) {f_l_is_name : Addr} {fd_l_is_name : FuncData} (F_l_is_name : Df K mg "_law_is_name" s_l_is_name ["part"] f_l_is_name fd_l_is_name) : FnOk P w K mg base CX0 2 f_l_none_new fd_l_none_new ["rules", "told"] (upSp K sp_l_none_new) :=
  ok3 F_l_none_new.fn sc_l_none_new len_l_none_new fun cdv A outer s H E ws M R hr h => ⟨rd_l_none_new, tm_l_none_new T F_l_is_name (ok_l_is_name T F_l_is_name) hr, good_l_none_new h⟩
theorem sc_law : FnScope N_law ["script"] (defScope s_law) := ⟨rfl, rfl, rfl, by decide +kernel, rfl, by decide +kernel, by decide +kernel⟩
theorem tm_law {f : Addr} {cdv : Value} {A : Around} {outer : List Env} {s : Shared} {H : Hp} {E : XK} (T : Tx mg) (Z : Kc K mg C) {f_l_rules : Addr} {fd_l_rules : FuncData} (F_l_rules : Df K mg "_law_rules" s_l_rules ["cells", "many", "most"] f_l_rules fd_l_rules) (G_l_rules : FnOk P w K mg base CX0 4 f_l_rules fd_l_rules ["cells", "many", "most"] (upSp K sp_l_rules)) {f_grammar_ofW : Addr} {fd_grammar_ofW : FuncData} (F_grammar_ofW : Df K mg "grammar_of" s_grammar_ofW ["rules"] f_grammar_ofW fd_grammar_ofW) (G_grammar_ofW : FnOk P w K mg base CX0 4 f_grammar_ofW fd_grammar_ofW ["rules"] (upSp K sp_grammar_ofW)) {f_twos : Addr} {fd_twos : FuncData} (F_twos : Df K mg "twos" s_twos ["grammar"] f_twos fd_twos) (G_twos : FnOk P w K mg base CX0 3 f_twos fd_twos ["grammar"] (upSp K sp_twos)) {f_l_costless : Addr} {fd_l_costless : FuncData} (F_l_costless : Df K mg "_law_costless" s_l_costless ["rules"] f_l_costless fd_l_costless) (G_l_costless : FnOk P w K mg base CX0 2 f_l_costless fd_l_costless ["rules"] (upSp K sp_l_costless)) {f_l_new_names : Addr} {fd_l_new_names : FuncData} (F_l_new_names : Df K mg "_law_new_names" s_l_new_names ["rules", "told"] f_l_new_names fd_l_new_names) (G_l_new_names : FnOk P w K mg base CX0 1 f_l_new_names fd_l_new_names ["rules", "told"] (upSp K sp_l_new_names)) {f_l_none_new : Addr} {fd_l_none_new : FuncData} (F_l_none_new : Df K mg "_law_none_new" s_l_none_new ["rules", "told"] f_l_none_new fd_l_none_new) (G_l_none_new : FnOk P w K mg base CX0 2 f_l_none_new fd_l_none_new ["rules", "told"] (upSp K sp_l_none_new)) {f_l_drawn : Addr} {fd_l_drawn : FuncData} (F_l_drawn : Df K mg "_law_drawn" s_l_drawn ["cell", "sizes"] f_l_drawn fd_l_drawn) (G_l_drawn : FnOk P w K mg base CX0 2 f_l_drawn fd_l_drawn ["cell", "sizes"] (upSp K sp_l_drawn)) {f_l_cell_at : Addr} {fd_l_cell_at : FuncData} (F_l_cell_at : Df K mg "_law_cell_at" s_l_cell_at ["script", "k"] f_l_cell_at fd_l_cell_at) (G_l_cell_at : FnOk P w K mg base CX0 1 f_l_cell_at fd_l_cell_at ["script", "k"] (upSp K sp_l_cell_at)) (hr : Room 4 (A.deeper (envOfC "law" (defScope s_law) s.heap.objs.size f cdv))) :
    Ps3 (cxOf CX0 P w K mg base N_law "law" (defScope s_law) f cdv A outer s H E).nox (defBody s_law) rd_law := by
  have nd := sc_law.nd
  have hu := hu_of hr
  exact (ss_cons (s_set (i := 1) nd rfl (by first | exact Or.inl rfl | exact Or.inr rfl) (v_frz (v_call G_l_rules (hr.mono (by decide)) (by rfl) F_l_rules.at_ F_l_rules.fn.kp F_l_rules.bi (a_cons (v_sliceF (v 0) (s_some v_int) (s_some v_int)) (a_cons (v_op o_addF v_int (v_ix hu (v_frz (v_call G_l_drawn (hr.mono (by decide)) (by rfl) F_l_drawn.at_ F_l_drawn.fn.kp F_l_drawn.bi (a_cons (v_call G_l_cell_at (hr.mono (by decide)) (by rfl) F_l_cell_at.at_ F_l_cell_at.fn.kp F_l_cell_at.bi (a_cons (v 0) (a_cons v_int a_nil))) (a_cons (v_lstF (a_cons v_int a_nil)) a_nil)))) v_int)) (a_cons v_int a_nil))))))
      (ss_cons (s_set (i := 2) nd rfl (by first | exact Or.inl rfl | exact Or.inr rfl) (v_frz (v_call G_grammar_ofW (hr.mono (by decide)) (by rfl) F_grammar_ofW.at_ F_grammar_ofW.fn.kp F_grammar_ofW.bi (a_cons (v_callTy (c_listF rfl) (by rfl) T.list_ bt_list (a_cons (v 1) a_nil)) a_nil))))
      (ss_cons (s_set (i := 3) nd rfl (by first | exact Or.inl rfl | exact Or.inr rfl) (v_call G_twos (hr.mono (by decide)) (by rfl) F_twos.at_ F_twos.fn.kp F_twos.bi (a_cons (v 2) a_nil)))
      (ss_cons (s_if (PW.pt (t_or (t_not (t_val (v_callB c_isi (by rfl) T.isinstance_ bt_isinstance (a_cons (v 3) (a_cons (v_bltn (by rfl) T.tuple_ bt_tuple (y := .ty "tuple") rfl (fun _ _ => .ty _)) a_nil))))) (t_or (t_cmp (o_ne hr.units) (v_callB c_len (by rfl) T.len_ bt_len (a_cons (v 3) a_nil)) v_int (by first | exact nomark _ | with_unfolding_all rfl)) (t_or1 (t_cmp (o_ne hr.units) (v 2) (v 1) (by first | exact nomark _ | with_unfolding_all rfl))))))
        (ss_one (s_ret v_bl))
        ss_nil)
      (ss_cons (s_asg (v 3) (w_tup rfl (w_cons (w_name (i := 4) nd rfl (by first | exact Or.inl rfl | exact Or.inr rfl)) (w_cons (w_name (i := 5) nd rfl (by first | exact Or.inl rfl | exact Or.inr rfl)) w_nil))))
      (ss_cons (s_if (PW.pt (t_or (t_not (t_val (v_callB c_isi (by rfl) T.isinstance_ bt_isinstance (a_cons (v 4) (a_cons (v_bltn (by rfl) T.list_ bt_list (y := .ty "list") rfl (fun _ _ => .ty _)) a_nil))))) (t_or1 (t_not (t_val (v_callB c_isi (by rfl) T.isinstance_ bt_isinstance (a_cons (v 5) (a_cons (v_bltn (by rfl) T.list_ bt_list (y := .ty "list") rfl (fun _ _ => .ty _)) a_nil))))))))
        (ss_one (s_ret v_bl))
        ss_nil)
      (ss_cons (s_if (PW.pt (t_or (t_cmp (o_eq hr.units) (v 4) (v_lstF a_nil) (by first | exact nomark _ | with_unfolding_all rfl)) (t_or1 (t_cmp (o_ne hr.units) (v_callB c_len (by rfl) T.len_ bt_len (a_cons (v 4) a_nil)) (v_callB c_len (by rfl) T.len_ bt_len (a_cons (v 5) a_nil)) (by first | exact nomark _ | with_unfolding_all rfl)))))
        (ss_one (s_ret v_bl))
        ss_nil)
      (ss_cons (s_if (PW.pt (t_or (t_not (t_val (v_call G_l_costless (hr.mono (by decide)) (by rfl) F_l_costless.at_ F_l_costless.fn.kp F_l_costless.bi (a_cons (v 4) a_nil)))) (t_or (t_not (t_val (v_call G_l_new_names (hr.mono (by decide)) (by rfl) F_l_new_names.at_ F_l_new_names.fn.kp F_l_new_names.bi (a_cons (v 1) (a_cons (v 4) a_nil))))) (t_or1 (t_not (t_val (v_call G_l_none_new (hr.mono (by decide)) (by rfl) F_l_none_new.at_ F_l_none_new.fn.kp F_l_none_new.bi (a_cons (v 1) (a_cons (v 4) a_nil)))))))))
        (ss_one (s_ret v_bl))
        ss_nil)
      (ss_cons (s_if (PW.pt (t_and (t_cmp (o_ne hr.units) (v_ix hu (v_ix hu (v 4) v_int) v_int) (v_ix hu (v_ix hu (v 1) v_int) v_int) (by first | exact nomark _ | with_unfolding_all rfl)) (t_and1 (t_cmp (o_in hu) (v_ix hu (v_ix hu (v 4) v_int) v_int) (v_frz (v_comp ["rule"] [none] (i_seqN (v 1)) (fun B => (w_name (i := 0) (show (["rule"] : List Str).Nodup by decide +kernel) rfl (by first | exact Or.inl rfl | exact Or.inr rfl))) (fun B => if_nil) (fun B => (v_ix hu (v 0) v_int)))) (by first | exact nomark _ | with_unfolding_all rfl)))))
        (ss_one (s_ret v_bl))
        ss_nil)
      (ss_cons (s_if (t_cmp o_gt (v_callB (c_max1 rfl) (by rfl) T.max_ bt_max (a_cons (v_frz (v_comp ["rule"] [none] (i_seqN (v 4)) (fun B => (w_name (i := 0) (show (["rule"] : List Str).Nodup by decide +kernel) rfl (by first | exact Or.inl rfl | exact Or.inr rfl))) (fun B => if_nil) (fun B => (v_callB c_len (by rfl) T.len_ bt_len (a_cons (v_ix hu (v 0) v_int) a_nil))))) a_nil)) v_int (by first | exact nomark _ | with_unfolding_all rfl))
        (ss_one (s_ret v_bl))
        ss_nil)
      (ss_cons (s_set (i := 6) nd rfl (by first | exact Or.inl rfl | exact Or.inr rfl) (v_callTy (c_listF rfl) (by rfl) T.list_ bt_list (a_cons (v 4) a_nil)))
      (ss_cons (s_expr (v_bm0 PySem.F.plainAttrs_list PySem.F.slot_list_clear PySem.F.type_list_clear m_clear (v 4)))
      (ss_cons (s_expr (v_bm0 PySem.F.plainAttrs_list PySem.F.slot_list_clear PySem.F.type_list_clear m_clear (v 5)))
      (ss_cons (s_set (i := 7) nd rfl (by first | exact Or.inl rfl | exact Or.inr rfl) (v_call G_twos (hr.mono (by decide)) (by rfl) F_twos.at_ F_twos.fn.kp F_twos.bi (a_cons (v 2) a_nil)))
      (ss_one (s_ret (v_and (v_cmp (o_eq hr.units) (v_ix hu (v 7) v_int) (v 6) (by first | exact nomark _ | with_unfolding_all rfl)) (v_and (v_cmp (o_eq hr.units) (v_callB c_len (by rfl) T.len_ bt_len (a_cons (v_ix hu (v 7) v_int) a_nil)) (v_callB c_len (by rfl) T.len_ bt_len (a_cons (v 6) a_nil)) (by first | exact nomark _ | with_unfolding_all rfl)) (v_one (v_cmp (o_eq hr.units) (v_frz (v_call G_grammar_ofW (hr.mono (by decide)) (by rfl) F_grammar_ofW.at_ F_grammar_ofW.fn.kp F_grammar_ofW.bi (a_cons (v_callTy (c_listF rfl) (by rfl) T.list_ bt_list (a_cons (v 6) a_nil)) a_nil))) (v 6) (by first | exact nomark _ | with_unfolding_all rfl)))))))))))))))))))))
theorem ok_law (T : Tx mg) (Z : Kc K mg C) {f_law : Addr} {fd_law : FuncData} (F_law : Df K mg "law" s_law ["script"] f_law fd_law) {f_made_of : Addr} {fd_made_of : FuncData} (F_made_of : Df K mg "made_of" s_made_of ["text", "signs"] f_made_of fd_made_of) {f_is_name : Addr} {fd_is_name : FuncData} (F_is_name : Df K mg "is_name" s_is_name ["part"] f_is_name fd_is_name) {f_namesW : Addr} {fd_namesW : FuncData} (F_namesW : Df K mg "names" s_namesW ["grammar"] f_namesW fd_namesW) {f_check_rule : Addr} {fd_check_rule : FuncData} (F_check_rule : Df K mg "check_rule" s_check_rule ["rule", "known"] f_check_rule fd_check_rule) {f_grammar_ofW : Addr} {fd_grammar_ofW : FuncData} (F_grammar_ofW : Df K mg "grammar_of" s_grammar_ofW ["rules"] f_grammar_ofW fd_grammar_ofW) {f_marks : Addr} {fd_marks : FuncData} (F_marks : Df K mg "marks" s_marks ["things"] f_marks fd_marks) {f_made_names : Addr} {fd_made_names : FuncData} (F_made_names : Df K mg "made_names" s_made_names ["old", "count"] f_made_names fd_made_names) {f_slots : Addr} {fd_slots : FuncData} (F_slots : Df K mg "slots" s_slots ["parts"] f_slots fd_slots) {f_Plainer_init : Addr} {fd_Plainer_init : FuncData} (F_Plainer_init : Di K C "__init__" "Plainer.__init__" s_Plainer_init ["self"] f_Plainer_init fd_Plainer_init) {f_Plainer_put_rule : Addr} {fd_Plainer_put_rule : FuncData} (F_Plainer_put_rule : Dm K C "put_rule" "Plainer.put_rule" s_Plainer_put_rule ["self", "name", "parts", "pieces"] f_Plainer_put_rule fd_Plainer_put_rule) {f_Plainer_grammar_and_backs : Addr} {fd_Plainer_grammar_and_backs : FuncData} (F_Plainer_grammar_and_backs : Dm K C "grammar_and_backs" "Plainer.grammar_and_backs" s_Plainer_grammar_and_backs ["self"] f_Plainer_grammar_and_backs fd_Plainer_grammar_and_backs) {f_long_ends : Addr} {fd_long_ends : FuncData} (F_long_ends : Df K mg "long_ends" s_long_ends ["grammar"] f_long_ends fd_long_ends) {f_shortened : Addr} {fd_shortened : FuncData} (F_shortened : Df K mg "shortened" s_shortened ["parts", "made"] f_shortened fd_shortened) {f_twos : Addr} {fd_twos : FuncData} (F_twos : Df K mg "twos" s_twos ["grammar"] f_twos fd_twos) {f_l_cell_at : Addr} {fd_l_cell_at : FuncData} (F_l_cell_at : Df K mg "_law_cell_at" s_l_cell_at ["script", "k"] f_l_cell_at fd_l_cell_at) {f_l_stir : Addr} {fd_l_stir : FuncData} (F_l_stir : Df K mg "_law_stir" s_l_stir ["cell", "k"] f_l_stir fd_l_stir) {f_l_drawn : Addr} {fd_l_drawn : FuncData} (F_l_drawn : Df K mg "_law_drawn" s_l_drawn ["cell", "sizes"] f_l_drawn fd_l_drawn) {f_l_unlike : Addr} {fd_l_unlike : FuncData} (F_l_unlike : Df K mg "_law_unlike" s_l_unlike ["number", "many", "great"] f_l_unlike fd_l_unlike) {f_l_rule : Addr} {fd_l_rule : FuncData} (F_l_rule : Df K mg "_law_rule" s_l_rule ["cell", "heads", "words", "most"] f_l_rule fd_l_rule) {f_l_rules : Addr} {fd_l_rules : FuncData} (F_l_rules : Df K mg "_law_rules" s_l_rules ["cells", "many", "most"] f_l_rules fd_l_rules) {f_l_is_name : Addr} {fd_l_is_name : FuncData} (F_l_is_name : Df K mg "_law_is_name" s_l_is_name ["part"] f_l_is_name fd_l_is_name) {f_l_costless : Addr} {fd_l_costless : FuncData} (F_l_costless : Df K mg "_law_costless" s_l_costless ["rules"] f_l_costless fd_l_costless) {f_l_new_names : Addr} {fd_l_new_names : FuncData} (F_l_new_names : Df K mg "_law_new_names" s_l_new_names ["rules", "told"] f_l_new_names fd_l_new_names) {f_l_none_new : Addr} {fd_l_none_new : FuncData} (F_l_none_new : Df K mg "_law_none_new" s_l_none_new ["rules", "told"] f_l_none_new fd_l_none_new) : FnOk P w K mg base CX0 5 f_law fd_law ["script"] (upSp K sp_law) :=
  ok3 F_law.fn sc_law len_law fun cdv A outer s H E ws M R hr h => ⟨rd_law, tm_law T Z F_l_rules (ok_l_rules T F_l_rules F_l_cell_at F_l_stir F_l_drawn F_l_unlike F_l_rule) F_grammar_ofW (ok_grammar_ofW T F_grammar_ofW F_made_of F_is_name F_namesW F_check_rule) F_twos (ok_twos T Z F_twos F_namesW F_marks F_made_names F_slots F_Plainer_init F_Plainer_put_rule F_Plainer_grammar_and_backs F_long_ends F_shortened) F_l_costless (ok_l_costless T F_l_costless F_l_is_name) F_l_new_names (ok_l_new_names T F_l_new_names) F_l_none_new (ok_l_none_new T F_l_none_new F_l_is_name) F_l_drawn (ok_l_drawn T F_l_drawn F_l_stir) F_l_cell_at (ok_l_cell_at T F_l_cell_at) hr, good_law h⟩
end
end Rg
namespace Rg
open PySem PySem.Spec PyProof.Rows L2 L3
noncomputable def en (P : Params) (x : String) (t : Tok) (v : Value) : DictEntry := ⟨PyData.keyHash P (Str.ofString x), .str (Str.ofString x) t, v⟩
noncomputable def hpK : Params → PySem.W.Frag := fun P => [(nat_lit 3, ⟨(.type "dict"), none, .dict [en P "__name__" 165 (.str (Str.ofString "law_readgrove_k63_two_parts") 394), en P "__doc__" 166 .none, en P "__package__" 167 .none, en P "__loader__" 168 (.builtin "__main__.__loader__#opaque"), en P "__spec__" 169 .none, en P "__annotations__" 170 (.ref 6), en P "__builtins__" 171 (.ref 4), en P "__file__" 173 (.str (Str.ofString "/claim/cut.py") 172), en P "__cached__" 174 .none, en P "_wall" 193 (.ref 21), en P "GroveError" 213 (.ref 31), en P "NoGrammar" 229 (.ref 44), en P "GREAT_LETTERS" 233 (.str (Str.ofString "ABCDEFGHIJKLMNOPQRSTUVWXYZ") 232), en P "FIGURES" 235 (.str (Str.ofString "0123456789") 234), en P "made_of" 241 (.ref 51), en P "is_name" 250 (.ref 58), en P "names" 259 (.ref 65), en P "check_rule" 268 (.ref 72), en P "grammar_of" 277 (.ref 79), en P "marks" 285 (.ref 84), en P "FIGURED_NAMES" 289 (.int 10000 288), en P "made_names" 301 (.ref 91), en P "slots" 308 (.ref 98), en P "Plainer" 361 (.ref 136), en P "long_ends" 371 (.ref 147), en P "shortened" 379 (.ref 154), en P "twos" 393 (.ref 161), en P "_law_cell_at" 403 (.ref 168), en P "_law_stir" 412 (.ref 175), en P "_law_drawn" 423 (.ref 182), en P "_law_unlike" 440 (.ref 189), en P "_law_rule" 453 (.ref 196), en P "_law_rules" 459 (.ref 201), en P "_law_is_name" 466 (.ref 208), en P "_law_costless" 472 (.ref 213), en P "_law_new_names" 478 (.ref 218), en P "_law_none_new" 484 (.ref 223), en P "law" 490 (.ref 228)].toArray 38, #[]⟩),
  (nat_lit 30, ⟨(.type "dict"), none, .dict [en P "__module__" 203 (.str (Str.ofString "readgrove.errors") 194), en P "__firstlineno__" 207 (.int 5 206), en P "__static_attributes__" 208 (.ref 29), en P "__weakref__" 210 (.ref 32), en P "__doc__" 211 .none].toArray 3, #[]⟩),
  (nat_lit 31, ⟨(.type "type"), none, .cls ⟨(Str.ofString "GroveError"), [(.type "ValueError")], [(.ref 31), (.type "ValueError"), (.type "Exception"), (.type "BaseException"), (.type "object")], 30, (Str.ofString "GroveError"), true, [], [(.ref 44)], false, none, false⟩, #[some (.ref 22), none, some (.str (Str.ofString "GroveError") 196), some (.str (Str.ofString "GroveError") 204), some (.builtin "ValueError.__new__"), some (.bool true)]⟩),
  (nat_lit 43, ⟨(.type "dict"), none, .dict [en P "__module__" 221 (.str (Str.ofString "readgrove.errors") 194), en P "__firstlineno__" 225 (.int 7 224), en P "__static_attributes__" 226 (.ref 42), en P "__doc__" 227 .none].toArray 2, #[]⟩),
  (nat_lit 44, ⟨(.type "type"), none, .cls ⟨(Str.ofString "NoGrammar"), [(.ref 31)], [(.ref 44), (.ref 31), (.type "ValueError"), (.type "Exception"), (.type "BaseException"), (.type "object")], 43, (Str.ofString "NoGrammar"), true, [], [], false, none, false⟩, #[some (.ref 35), none, some (.str (Str.ofString "NoGrammar") 214), some (.str (Str.ofString "NoGrammar") 222), some (.builtin "ValueError.__new__"), some (.bool true)]⟩),
  (nat_lit 50, ⟨(.type "code"), none, .fields #[(.str (Str.ofString "made_of") 236), (.str (Str.ofString "made_of") 237), (.str (Str.ofString "/claim/cut.py") 238), (.int 12 0), (.int 2 0), (.int 0 0), (.int 0 0), (.int 3 0), (.ref 47), (.bool true), (.int 181 0), (.ref 48), .none, .none, .none, (.ref 49), (.int 239 0), (.int 12 0), (.str (Str.ofString "/claim/cut.py") 240)], #[]⟩),
  (nat_lit 51, ⟨(.type "function"), none, .func (PySem.W.fnOf "made_of" "made_of" (defArgs s_made_of) (defBody s_made_of) (defScope s_made_of) .none .none .none (.str (Str.ofString "readgrove.grammars") 230) none (.ref 50) .none), #[]⟩),
  (nat_lit 57, ⟨(.type "code"), none, .fields #[(.str (Str.ofString "is_name") 242), (.str (Str.ofString "is_name") 243), (.str (Str.ofString "/claim/cut.py") 244), (.int 14 0), (.int 1 0), (.int 0 0), (.int 0 0), (.int 3 0), (.ref 52), (.bool true), (.int 181 0), (.ref 53), .none, (.ref 54), (.ref 55), (.ref 56), (.int 248 0), (.int 14 0), (.str (Str.ofString "/claim/cut.py") 249)], #[]⟩),
  (nat_lit 58, ⟨(.type "function"), none, .func (PySem.W.fnOf "is_name" "is_name" (defArgs s_is_name) (defBody s_is_name) (defScope s_is_name) .none .none .none (.str (Str.ofString "readgrove.grammars") 230) none (.ref 57) .none), #[]⟩),
  (nat_lit 64, ⟨(.type "code"), none, .fields #[(.str (Str.ofString "names") 251), (.str (Str.ofString "names") 252), (.str (Str.ofString "/claim/cut.py") 253), (.int 18 0), (.int 1 0), (.int 0 0), (.int 0 0), (.int 3 0), (.ref 59), (.bool true), (.int 181 0), (.ref 60), .none, (.ref 61), (.ref 62), (.ref 63), (.int 257 0), (.int 18 0), (.str (Str.ofString "/claim/cut.py") 258)], #[]⟩),
  (nat_lit 65, ⟨(.type "function"), none, .func (PySem.W.fnOf "names" "names" (defArgs s_namesW) (defBody s_namesW) (defScope s_namesW) .none .none .none (.str (Str.ofString "readgrove.grammars") 230) none (.ref 64) .none), #[]⟩),
  (nat_lit 71, ⟨(.type "code"), none, .fields #[(.str (Str.ofString "check_rule") 260), (.str (Str.ofString "check_rule") 261), (.str (Str.ofString "/claim/cut.py") 262), (.int 23 0), (.int 2 0), (.int 0 0), (.int 0 0), (.int 3 0), (.ref 66), (.bool true), (.int 181 0), (.ref 67), .none, (.ref 68), (.ref 69), (.ref 70), (.int 266 0), (.int 23 0), (.str (Str.ofString "/claim/cut.py") 267)], #[]⟩),
  (nat_lit 72, ⟨(.type "function"), none, .func (PySem.W.fnOf "check_rule" "check_rule" (defArgs s_check_rule) (defBody s_check_rule) (defScope s_check_rule) .none .none .none (.str (Str.ofString "readgrove.grammars") 230) none (.ref 71) .none), #[]⟩),
  (nat_lit 78, ⟨(.type "code"), none, .fields #[(.str (Str.ofString "grammar_of") 269), (.str (Str.ofString "grammar_of") 270), (.str (Str.ofString "/claim/cut.py") 271), (.int 29 0), (.int 1 0), (.int 0 0), (.int 0 0), (.int 3 0), (.ref 73), (.bool true), (.int 181 0), (.ref 74), .none, (.ref 75), (.ref 76), (.ref 77), (.int 275 0), (.int 29 0), (.str (Str.ofString "/claim/cut.py") 276)], #[]⟩),
  (nat_lit 79, ⟨(.type "function"), none, .func (PySem.W.fnOf "grammar_of" "grammar_of" (defArgs s_grammar_ofW) (defBody s_grammar_ofW) (defScope s_grammar_ofW) .none .none .none (.str (Str.ofString "readgrove.grammars") 230) none (.ref 78) .none), #[]⟩),
  (nat_lit 83, ⟨(.type "code"), none, .fields #[(.str (Str.ofString "marks") 280), (.str (Str.ofString "marks") 281), (.str (Str.ofString "/claim/cut.py") 282), (.int 37 0), (.int 1 0), (.int 0 0), (.int 0 0), (.int 3 0), (.ref 80), (.bool true), (.int 181 0), (.ref 81), .none, .none, .none, (.ref 82), (.int 283 0), (.int 37 0), (.str (Str.ofString "/claim/cut.py") 284)], #[]⟩),
  (nat_lit 84, ⟨(.type "function"), none, .func (PySem.W.fnOf "marks" "marks" (defArgs s_marks) (defBody s_marks) (defScope s_marks) .none .none .none (.str (Str.ofString "readgrove.covers") 278) none (.ref 83) .none), #[]⟩),
  (nat_lit 90, ⟨(.type "code"), none, .fields #[(.str (Str.ofString "made_names") 290), (.str (Str.ofString "made_names") 291), (.str (Str.ofString "/claim/cut.py") 292), (.int 41 0), (.int 2 0), (.int 0 0), (.int 0 0), (.int 3 0), (.ref 85), (.bool true), (.int 181 0), (.ref 86), .none, (.ref 87), (.ref 88), (.ref 89), (.int 299 0), (.int 41 0), (.str (Str.ofString "/claim/cut.py") 300)], #[]⟩),
  (nat_lit 91, ⟨(.type "function"), none, .func (PySem.W.fnOf "made_names" "made_names" (defArgs s_made_names) (defBody s_made_names) (defScope s_made_names) .none .none .none (.str (Str.ofString "readgrove.plainer") 286) none (.ref 90) .none), #[]⟩),
  (nat_lit 97, ⟨(.type "code"), none, .fields #[(.str (Str.ofString "slots") 302), (.str (Str.ofString "slots") 303), (.str (Str.ofString "/claim/cut.py") 304), (.int 51 0), (.int 1 0), (.int 0 0), (.int 0 0), (.int 3 0), (.ref 92), (.bool true), (.int 181 0), (.ref 93), .none, (.ref 94), (.ref 95), (.ref 96), (.int 306 0), (.int 51 0), (.str (Str.ofString "/claim/cut.py") 307)], #[]⟩),
  (nat_lit 98, ⟨(.type "function"), none, .func (PySem.W.fnOf "slots" "slots" (defArgs s_slots) (defBody s_slots) (defScope s_slots) .none .none .none (.str (Str.ofString "readgrove.plainer") 286) none (.ref 97) .none), #[]⟩),
  (nat_lit 111, ⟨(.type "code"), none, .fields #[(.str (Str.ofString "__init__") 321), (.str (Str.ofString "Plainer.__init__") 322), (.str (Str.ofString "/claim/cut.py") 323), (.int 55 0), (.int 1 0), (.int 0 0), (.int 0 0), (.int 3 0), (.ref 106), (.bool true), (.int 181 0), (.ref 107), .none, (.ref 108), (.ref 109), (.ref 110), (.int 325 0), (.int 55 0), (.str (Str.ofString "/claim/cut.py") 326)], #[]⟩),
  (nat_lit 112, ⟨(.type "function"), none, .func (PySem.W.fnOf "__init__" "Plainer.__init__" (defArgs s_Plainer_init) (defBody s_Plainer_init) (defScope s_Plainer_init) .none .none .none (.str (Str.ofString "readgrove.plainer") 286) none (.ref 111) .none), #[]⟩),
  (nat_lit 118, ⟨(.type "code"), none, .fields #[(.str (Str.ofString "put_rule") 328), (.str (Str.ofString "Plainer.put_rule") 329), (.str (Str.ofString "/claim/cut.py") 330), (.int 58 0), (.int 4 0), (.int 0 0), (.int 0 0), (.int 3 0), (.ref 113), (.bool true), (.int 181 0), (.ref 114), .none, (.ref 115), (.ref 116), (.ref 117), (.int 335 0), (.int 58 0), (.str (Str.ofString "/claim/cut.py") 336)], #[]⟩),
  (nat_lit 119, ⟨(.type "function"), none, .func (PySem.W.fnOf "put_rule" "Plainer.put_rule" (defArgs s_Plainer_put_rule) (defBody s_Plainer_put_rule) (defScope s_Plainer_put_rule) .none .none .none (.str (Str.ofString "readgrove.plainer") 286) none (.ref 118) .none), #[]⟩),
  (nat_lit 132, ⟨(.type "code"), none, .fields #[(.str (Str.ofString "grammar_and_backs") 346), (.str (Str.ofString "Plainer.grammar_and_backs") 347), (.str (Str.ofString "/claim/cut.py") 348), (.int 64 0), (.int 1 0), (.int 0 0), (.int 0 0), (.int 3 0), (.ref 127), (.bool true), (.int 181 0), (.ref 128), .none, (.ref 129), (.ref 130), (.ref 131), (.int 350 0), (.int 64 0), (.str (Str.ofString "/claim/cut.py") 351)], #[]⟩),
  (nat_lit 133, ⟨(.type "function"), none, .func (PySem.W.fnOf "grammar_and_backs" "Plainer.grammar_and_backs" (defArgs s_Plainer_grammar_and_backs) (defBody s_Plainer_grammar_and_backs) (defScope s_Plainer_grammar_and_backs) .none .none .none (.str (Str.ofString "readgrove.plainer") 286) none (.ref 132) .none), #[]⟩),
  (nat_lit 135, ⟨(.type "dict"), none, .dict [en P "__module__" 316 (.str (Str.ofString "readgrove.plainer") 286), en P "__firstlineno__" 320 (.int 53 319), en P "__init__" 327 (.ref 112), en P "put_rule" 337 (.ref 119), en P "is_part" 345 (.ref 126), en P "grammar_and_backs" 352 (.ref 133), en P "__static_attributes__" 354 (.ref 134), en P "__dict__" 356 (.ref 137), en P "__weakref__" 358 (.ref 138), en P "__doc__" 359 .none].toArray 4, #[]⟩),
  (nat_lit 136, ⟨(.type "type"), none, .cls ⟨(Str.ofString "Plainer"), [(.type "object")], [(.ref 136), (.type "object")], 135, (Str.ofString "Plainer"), true, [], [], false, none, false⟩, #[none, none, some (.str (Str.ofString "Plainer") 309), some (.str (Str.ofString "Plainer") 317), some (.builtin "object.__new__"), some (.bool true)]⟩),
  (nat_lit 146, ⟨(.type "code"), none, .fields #[(.str (Str.ofString "long_ends") 362), (.str (Str.ofString "long_ends") 363), (.str (Str.ofString "/claim/cut.py") 364), (.int 66 0), (.int 1 0), (.int 0 0), (.int 0 0), (.int 3 0), (.ref 141), (.bool true), (.int 181 0), (.ref 142), .none, (.ref 143), (.ref 144), (.ref 145), (.int 369 0), (.int 66 0), (.str (Str.ofString "/claim/cut.py") 370)], #[]⟩),
  (nat_lit 147, ⟨(.type "function"), none, .func (PySem.W.fnOf "long_ends" "long_ends" (defArgs s_long_ends) (defBody s_long_ends) (defScope s_long_ends) .none .none .none (.str (Str.ofString "readgrove.plainer") 286) none (.ref 146) .none), #[]⟩),
  (nat_lit 153, ⟨(.type "code"), none, .fields #[(.str (Str.ofString "shortened") 372), (.str (Str.ofString "shortened") 373), (.str (Str.ofString "/claim/cut.py") 374), (.int 72 0), (.int 2 0), (.int 0 0), (.int 0 0), (.int 3 0), (.ref 148), (.bool true), (.int 181 0), (.ref 149), .none, (.ref 150), (.ref 151), (.ref 152), (.int 377 0), (.int 72 0), (.str (Str.ofString "/claim/cut.py") 378)], #[]⟩),
  (nat_lit 154, ⟨(.type "function"), none, .func (PySem.W.fnOf "shortened" "shortened" (defArgs s_shortened) (defBody s_shortened) (defScope s_shortened) .none .none .none (.str (Str.ofString "readgrove.plainer") 286) none (.ref 153) .none), #[]⟩),
  (nat_lit 160, ⟨(.type "code"), none, .fields #[(.str (Str.ofString "twos") 380), (.str (Str.ofString "twos") 381), (.str (Str.ofString "/claim/cut.py") 382), (.int 74 0), (.int 1 0), (.int 0 0), (.int 0 0), (.int 3 0), (.ref 155), (.bool true), (.int 181 0), (.ref 156), .none, (.ref 157), (.ref 158), (.ref 159), (.int 391 0), (.int 74 0), (.str (Str.ofString "/claim/cut.py") 392)], #[]⟩),
  (nat_lit 161, ⟨(.type "function"), none, .func (PySem.W.fnOf "twos" "twos" (defArgs s_twos) (defBody s_twos) (defScope s_twos) .none .none .none (.str (Str.ofString "readgrove.plainer") 286) none (.ref 160) .none), #[]⟩),
  (nat_lit 167, ⟨(.type "code"), none, .fields #[(.str (Str.ofString "_law_cell_at") 396), (.str (Str.ofString "_law_cell_at") 397), (.str (Str.ofString "/claim/cut.py") 398), (.int 86 0), (.int 2 0), (.int 0 0), (.int 0 0), (.int 3 0), (.ref 162), (.bool true), (.int 181 0), (.ref 163), .none, (.ref 164), (.ref 165), (.ref 166), (.int 401 0), (.int 86 0), (.str (Str.ofString "/claim/cut.py") 402)], #[]⟩),
  (nat_lit 168, ⟨(.type "function"), none, .func (PySem.W.fnOf "_law_cell_at" "_law_cell_at" (defArgs s_l_cell_at) (defBody s_l_cell_at) (defScope s_l_cell_at) .none .none .none (.str (Str.ofString "law_readgrove_k63_two_parts") 394) none (.ref 167) .none), #[]⟩),
  (nat_lit 174, ⟨(.type "code"), none, .fields #[(.str (Str.ofString "_law_stir") 404), (.str (Str.ofString "_law_stir") 405), (.str (Str.ofString "/claim/cut.py") 406), (.int 90 0), (.int 2 0), (.int 0 0), (.int 0 0), (.int 3 0), (.ref 169), (.bool true), (.int 181 0), (.ref 170), .none, (.ref 171), (.ref 172), (.ref 173), (.int 410 0), (.int 90 0), (.str (Str.ofString "/claim/cut.py") 411)], #[]⟩),
  (nat_lit 175, ⟨(.type "function"), none, .func (PySem.W.fnOf "_law_stir" "_law_stir" (defArgs s_l_stir) (defBody s_l_stir) (defScope s_l_stir) .none .none .none (.str (Str.ofString "law_readgrove_k63_two_parts") 394) none (.ref 174) .none), #[]⟩),
  (nat_lit 181, ⟨(.type "code"), none, .fields #[(.str (Str.ofString "_law_drawn") 413), (.str (Str.ofString "_law_drawn") 414), (.str (Str.ofString "/claim/cut.py") 415), (.int 94 0), (.int 2 0), (.int 0 0), (.int 0 0), (.int 3 0), (.ref 176), (.bool true), (.int 181 0), (.ref 177), .none, (.ref 178), (.ref 179), (.ref 180), (.int 421 0), (.int 94 0), (.str (Str.ofString "/claim/cut.py") 422)], #[]⟩),
  (nat_lit 182, ⟨(.type "function"), none, .func (PySem.W.fnOf "_law_drawn" "_law_drawn" (defArgs s_l_drawn) (defBody s_l_drawn) (defScope s_l_drawn) .none .none .none (.str (Str.ofString "law_readgrove_k63_two_parts") 394) none (.ref 181) .none), #[]⟩),
  (nat_lit 188, ⟨(.type "code"), none, .fields #[(.str (Str.ofString "_law_unlike") 424), (.str (Str.ofString "_law_unlike") 425), (.str (Str.ofString "/claim/cut.py") 426), (.int 104 0), (.int 3 0), (.int 0 0), (.int 0 0), (.int 3 0), (.ref 183), (.bool true), (.int 181 0), (.ref 184), .none, (.ref 185), (.ref 186), (.ref 187), (.int 438 0), (.int 104 0), (.str (Str.ofString "/claim/cut.py") 439)], #[]⟩),
  (nat_lit 189, ⟨(.type "function"), none, .func (PySem.W.fnOf "_law_unlike" "_law_unlike" (defArgs s_l_unlike) (defBody s_l_unlike) (defScope s_l_unlike) .none .none .none (.str (Str.ofString "law_readgrove_k63_two_parts") 394) none (.ref 188) .none), #[]⟩),
  (nat_lit 195, ⟨(.type "code"), none, .fields #[(.str (Str.ofString "_law_rule") 441), (.str (Str.ofString "_law_rule") 442), (.str (Str.ofString "/claim/cut.py") 443), (.int 119 0), (.int 4 0), (.int 0 0), (.int 0 0), (.int 3 0), (.ref 190), (.bool true), (.int 181 0), (.ref 191), .none, (.ref 192), (.ref 193), (.ref 194), (.int 451 0), (.int 119 0), (.str (Str.ofString "/claim/cut.py") 452)], #[]⟩),
  (nat_lit 196, ⟨(.type "function"), none, .func (PySem.W.fnOf "_law_rule" "_law_rule" (defArgs s_l_rule) (defBody s_l_rule) (defScope s_l_rule) .none .none .none (.str (Str.ofString "law_readgrove_k63_two_parts") 394) none (.ref 195) .none), #[]⟩),
  (nat_lit 200, ⟨(.type "code"), none, .fields #[(.str (Str.ofString "_law_rules") 454), (.str (Str.ofString "_law_rules") 455), (.str (Str.ofString "/claim/cut.py") 456), (.int 128 0), (.int 3 0), (.int 0 0), (.int 0 0), (.int 3 0), (.ref 197), (.bool true), (.int 181 0), (.ref 198), .none, .none, .none, (.ref 199), (.int 457 0), (.int 128 0), (.str (Str.ofString "/claim/cut.py") 458)], #[]⟩),
  (nat_lit 201, ⟨(.type "function"), none, .func (PySem.W.fnOf "_law_rules" "_law_rules" (defArgs s_l_rules) (defBody s_l_rules) (defScope s_l_rules) .none .none .none (.str (Str.ofString "law_readgrove_k63_two_parts") 394) none (.ref 200) .none), #[]⟩),
  (nat_lit 207, ⟨(.type "code"), none, .fields #[(.str (Str.ofString "_law_is_name") 460), (.str (Str.ofString "_law_is_name") 461), (.str (Str.ofString "/claim/cut.py") 462), (.int 137 0), (.int 1 0), (.int 0 0), (.int 0 0), (.int 3 0), (.ref 202), (.bool true), (.int 181 0), (.ref 203), .none, (.ref 204), (.ref 205), (.ref 206), (.int 464 0), (.int 137 0), (.str (Str.ofString "/claim/cut.py") 465)], #[]⟩),
  (nat_lit 208, ⟨(.type "function"), none, .func (PySem.W.fnOf "_law_is_name" "_law_is_name" (defArgs s_l_is_name) (defBody s_l_is_name) (defScope s_l_is_name) .none .none .none (.str (Str.ofString "law_readgrove_k63_two_parts") 394) none (.ref 207) .none), #[]⟩),
  (nat_lit 212, ⟨(.type "code"), none, .fields #[(.str (Str.ofString "_law_costless") 467), (.str (Str.ofString "_law_costless") 468), (.str (Str.ofString "/claim/cut.py") 469), (.int 139 0), (.int 1 0), (.int 0 0), (.int 0 0), (.int 3 0), (.ref 209), (.bool true), (.int 181 0), (.ref 210), .none, .none, .none, (.ref 211), (.int 470 0), (.int 139 0), (.str (Str.ofString "/claim/cut.py") 471)], #[]⟩),
  (nat_lit 213, ⟨(.type "function"), none, .func (PySem.W.fnOf "_law_costless" "_law_costless" (defArgs s_l_costless) (defBody s_l_costless) (defScope s_l_costless) .none .none .none (.str (Str.ofString "law_readgrove_k63_two_parts") 394) none (.ref 212) .none), #[]⟩),
  (nat_lit 217, ⟨(.type "code"), none, .fields #[(.str (Str.ofString "_law_new_names") 473), (.str (Str.ofString "_law_new_names") 474), (.str (Str.ofString "/claim/cut.py") 475), (.int 150 0), (.int 2 0), (.int 0 0), (.int 0 0), (.int 3 0), (.ref 214), (.bool true), (.int 181 0), (.ref 215), .none, .none, .none, (.ref 216), (.int 476 0), (.int 150 0), (.str (Str.ofString "/claim/cut.py") 477)], #[]⟩),
  (nat_lit 218, ⟨(.type "function"), none, .func (PySem.W.fnOf "_law_new_names" "_law_new_names" (defArgs s_l_new_names) (defBody s_l_new_names) (defScope s_l_new_names) .none .none .none (.str (Str.ofString "law_readgrove_k63_two_parts") 394) none (.ref 217) .none), #[]⟩),
  (nat_lit 222, ⟨(.type "code"), none, .fields #[(.str (Str.ofString "_law_none_new") 479), (.str (Str.ofString "_law_none_new") 480), (.str (Str.ofString "/claim/cut.py") 481), (.int 159 0), (.int 2 0), (.int 0 0), (.int 0 0), (.int 3 0), (.ref 219), (.bool true), (.int 181 0), (.ref 220), .none, .none, .none, (.ref 221), (.int 482 0), (.int 159 0), (.str (Str.ofString "/claim/cut.py") 483)], #[]⟩),
  (nat_lit 223, ⟨(.type "function"), none, .func (PySem.W.fnOf "_law_none_new" "_law_none_new" (defArgs s_l_none_new) (defBody s_l_none_new) (defScope s_l_none_new) .none .none .none (.str (Str.ofString "law_readgrove_k63_two_parts") 394) none (.ref 222) .none), #[]⟩),
  (nat_lit 227, ⟨(.type "code"), none, .fields #[(.str (Str.ofString "law") 485), (.str (Str.ofString "law") 486), (.str (Str.ofString "/claim/cut.py") 487), (.int 166 0), (.int 1 0), (.int 0 0), (.int 0 0), (.int 3 0), (.ref 224), (.bool true), (.int 181 0), (.ref 225), .none, .none, .none, (.ref 226), (.int 488 0), (.int 166 0), (.str (Str.ofString "/claim/cut.py") 489)], #[]⟩),
  (nat_lit 228, ⟨(.type "function"), none, .func (PySem.W.fnOf "law" "law" (defArgs s_law) (defBody s_law) (defScope s_law) .none .none .none (.str (Str.ofString "law_readgrove_k63_two_parts") 394) none (.ref 227) .none), #[]⟩)]
noncomputable def hpA : List Addr := [nat_lit 3, nat_lit 30, nat_lit 31, nat_lit 43, nat_lit 44, nat_lit 50, nat_lit 51, nat_lit 57, nat_lit 58, nat_lit 64, nat_lit 65, nat_lit 71, nat_lit 72, nat_lit 78, nat_lit 79, nat_lit 83, nat_lit 84, nat_lit 90, nat_lit 91, nat_lit 97, nat_lit 98, nat_lit 111, nat_lit 112, nat_lit 118, nat_lit 119, nat_lit 132, nat_lit 133, nat_lit 135, nat_lit 136, nat_lit 146, nat_lit 147, nat_lit 153, nat_lit 154, nat_lit 160, nat_lit 161, nat_lit 167, nat_lit 168, nat_lit 174, nat_lit 175, nat_lit 181, nat_lit 182, nat_lit 188, nat_lit 189, nat_lit 195, nat_lit 196, nat_lit 200, nat_lit 201, nat_lit 207, nat_lit 208, nat_lit 212, nat_lit 213, nat_lit 217, nat_lit 218, nat_lit 222, nat_lit 223, nat_lit 227, nat_lit 228]
noncomputable def qv : Program := { PySem.Challenge.pw_readgrove_k63_two_parts with main := { PySem.Challenge.pw_readgrove_k63_two_parts.main with body := [top 0, top 2, top 3, top 5, top 6, top 7, top 8, top 9, top 10, top 11, top 13, top 15, top 16, top 17, top 18, top 19, top 20, top 21, top 23, top 24, top 25, top 26, top 27, top 28, top 29, top 30, top 31, top 32, top 33] } }
noncomputable def hk : PySem.W.Hook := PySem.W.kHook hpK hpA (fun _ => by kernel_rfl)
theorem ar0 {C : List Value → Prop} (h : C []) : ∀ us : List Value, us.length = 0 → C us := fun us e => by cases us with | nil => exact h | cons a l => exact nomatch e
theorem ar1 {C : List Value → Prop} (h : ∀ a0, C [a0]) : ∀ us : List Value, us.length = 1 → C us := fun us e => by cases us with | nil => exact nomatch e | cons a l => exact ar0 (C := fun l => C (a :: l)) (h a) l (Nat.succ.inj e)
theorem ar2 {C : List Value → Prop} (h : ∀ a0 a1, C [a0, a1]) : ∀ us : List Value, us.length = 2 → C us := fun us e => by cases us with | nil => exact nomatch e | cons a l => exact ar1 (C := fun l => C (a :: l)) (h a) l (Nat.succ.inj e)
theorem ar3 {C : List Value → Prop} (h : ∀ a0 a1 a2, C [a0, a1, a2]) : ∀ us : List Value, us.length = 3 → C us := fun us e => by cases us with | nil => exact nomatch e | cons a l => exact ar2 (C := fun l => C (a :: l)) (h a) l (Nat.succ.inj e)
theorem ar4 {C : List Value → Prop} (h : ∀ a0 a1 a2 a3, C [a0, a1, a2, a3]) : ∀ us : List Value, us.length = 4 → C us := fun us e => by cases us with | nil => exact nomatch e | cons a l => exact ar3 (C := fun l => C (a :: l)) (h a) l (Nat.succ.inj e)
def mg_is (K : Params → PySem.W.Frag) (a : Addr) (x : Str) : Prop := ∀ P, PySem.W.nsIn (K P) mainGlobals x = some (some (.ref a))
section
variable {w : World} {h : Heap} {mg : Str → Option Value}
theorem ns_made_of : mg_is hpK 51 "made_of" := fun _ => by kernel_rfl
noncomputable abbrev fd_made_of : FuncData := (PySem.W.fnOf "made_of" "made_of" (defArgs s_made_of) (defBody s_made_of) (defScope s_made_of) .none .none .none (.str (Str.ofString "readgrove.grammars") 230) none (.ref 50) .none)
theorem df_made_of (X : (hpK w.params).In h) (G : h.Ns mainGlobals mg) : Df (hpK w.params) mg "made_of" s_made_of ["text", "signs"] 51 fd_made_of := binds_of (ps := ["text", "signs"]) (fun_mk (st := s_made_of) (oc := .type "function") (od := none) (osl := #[]) (by kernel_rfl) (by kernel_rfl) (by kernel_rfl)) (PySem.W.mg_of X G (ns_made_of _)) fun _ _ _ _ _ _ => ar2 fun _ _ => rfl
theorem ns_is_name : mg_is hpK 58 "is_name" := fun _ => by kernel_rfl
noncomputable abbrev fd_is_name : FuncData := (PySem.W.fnOf "is_name" "is_name" (defArgs s_is_name) (defBody s_is_name) (defScope s_is_name) .none .none .none (.str (Str.ofString "readgrove.grammars") 230) none (.ref 57) .none)
theorem df_is_name (X : (hpK w.params).In h) (G : h.Ns mainGlobals mg) : Df (hpK w.params) mg "is_name" s_is_name ["part"] 58 fd_is_name := binds_of (ps := ["part"]) (fun_mk (st := s_is_name) (oc := .type "function") (od := none) (osl := #[]) (by kernel_rfl) (by kernel_rfl) (by kernel_rfl)) (PySem.W.mg_of X G (ns_is_name _)) fun _ _ _ _ _ _ => ar1 fun _ => rfl
theorem ns_namesW : mg_is hpK 65 "names" := fun _ => by kernel_rfl
noncomputable abbrev fd_namesW : FuncData := (PySem.W.fnOf "names" "names" (defArgs s_namesW) (defBody s_namesW) (defScope s_namesW) .none .none .none (.str (Str.ofString "readgrove.grammars") 230) none (.ref 64) .none)
theorem df_namesW (X : (hpK w.params).In h) (G : h.Ns mainGlobals mg) : Df (hpK w.params) mg "names" s_namesW ["grammar"] 65 fd_namesW := binds_of (ps := ["grammar"]) (fun_mk (st := s_namesW) (oc := .type "function") (od := none) (osl := #[]) (by kernel_rfl) (by kernel_rfl) (by kernel_rfl)) (PySem.W.mg_of X G (ns_namesW _)) fun _ _ _ _ _ _ => ar1 fun _ => rfl
theorem ns_check_rule : mg_is hpK 72 "check_rule" := fun _ => by kernel_rfl
noncomputable abbrev fd_check_rule : FuncData := (PySem.W.fnOf "check_rule" "check_rule" (defArgs s_check_rule) (defBody s_check_rule) (defScope s_check_rule) .none .none .none (.str (Str.ofString "readgrove.grammars") 230) none (.ref 71) .none)
theorem df_check_rule (X : (hpK w.params).In h) (G : h.Ns mainGlobals mg) : Df (hpK w.params) mg "check_rule" s_check_rule ["rule", "known"] 72 fd_check_rule := binds_of (ps := ["rule", "known"]) (fun_mk (st := s_check_rule) (oc := .type "function") (od := none) (osl := #[]) (by kernel_rfl) (by kernel_rfl) (by kernel_rfl)) (PySem.W.mg_of X G (ns_check_rule _)) fun _ _ _ _ _ _ => ar2 fun _ _ => rfl
theorem ns_grammar_ofW : mg_is hpK 79 "grammar_of" := fun _ => by kernel_rfl
noncomputable abbrev fd_grammar_ofW : FuncData := (PySem.W.fnOf "grammar_of" "grammar_of" (defArgs s_grammar_ofW) (defBody s_grammar_ofW) (defScope s_grammar_ofW) .none .none .none (.str (Str.ofString "readgrove.grammars") 230) none (.ref 78) .none)
theorem df_grammar_ofW (X : (hpK w.params).In h) (G : h.Ns mainGlobals mg) : Df (hpK w.params) mg "grammar_of" s_grammar_ofW ["rules"] 79 fd_grammar_ofW := binds_of (ps := ["rules"]) (fun_mk (st := s_grammar_ofW) (oc := .type "function") (od := none) (osl := #[]) (by kernel_rfl) (by kernel_rfl) (by kernel_rfl)) (PySem.W.mg_of X G (ns_grammar_ofW _)) fun _ _ _ _ _ _ => ar1 fun _ => rfl
theorem ns_marks : mg_is hpK 84 "marks" := fun _ => by kernel_rfl
noncomputable abbrev fd_marks : FuncData := (PySem.W.fnOf "marks" "marks" (defArgs s_marks) (defBody s_marks) (defScope s_marks) .none .none .none (.str (Str.ofString "readgrove.covers") 278) none (.ref 83) .none)
theorem df_marks (X : (hpK w.params).In h) (G : h.Ns mainGlobals mg) : Df (hpK w.params) mg "marks" s_marks ["things"] 84 fd_marks := binds_of (ps := ["things"]) (fun_mk (st := s_marks) (oc := .type "function") (od := none) (osl := #[]) (by kernel_rfl) (by kernel_rfl) (by kernel_rfl)) (PySem.W.mg_of X G (ns_marks _)) fun _ _ _ _ _ _ => ar1 fun _ => rfl
theorem ns_made_names : mg_is hpK 91 "made_names" := fun _ => by kernel_rfl
noncomputable abbrev fd_made_names : FuncData := (PySem.W.fnOf "made_names" "made_names" (defArgs s_made_names) (defBody s_made_names) (defScope s_made_names) .none .none .none (.str (Str.ofString "readgrove.plainer") 286) none (.ref 90) .none)
theorem df_made_names (X : (hpK w.params).In h) (G : h.Ns mainGlobals mg) : Df (hpK w.params) mg "made_names" s_made_names ["old", "count"] 91 fd_made_names := binds_of (ps := ["old", "count"]) (fun_mk (st := s_made_names) (oc := .type "function") (od := none) (osl := #[]) (by kernel_rfl) (by kernel_rfl) (by kernel_rfl)) (PySem.W.mg_of X G (ns_made_names _)) fun _ _ _ _ _ _ => ar2 fun _ _ => rfl
theorem ns_slots : mg_is hpK 98 "slots" := fun _ => by kernel_rfl
noncomputable abbrev fd_slots : FuncData := (PySem.W.fnOf "slots" "slots" (defArgs s_slots) (defBody s_slots) (defScope s_slots) .none .none .none (.str (Str.ofString "readgrove.plainer") 286) none (.ref 97) .none)
theorem df_slots (X : (hpK w.params).In h) (G : h.Ns mainGlobals mg) : Df (hpK w.params) mg "slots" s_slots ["parts"] 98 fd_slots := binds_of (ps := ["parts"]) (fun_mk (st := s_slots) (oc := .type "function") (od := none) (osl := #[]) (by kernel_rfl) (by kernel_rfl) (by kernel_rfl)) (PySem.W.mg_of X G (ns_slots _)) fun _ _ _ _ _ _ => ar1 fun _ => rfl
noncomputable abbrev fd_Plainer_init : FuncData := (PySem.W.fnOf "__init__" "Plainer.__init__" (defArgs s_Plainer_init) (defBody s_Plainer_init) (defScope s_Plainer_init) .none .none .none (.str (Str.ofString "readgrove.plainer") 286) none (.ref 111) .none)
theorem fn_Plainer_init : Fun (hpK w.params) "__init__" "Plainer.__init__" s_Plainer_init 112 fd_Plainer_init := fun_mk (st := s_Plainer_init) (oc := .type "function") (od := none) (osl := #[]) (by kernel_rfl) (by kernel_rfl) (by kernel_rfl)
theorem df_Plainer_init : Di (hpK w.params) 136 "__init__" "Plainer.__init__" s_Plainer_init ["self"] 112 fd_Plainer_init := ⟨fn_Plainer_init, ⟨by kernel_rfl, by kernel_rfl, by kernel_rfl, by kernel_rfl⟩, fn_Plainer_init.binds (ps := ["self"]) fun _ _ _ _ _ _ => ar1 fun _ => rfl⟩
noncomputable abbrev fd_Plainer_put_rule : FuncData := (PySem.W.fnOf "put_rule" "Plainer.put_rule" (defArgs s_Plainer_put_rule) (defBody s_Plainer_put_rule) (defScope s_Plainer_put_rule) .none .none .none (.str (Str.ofString "readgrove.plainer") 286) none (.ref 118) .none)
theorem fn_Plainer_put_rule : Fun (hpK w.params) "put_rule" "Plainer.put_rule" s_Plainer_put_rule 119 fd_Plainer_put_rule := fun_mk (st := s_Plainer_put_rule) (oc := .type "function") (od := none) (osl := #[]) (by kernel_rfl) (by kernel_rfl) (by kernel_rfl)
theorem df_Plainer_put_rule : Dm (hpK w.params) 136 "put_rule" "Plainer.put_rule" s_Plainer_put_rule ["self", "name", "parts", "pieces"] 119 fd_Plainer_put_rule := ⟨fn_Plainer_put_rule, ⟨by kernel_rfl, by kernel_rfl, by kernel_rfl⟩, fn_Plainer_put_rule.binds (ps := ["self", "name", "parts", "pieces"]) fun _ _ _ _ _ _ => ar4 fun _ _ _ _ => rfl⟩
noncomputable abbrev fd_Plainer_grammar_and_backs : FuncData := (PySem.W.fnOf "grammar_and_backs" "Plainer.grammar_and_backs" (defArgs s_Plainer_grammar_and_backs) (defBody s_Plainer_grammar_and_backs) (defScope s_Plainer_grammar_and_backs) .none .none .none (.str (Str.ofString "readgrove.plainer") 286) none (.ref 132) .none)
theorem fn_Plainer_grammar_and_backs : Fun (hpK w.params) "grammar_and_backs" "Plainer.grammar_and_backs" s_Plainer_grammar_and_backs 133 fd_Plainer_grammar_and_backs := fun_mk (st := s_Plainer_grammar_and_backs) (oc := .type "function") (od := none) (osl := #[]) (by kernel_rfl) (by kernel_rfl) (by kernel_rfl)
theorem df_Plainer_grammar_and_backs : Dm (hpK w.params) 136 "grammar_and_backs" "Plainer.grammar_and_backs" s_Plainer_grammar_and_backs ["self"] 133 fd_Plainer_grammar_and_backs := ⟨fn_Plainer_grammar_and_backs, ⟨by kernel_rfl, by kernel_rfl, by kernel_rfl⟩, fn_Plainer_grammar_and_backs.binds (ps := ["self"]) fun _ _ _ _ _ _ => ar1 fun _ => rfl⟩
theorem ns_long_ends : mg_is hpK 147 "long_ends" := fun _ => by kernel_rfl
noncomputable abbrev fd_long_ends : FuncData := (PySem.W.fnOf "long_ends" "long_ends" (defArgs s_long_ends) (defBody s_long_ends) (defScope s_long_ends) .none .none .none (.str (Str.ofString "readgrove.plainer") 286) none (.ref 146) .none)
theorem df_long_ends (X : (hpK w.params).In h) (G : h.Ns mainGlobals mg) : Df (hpK w.params) mg "long_ends" s_long_ends ["grammar"] 147 fd_long_ends := binds_of (ps := ["grammar"]) (fun_mk (st := s_long_ends) (oc := .type "function") (od := none) (osl := #[]) (by kernel_rfl) (by kernel_rfl) (by kernel_rfl)) (PySem.W.mg_of X G (ns_long_ends _)) fun _ _ _ _ _ _ => ar1 fun _ => rfl
theorem ns_shortened : mg_is hpK 154 "shortened" := fun _ => by kernel_rfl
noncomputable abbrev fd_shortened : FuncData := (PySem.W.fnOf "shortened" "shortened" (defArgs s_shortened) (defBody s_shortened) (defScope s_shortened) .none .none .none (.str (Str.ofString "readgrove.plainer") 286) none (.ref 153) .none)
theorem df_shortened (X : (hpK w.params).In h) (G : h.Ns mainGlobals mg) : Df (hpK w.params) mg "shortened" s_shortened ["parts", "made"] 154 fd_shortened := binds_of (ps := ["parts", "made"]) (fun_mk (st := s_shortened) (oc := .type "function") (od := none) (osl := #[]) (by kernel_rfl) (by kernel_rfl) (by kernel_rfl)) (PySem.W.mg_of X G (ns_shortened _)) fun _ _ _ _ _ _ => ar2 fun _ _ => rfl
theorem ns_twos : mg_is hpK 161 "twos" := fun _ => by kernel_rfl
noncomputable abbrev fd_twos : FuncData := (PySem.W.fnOf "twos" "twos" (defArgs s_twos) (defBody s_twos) (defScope s_twos) .none .none .none (.str (Str.ofString "readgrove.plainer") 286) none (.ref 160) .none)
theorem df_twos (X : (hpK w.params).In h) (G : h.Ns mainGlobals mg) : Df (hpK w.params) mg "twos" s_twos ["grammar"] 161 fd_twos := binds_of (ps := ["grammar"]) (fun_mk (st := s_twos) (oc := .type "function") (od := none) (osl := #[]) (by kernel_rfl) (by kernel_rfl) (by kernel_rfl)) (PySem.W.mg_of X G (ns_twos _)) fun _ _ _ _ _ _ => ar1 fun _ => rfl
theorem ns_l_cell_at : mg_is hpK 168 "_law_cell_at" := fun _ => by kernel_rfl
noncomputable abbrev fd_l_cell_at : FuncData := (PySem.W.fnOf "_law_cell_at" "_law_cell_at" (defArgs s_l_cell_at) (defBody s_l_cell_at) (defScope s_l_cell_at) .none .none .none (.str (Str.ofString "law_readgrove_k63_two_parts") 394) none (.ref 167) .none)
theorem df_l_cell_at (X : (hpK w.params).In h) (G : h.Ns mainGlobals mg) : Df (hpK w.params) mg "_law_cell_at" s_l_cell_at ["script", "k"] 168 fd_l_cell_at := binds_of (ps := ["script", "k"]) (fun_mk (st := s_l_cell_at) (oc := .type "function") (od := none) (osl := #[]) (by kernel_rfl) (by kernel_rfl) (by kernel_rfl)) (PySem.W.mg_of X G (ns_l_cell_at _)) fun _ _ _ _ _ _ => ar2 fun _ _ => rfl
theorem ns_l_stir : mg_is hpK 175 "_law_stir" := fun _ => by kernel_rfl
noncomputable abbrev fd_l_stir : FuncData := (PySem.W.fnOf "_law_stir" "_law_stir" (defArgs s_l_stir) (defBody s_l_stir) (defScope s_l_stir) .none .none .none (.str (Str.ofString "law_readgrove_k63_two_parts") 394) none (.ref 174) .none)
theorem df_l_stir (X : (hpK w.params).In h) (G : h.Ns mainGlobals mg) : Df (hpK w.params) mg "_law_stir" s_l_stir ["cell", "k"] 175 fd_l_stir := binds_of (ps := ["cell", "k"]) (fun_mk (st := s_l_stir) (oc := .type "function") (od := none) (osl := #[]) (by kernel_rfl) (by kernel_rfl) (by kernel_rfl)) (PySem.W.mg_of X G (ns_l_stir _)) fun _ _ _ _ _ _ => ar2 fun _ _ => rfl
theorem ns_l_drawn : mg_is hpK 182 "_law_drawn" := fun _ => by kernel_rfl
noncomputable abbrev fd_l_drawn : FuncData := (PySem.W.fnOf "_law_drawn" "_law_drawn" (defArgs s_l_drawn) (defBody s_l_drawn) (defScope s_l_drawn) .none .none .none (.str (Str.ofString "law_readgrove_k63_two_parts") 394) none (.ref 181) .none)
theorem df_l_drawn (X : (hpK w.params).In h) (G : h.Ns mainGlobals mg) : Df (hpK w.params) mg "_law_drawn" s_l_drawn ["cell", "sizes"] 182 fd_l_drawn := binds_of (ps := ["cell", "sizes"]) (fun_mk (st := s_l_drawn) (oc := .type "function") (od := none) (osl := #[]) (by kernel_rfl) (by kernel_rfl) (by kernel_rfl)) (PySem.W.mg_of X G (ns_l_drawn _)) fun _ _ _ _ _ _ => ar2 fun _ _ => rfl
theorem ns_l_unlike : mg_is hpK 189 "_law_unlike" := fun _ => by kernel_rfl
noncomputable abbrev fd_l_unlike : FuncData := (PySem.W.fnOf "_law_unlike" "_law_unlike" (defArgs s_l_unlike) (defBody s_l_unlike) (defScope s_l_unlike) .none .none .none (.str (Str.ofString "law_readgrove_k63_two_parts") 394) none (.ref 188) .none)
theorem df_l_unlike (X : (hpK w.params).In h) (G : h.Ns mainGlobals mg) : Df (hpK w.params) mg "_law_unlike" s_l_unlike ["number", "many", "great"] 189 fd_l_unlike := binds_of (ps := ["number", "many", "great"]) (fun_mk (st := s_l_unlike) (oc := .type "function") (od := none) (osl := #[]) (by kernel_rfl) (by kernel_rfl) (by kernel_rfl)) (PySem.W.mg_of X G (ns_l_unlike _)) fun _ _ _ _ _ _ => ar3 fun _ _ _ => rfl
theorem ns_l_rule : mg_is hpK 196 "_law_rule" := fun _ => by kernel_rfl
noncomputable abbrev fd_l_rule : FuncData := (PySem.W.fnOf "_law_rule" "_law_rule" (defArgs s_l_rule) (defBody s_l_rule) (defScope s_l_rule) .none .none .none (.str (Str.ofString "law_readgrove_k63_two_parts") 394) none (.ref 195) .none)
theorem df_l_rule (X : (hpK w.params).In h) (G : h.Ns mainGlobals mg) : Df (hpK w.params) mg "_law_rule" s_l_rule ["cell", "heads", "words", "most"] 196 fd_l_rule := binds_of (ps := ["cell", "heads", "words", "most"]) (fun_mk (st := s_l_rule) (oc := .type "function") (od := none) (osl := #[]) (by kernel_rfl) (by kernel_rfl) (by kernel_rfl)) (PySem.W.mg_of X G (ns_l_rule _)) fun _ _ _ _ _ _ => ar4 fun _ _ _ _ => rfl
theorem ns_l_rules : mg_is hpK 201 "_law_rules" := fun _ => by kernel_rfl
noncomputable abbrev fd_l_rules : FuncData := (PySem.W.fnOf "_law_rules" "_law_rules" (defArgs s_l_rules) (defBody s_l_rules) (defScope s_l_rules) .none .none .none (.str (Str.ofString "law_readgrove_k63_two_parts") 394) none (.ref 200) .none)
theorem df_l_rules (X : (hpK w.params).In h) (G : h.Ns mainGlobals mg) : Df (hpK w.params) mg "_law_rules" s_l_rules ["cells", "many", "most"] 201 fd_l_rules := binds_of (ps := ["cells", "many", "most"]) (fun_mk (st := s_l_rules) (oc := .type "function") (od := none) (osl := #[]) (by kernel_rfl) (by kernel_rfl) (by kernel_rfl)) (PySem.W.mg_of X G (ns_l_rules _)) fun _ _ _ _ _ _ => ar3 fun _ _ _ => rfl
theorem ns_l_is_name : mg_is hpK 208 "_law_is_name" := fun _ => by kernel_rfl
noncomputable abbrev fd_l_is_name : FuncData := (PySem.W.fnOf "_law_is_name" "_law_is_name" (defArgs s_l_is_name) (defBody s_l_is_name) (defScope s_l_is_name) .none .none .none (.str (Str.ofString "law_readgrove_k63_two_parts") 394) none (.ref 207) .none)
theorem df_l_is_name (X : (hpK w.params).In h) (G : h.Ns mainGlobals mg) : Df (hpK w.params) mg "_law_is_name" s_l_is_name ["part"] 208 fd_l_is_name := binds_of (ps := ["part"]) (fun_mk (st := s_l_is_name) (oc := .type "function") (od := none) (osl := #[]) (by kernel_rfl) (by kernel_rfl) (by kernel_rfl)) (PySem.W.mg_of X G (ns_l_is_name _)) fun _ _ _ _ _ _ => ar1 fun _ => rfl
theorem ns_l_costless : mg_is hpK 213 "_law_costless" := fun _ => by kernel_rfl
noncomputable abbrev fd_l_costless : FuncData := (PySem.W.fnOf "_law_costless" "_law_costless" (defArgs s_l_costless) (defBody s_l_costless) (defScope s_l_costless) .none .none .none (.str (Str.ofString "law_readgrove_k63_two_parts") 394) none (.ref 212) .none)
theorem df_l_costless (X : (hpK w.params).In h) (G : h.Ns mainGlobals mg) : Df (hpK w.params) mg "_law_costless" s_l_costless ["rules"] 213 fd_l_costless := binds_of (ps := ["rules"]) (fun_mk (st := s_l_costless) (oc := .type "function") (od := none) (osl := #[]) (by kernel_rfl) (by kernel_rfl) (by kernel_rfl)) (PySem.W.mg_of X G (ns_l_costless _)) fun _ _ _ _ _ _ => ar1 fun _ => rfl
theorem ns_l_new_names : mg_is hpK 218 "_law_new_names" := fun _ => by kernel_rfl
noncomputable abbrev fd_l_new_names : FuncData := (PySem.W.fnOf "_law_new_names" "_law_new_names" (defArgs s_l_new_names) (defBody s_l_new_names) (defScope s_l_new_names) .none .none .none (.str (Str.ofString "law_readgrove_k63_two_parts") 394) none (.ref 217) .none)
theorem df_l_new_names (X : (hpK w.params).In h) (G : h.Ns mainGlobals mg) : Df (hpK w.params) mg "_law_new_names" s_l_new_names ["rules", "told"] 218 fd_l_new_names := binds_of (ps := ["rules", "told"]) (fun_mk (st := s_l_new_names) (oc := .type "function") (od := none) (osl := #[]) (by kernel_rfl) (by kernel_rfl) (by kernel_rfl)) (PySem.W.mg_of X G (ns_l_new_names _)) fun _ _ _ _ _ _ => ar2 fun _ _ => rfl
theorem ns_l_none_new : mg_is hpK 223 "_law_none_new" := fun _ => by kernel_rfl
noncomputable abbrev fd_l_none_new : FuncData := (PySem.W.fnOf "_law_none_new" "_law_none_new" (defArgs s_l_none_new) (defBody s_l_none_new) (defScope s_l_none_new) .none .none .none (.str (Str.ofString "law_readgrove_k63_two_parts") 394) none (.ref 222) .none)
theorem df_l_none_new (X : (hpK w.params).In h) (G : h.Ns mainGlobals mg) : Df (hpK w.params) mg "_law_none_new" s_l_none_new ["rules", "told"] 223 fd_l_none_new := binds_of (ps := ["rules", "told"]) (fun_mk (st := s_l_none_new) (oc := .type "function") (od := none) (osl := #[]) (by kernel_rfl) (by kernel_rfl) (by kernel_rfl)) (PySem.W.mg_of X G (ns_l_none_new _)) fun _ _ _ _ _ _ => ar2 fun _ _ => rfl
theorem ns_law : mg_is hpK 228 "law" := fun _ => by kernel_rfl
noncomputable abbrev fd_law : FuncData := (PySem.W.fnOf "law" "law" (defArgs s_law) (defBody s_law) (defScope s_law) .none .none .none (.str (Str.ofString "law_readgrove_k63_two_parts") 394) none (.ref 227) .none)
theorem df_law (X : (hpK w.params).In h) (G : h.Ns mainGlobals mg) : Df (hpK w.params) mg "law" s_law ["script"] 228 fd_law := binds_of (ps := ["script"]) (fun_mk (st := s_law) (oc := .type "function") (od := none) (osl := #[]) (by kernel_rfl) (by kernel_rfl) (by kernel_rfl)) (PySem.W.mg_of X G (ns_law _)) fun _ _ _ _ _ _ => ar1 fun _ => rfl
theorem tx_mk (X : (hpK w.params).In h) (G : h.Ns mainGlobals mg) : Tx mg := ⟨⟨288, PySem.W.mg_of (v := .int 10000 288) X G (by kernel_rfl)⟩, ⟨234, PySem.W.mg_of (v := .str "0123456789" 234) X G (by kernel_rfl)⟩, ⟨232, PySem.W.mg_of (v := .str "ABCDEFGHIJKLMNOPQRSTUVWXYZ" 232) X G (by kernel_rfl)⟩, PySem.W.mg_none_of X G (by kernel_rfl), PySem.W.mg_none_of X G (by kernel_rfl), PySem.W.mg_none_of X G (by kernel_rfl), PySem.W.mg_none_of X G (by kernel_rfl), PySem.W.mg_none_of X G (by kernel_rfl), PySem.W.mg_none_of X G (by kernel_rfl), PySem.W.mg_none_of X G (by kernel_rfl), PySem.W.mg_none_of X G (by kernel_rfl), PySem.W.mg_none_of X G (by kernel_rfl), PySem.W.mg_none_of X G (by kernel_rfl), PySem.W.mg_none_of X G (by kernel_rfl), PySem.W.mg_none_of X G (by kernel_rfl)⟩
theorem kc_mk (X : (hpK w.params).In h) (G : h.Ns mainGlobals mg) : Kc (hpK w.params) mg 136 := ⟨⟨by kernel_rfl, by kernel_rfl, by kernel_rfl, by kernel_rfl⟩, PySem.W.mg_of (v := .ref 136) X G (by kernel_rfl), (show PySem.W.findIn (hpK w.params) (.ref 136) "backs" = some none by kernel_rfl)⟩
end
theorem all_mk {l : PySem.W.OpenLaw} {w : World} {h : Heap} {mg : Str → Option Value} {fa : Addr} (X : (hpK w.params).In h) (G : h.Ns mainGlobals mg) (hfa : mg "law" = some (.ref fa)) :
    ∃ fd : FuncData, (∀ (s : Shared) (v : Value), BindsTo s fd ⟨[v], []⟩ [("script", v)]) ∧ ∀ base : Heap, (hpK w.params).In base → base.Ns mainGlobals mg → FnOk l.prog w (hpK w.params) mg base CX0 5 fa fd ["script"] (upSp (hpK w.params) spLaw3) := by
  have e := hfa.symm.trans (PySem.W.mg_of X G (ns_law _))
  cases e
  exact ⟨fd_law, fun s v => .of_eq rfl, fun base _ _ => ok_law (tx_mk X G) (kc_mk X G) (df_law X G) (df_made_of X G) (df_is_name X G) (df_namesW X G) (df_check_rule X G) (df_grammar_ofW X G) (df_marks X G) (df_made_names X G) (df_slots X G) df_Plainer_init df_Plainer_put_rule df_Plainer_grammar_and_backs (df_long_ends X G) (df_shortened X G) (df_twos X G) (df_l_cell_at X G) (df_l_stir X G) (df_l_drawn X G) (df_l_unlike X G) (df_l_rule X G) (df_l_rules X G) (df_l_is_name X G) (df_l_costless X G) (df_l_new_names X G) (df_l_none_new X G)⟩
theorem walk {l : PySem.W.OpenLaw} {q : Program} {loose : List Str} {XP : (Str → Option Value) → Heap → Prop} {YP : World → Heap → Prop} {d : DefRec} {K : Params → PySem.W.Frag} (hn : l.most = some 63) (hdf : d.params.defaults = [])
    (hY : ∀ (w : World) (h : Heap), YP w h → (K w.params).In h)
    (F : ∀ (w : World) (mg : Str → Option Value) (fa : Addr) (h : Heap), (K w.params).In h → h.Ns mainGlobals mg → mg d.name = some (.ref fa) →
      ∃ fd : FuncData, (∀ (s : Shared) (u : Value), BindsTo s fd ⟨[u], []⟩ [("script", u)]) ∧ ∀ base : Heap, (K w.params).In base → base.Ns mainGlobals mg → FnOk l.prog w (K w.params) mg base CX0 5 fa fd ["script"] (upSp (K w.params) spLaw3)) :
    PySem.W.WalkO q loose XP YP l.row.toRowW d [] (fun f vs => PySem.call f vs) :=
  L2.walk_of (n := 63) (k := 5) (x := "script") (CX := fun _ => CX0) (sp := fun w => upSp (K w.params) spLaw3) hn (by decide) hdf ⟨rfl, by decide, by decide⟩ hY F (fun _ _ a ns hl ho hS => law_sp hl ho hS) fun _ _ _ _ _ z => z
end Rg
open PySem PySem.W PyProof.Rows
set_option maxRecDepth 100000 in
set_option maxHeartbeats 0 in
theorem PySem.Challenge.cw_readgrove_k63_two_parts_holds : PySem.Challenge.rw_readgrove_k63_two_parts.Holds := by
  w_on; o_law
  refine PySem.W.holds_open (r := PySem.Challenge.rw_readgrove_k63_two_parts.row) (q := Rg.qv) (loose := []) (N := 3090)
    (Xt := fun s => xlAt Rg.qv [] s && recOk (RowW.records (OpenRow.toRowW PySem.Challenge.rw_readgrove_k63_two_parts.row)) s)
    (XP := XL Rg.qv []) (Yf := Rg.hk.obs) (Ya := Rg.hk.val) (YP := Rg.hk.says) ?hl Rg.hk.of Rg.hk.keeps
    (fun s e => xl_of s (Bool.and_eq_true_iff.mp e).1) XL.keeps (by rfl) (by rfl) (by rfl) (fun s e => recFacts_of (Bool.and_eq_true_iff.mp e).2)
    (by rfl) (by assumption) (by decide +kernel) ⟨rfl, rfl, rfl, rfl, rfl, by decide +kernel⟩ ?hw ?hc
  case hw => w_witness2
  case hc => exact Rg.walk (l := PySem.Challenge.rw_readgrove_k63_two_parts) rfl rfl (fun w h Y => PySem.W.kIn_of Y) (fun w mg fa h KX G hmg => Rg.all_mk KX G hmg)
  case hl => intro w; kernel_rfl
