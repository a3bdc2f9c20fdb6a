import PyProof.Rows.All
import Wide.All
import OpenK.AllK
import Wide.FinOn
import Lean
import PyProof.EqAt
import PyProof.EqKinds
import PyProof.TupleCall
import PySem.Challenge.RW_readgrove_k80_grammars_written
set_option Elab.async false
set_option linter.all false
set_option maxRecDepth 100000
namespace L2
open PySem PySem.Spec PyProof.Rows
abbrev Key := Sum Int Str
def keyIs : Key → Value → Bool
  | .inl k, v => Value.isInt k v
  | .inr x, v => Value.isStrOf x v
def keyH (w : World) : Key → Int
  | .inl k => hashInt k
  | .inr x => hashStr w x
theorem keyIs_shape : ∀ {k : Key} {v : Value}, keyIs k v = true → (∃ i t, k = Sum.inl i ∧ v = Value.int i t) ∨ (∃ x t, k = Sum.inr x ∧ v = Value.str x t)
  | .inl i, v, h => by
    obtain ⟨t, e⟩ := Value.isInt_shape (k := i) (v := v) h
    exact .inl ⟨i, t, rfl, e⟩
  | .inr x, v, h => by
    obtain ⟨t, e⟩ := Value.isStrOf_shape (x := x) (v := v) h
    exact .inr ⟨x, t, rfl, e⟩
theorem keyIs_int (i : Int) (t : Tok) : keyIs (.inl i) (.int i t) = true := by simp [keyIs, Value.isInt]
theorem keyIs_str (x : Str) (t : Tok) : keyIs (.inr x) (.str x t) = true := by simp [keyIs, Value.isStrOf]
theorem key_ll (a b : Int) : decide ((Sum.inl a : Key) = Sum.inl b) = (a == b) := by
  by_cases e : a = b
  · subst e; simp
  · have h : ¬ (Sum.inl a : Key) = Sum.inl b := fun q => e (Sum.inl.inj q)
    rw [decide_eq_false h]
    exact (beq_eq_false_iff_ne.mpr e).symm
theorem key_rr (a b : Str) : decide ((Sum.inr a : Key) = Sum.inr b) = decide (a = b) := by
  by_cases e : a = b
  · subst e; simp
  · have h : ¬ (Sum.inr a : Key) = Sum.inr b := fun q => e (Sum.inr.inj q)
    rw [decide_eq_false h, decide_eq_false e]
theorem key_lr (a : Int) (b : Str) : decide ((Sum.inl a : Key) = Sum.inr b) = false := decide_eq_false (fun q => nomatch q)
theorem key_rl (a : Str) (b : Int) : decide ((Sum.inr a : Key) = Sum.inl b) = false := decide_eq_false (fun q => nomatch q)
def mixKind (prog : Program) (w : World) : PySem.KeyKind prog w Key where
  is := keyIs
  hash := keyH w
  inj := fun v a b ha hb => by
    rcases keyIs_shape ha with ⟨i, t, rfl, rfl⟩ | ⟨x, t, rfl, rfl⟩
    · rcases keyIs_shape hb with ⟨j, u, rfl, e⟩ | ⟨y, u, rfl, e⟩
      · injection e with e1 _; rw [e1]
      · exact nomatch e
    · rcases keyIs_shape hb with ⟨j, u, rfl, e⟩ | ⟨y, u, rfl, e⟩
      · exact nomatch e
      · injection e with e1 _; rw [e1]
  byValue := fun k v h => by
    rcases keyIs_shape h with ⟨i, t, rfl, rfl⟩ | ⟨x, t, rfl, rfl⟩ <;> rfl
  pyHash := fun hv h => by
    rcases keyIs_shape hv with ⟨i, t, rfl, rfl⟩ | ⟨x, t, rfl, rfl⟩
    · exact wpAny_pyHash_int h
    · exact wpAny_pyHash_str h
  eqBool := fun hu hv h => by
    rcases keyIs_shape hu with ⟨i, t, rfl, rfl⟩ | ⟨x, t, rfl, rfl⟩
    · rcases keyIs_shape hv with ⟨j, u, rfl, rfl⟩ | ⟨y, u, rfl, rfl⟩
      · rw [key_ll] at h; exact wpAny_eqBool_int h
      · rw [key_lr] at h; exact SeqAt.EqAt.int_str i t y u _ _ _ _ h
    · rcases keyIs_shape hv with ⟨j, u, rfl, rfl⟩ | ⟨y, u, rfl, rfl⟩
      · rw [key_rl] at h; exact SeqAt.EqAt.str_int x t j u _ _ _ _ h
      · rw [key_rr] at h; exact wpAny_eqBool_str h
  «strs» := fun k x t v h => by
    rcases keyIs_shape h with ⟨i, u, rfl, e⟩ | ⟨y, u, rfl, e⟩
    · exact nomatch e
    · injection e with e1 _
      subst e1
      cases v <;> rfl
theorem mixKind_int (prog : Program) (w : World) (i : Int) (t : Tok) : (mixKind prog w).is (.inl i) (.int i t) = true := keyIs_int i t
theorem mixKind_str (prog : Program) (w : World) (x : Str) (t : Tok) : (mixKind prog w).is (.inr x) (.str x t) = true := keyIs_str x t
end L2
namespace L2
open PySem PySem.Spec PyProof.Rows
inductive V where
  | non | bl (b : Bool) | int (i : Int) | str (x : Str) | byt (b : Array UInt8) | flt (b : UInt64) | ref (a : Addr) | ty (n : String)
  deriving DecidableEq
def RelV : V → Value → Prop
  | .non, u => u = Value.none
  | .bl b, u => u = Value.bool b
  | .int i, u => ∃ t, u = Value.int i t
  | .str x, u => ∃ t, u = Value.str x t
  | .byt b, u => ∃ t, u = Value.bytes b t
  | .flt b, u => ∃ t, u = Value.float b t
  | .ref a, u => u = Value.ref a
  | .ty n, u => u = Value.type n
abbrev Vals : List V → List Value → Prop := Paired RelV
theorem Vals.length {xs : List V} {us : List Value} (r : Vals xs us) : xs.length = us.length := Paired.length r
theorem Vals.get : ∀ {xs : List V} {us : List Value} {i : Nat} {x : V}, Vals xs us → xs[i]? = some x → ∃ u, us[i]? = some u ∧ RelV x u
  | _, _, _, _, .nil, e => by simp at e
  | _, _, 0, _, .cons r _, e => by simp at e; subst e; exact ⟨_, rfl, r⟩
  | _, _, i + 1, x, .cons _ t, e => by
    obtain ⟨u, h1, h2⟩ := Vals.get (i := i) (x := x) t (by simpa using e)
    exact ⟨u, by simpa using h1, h2⟩
theorem Vals.set {x : V} {u : Value} (r : RelV x u) : ∀ {xs : List V} {us : List Value} (i : Nat), Vals xs us → Vals (xs.set i x) (us.set i u)
  | _, _, _, .nil => .nil
  | _, _, 0, .cons _ t => .cons r t
  | _, _, i + 1, .cons q t => .cons q (Vals.set r i t)
theorem Vals.append : ∀ {xs ys : List V} {us ws : List Value}, Vals xs us → Vals ys ws → Vals (xs ++ ys) (us ++ ws)
  | _, _, _, _, .nil, s => s
  | _, _, _, _, .cons r t, s => .cons r (Vals.append t s)
theorem Vals.take : ∀ {xs : List V} {us : List Value} (n : Nat), Vals xs us → Vals (xs.take n) (us.take n)
  | _, _, 0, _ => .nil
  | _, _, _ + 1, .nil => .nil
  | _, _, n + 1, .cons r t => .cons r (Vals.take n t)
theorem Vals.drop : ∀ {xs : List V} {us : List Value} (n : Nat), Vals xs us → Vals (xs.drop n) (us.drop n)
  | _, _, 0, r => r
  | _, _, _ + 1, .nil => .nil
  | _, _, n + 1, .cons _ t => Vals.drop n t
def RelO : Option V → Option Value → Prop
  | some v, some u => RelV v u
  | none, none => True
  | _, _ => False
def KV {κ : Type} : List (κ × V) → List (κ × Value) → Prop := Paired fun (p : κ × V) (q : κ × Value) => p.1 = q.1 ∧ RelV p.2 q.2
def kV : Key → V
  | .inl i => .int i
  | .inr x => .str x
inductive HO where
  /-- a list -/
  | lst (xs : List V)
  /-- a tuple (never changes) -/
  | tup (xs : List V)
  /-- a dict whose keys are ints and texts; one whose keys are tuples of ints and texts (the empty one is both) -/
  | dK (kvs : List (Key × V)) | dT (kvs : List (List Key × V))
  /-- a set of ints: its members, its size -/
  | set (S : Int → Bool) (n : Nat)
  /-- an instance of the class at C, its dict at dx, its attributes -/
  | ins (C dx : Addr) (fs : List (Str × V))
  /-- the dict of the instance at x -/
  | own (x : Addr)
  /-- the dict of an exception -/
  | xd (fs : List (Str × V))
  /-- a bound method, f of x -/
  | met (f x : Addr)
  /-- a range object lo, lo + 1, .. below hi -/
  | rng (lo hi : Int)
  /-- a thing that is known to the object (the script; a dict while a loop walks it): read, never written while it is so -/
  | frz (o : Obj) (u : HO)
  /-- a code object's table -/
  | tbl (ps : Array Value)
  /-- any other thing, by what is true of its one object (a def of one's own: SetO a S n := HO.ext fun h => ..) -/
  | ext (φ : Heap → Prop)
abbrev Hp := Addr → Option HO
def upd (H : Hp) (a : Addr) (o : HO) : Hp := fun b => if b = a then some o else H b
theorem upd_same {H : Hp} {a : Addr} {o : HO} : upd H a o a = some o := by unfold upd; rw [if_pos rfl]
theorem upd_ne {H : Hp} {a b : Addr} {o : HO} (h : b ≠ a) : upd H a o b = H b := by unfold upd; rw [if_neg h]
theorem ne_of {H : Hp} {a b : Addr} {o u : HO} (h : H a = some o) (h' : H b = some u) (d : o ≠ u) : a ≠ b := by
  intro e; subst e; rw [h] at h'; exact d (Option.some.inj h')
theorem ne_of_none {H : Hp} {a b : Addr} {o : HO} (h : H a = some o) (h' : H b = none) : a ≠ b := by
  intro e; subst e; rw [h] at h'; cases h'
section
variable (P : Program) (w : World)
def ObjOk (H : Hp) (h : Heap) (a : Addr) : HO → Prop
  | .lst xs => xs.length ≤ sizeLine ∧ ∃ (its : List Value) (n : Nat), Vals xs its ∧ h.get? a = some { cls := .type "list", data := .seq its.toArray n }
  | .tup xs => xs.length ≤ sizeLine ∧ ∃ its : List Value, Vals xs its ∧ IsTup h a its.toArray
  | .dK kvs => kvs.length ≤ sizeLine ∧ (a == sysModules) = false ∧ ∃ vs, KV kvs vs ∧ h.DictOf (mixKind P w) a vs
  | .dT kvs => kvs.length ≤ sizeLine ∧ (a == sysModules) = false ∧ ∃ xs : List (List Key × Addr × Value),
      Paired (fun (p : List Key × V) (q : List Key × Addr × Value) => p.1 = q.1 ∧ H q.2.1 = some (.tup (p.1.map kV)) ∧ RelV p.2 q.2.2) kvs xs ∧
      ∃ o es ep, h.get? a = some o ∧ o.ExactDict ∧ o.data = .dict es ep ∧ es.toList = xs.map (entryOfKey (tupleKind (mixKind P w))) ∧ (xs.map (·.1)).Nodup
  | .set S n => h.SetOf (intKind P w) a S n
  | .ins C dx fs => H dx = some (.own a) ∧ fs.length ≤ 1000 ∧ dx ≠ a ∧ h.get? a = some (PySem.W.instObj C dx) ∧
      ∃ mA, h.Ns1 dx mA ∧ (∀ f, RelO (fs.lookup f) (mA f)) ∧ PySem.Within mA (fs.map (·.1))
  | .own _ => ∃ o, h.get? a = some o
  | .xd fs => ∃ mA, h.Ns1 a mA ∧ ∀ f, RelO (fs.lookup f) (mA f)
  | .rng lo hi => ∃ t u v, h.get? a = some { cls := .type "range", data := .fields #[.int lo t, .int hi u, .int 1 v] }
  | .frz o u => h.get? a = some o ∧ ObjOk H h a u
  | .tbl ps => h.get? a = some { cls := .none, data := .fields ps }
  | .met f x => h.get? a = some (PySem.W.methodObj (.ref f) (.ref x))
  | .ext φ => φ h ∧ (∃ o, h.get? a = some o) ∧ ∀ h1 h2 : Heap, φ h1 → (∀ o, h1.get? a = some o → h2.get? a = some o) → φ h2
def HOk (H : Hp) (h : Heap) : Prop := ∀ a o, H a = some o → ObjOk P w H h a o
end
section
variable {P : Program} {w : World} {H H' : Hp} {h h' : Heap} {a : Addr} {o : HO}
theorem ObjOk.lt (x : ObjOk P w H h a o) : a < h.objs.size := by
  cases o with
  | lst xs => obtain ⟨_, _, _, _, e⟩ := x; exact Heap.lt_size e
  | tup xs => obtain ⟨_, _, _, p⟩ := x; exact p.lt
  | dK kvs => obtain ⟨_, _, _, _, o, _, _, e, _⟩ := x; exact Heap.lt_size e
  | dT kvs => obtain ⟨_, _, _, _, o, _, _, e, _⟩ := x; exact Heap.lt_size e
  | set S n => obtain ⟨o, _, _, _, e, _⟩ := x; exact Heap.lt_size e
  | ins C dx fs => obtain ⟨_, _, _, e, _⟩ := x; exact Heap.lt_size e
  | own y => obtain ⟨_, e⟩ := x; exact Heap.lt_size e
  | xd fs => obtain ⟨_, ⟨_, _, _, e, _⟩, _⟩ := x; exact Heap.lt_size e
  | rng lo hi => obtain ⟨_, _, _, e⟩ := x; exact Heap.lt_size e
  | frz ob u => obtain ⟨e, _⟩ := x; exact Heap.lt_size e
  | tbl ps => exact Heap.lt_size (show h.get? a = some _ from x)
  | met f y => exact Heap.lt_size (show h.get? a = some _ from x)
  | ext φ => obtain ⟨_, ⟨_, e⟩, _⟩ := x; exact Heap.lt_size e
theorem Paired.mapP {α β : Type} {F G : α → β → Prop} : ∀ {l₁ : List α} {l₂ : List β}, Paired F l₁ l₂ → (∀ a b, F a b → G a b) → Paired G l₁ l₂
  | _, _, .nil, _ => .nil
  | _, _, .cons r t, f => .cons (f _ _ r) (Paired.mapP t f)
theorem ObjOk.stay (x : ObjOk P w H h a o) (k : ∀ b u, (b = a ∨ H b = some (.own a)) → h.get? b = some u → h'.get? b = some u)
    (ho : ∀ b, H b = some (.own a) → H' b = some (.own a)) (ht : ∀ b xs, H b = some (.tup xs) → H' b = some (.tup xs)) : ObjOk P w H' h' a o := by
  induction o with
  | lst xs => obtain ⟨z, its, n, r, e⟩ := x; exact ⟨z, its, n, r, k _ _ (.inl rfl) e⟩
  | tup xs => obtain ⟨z, its, r, ob, e, c⟩ := x; exact ⟨z, its, r, ob, k _ _ (.inl rfl) e, c⟩
  | dK kvs => obtain ⟨z, y, vs, r, ob, es, ep, e, c⟩ := x; exact ⟨z, y, vs, r, ob, es, ep, k _ _ (.inl rfl) e, c⟩
  | dT kvs =>
    obtain ⟨z, y, xs, r, ob, es, ep, e, c⟩ := x
    exact ⟨z, y, xs, Paired.mapP r fun p q z => ⟨z.1, ht _ _ z.2.1, z.2.2⟩, ob, es, ep, k _ _ (.inl rfl) e, c⟩
  | set S n => obtain ⟨ob, es, ep, t, e, c⟩ := x; exact ⟨ob, es, ep, t, k _ _ (.inl rfl) e, c⟩
  | ins C dx fs =>
    obtain ⟨d, z, ne, e, mA, ⟨od, es, ep, e2, c⟩, r⟩ := x
    exact ⟨ho _ d, z, ne, k _ _ (.inl rfl) e, mA, ⟨od, es, ep, k _ _ (.inr d) e2, c⟩, r⟩
  | own y => obtain ⟨ob, e⟩ := x; exact ⟨ob, k _ _ (.inl rfl) e⟩
  | xd fs => obtain ⟨mA, ⟨od, es, ep, e, c⟩, r⟩ := x; exact ⟨mA, ⟨od, es, ep, k _ _ (.inl rfl) e, c⟩, r⟩
  | rng lo hi => obtain ⟨t, u, v, e⟩ := x; exact ⟨t, u, v, k _ _ (.inl rfl) e⟩
  | frz ob u ih => obtain ⟨e, q⟩ := x; exact ⟨k _ _ (.inl rfl) e, ih q⟩
  | tbl ps =>
    have e : h.get? a = some { cls := .none, data := .fields ps } := x
    show h'.get? a = some { cls := .none, data := .fields ps }
    exact k a _ (.inl rfl) e
  | met f y =>
    have e : h.get? a = some (PySem.W.methodObj (.ref f) (.ref y)) := x
    show h'.get? a = some (PySem.W.methodObj (.ref f) (.ref y))
    exact k a _ (.inl rfl) e
  | ext φ => obtain ⟨p, ⟨o, e⟩, st⟩ := x; exact ⟨st _ _ p fun o q => k _ _ (.inl rfl) q, ⟨o, k _ _ (.inl rfl) e⟩, st⟩
theorem HOk.lt (x : HOk P w H h) (e : H a = some o) : a < h.objs.size := (x a o e).lt
theorem HOk.fresh (x : HOk P w H h) (e : h.objs.size ≤ a) : H a = none := by
  cases q : H a with
  | none => rfl
  | some u => exact absurd (Nat.lt_of_lt_of_le (x.lt q) e) (Nat.lt_irrefl _)
theorem HOk.kept (x : HOk P w H h) (k : ∀ b u, h.get? b = some u → h'.get? b = some u) : HOk P w H h' := fun a o e =>
  (x a o e).stay (fun b u _ q => k b u q) (fun _ q => q) fun _ _ q => q
theorem HOk.laid (x : HOk P w H h) (k : ∀ b u, h.get? b = some u → h'.get? b = some u) (hp : h.objs.size ≤ a) (new : ObjOk P w (upd H a o) h' a o) : HOk P w (upd H a o) h' := fun b u e => by
  have hn := x.fresh hp
  by_cases hb : b = a
  · subst hb; rw [upd_same] at e; cases e; exact new
  · rw [upd_ne hb] at e
    exact (x b u e).stay (fun c v _ q => k c v q) (fun c q => by rw [upd_ne (ne_of_none q hn)]; exact q) fun c xs q => by rw [upd_ne (ne_of_none q hn)]; exact q
end
def Rd (H : Hp) (a : Addr) (u : HO) : Prop := H a = some u ∨ ∃ o, H a = some (.frz o u)
theorem Rd.ok {P : Program} {w : World} {H : Hp} {h : Heap} {a : Addr} {u : HO} (r : Rd H a u) (x : HOk P w H h) : ObjOk P w H h a u := by
  rcases r with r | ⟨o, r⟩
  · exact x a u r
  · obtain ⟨_, q⟩ := x a _ r
    exact q
def Mut : Option HO → Prop
  | some (.lst _) => True
  | some (.dK _) => True
  | some (.dT _) => True
  | some (.set _ _) => True
  | some (.ins _ _ _) => True
  | some (.ext _) => True
  | _ => False
section
variable {P : Program} {w : World} {H : Hp} {h h' : Heap} {x e : Addr} {o' : HO}
theorem HOk.write (ok : HOk P w H h) (mu : Mut (H x)) (he : e = x ∨ H e = some (.own x)) (k : ∀ b u, b ≠ e → h.get? b = some u → h'.get? b = some u) (heo : ∃ u, h'.get? e = some u)
    (new : ObjOk P w (upd H x o') h' x o') : HOk P w (upd H x o') h' := fun b u q => by
  have nown : ∀ c y, H c = some (.own y) → c ≠ x := fun c y r z => by subst z; rw [r] at mu; exact mu
  have ntup : ∀ c xs, H c = some (.tup xs) → c ≠ x := fun c xs r z => by subst z; rw [r] at mu; exact mu
  by_cases hb : b = x
  · subst hb; rw [upd_same] at q; cases q; exact new
  · rw [upd_ne hb] at q
    by_cases hbe : b = e
    · have q' : H b = some (.own x) := by
        rcases he with z | z
        · exact absurd (hbe.trans z) hb
        · rw [hbe]; exact z
      rw [q] at q'; cases q'
      obtain ⟨v, hv⟩ := heo
      exact ⟨v, by rw [hbe]; exact hv⟩
    · refine (ok b u q).stay (fun c v hc r => k c v ?_ r) (fun c r => by rw [upd_ne (nown c b r)]; exact r) fun c xs r => by rw [upd_ne (ntup c xs r)]; exact r
      rcases hc with rfl | hc
      · exact hbe
      · rintro rfl
        rcases he with z | z
        · exact nown c b hc z
        · rw [hc] at z; cases z; exact hb rfl
end
structure Un (fs ex : List Addr) (H H' : Hp) (h h' : Heap) : Prop where
  keep : ∀ b o, h.get? b = some o → H b = none → b ∉ fs → b ∉ ex → h'.get? b = some o
  slot : ∀ b o, h.get? b = some o → H b = none → b ∈ fs → b ∉ ex → ∃ sl, h'.get? b = some { o with slots := sl }
  free : ∀ b o, h.get? b = some o → H b = none → b ∉ ex → H' b = none
  there : ∀ b o, h.get? b = some o → b ∉ ex → ∃ o', h'.get? b = some o'
  tups : ∀ b xs, H b = some (.tup xs) → H' b = some (.tup xs)
  frzs : ∀ b o u, H b = some (.frz o u) → H' b = some (.frz o u)
  tbls : ∀ b ps, H b = some (.tbl ps) → ∃ more, H' b = some (.tbl (ps ++ more))
section
variable {fs fs' ex ex' : List Addr} {H H1 H2 : Hp} {h h1 h2 h' : Heap} {a x e : Addr} {o : HO}
theorem Un.any (u : Un fs ex H H1 h h1) {b : Addr} {ob : Obj} (q : h.get? b = some ob) (n : H b = none) (hx : b ∉ ex) : ∃ sl, h1.get? b = some { ob with slots := sl } := by
  by_cases hb : b ∈ fs
  · exact u.slot b ob q n hb hx
  · exact ⟨ob.slots, u.keep b ob q n hb hx⟩
theorem Un.kept (k : ∀ b u, h.get? b = some u → h'.get? b = some u) : Un fs ex H H h h' :=
  ⟨fun b ob q _ _ _ => k b ob q, fun b ob q _ _ _ => ⟨ob.slots, k b ob q⟩, fun _ _ _ n _ => n, fun b ob q _ => ⟨ob, k b ob q⟩, fun _ _ q => q, fun _ _ _ q => q, fun _ ps q => ⟨#[], by rw [q]; simp⟩⟩
theorem Un.refl : Un fs ex H H h h := Un.kept fun _ _ q => q
theorem Un.laid (k : ∀ b u, h.get? b = some u → h'.get? b = some u) (hp : h.objs.size ≤ a) (hn : H a = none) : Un fs ex H (upd H a o) h h' where
  keep := fun b u q _ _ _ => k b u q
  slot := fun b u q _ _ _ => ⟨u.slots, k b u q⟩
  free := fun b u q n _ => by rw [upd_ne (Nat.ne_of_lt (Nat.lt_of_lt_of_le (Heap.lt_size q) hp))]; exact n
  there := fun b u q _ => ⟨u, k b u q⟩
  tups := fun b xs q => by rw [upd_ne (ne_of_none q hn)]; exact q
  frzs := fun b u xs q => by rw [upd_ne (ne_of_none q hn)]; exact q
  tbls := fun b ps q => ⟨#[], by rw [upd_ne (ne_of_none q hn), q]; simp⟩
theorem Un.write (mu : Mut (H x)) (he : e = x ∨ H e = some (.own x)) (k : ∀ b u, b ≠ e → h.get? b = some u → h'.get? b = some u) (heo : ∃ u, h'.get? e = some u) : Un fs ex H (upd H x o) h h' := by
  have hx : ∀ b, H b = none → b ≠ x := fun b n z => by subst z; rw [n] at mu; exact mu
  have hb : ∀ b, H b = none → b ≠ e := fun b n z => by
    subst z
    rcases he with r | r
    · exact hx b n r
    · rw [n] at r; cases r
  have hm : ∀ b u, H b = some u → ¬ Mut (some u) → b ≠ x := fun b u q nm z => by subst z; rw [q] at mu; exact nm mu
  refine ⟨fun b u q n _ _ => k b u (hb b n) q, fun b u q n _ _ => ⟨u.slots, k b u (hb b n) q⟩, fun b u q n _ => by rw [upd_ne (hx b n)]; exact n, fun b u q _ => ?_,
    fun b xs q => by rw [upd_ne (hm b _ q fun z => z)]; exact q, fun b u xs q => by rw [upd_ne (hm b _ q fun z => z)]; exact q, fun b ps q => ⟨#[], by rw [upd_ne (hm b _ q fun z => z), q]; simp⟩⟩
  by_cases hbe : b = e
  · subst hbe; exact heo
  · exact ⟨u, k b u hbe q⟩
end
def trk (h : Heap) (H : Hp) : List Addr := (List.range h.objs.size).filter fun a => (H a).isSome
def hidT (h : Heap) (H : Hp) : Heap := PySem.W.hideAll h (trk h H)
theorem hidT_size (h : Heap) (H : Hp) : (hidT h H).objs.size = h.objs.size := PySem.W.hideAll_size _ _
theorem hidT_get {h : Heap} {H : Hp} {b : Addr} {o : Obj} (e : h.get? b = some o) (n : H b = none) : (hidT h H).get? b = some o :=
  PySem.W.hideAll_get _ e fun hm => by
    have q : (H b).isSome = true := (List.mem_filter.mp hm).2
    rw [n] at q; simp at q
theorem of_hidT {h : Heap} {H : Hp} {b : Addr} {o : Obj} (e : (hidT h H).get? b = some o) : h.get? b = some o ∧ H b = none := by
  have e' : h.get? b = some o := PySem.W.of_hideAll (trk h H) e
  refine ⟨e', ?_⟩
  cases q : H b with
  | none => rfl
  | some x =>
    have hm : b ∈ trk h H := List.mem_filter.mpr ⟨List.mem_range.mpr (Heap.lt_size e'), by simp [q]⟩
    have z : (hidT h H).get? b = none := PySem.W.hideAll_none (trk h H) hm
    rw [z] at e; cases e
def allNews (g h : Heap) (L : Addr) : List (Addr × Obj) := (List.range h.objs.size).filterMap fun a => if a = L ∨ (g.get? a).isSome = true then none else (h.get? a).map fun o => (a, o)
def rest (g h : Heap) (L d : Addr) : List (Addr × Obj) := (allNews g h L).filter fun p => decide (p.1 ≠ d)
end L2
namespace L2
open PySem PySem.Spec PyProof.Rows
structure Mod (K : PySem.W.Frag) (mg : Str → Option Value) (base : Heap) : Prop where
  kin : K.In base
  glob : base.Ns mainGlobals mg
  blt : ∃ mb, base.Ns builtinsNs mb ∧ ∀ x : Str, x ≠ "__name__" → mb x = bootBuiltins x
  nolimit : base.NoLimit
structure Cx where
  prog : Program
  w : World
  K : PySem.W.Frag
  mg : Str → Option Value
  base : Heap
  A : Around
  N : List Str
  s₀ : Shared
  H₀ : Hp
  env : Env
  outer : List Env
  stack : List Env
  ex : List Addr
  fn : Str → Bool
  calm : Bool
  pn : List (Addr × Obj)
  xe : Value → Shared → Prop
def frs (l : List Env) : List Addr := l.filterMap (·.frame)
abbrev Cx.fs (X : Cx) : List Addr := frs X.outer
def Vis (sc : Scope) (x : Str) : Prop := sc.names.lookup x = some .local ∨ sc.names.lookup x = some .cell ∨ sc.names.lookup x = some .free
def Loc (sc : Scope) (x : Str) : Prop := sc.names.lookup x = some .local ∨ sc.names.lookup x = some .cell
def Look (env : Env) (h : Heap) (m : Str → Option Value) (x : Str) (u : Value) : Prop :=
  (env.kindOf x = some .local ∧ m x = some u) ∨ ((env.kindOf x = some .cell ∨ env.kindOf x = some .free) ∧ ∃ c, env.cells.lookup x = some c ∧ h.IsCell c (some u))
structure Cx.Ok (X : Cx) : Prop where
  mod : Mod X.K X.mg X.base
  kind : X.env.scope.kind = .function
  glob : X.env.globals = mainGlobals
  blt : X.env.builtins = builtinsNs
  above : X.s₀.heap.objs.size ≤ X.env.locals
  inj : ∀ x y c, X.env.cells.lookup x = some c → X.env.cells.lookup y = some c → x = y
  has : ∀ x, (X.env.kindOf x = some .cell ∨ X.env.kindOf x = some .free) → ∃ c, X.env.cells.lookup x = some c
  cab : ∀ x c, X.fn x = true → X.env.cells.lookup x = some c → X.s₀.heap.objs.size ≤ c
  hd : X.calm = true → X.A.handled = none
  frames : X.A.frames = some X.stack
  stk : X.stack = X.outer ∨ (X.stack = X.env :: X.outer ∧ X.env.frame = some X.env.locals)
  exf : ∀ b ∈ X.ex, b ≠ X.env.locals ∧ ∀ x c, X.env.cells.lookup x = some c → c ≠ b
  bs : ∀ b o, X.base.get? b = some o → X.s₀.heap.get? b = some o ∧ X.H₀ b = none
  bsz : X.base.objs.size ≤ X.s₀.heap.objs.size
  noex : ∀ b o, X.base.get? b = some o → b ∉ X.ex
  exfs : ∀ b ∈ X.ex, b ∉ X.fs
  funs : X.s₀.heap.FunFrames X.base X.outer
  frf : ∀ b ∈ X.fs, X.H₀ b = none
structure Inv (X : Cx) (pins : List (Addr × Obj)) (σ : List (Option V)) (H : Hp) (s : Shared) : Prop where
  ok : X.Ok
  os : s.os = X.s₀.os
  bare : AllBare s.gens
  base : Un X.fs X.ex X.H₀ H X.s₀.heap s.heap
  loc : ∃ m, s.heap.Ns X.env.locals m ∧ ∀ (i : Nat) (x : Str) (v : V), X.N[i]? = some x → σ[i]? = some (some v) → Vis X.env.scope x → ∃ u, RelV v u ∧ Look X.env s.heap m x u
  cell : ∀ x c, X.env.cells.lookup x = some c → ∃ v, s.heap.IsCell c v
  free : H X.env.locals = none
  freeC : ∀ x c, X.env.cells.lookup x = some c → H c = none
  pin : ∀ p ∈ X.pn ++ pins, s.heap.get? p.1 = some p.2 ∧ H p.1 = none ∧ p.1 ≠ X.env.locals ∧ p.1 ∉ X.fs ∧ ∀ v, p.2.data ≠ .cell v
  hok : HOk X.prog X.w H s.heap
  len : σ.length = X.N.length
section
variable {X : Cx} {pins : List (Addr × Obj)} {σ : List (Option V)} {H H' : Hp} {s : Shared} {h' : Heap}
theorem Cx.Ok.nofr (ok : X.Ok) {b : Addr} {o : Obj} (e : X.base.get? b = some o) : b ∉ X.fs := fun hb => by
  have := (ok.funs.mem hb).1
  rw [e] at this; cases this
theorem Inv.bs (I : Inv X pins σ H s) : ∀ b o, X.base.get? b = some o → s.heap.get? b = some o ∧ H b = none := fun b o e =>
  ⟨I.base.keep b o (I.ok.bs b o e).1 (I.ok.bs b o e).2 (I.ok.nofr e) (I.ok.noex b o e), I.base.free b o (I.ok.bs b o e).1 (I.ok.bs b o e).2 (I.ok.noex b o e)⟩
theorem Inv.bk (I : Inv X pins σ H s) : ∀ b o, X.base.get? b = some o → s.heap.get? b = some o := fun b o e => (I.bs b o e).1
theorem Inv.mod (I : Inv X pins σ H s) : Mod X.K X.mg X.base := I.ok.mod
theorem Inv.kIn (I : Inv X pins σ H s) : X.K.In s.heap := I.ok.mod.kin.keeps I.bk
theorem Inv.nolimit (I : Inv X pins σ H s) : s.heap.NoLimit := I.ok.mod.nolimit.keeps I.bk
theorem Inv.fr (I : Inv X pins σ H s) : ∃ m, Fr X.base X.env.locals s.heap m :=
  let ⟨m, hn, _⟩ := I.loc
  ⟨m, hn, I.bk, Nat.le_trans I.ok.bsz I.ok.above⟩
theorem Inv.lt (I : Inv X pins σ H s) : X.env.locals < s.heap.objs.size := let ⟨_, hn, _⟩ := I.loc; hn.lt
theorem Inv.sz (I : Inv X pins σ H s) : X.s₀.heap.objs.size ≤ s.heap.objs.size := Nat.le_trans I.ok.above (Nat.le_of_lt I.lt)
theorem Inv.nofs (I : Inv X pins σ H s) {a : Addr} (h : s.heap.objs.size ≤ a) : a ∉ X.fs := fun hb => by
  obtain ⟨_, o, ho, _⟩ := I.ok.funs.mem hb
  exact absurd (Nat.lt_of_lt_of_le (Heap.lt_size ho) (Nat.le_trans I.sz h)) (Nat.lt_irrefl _)
theorem Inv.cne (I : Inv X pins σ H s) : ∀ x c, X.env.cells.lookup x = some c → c ≠ X.env.locals := fun x c e z => by
  obtain ⟨v, o, ho, hd⟩ := I.cell x c e
  obtain ⟨m, ⟨o', es, ep, ho', hd', _⟩, _⟩ := I.loc
  rw [z, ho'] at ho; cases ho; rw [hd'] at hd; cases hd
theorem Inv.funs (I : Inv X pins σ H s) : s.heap.FunFrames X.base X.outer := by
  have all : ∀ (l : List Env), (∀ b ∈ frs l, b ∈ X.fs) → X.s₀.heap.FunFrames X.base l → s.heap.FunFrames X.base l := by
    intro l
    induction l with
    | nil => intro _ _; trivial
    | cons env r ih =>
      intro hs hl
      obtain ⟨hk, ⟨L, o, hf, hn, ho, hd⟩, hr⟩ := hl
      have hL : L ∈ X.fs := hs L (by unfold frs; rw [List.filterMap_cons, hf]; exact List.mem_cons_self)
      obtain ⟨sl, e⟩ := I.base.slot L o ho (I.ok.frf L hL) hL fun z => I.ok.exfs L z hL
      exact ⟨hk, ⟨L, _, hf, hn, e, hd⟩, ih (fun b hb => hs b (by unfold frs; rw [List.filterMap_cons, hf]; exact List.mem_cons_of_mem _ hb)) hr⟩
  exact all X.outer (fun _ hb => hb) I.ok.funs
theorem Inv.stack (I : Inv X pins σ H s) : s.heap.FunFrames X.base X.stack := by
  rcases I.ok.stk with e | ⟨e, hf⟩
  · rw [e]; exact I.funs
  · rw [e]
    obtain ⟨m, hn, _⟩ := I.loc
    refine .cons (by rw [I.ok.kind]; decide) hf hn ?_ I.funs
    exact Heap.get?_none_of_le (Nat.le_trans I.ok.bsz I.ok.above)
theorem Inv.stkSub (I : Inv X pins σ H s) : ∀ b ∈ frs X.stack, b ∈ X.env.locals :: X.fs := fun b hb => by
  rcases I.ok.stk with e | ⟨e, hf⟩
  · rw [e] at hb; exact List.mem_cons_of_mem _ hb
  · rw [e] at hb
    unfold frs at hb
    rw [List.filterMap_cons, hf] at hb
    exact hb
theorem Inv.stkFree (I : Inv X pins σ H s) : ∀ b ∈ frs X.stack, H b = none := fun b hb => by
  rcases List.mem_cons.mp (I.stkSub b hb) with e | hb
  · rw [e]; exact I.free
  · obtain ⟨_, o, ho, _⟩ := I.ok.funs.mem hb
    exact I.base.free b o ho (I.ok.frf b hb) fun z => I.ok.exfs b z hb
theorem Inv.step {g' : Array GenState} {t' : Nat} {d' : Drawn} {ch : List Addr} (I : Inv X pins σ H s)
    (hch : ∀ b ∈ ch, (b ∈ X.ex ∨ X.s₀.heap.objs.size ≤ b) ∧ b ≠ X.env.locals ∧ (∀ x c, X.env.cells.lookup x = some c → c ≠ b) ∧ ∀ p ∈ X.pn ++ pins, p.1 ≠ b)
    (keep : ∀ b o, b ≠ X.env.locals → b ∉ X.fs → b ∉ ch → s.heap.get? b = some o → H b = none → h'.get? b = some o)
    (slot : ∀ b o, b ≠ X.env.locals → b ∈ X.fs → b ∉ ch → s.heap.get? b = some o → H b = none → ∃ sl, h'.get? b = some { o with slots := sl }) (free : ∀ b o, b ∉ ch → s.heap.get? b = some o → H b = none → H' b = none)
    (there : ∀ b o, b ∉ ch → s.heap.get? b = some o → ∃ o', h'.get? b = some o')
    (tups : ∀ b xs, H b = some (.tup xs) → H' b = some (.tup xs)) (frzs : ∀ b o u, H b = some (.frz o u) → H' b = some (.frz o u)) (tbls : ∀ b ps, H b = some (.tbl ps) → ∃ more, H' b = some (.tbl (ps ++ more)))
    (ns : ∀ m, s.heap.Ns X.env.locals m → h'.Ns X.env.locals m) (hok : HOk X.prog X.w H' h') (hg : AllBare g') :
    Inv X pins σ H' { s with heap := h', gens := g', drawn := d', toks := t' } := by
  have neL : ∀ b o, X.s₀.heap.get? b = some o → b ≠ X.env.locals := fun b o e => Nat.ne_of_lt (Nat.lt_of_lt_of_le (Heap.lt_size e) I.ok.above)
  have neC : ∀ b o, X.s₀.heap.get? b = some o → b ∉ X.ex → b ∉ ch := fun b o e hx hb => by
    rcases (hch b hb).1 with z | z
    · exact hx z
    · exact absurd (Nat.lt_of_lt_of_le (Heap.lt_size e) z) (Nat.lt_irrefl _)
  have cellK : ∀ x c, X.env.cells.lookup x = some c → ∀ v, s.heap.IsCell c v → h'.IsCell c v := fun x c e v ⟨o, ho, hd⟩ => by
    have nch : c ∉ ch := fun z => (hch c z).2.2.1 x c e rfl
    by_cases hc : c ∈ X.fs
    · obtain ⟨sl, q⟩ := slot c o (I.cne x c e) hc nch ho (I.freeC x c e)
      exact ⟨_, q, hd⟩
    · exact ⟨o, keep c o (I.cne x c e) hc nch ho (I.freeC x c e), hd⟩
  refine ⟨I.ok, I.os, hg, ⟨fun b o e n hb hx => ?_, fun b o e n hb hx => ?_, fun b o e n hx => ?_, fun b o e hx => ?_, fun b xs e => tups b xs (I.base.tups b xs e), fun b o xs e => frzs b o xs (I.base.frzs b o xs e), fun b ps e => ?_⟩, ?_, fun x c e => ?_, ?_, fun x c e => ?_, fun p hp => ?_, hok, I.len⟩
  · exact keep b o (neL b o e) hb (neC b o e hx) (I.base.keep b o e n hb hx) (I.base.free b o e n hx)
  · obtain ⟨sl, e1⟩ := I.base.slot b o e n hb hx
    obtain ⟨sl', e2⟩ := slot b _ (neL b o e) hb (neC b o e hx) e1 (I.base.free b o e n hx)
    exact ⟨sl', e2⟩
  · obtain ⟨o', e1⟩ := I.base.there b o e hx
    exact free b o' (neC b o e hx) e1 (I.base.free b o e n hx)
  · obtain ⟨o', e1⟩ := I.base.there b o e hx
    exact there b o' (neC b o e hx) e1
  · obtain ⟨m1, e1⟩ := I.base.tbls b ps e
    obtain ⟨m2, e2⟩ := tbls b _ e1
    exact ⟨m1 ++ m2, by rw [e2, Array.append_assoc]⟩
  · obtain ⟨m, hn, hl⟩ := I.loc
    refine ⟨m, ns m hn, fun i x v e1 e2 e3 => ?_⟩
    obtain ⟨u, r, l⟩ := hl i x v e1 e2 e3
    refine ⟨u, r, ?_⟩
    rcases l with l | ⟨k, c, e, z⟩
    · exact .inl l
    · exact .inr ⟨k, c, e, cellK x c e _ z⟩
  · obtain ⟨v, z⟩ := I.cell x c e
    exact ⟨v, cellK x c e v z⟩
  · obtain ⟨m, ⟨o, _, _, ho, _⟩, _⟩ := I.loc
    exact free _ o (fun z => (hch _ z).2.1 rfl) ho I.free
  · obtain ⟨v, o, ho, hd⟩ := I.cell x c e
    exact free c o (fun z => (hch c z).2.2.1 x c e rfl) ho (I.freeC x c e)
  · obtain ⟨e, n, ne, nf, d⟩ := I.pin p hp
    have nch : p.1 ∉ ch := fun z => (hch p.1 z).2.2.2 p hp rfl
    exact ⟨keep p.1 p.2 ne nf nch e n, free p.1 p.2 nch e n, ne, nf, d⟩
theorem Inv.un {t' : Nat} (I : Inv X pins σ H s) (u : Un X.fs [] H H' s.heap h') (hok : HOk X.prog X.w H' h') : Inv X pins σ H' { s with heap := h', toks := t' } := by
  obtain ⟨m, ⟨o, es, ep, ho, r⟩, _⟩ := id I.loc
  obtain ⟨sl, hL⟩ := u.any ho I.free (by simp)
  exact I.step (g' := s.gens) (d' := s.drawn) (ch := []) (fun _ z => nomatch z) (fun b o _ hb _ e n => u.keep b o e n hb (by simp)) (fun b o _ hb _ e n => u.slot b o e n hb (by simp)) (fun b o _ e n => u.free b o e n (by simp)) (fun b o _ e => u.there b o e (by simp)) u.tups u.frzs u.tbls (fun m' hm => by
    obtain ⟨o', es', ep', ho', r'⟩ := hm
    rw [ho] at ho'; cases ho'
    exact ⟨_, es', ep', hL, r'⟩) hok I.bare
theorem Inv.call {g' : Array GenState} {t' : Nat} {d' : Drawn} {ch : List Addr} (I : Inv X pins σ H s) (u : Un (frs X.stack) ch H H' s.heap h') (hok : HOk X.prog X.w H' h') (hg : AllBare g')
    (hch : ∀ b ∈ ch, (b ∈ X.ex ∨ X.s₀.heap.objs.size ≤ b) ∧ b ≠ X.env.locals ∧ (∀ x c, X.env.cells.lookup x = some c → c ≠ b) ∧ ∀ p ∈ X.pn ++ pins, p.1 ≠ b) :
    Inv X pins σ H' { s with heap := h', gens := g', drawn := d', toks := t' } := by
  obtain ⟨m, ⟨o, es, ep, ho, r⟩, _⟩ := id I.loc
  obtain ⟨sl, hL⟩ := u.any ho I.free fun z => (hch _ z).2.1 rfl
  exact I.step (ch := ch) hch (fun b o hL hb hc e n => u.keep b o e n (fun z => (List.mem_cons.mp (I.stkSub b z)).elim hL hb) hc) (fun b o _ _ hc e n => u.any e n hc) (fun b o hc e n => u.free b o e n hc) (fun b o hc e => u.there b o e hc) u.tups u.frzs u.tbls (fun m' hm => by
    obtain ⟨o', es', ep', ho', r'⟩ := hm
    rw [ho] at ho'; cases ho'
    exact ⟨_, es', ep', hL, r'⟩) hok hg
theorem Inv.turned {t' : Nat} {it : Addr} (I : Inv X pins σ H s) (k : ∀ b o, b ≠ it → s.heap.get? b = some o → h'.get? b = some o) (hn : H it = none) (hL : it ≠ X.env.locals)
    (h1 : it ∈ X.ex ∨ X.s₀.heap.objs.size ≤ it) (h2 : ∀ x c, X.env.cells.lookup x = some c → c ≠ it) (h3 : ∀ p ∈ X.pn ++ pins, p.1 ≠ it) : Inv X pins σ H { s with heap := h', toks := t' } := by
  have nit : ∀ b u, H b = some u → b ≠ it := fun b u e z => by rw [z, hn] at e; cases e
  refine I.step (g' := s.gens) (d' := s.drawn) (ch := [it]) (fun b hb => ?_) (fun b o _ _ hc e _ => k b o (fun z => hc (by simp [z])) e) (fun b o _ _ hc e _ => ⟨o.slots, k b o (fun z => hc (by simp [z])) e⟩) (fun _ _ _ _ n => n)
    (fun b o hc e => ⟨o, k b o (fun z => hc (by simp [z])) e⟩) (fun _ _ e => e) (fun _ _ _ e => e) (fun b ps e => ⟨#[], by rw [e]; simp⟩) (fun m hm => ?_) (fun b u e => ?_) I.bare
  · have e : b = it := by simpa using hb
    subst e
    exact ⟨h1, hL, h2, h3⟩
  · obtain ⟨o, es, ep, ho, r⟩ := hm
    exact ⟨o, es, ep, k _ o (Ne.symm hL) ho, r⟩
  · refine (I.hok b u e).stay (fun c v hc q => k c v ?_ q) (fun _ q => q) fun _ _ q => q
    rcases hc with z | z
    · rw [z]; exact nit b u e
    · exact nit c _ z
theorem Inv.tok (I : Inv X pins σ H s) (t : Nat) : Inv X pins σ H { s with toks := t } := I.un (h' := s.heap) (t' := t) Un.refl I.hok
theorem Inv.kept {t' : Nat} (I : Inv X pins σ H s) (k : ∀ b u, s.heap.get? b = some u → h'.get? b = some u) : Inv X pins σ H { s with heap := h', toks := t' } := I.un (Un.kept k) (I.hok.kept k)
theorem Inv.laid {a : Addr} {o : HO} {t' : Nat} (I : Inv X pins σ H s) (k : ∀ b u, s.heap.get? b = some u → h'.get? b = some u) (hp : s.heap.objs.size ≤ a) (new : ObjOk X.prog X.w (upd H a o) h' a o) :
    Inv X pins σ (upd H a o) { s with heap := h', toks := t' } := I.un (Un.laid k hp (I.hok.fresh hp)) (I.hok.laid k hp new)
theorem Inv.write {x e : Addr} {o : HO} {t' : Nat} (I : Inv X pins σ H s) (mu : Mut (H x)) (he : e = x ∨ H e = some (.own x)) (k : ∀ b u, b ≠ e → s.heap.get? b = some u → h'.get? b = some u) (heo : ∃ u, h'.get? e = some u)
    (new : ObjOk X.prog X.w (upd H x o) h' x o) : Inv X pins σ (upd H x o) { s with heap := h', toks := t' } := I.un (Un.write mu he k heo) (I.hok.write mu he k heo new)
theorem Inv.pins_of {pins' : List (Addr × Obj)} (I : Inv X pins σ H s) (h : ∀ p ∈ pins', s.heap.get? p.1 = some p.2 ∧ H p.1 = none ∧ p.1 ≠ X.env.locals ∧ p.1 ∉ X.fs ∧ ∀ v, p.2.data ≠ .cell v) : Inv X pins' σ H s :=
  ⟨I.ok, I.os, I.bare, I.base, I.loc, I.cell, I.free, I.freeC, fun p hp => (List.mem_append.mp hp).elim (fun z => I.pin p (List.mem_append_left _ z)) (h p), I.hok, I.len⟩
theorem nodup_ix {N : List Str} (hN : N.Nodup) {i j : Nat} {x : Str} (a : N[i]? = some x) (b : N[j]? = some x) : i = j := by
  obtain ⟨h1, e1⟩ := List.getElem?_eq_some_iff.mp a
  obtain ⟨h2, e2⟩ := List.getElem?_eq_some_iff.mp b
  exact (List.getElem_inj hN).mp (e1.trans e2.symm)
theorem store_ok2 {M : Model} {A : Around} {E : Value → Shared → Prop} {i : Nat} {x : Str} {v : V} {u : Value} {Q : Unit → Shared → Prop} (I : Inv X pins σ H s) (hN : X.N.Nodup) (hi : X.N[i]? = some x) (hx : Loc X.env.scope x) (r : RelV v u)
    (h : ∀ s', Inv X pins (σ.set i (some v)) H s' → (∃ a, Heap.SameBut a s.heap s'.heap ∧ (a = X.env.locals ∨ X.env.cells.lookup x = some a)) → Q () s') (hf : X.fn x = true ∨ X.env.scope.names.lookup x = some .local := by first | exact .inl rfl | exact .inr rfl | assumption) : wpAny M A (storeName X.env x u) Q E s := by
  obtain ⟨m, hn, hl⟩ := id I.loc
  have hcls : (X.env.scope.kind == .class || (X.env.scope.kind == .module && X.env.locals != X.env.globals)) = false := by rw [I.ok.kind]; rfl
  have hiσ : i < σ.length := by rw [I.len]; exact (List.getElem?_eq_some_iff.mp hi).1
  have cne := I.cne
  have tracked : ∀ {a : Addr} {h' : Heap}, (∃ o, s.heap.get? a = some o ∧ H a = none) → Heap.SameBut a s.heap h' → HOk X.prog X.w H h' := fun {a h'} ha hs b ob e => by
    obtain ⟨_, _, hfree⟩ := ha
    refine (I.hok b ob e).stay (fun c w' hc q => (hs.2 c ?_).trans q) (fun _ q => q) fun _ _ q => q
    rintro rfl
    rcases hc with rfl | hc
    · rw [hfree] at e; cases e
    · rw [hfree] at hc; cases hc
  rcases hx with hk | hk
  · refine wpAny_storeName_local hk hn (fun h' hn' hs => ?_) hcls
    obtain ⟨oL, _, _, hoL, _⟩ := id hn
    refine h _ ⟨I.ok, I.os, I.bare, ⟨fun b o e n hb hx => ?_, fun b o e n hb hx => ?_, I.base.free, fun b o e hx => ?_, I.base.tups, I.base.frzs, I.base.tbls⟩, ⟨_, hn', fun j y v' e1 e2 e3 => ?_⟩, fun y c e => ?_, I.free, I.freeC, fun p hp => ?_, tracked ⟨oL, hoL, I.free⟩ hs, by simpa using I.len⟩ ⟨_, hs, .inl rfl⟩
    · exact (hs.2 b (Nat.ne_of_lt (Nat.lt_of_lt_of_le (Heap.lt_size e) I.ok.above))).trans (I.base.keep b o e n hb hx)
    · obtain ⟨sl, e1⟩ := I.base.slot b o e n hb hx
      exact ⟨sl, (hs.2 b (Nat.ne_of_lt (Nat.lt_of_lt_of_le (Heap.lt_size e) I.ok.above))).trans e1⟩
    · obtain ⟨o', e1⟩ := I.base.there b o e hx
      exact ⟨o', (hs.2 b (Nat.ne_of_lt (Nat.lt_of_lt_of_le (Heap.lt_size e) I.ok.above))).trans e1⟩
    · by_cases hj : j = i
      · subst hj
        rw [hi] at e1; cases e1
        rw [List.getElem?_set_self hiσ] at e2
        cases e2
        exact ⟨u, r, .inl ⟨hk, by simp⟩⟩
      · rw [List.getElem?_set_ne (Ne.symm hj)] at e2
        obtain ⟨u', r', q⟩ := hl j y v' e1 e2 e3
        refine ⟨u', r', ?_⟩
        rcases q with ⟨k, e⟩ | ⟨k, c, e, z⟩
        · refine .inl ⟨k, ?_⟩
          have : y ≠ x := fun e => hj (nodup_ix hN e1 (e ▸ hi))
          simp [this, e]
        · exact .inr ⟨k, c, e, z.sameBut hs (cne y c e)⟩
    · obtain ⟨w', z⟩ := I.cell y c e
      exact ⟨w', z.sameBut hs (cne y c e)⟩
    · obtain ⟨e, n, ne, nf, d⟩ := I.pin p hp
      exact ⟨(hs.2 p.1 ne).trans e, n, ne, nf, d⟩
  · have hfn : X.fn x = true := by
      rcases hf with z | z
      · exact z
      · rw [z] at hk; cases hk
    obtain ⟨c, hc⟩ := I.ok.has x (.inl hk)
    obtain ⟨w', z⟩ := I.cell x c hc
    refine wpAny_storeName_cell I.ok.kind hk hc z (fun h' hc' hs => ?_)
    obtain ⟨oc, hoc, hocd⟩ := id z
    refine h { s with heap := h' } ⟨I.ok, I.os, I.bare, ⟨fun b o e n hb hx => ?_, fun b o e n hb hx => ?_, I.base.free, fun b o e hx => ?_, I.base.tups, I.base.frzs, I.base.tbls⟩, ⟨m, hn.sameBut hs (Ne.symm (cne x c hc)), fun j y v' e1 e2 e3 => ?_⟩, fun y c' e => ?_, I.free, I.freeC, fun p hp => ?_, tracked ⟨oc, hoc, I.freeC x c hc⟩ hs, by simpa using I.len⟩ ⟨c, hs, .inr hc⟩
    · exact (hs.2 b (Nat.ne_of_lt (Nat.lt_of_lt_of_le (Heap.lt_size e) (I.ok.cab x c hfn hc)))).trans (I.base.keep b o e n hb hx)
    · obtain ⟨sl, e1⟩ := I.base.slot b o e n hb hx
      exact ⟨sl, (hs.2 b (Nat.ne_of_lt (Nat.lt_of_lt_of_le (Heap.lt_size e) (I.ok.cab x c hfn hc)))).trans e1⟩
    · obtain ⟨o', e1⟩ := I.base.there b o e hx
      exact ⟨o', (hs.2 b (Nat.ne_of_lt (Nat.lt_of_lt_of_le (Heap.lt_size e) (I.ok.cab x c hfn hc)))).trans e1⟩
    · by_cases hj : j = i
      · subst hj
        rw [hi] at e1; cases e1
        rw [List.getElem?_set_self hiσ] at e2
        cases e2
        exact ⟨u, r, .inr ⟨.inl hk, c, hc, hc'⟩⟩
      · rw [List.getElem?_set_ne (Ne.symm hj)] at e2
        obtain ⟨u', r', q⟩ := hl j y v' e1 e2 e3
        refine ⟨u', r', ?_⟩
        rcases q with q | ⟨k, c', e, z'⟩
        · exact .inl q
        · refine .inr ⟨k, c', e, z'.sameBut hs ?_⟩
          rintro rfl
          exact hj (nodup_ix hN e1 (I.ok.inj _ _ _ e hc ▸ hi))
    · by_cases hcc : c' = c
      · subst hcc; exact ⟨_, hc'⟩
      · obtain ⟨w2, z2⟩ := I.cell y c' e
        exact ⟨w2, z2.sameBut hs hcc⟩
    · obtain ⟨e, n, ne, nf, d⟩ := I.pin p hp
      refine ⟨(hs.2 p.1 ?_).trans e, n, ne, nf, d⟩
      intro q
      rw [q, hoc] at e
      have q' : oc = p.2 := Option.some.inj e
      exact d w' (by rw [← q']; exact hocd)
theorem store_ok {M : Model} {A : Around} {E : Value → Shared → Prop} {i : Nat} {x : Str} {v : V} {u : Value} {Q : Unit → Shared → Prop} (I : Inv X pins σ H s) (hN : X.N.Nodup) (hi : X.N[i]? = some x) (hx : Loc X.env.scope x) (r : RelV v u)
    (h : ∀ s', Inv X pins (σ.set i (some v)) H s' → Q () s') (hf : X.fn x = true ∨ X.env.scope.names.lookup x = some .local := by first | exact .inl rfl | exact .inr rfl | assumption) : wpAny M A (storeName X.env x u) Q E s :=
  store_ok2 I hN hi hx r (fun s' I' _ => h s' I') hf
theorem Inv.call' {s' : Shared} {ch : List Addr} (I : Inv X pins σ H s) (ho : s'.os = s.os) (u : Un (frs X.stack) ch H H' s.heap s'.heap) (hok : HOk X.prog X.w H' s'.heap) (hg : AllBare s'.gens)
    (hch : ∀ b ∈ ch, (b ∈ X.ex ∨ X.s₀.heap.objs.size ≤ b) ∧ b ≠ X.env.locals ∧ (∀ x c, X.env.cells.lookup x = some c → c ≠ b) ∧ ∀ p ∈ X.pn ++ pins, p.1 ≠ b) : Inv X pins σ H' s' := by
  obtain ⟨h', g', d', t', o'⟩ := s'
  have e : o' = s.os := ho
  subst e
  exact I.call (g' := g') (t' := t') (d' := d') u hok hg hch
end
abbrev XK := Value → Option Addr → Hp → Prop
abbrev St := List (Option V)
abbrev VK := V → Hp → Prop
abbrev TE := St → Hp → VK → Prop
abbrev TT := St → Hp → (Bool → Hp → Prop) → Prop
abbrev TA := St → Hp → (List V → Hp → Prop) → Prop
structure Ends where
  nx : St → Hp → Prop
  rt : VK
  bk : St → Hp → Prop := fun _ _ => False
  ct : St → Hp → Prop := fun _ _ => False
abbrev TS := Ends → St → Hp → Prop
def EP (X : Cx) (pins : List (Addr × Obj)) (σ : St) (Q : VK) (u : Value) (s' : Shared) : Prop := ∃ v H', Inv X pins σ H' s' ∧ RelV v u ∧ Q v H'
def TP (X : Cx) (pins : List (Addr × Obj)) (σ : St) (Q : Bool → Hp → Prop) (b : Bool) (s' : Shared) : Prop := ∃ H', Inv X pins σ H' s' ∧ Q b H'
def AP (X : Cx) (pins : List (Addr × Obj)) (σ : St) (Q : List V → Hp → Prop) (us : List Value) (s' : Shared) : Prop := ∃ vs H', Inv X pins σ H' s' ∧ Vals vs us ∧ Q vs H'
def SP (X : Cx) (pins : List (Addr × Obj)) (D : Ends) (f : Flow) (s' : Shared) : Prop :=
  match f with
  | .next => ∃ σ' H', Inv X pins σ' H' s' ∧ D.nx σ' H'
  | .brk => ∃ σ' H', Inv X pins σ' H' s' ∧ D.bk σ' H'
  | .cont => ∃ σ' H', Inv X pins σ' H' s' ∧ D.ct σ' H'
  | .ret u => ∃ v σ' H', Inv X pins σ' H' s' ∧ RelV v u ∧ D.rt v H'
def PE (X : Cx) (e : Expr) (t : TE) : Prop :=
  ∀ (pins : List (Addr × Obj)) (s : Shared) (σ : St) (H : Hp) (Q : VK), Inv X pins σ H s → t σ H Q → wpAny (model X.prog X.w) X.A (eval e X.env) (EP X pins σ Q) X.xe s
def PT (X : Cx) (e : Expr) (t : TT) : Prop :=
  ∀ (pins : List (Addr × Obj)) (s : Shared) (σ : St) (H : Hp) (Q : Bool → Hp → Prop), Inv X pins σ H s → t σ H Q → wpAny (model X.prog X.w) X.A (isTrue e X.env (eval e X.env)) (TP X pins σ Q) X.xe s
def PW (X : Cx) (e : Expr) (t : TT) : Prop :=
  ∀ (whole : Sem Value) (pins : List (Addr × Obj)) (s : Shared) (σ : St) (H : Hp) (Q : Bool → Hp → Prop), Inv X pins σ H s → t σ H Q → wpAny (model X.prog X.w) X.A (isTrue e X.env whole) (TP X pins σ Q) X.xe s
theorem PW.pt {X : Cx} {e : Expr} {t : TT} (h : PW X e t) : PT X e t := h _
def PA (X : Cx) (es : List Expr) (t : TA) : Prop :=
  ∀ (pos : Pos) (pins : List (Addr × Obj)) (s : Shared) (σ : St) (H : Hp) (Q : List V → Hp → Prop), Inv X pins σ H s → t σ H Q → wpAny (model X.prog X.w) X.A (spliced (backTo pos (starEach es X.env))) (AP X pins σ Q) X.xe s
def PS (X : Cx) (st : Stmt) (t : TS) : Prop :=
  ∀ (pins : List (Addr × Obj)) (s : Shared) (σ : St) (H : Hp) (D : Ends), Inv X pins σ H s → t D σ H → wpAny (model X.prog X.w) X.A (exec st X.env) (SP X pins D) X.xe s
def PSs (X : Cx) (st : List Stmt) (t : TS) : Prop :=
  ∀ (pins : List (Addr × Obj)) (s : Shared) (σ : St) (H : Hp) (D : Ends), Inv X pins σ H s → t D σ H → wpAny (model X.prog X.w) X.A (execs st X.env) (SP X pins D) X.xe s
theorem thn {α : Type} {t : Sem α} {Q Q' : α → Shared → Prop} {M : Model} {A : Around} {E : Value → Shared → Prop} {s : Shared} (h : wpAny M A t Q E s) (hQ : ∀ a s, Q a s → Q' a s) : wpAny M A t Q' E s := wpAny_mono h hQ fun _ _ x => x
end L2
namespace L2
open PySem PySem.Spec PyProof.Rows
section
variable {X : Cx}
theorem bin {a b : Expr} {ta tb : TE} (ha : PE X a ta) (hb : PE X b tb) {pins : List (Addr × Obj)} {s : Shared} {σ : St} {H : Hp} {R : V → V → Hp → Prop} (I : Inv X pins σ H s) (h : ta σ H fun x H1 => tb σ H1 fun y H2 => R x y H2)
    {α : Type} {Q : α → Shared → Prop} {f : Value → Value → Sem α}
    (hf : ∀ v u s2 x y H2, Inv X pins σ H2 s2 → RelV x v → RelV y u → R x y H2 → wpAny (model X.prog X.w) X.A (f v u) Q X.xe s2) :
    wpAny (model X.prog X.w) X.A (eval a X.env) (fun v s₁ => wpAny (model X.prog X.w) X.A (eval b X.env) (fun u s₂ => wpAny (model X.prog X.w) X.A (f v u) Q X.xe s₂) X.xe s₁) X.xe s := by
  refine thn (ha pins s σ H _ I h) fun v s1 ⟨x, H1, I1, r1, q1⟩ => ?_
  refine thn (hb pins s1 σ H1 _ I1 q1) fun u s2 ⟨y, H2, I2, r2, q2⟩ => ?_
  exact hf v u s2 x y H2 I2 r1 r2 q2
def tVar (i : Nat) : TE := fun σ H Q => ∃ v, σ[i]? = some (some v) ∧ Q v H
def tC (v : V) : TE := fun _ H Q => Q v H
theorem pe_var {i : Nat} {x : Str} {pos : Pos} (hN : X.N[i]? = some x) (hv : Vis X.env.scope x) (hd : (x == ("__debug__" : Str)) = false := by decide) (hcd : (x == ("__classdict__" : Str)) = false := by decide) : PE X (.Name x pos) (tVar i) := by
  intro pins s σ H Q I h
  obtain ⟨v, e, h⟩ := h
  obtain ⟨m, hn, hl⟩ := I.loc
  obtain ⟨u, r, l⟩ := hl i x v hN e hv
  have fin : EP X pins σ Q u s := ⟨v, H, I, r, h⟩
  rcases l with ⟨hk, hm⟩ | ⟨hk, c, hc, hcell⟩
  · exact wpAny_Name (wpAny_loadName_local I.ok.kind hk hn hm fin) hd
  · rcases hk with hk | hk
    · exact wpAny_Name (wpAny_loadName_cell I.ok.kind hk hc hcell fin) hd
    · exact wpAny_Name (wpAny_loadName_free I.ok.kind hk hc hcell fin hcd) hd
theorem pe_int {i j pos} : PE X (.Constant (.int i) j pos) (tC (.int i)) := fun _ _ _ H _ I h => wpAny_Constant_int ⟨.int i, H, I.tok _, ⟨_, rfl⟩, h⟩
theorem pe_bl {b j pos} : PE X (.Constant (.bool b) j pos) (tC (.bl b)) := fun _ _ _ H _ I h => Constant_bool ⟨.bl b, H, I, rfl, h⟩
theorem pe_str {x j pos} : PE X (.Constant (.str x) j pos) (tC (.str x)) := fun _ _ _ H _ I h => Calls.Constant_str ⟨.str x, H, I.tok _, ⟨_, rfl⟩, h⟩
def Gl (X : Cx) (x : Str) : Prop := X.env.kindOf x = some .globalImplicit
theorem ld_glob {E : Value → Shared → Prop} {pins : List (Addr × Obj)} {s : Shared} {σ : St} {H : Hp} {x : Str} {u : Value} {pos : Pos} {Q : Value → Shared → Prop} (I : Inv X pins σ H s) (hg : Gl X x) (hm : X.mg x = some u) (h : Q u s)
    (hd : (x == ("__debug__" : Str)) = false := by decide) : wpAny (model X.prog X.w) X.A (eval (.Name x pos) X.env) Q E s :=
  Calls.Name_function_global I.ok.kind hg (Calls.loadGlobal_global (by rw [I.ok.glob]; exact I.mod.glob.keeps I.bk) hm h) hd
theorem ld_blt {E : Value → Shared → Prop} {pins : List (Addr × Obj)} {s : Shared} {σ : St} {H : Hp} {x : Str} {u : Value} {pos : Pos} {Q : Value → Shared → Prop} (I : Inv X pins σ H s) (hg : Gl X x) (hm : X.mg x = none) (hv : bootBuiltins x = some u) (h : Q u s)
    (hn : x ≠ "__name__" := by decide) (hd : (x == ("__debug__" : Str)) = false := by decide) : wpAny (model X.prog X.w) X.A (eval (.Name x pos) X.env) Q E s := by
  obtain ⟨mb, h1, h2⟩ := I.mod.blt
  exact Calls.Name_function_global I.ok.kind hg (Calls.loadGlobal_builtin (by rw [I.ok.glob]; exact I.mod.glob.keeps I.bk) hm (by rw [I.ok.blt]; exact h1.keeps I.bk) ((h2 x hn).trans hv) h) hd
theorem pe_glob {x : Str} {v : V} {u : Value} {pos : Pos} (hg : Gl X x) (hm : X.mg x = some u) (r : RelV v u) (hd : (x == ("__debug__" : Str)) = false := by decide) : PE X (.Name x pos) (tC v) :=
  fun _ _ _ H _ I h => ld_glob I hg hm ⟨v, H, I, r, h⟩ hd
theorem pe_bltn {x : Str} {v : V} {u : Value} {pos : Pos} (hg : Gl X x) (hm : X.mg x = none) (hv : bootBuiltins x = some u) (r : RelV v u) (hn : x ≠ "__name__" := by decide) (hd : (x == ("__debug__" : Str)) = false := by decide) : PE X (.Name x pos) (tC v) :=
  fun _ _ _ H _ I h => ld_blt I hg hm hv ⟨v, H, I, r, h⟩ hn hd
variable {a b : Expr} {ta tb : TE} {pos : Pos}
variable {tA tB' : TT} {rest : List Expr}
def tAnd (t u : TT) : TT := fun σ H Q => t σ H fun c H1 => if c = true then u σ H1 Q else Q false H1
def tOr (t u : TT) : TT := fun σ H Q => t σ H fun c H1 => if c = true then Q true H1 else u σ H1 Q
def tNot (t : TT) : TT := fun σ H Q => t σ H fun c H1 => Q (!c) H1
theorem pw_and1 (ha : PT X a tA) : PW X (.BoolOp .And [a] pos) tA := by
  intro wh pins s σ H Q I h
  refine isTrue_and (thn (ha pins s σ H Q I h) fun c s1 e => ?_)
  cases c with
  | true => exact isTrue_and_nil e
  | false => exact e
theorem pw_or1 (ha : PT X a tA) : PW X (.BoolOp .Or [a] pos) tA := by
  intro wh pins s σ H Q I h
  refine isTrue_or (thn (ha pins s σ H Q I h) fun c s1 e => ?_)
  cases c with
  | false => exact isTrue_or_nil e
  | true => exact e
theorem pw_and (ha : PT X a tA) (hb : PW X (.BoolOp .And (b :: rest) pos) tB') : PW X (.BoolOp .And (a :: b :: rest) pos) (tAnd tA tB') := by
  intro wh pins s σ H Q I h
  refine isTrue_and (thn (ha pins s σ H _ I h) fun c s1 ⟨H1, I1, q1⟩ => ?_)
  cases c with
  | true => exact hb wh pins s1 σ H1 Q I1 q1
  | false => exact ⟨H1, I1, q1⟩
theorem pw_or (ha : PT X a tA) (hb : PW X (.BoolOp .Or (b :: rest) pos) tB') : PW X (.BoolOp .Or (a :: b :: rest) pos) (tOr tA tB') := by
  intro wh pins s σ H Q I h
  refine isTrue_or (thn (ha pins s σ H _ I h) fun c s1 ⟨H1, I1, q1⟩ => ?_)
  cases c with
  | true => exact ⟨H1, I1, q1⟩
  | false => exact hb wh pins s1 σ H1 Q I1 q1
theorem pt_not (ha : PT X a tA) : PT X (.UnaryOp .Not a pos) (tNot tA) := by
  intro pins s σ H Q I h
  exact isTrue_not (ha pins s σ H (fun c H1 => Q (!c) H1) I h)
def tAndV (ta tb : TE) : TE := fun σ H Q => ta σ H fun x H1 => ∃ c, x = .bl c ∧ if c = true then tb σ H1 Q else Q (.bl false) H1
def tOrV (ta tb : TE) : TE := fun σ H Q => ta σ H fun x H1 => ∃ c, x = .bl c ∧ if c = true then Q (.bl true) H1 else tb σ H1 Q
theorem pe_one {op} {t : TE} (h : PE X a t) : PE X (.BoolOp op [a] pos) t := fun pins s σ H Q I hw => BoolOp_one (h pins s σ H Q I hw)
theorem pe_and (ha : PE X a ta) (hb : PE X (.BoolOp .And (b :: rest) pos) tb) : PE X (.BoolOp .And (a :: b :: rest) pos) (tAndV ta tb) := by
  intro pins s σ H Q I h
  refine BoolOp_and (thn (ha pins s σ H _ I h) fun v s1 ⟨x, H1, I1, r1, q1⟩ => ?_)
  obtain ⟨c, rfl, q1⟩ := q1
  cases r1
  refine wpAny_truthy_bool ?_
  cases c with
  | true => exact hb pins s1 σ H1 Q I1 q1
  | false => exact ⟨.bl false, H1, I1, rfl, q1⟩
theorem pe_or (ha : PE X a ta) (hb : PE X (.BoolOp .Or (b :: rest) pos) tb) : PE X (.BoolOp .Or (a :: b :: rest) pos) (tOrV ta tb) := by
  intro pins s σ H Q I h
  refine BoolOp_or (thn (ha pins s σ H _ I h) fun v s1 ⟨x, H1, I1, r1, q1⟩ => ?_)
  obtain ⟨c, rfl, q1⟩ := q1
  cases r1
  refine wpAny_truthy_bool ?_
  cases c with
  | false => exact hb pins s1 σ H1 Q I1 q1
  | true => exact ⟨.bl true, H1, I1, rfl, q1⟩
def tIf (t : TT) (ta tb : TE) : TE := fun σ H Q => t σ H fun c H1 => if c = true then ta σ H1 Q else tb σ H1 Q
theorem pe_ifExp {c : Expr} (hc : PT X c tA) (ha : PE X a ta) (hb : PE X b tb) : PE X (.IfExp c a b pos) (tIf tA ta tb) := by
  intro pins s σ H Q I h
  refine wpAny_IfExp (thn (hc pins s σ H _ I h) fun d s1 ⟨H1, I1, q1⟩ => ?_)
  cases d with
  | true => exact ha pins s1 σ H1 Q I1 q1
  | false => exact hb pins s1 σ H1 Q I1 q1
end
end L2
namespace L2
open PySem PySem.Spec PyProof.Rows
def SqL (K : PySem.W.Frag) (H : Hp) (a : Addr) (xs : List V) : Prop :=
  Rd H a (.lst xs) ∨
    ∃ (o : Obj) (its : Array Value) (n : Nat), K.lookup a = some o ∧ o.cls = .type "list" ∧ o.dict = none ∧ o.data = .seq its n ∧ its.size ≤ sizeLine ∧ Vals xs its.toList
def SqT (K : PySem.W.Frag) (H : Hp) (a : Addr) (xs : List V) : Prop :=
  Rd H a (.tup xs) ∨
    ∃ (o : Obj) (its : Array Value) (n : Nat), K.lookup a = some o ∧ o.cls = .type "tuple" ∧ o.data = .seq its n ∧ its.size ≤ sizeLine ∧ Vals xs its.toList
def absV : Value → Option V
  | .none => some .non
  | .bool b => some (.bl b)
  | .int i _ => some (.int i)
  | .str x _ => some (.str x)
  | .bytes b _ => some (.byt b)
  | .float b _ => some (.flt b)
  | .ref a => some (.ref a)
  | .type n => some (.ty n)
  | _ => none
theorem RelV.abs {x : V} {u : Value} (r : RelV x u) : absV u = some x := by
  cases x with
  | non => cases r; rfl
  | bl _ => cases r; rfl
  | int _ => obtain ⟨t, rfl⟩ := r; rfl
  | str _ => obtain ⟨t, rfl⟩ := r; rfl
  | byt _ => obtain ⟨t, rfl⟩ := r; rfl
  | flt _ => obtain ⟨t, rfl⟩ := r; rfl
  | ref _ => cases r; rfl
  | ty _ => cases r; rfl
theorem RelV.inj {x y : V} {u : Value} (r : RelV x u) (q : RelV y u) : x = y := Option.some.inj (r.abs.symm.trans q.abs)
theorem Vals.inj : ∀ {xs ys : List V} {us : List Value}, Vals xs us → Vals ys us → xs = ys
  | _, _, _, .nil, .nil => rfl
  | _, _, _, .cons r t, .cons r' t' => by rw [r.inj r', Vals.inj t t']
section
variable {X : Cx} {pins : List (Addr × Obj)} {σ : St} {H : Hp} {s : Shared} {a : Addr} {xs ys : List V}
theorem SqL.of {K : PySem.W.Frag} (h : H a = some (.lst xs)) : SqL K H a xs := .inl (.inl h)
theorem SqT.of {K : PySem.W.Frag} (h : H a = some (.tup xs)) : SqT K H a xs := .inl (.inl h)
theorem Inv.list (I : Inv X pins σ H s) (h : SqL X.K H a xs) : ∃ its : List Value, Vals xs its ∧ PlainL s.heap a its.toArray ∧ xs.length ≤ sizeLine := by
  rcases h with h | ⟨o, its, n, hk, hc, hd, hs, hz, r⟩
  · obtain ⟨z, its, n, r, e⟩ := h.ok I.hok
    exact ⟨its, r, ⟨_, n, e, rfl, rfl, rfl⟩, z⟩
  · refine ⟨its.toList, r, ⟨o, n, I.kIn a o hk, hc, hd, by simpa using hs⟩, ?_⟩
    have e := r.length
    simp only [Array.length_toList] at e
    omega
theorem Inv.tuple (I : Inv X pins σ H s) (h : SqT X.K H a xs) : ∃ its : List Value, Vals xs its ∧ IsTup s.heap a its.toArray ∧ xs.length ≤ sizeLine := by
  rcases h with h | ⟨o, its, n, hk, hc, hs, hz, r⟩
  · obtain ⟨z, its, r, p⟩ := h.ok I.hok
    exact ⟨its, r, p, z⟩
  · refine ⟨its.toList, r, ⟨o, I.kIn a o hk, hc, n, by simpa using hs⟩, ?_⟩
    have e := r.length
    simp only [Array.length_toList] at e
    omega
theorem Inv.list_inj (I : Inv X pins σ H s) (h : SqL X.K H a xs) (h' : SqL X.K H a ys) : xs = ys := by
  obtain ⟨its, r, ⟨o, n, e, _, _, d⟩, _⟩ := I.list h
  obtain ⟨its', r', ⟨o', n', e', _, _, d'⟩, _⟩ := I.list h'
  rw [e] at e'; cases e'
  rw [d] at d'
  injection d' with d1 _
  have : its = its' := by simpa using congrArg Array.toList d1
  subst this
  exact r.inj r'
theorem Inv.tuple_inj (I : Inv X pins σ H s) (h : SqT X.K H a xs) (h' : SqT X.K H a ys) : xs = ys := by
  obtain ⟨its, r, ⟨o, e, _, n, d⟩, _⟩ := I.tuple h
  obtain ⟨its', r', ⟨o', e', _, n', d'⟩, _⟩ := I.tuple h'
  rw [e] at e'; cases e'
  rw [d] at d'
  injection d' with d1 _
  have : its = its' := by simpa using congrArg Array.toList d1
  subst this
  exact r.inj r'
end
abbrev Cx.wish (X : Cx) (E : Value → Shared → Prop) : Cx := { X with xe := E }
abbrev Cx.nox (X : Cx) : Cx := X.wish fun _ _ => False
theorem Cx.Ok.wish {X : Cx} (ok : X.Ok) (E : Value → Shared → Prop) : (X.wish E).Ok :=
  ⟨ok.mod, ok.kind, ok.glob, ok.blt, ok.above, ok.inj, ok.has, ok.cab, ok.hd, ok.frames, ok.stk, ok.exf, ok.bs, ok.bsz, ok.noex, ok.exfs, ok.funs, ok.frf⟩
theorem Cx.Ok.unwish {X : Cx} {E : Value → Shared → Prop} (ok : (X.wish E).Ok) : X.Ok :=
  ⟨ok.mod, ok.kind, ok.glob, ok.blt, ok.above, ok.inj, ok.has, ok.cab, ok.hd, ok.frames, ok.stk, ok.exf, ok.bs, ok.bsz, ok.noex, ok.exfs, ok.funs, ok.frf⟩
section
variable {X : Cx} {pins : List (Addr × Obj)} {σ : St} {H : Hp} {s : Shared} {E : Value → Shared → Prop}
theorem Inv.wish (I : Inv X pins σ H s) (E : Value → Shared → Prop) : Inv (X.wish E) pins σ H s := ⟨I.ok.wish E, I.os, I.bare, I.base, I.loc, I.cell, I.free, I.freeC, I.pin, I.hok, I.len⟩
theorem Inv.unwish (I : Inv (X.wish E) pins σ H s) : Inv X pins σ H s := ⟨I.ok.unwish, I.os, I.bare, I.base, I.loc, I.cell, I.free, I.freeC, I.pin, I.hok, I.len⟩
theorem SP.unwish {D : Ends} {f : Flow} {s' : Shared} (h : SP (X.wish E) pins D f s') : SP X pins D f s' := by
  cases f with
  | next => obtain ⟨σ', H', I, q⟩ := h; exact ⟨σ', H', I.unwish, q⟩
  | brk => obtain ⟨σ', H', I, q⟩ := h; exact ⟨σ', H', I.unwish, q⟩
  | cont => obtain ⟨σ', H', I, q⟩ := h; exact ⟨σ', H', I.unwish, q⟩
  | ret u => obtain ⟨v, σ', H', I, r, q⟩ := h; exact ⟨v, σ', H', I.unwish, r, q⟩
theorem PSs.nox {st : List Stmt} {t : TS} (h : PSs X.nox st t) : PSs X st t := fun pins s σ H D I hw =>
  wpAny_mono (h pins s σ H D (I.wish _) hw) (fun _ _ q => q.unwish) fun _ _ z => False.elim z
end
section
variable {X : Cx} {st : Stmt} {rest : List Stmt} {t u : TS} {e : Expr} {te : TE} {pos : Pos}
def tNext : TS := fun D σ H => D.nx σ H
def tSeq (t u : TS) : TS := fun D σ H => t { D with nx := u D } σ H
theorem pss_nil : PSs X [] tNext := fun _ _ σ H _ I h => wpAny_execs_nil ⟨σ, H, I, h⟩
theorem pss_cons (h1 : PS X st t) (h2 : PSs X rest u) : PSs X (st :: rest) (tSeq t u) := by
  intro pins s σ H D I h
  refine wpAny_execs_cons (thn (h1 pins s σ H { D with nx := u D } I h) fun f s1 q => ?_)
  cases f with
  | next =>
    obtain ⟨σ', H', I', q⟩ := q
    exact h2 pins s1 σ' H' D I' q
  | ret v => exact q
  | brk => exact q
  | cont => exact q
theorem pss_one (h1 : PS X st t) : PSs X [st] t := by
  intro pins s σ H D I h
  refine wpAny_execs_cons (thn (h1 pins s σ H D I h) fun f s1 q => ?_)
  cases f with
  | next => exact wpAny_execs_nil q
  | ret v => exact q
  | brk => exact q
  | cont => exact q
theorem Inv.quiet {pins : List (Addr × Obj)} {σ : St} {H : Hp} {s : Shared} (I : Inv X pins σ H s) : interactive X.env = false := by simp [interactive, I.ok.kind]
def tDrop (te : TE) : TS := fun D σ H => te σ H fun _ H1 => D.nx σ H1
theorem ps_expr (he : PE X e te) (hs : swapsWith e none pos.line X.env = pure false := by rfl) : PS X (.Expr e pos) (tDrop te) := by
  intro pins s σ H D I h
  exact wpAny_Expr_any (thn (he pins s σ H _ I h) fun v s1 ⟨x, H1, I1, r1, q1⟩ => ⟨σ, H1, I1, q1⟩) I.quiet hs
def tRet (te : TE) : TS := fun D σ H => te σ H D.rt
theorem ps_ret (he : PE X e te) : PS X (.Return (some e) pos) (tRet te) := by
  intro pins s σ H D I h
  exact wpAny_Return_some (thn (he pins s σ H _ I h) fun v s1 ⟨x, H1, I1, r1, q1⟩ => ⟨x, σ, H1, I1, r1, q1⟩)
def tIfS (c : TT) (t u : TS) : TS := fun D σ H => c σ H fun b H1 => if b = true then t D σ H1 else u D σ H1
theorem ps_if {c : Expr} {a b : List Stmt} {tc : TT} (hc : PT X c tc) (ha : PSs X a t) (hb : PSs X b u) : PS X (.If c a b pos) (tIfS tc t u) := by
  intro pins s σ H D I h
  refine wpAny_If (thn (hc pins s σ H _ I h) fun d s1 ⟨H1, I1, q1⟩ => ?_)
  cases d with
  | true => exact ha pins s1 σ H1 D I1 q1
  | false => exact hb pins s1 σ H1 D I1 q1
def tNever : TS := fun _ _ _ => False
theorem ps_never : PS X st tNever := fun _ _ _ _ _ _ h => h.elim
theorem pss_never {sts : List Stmt} : PSs X sts tNever := fun _ _ _ _ _ _ h => h.elim
end
abbrev TG := V → St → Hp → (St → Hp → Prop) → Prop
abbrev TGs := List V → St → Hp → (St → Hp → Prop) → Prop
def PG (X : Cx) (target : Expr) (t : TG) : Prop :=
  ∀ (pins : List (Addr × Obj)) (s : Shared) (σ : St) (H : Hp) (v : V) (u : Value) (Q : St → Hp → Prop), Inv X pins σ H s → RelV v u → t v σ H Q →
    wpAny (model X.prog X.w) X.A (assign target X.env u) (fun _ s' => ∃ σ' H', Inv X pins σ' H' s' ∧ Q σ' H') X.xe s
def PGs (X : Cx) (ts : List Expr) (t : TGs) : Prop :=
  ∀ (pins : List (Addr × Obj)) (s : Shared) (σ : St) (H : Hp) (vs : List V) (us : List Value) (Q : St → Hp → Prop), Inv X pins σ H s → Vals vs us → t vs σ H Q →
    wpAny (model X.prog X.w) X.A (assignInOrder ((assignEach ts X.env).map (·.2)) us) (fun _ s' => ∃ σ' H', Inv X pins σ' H' s' ∧ Q σ' H') X.xe s
abbrev TSet := V → V → V → Hp → (Hp → Prop) → Prop
def PSet (X : Cx) (t : TSet) : Prop :=
  ∀ (pins : List (Addr × Obj)) (s : Shared) (σ : St) (H : Hp) (o i v : V) (ov iv u : Value) (Q : Hp → Prop), Inv X pins σ H s → RelV o ov → RelV i iv → RelV v u → t o i v H Q →
    wpAny (model X.prog X.w) X.A (setItem ov iv u) (fun _ s' => ∃ H', Inv X pins σ H' s' ∧ Q H') X.xe s
section
variable {X : Cx} {pos : Pos}
def gName (i : Nat) : TG := fun v σ H Q => Q (σ.set i (some v)) H
theorem pg_name {i : Nat} {x : Str} (hN : X.N.Nodup) (hi : X.N[i]? = some x) (hx : Loc X.env.scope x) (hf : X.fn x = true ∨ X.env.scope.names.lookup x = some .local := by first | exact .inl rfl | exact .inr rfl | assumption) : PG X (.Name x pos) (gName i) := by
  intro pins s σ H v u Q I r h
  exact wpAny_assign_Name (store_ok I hN hi hx r (fun s' I' => ⟨_, H, I', h⟩) hf)
def gNil : TGs := fun vs σ H Q => vs = [] ∧ Q σ H
def gCons (t : TG) (u : TGs) : TGs := fun vs σ H Q => ∃ v r, vs = v :: r ∧ t v σ H fun σ' H' => u r σ' H' Q
theorem pgs_nil : PGs X [] gNil := by
  intro pins s σ H vs us Q I r h
  obtain ⟨e, h⟩ := h
  subst e
  cases r
  exact assignInOrder_nil ⟨σ, H, I, h⟩
theorem pgs_cons {e : Expr} {es : List Expr} {t : TG} {u : TGs} (h1 : PG X e t) (h2 : PGs X es u)
    (hs : (assignEach (e :: es) X.env).map (·.2) = assign e X.env :: (assignEach es X.env).map (·.2) := by rfl) : PGs X (e :: es) (gCons t u) := by
  intro pins s σ H vs us Q I r h
  obtain ⟨v, vr, e1, h⟩ := h
  subst e1
  cases r with
  | cons r rr =>
    rw [hs]
    refine assignInOrder_cons (thn (h1 pins s σ H _ _ _ I r h) fun _ s1 ⟨σ1, H1, I1, q1⟩ => ?_)
    exact h2 pins s1 σ1 H1 _ _ Q I1 rr q1
def gTup (K : PySem.W.Frag) (n : Nat) (t : TGs) : TG := fun v σ H Q => ∃ a xs, v = .ref a ∧ SqT K H a xs ∧ xs.length = n ∧ t xs σ H Q
theorem pg_tup {es : List Expr} {k : Nat} {t : TGs} {n : Nat} (hc : X.calm = true) (h : PGs X es t)
    (hn : (assignEach es X.env).length = n := by rfl) (hst : (assignEach es X.env).findIdx? (·.1) = none := by rfl) : PG X (.Tuple es k pos) (gTup X.K n t) := by
  intro pins s σ H v u Q I r hw
  obtain ⟨a, xs, e1, hq, hl, hw⟩ := hw
  subst e1
  cases r
  obtain ⟨its, rv, ht, hz⟩ := I.tuple hq
  refine assign_Tuple_tuple (I.ok.hd hc) ht (by simp [hn, ← hl, rv.length]) hst fun h' hx => ?_
  have I1 : Inv X pins σ H { s with heap := h' } := I.kept (t' := s.toks) fun b o e => hx b o (Nat.ne_of_lt (Heap.lt_size e)) e
  exact h pins _ σ H xs _ Q I1 (by simpa using rv) hw
def gSub (to ti : TE) (t : TSet) : TG := fun v σ H Q => to σ H fun o H1 => ti σ H1 fun i H2 => t o i v H2 fun H3 => Q σ H3
theorem pg_sub {o i : Expr} {to ti : TE} {t : TSet} (ho : PE X o to) (hi : PE X i ti) (hs : PSet X t)
    (ha : ∀ v, assign (.Subscript o i pos) X.env v = (do
      let ov ← holding [v] (eval o X.env)
      let iv ← holding [v, ov] (eval i X.env)
      standAt pos
      holding [v, ov, iv] (setItem ov iv v)
      release [v, ov, iv] []) := by intro _; rfl) : PG X (.Subscript o i pos) (gSub to ti t) := by
  intro pins s σ H v u Q I r h
  rw [ha]
  refine wpAny_bind (wpAny_holding (thn (ho pins s σ H _ I h) fun ov s1 ⟨x, H1, I1, r1, q1⟩ => ?_))
  refine wpAny_bind (wpAny_holding (thn (hi pins s1 σ H1 _ I1 q1) fun iv s2 ⟨y, H2, I2, r2, q2⟩ => ?_))
  refine wpAny_bind (wpAny_standAt (wpAny_bind (wpAny_holding (thn (hs pins s2 σ H2 x y v ov iv u _ I2 r1 r2 r q2) fun _ s3 ⟨H3, I3, q3⟩ => ?_))))
  exact wpAny_release ⟨σ, H3, I3, q3⟩
def tAsg (te : TE) (g : TG) : TS := fun D σ H => te σ H fun x H1 => g x σ H1 D.nx
theorem ps_asg {tg e : Expr} {te : TE} {g : TG} (he : PE X e te) (hg : PG X tg g) (hs : swapsWithSole [tg] e pos.line X.env = pure false := by rfl) (hw : swappedStores [tg] e X.env = pure none := by rfl)
    (h1 : (assignEach [tg] X.env).map (·.2) = [assign tg X.env] := by rfl) : PS X (.Assign [tg] e pos) (tAsg te g) := by
  intro pins s σ H D I h
  refine wpAny_Assign_stores (thn (he pins s σ H _ I h) fun v s1 ⟨x, H1, I1, r1, q1⟩ => ?_) hs hw
  rw [h1]
  exact thn (hg pins s1 σ H1 x v _ I1 r1 q1) fun _ s2 q => q
theorem ps_set {i : Nat} {x : Str} {e : Expr} {te : TE} {pos' : Pos} (hN : X.N.Nodup) (hi : X.N[i]? = some x) (hx : Loc X.env.scope x) (he : PE X e te) (hs : swapsWith e (some (.Name x pos')) pos.line X.env = pure false := by rfl) (hf : X.fn x = true ∨ X.env.scope.names.lookup x = some .local := by first | exact .inl rfl | exact .inr rfl | assumption) :
    PS X (.Assign [.Name x pos'] e pos) (tAsg te (gName i)) := by
  intro pins s σ H D I h
  refine wpAny_Assign_Name (thn (he pins s σ H _ I h) fun v s1 ⟨y, H1, I1, r1, q1⟩ => ?_) hs
  exact store_ok I1 hN hi hx r1 (fun s2 I2 => ⟨_, H1, I2, q1⟩) hf
end
section
variable {X : Cx} {pos : Pos}
def tWhile (c : TT) (tb : TS) : TS := fun D σ H => ∃ W : Nat → St → Hp → Prop, (∃ m, W m σ H) ∧ ∀ m σ H, W m σ H →
  c σ H fun b H1 => if b = true then ∃ N : St → Hp → Prop, (∀ σ' H', N σ' H' → ∃ m', m' < m ∧ W m' σ' H') ∧ tb { D with nx := N, ct := N, bk := D.nx } σ H1 else D.nx σ H1
theorem ps_while {c : Expr} {body : List Stmt} {tc : TT} {tb : TS} (hp : PassesOwn (model X.prog X.w) X.A X.env X.xe) (hc : PT X c tc) (hb : PSs X body tb) : PS X (.While c body [] pos) (tWhile tc tb) := by
  intro pins s σ H D I h
  obtain ⟨W, ⟨m0, w0⟩, turn⟩ := h
  refine wpAny_While (codeAny_whileLoop (fun n s' => ∃ σ' H', Inv X pins σ' H' s' ∧ W n σ' H') ?_ m0 ⟨σ, H, I, w0⟩)
  rintro n s1 ⟨σ1, H1, I1, w1⟩
  refine wpAny_passesOwn hp (thn (hc pins s1 σ1 H1 _ I1 (turn n σ1 H1 w1)) fun b s2 ⟨H2, I2, q2⟩ => ?_)
  cases b with
  | true =>
    obtain ⟨N, hN, q2⟩ := q2
    rw [if_pos rfl]
    refine wpAny_passesOwn hp (thn (hb pins s2 σ1 H2 _ I2 q2) fun f s3 q3 => ?_)
    cases f with
    | next =>
      obtain ⟨σ3, H3, I3, n3⟩ := q3
      obtain ⟨m', hm, w3⟩ := hN σ3 H3 n3
      exact ⟨m', hm, σ3, H3, I3, w3⟩
    | cont =>
      obtain ⟨σ3, H3, I3, n3⟩ := q3
      obtain ⟨m', hm, w3⟩ := hN σ3 H3 n3
      exact ⟨m', hm, σ3, H3, I3, w3⟩
    | brk => exact q3
    | ret v => exact q3
  | false =>
    rw [if_neg Bool.false_ne_true]
    exact wpAny_execs_nil ⟨σ1, H2, I2, q2⟩
end
structure It where
  go : Nat → Hp → Prop
  yld : Nat → Hp → V → Hp → Prop
  stop : Nat → Hp → Prop
def FpOk (X : Cx) (pins : List (Addr × Obj)) (H : Hp) (b : Addr) : Prop :=
  H b = none ∧ b ≠ X.env.locals ∧ b ∉ X.fs ∧ (b ∈ X.ex ∨ X.s₀.heap.objs.size ≤ b) ∧ (∀ x c, X.env.cells.lookup x = some c → c ≠ b) ∧ ∀ p ∈ X.pn ++ pins, p.1 ≠ b
theorem Inv.fpOk {X : Cx} {pins : List (Addr × Obj)} {σ : St} {H H' : Hp} {s : Shared} {b : Addr} (I : Inv X pins σ H s) (hb : s.heap.objs.size ≤ b) (hn : H' b = none) : FpOk X pins H' b := by
  refine ⟨hn, Nat.ne_of_gt (Nat.lt_of_lt_of_le I.lt hb), I.nofs hb, .inr (Nat.le_trans I.sz hb), fun x c e z => ?_, fun p hp z => ?_⟩
  · obtain ⟨v, q⟩ := I.cell x c e
    exact absurd (Nat.lt_of_lt_of_le q.lt (by rw [z]; exact hb)) (Nat.lt_irrefl _)
  · exact absurd (Nat.lt_of_lt_of_le (Heap.lt_size (I.pin p hp).1) (by rw [z]; exact hb)) (Nat.lt_irrefl _)
structure Turn (P : Program) (w : World) (K : PySem.W.Frag) (tg : Expr) (J : It) (fp : List Addr) (it : Addr) (tn : Nat → Heap → Prop) : Prop where
  mem : it ∈ fp
  obj : ∀ i h, tn i h → ∀ b ∈ fp, ∃ o, h.get? b = some o ∧ ∀ v, o.data ≠ .cell v
  keep : ∀ i h h', tn i h → (∀ b ∈ fp, ∀ o, h.get? b = some o → h'.get? b = some o) → tn i h'
  item : ∀ (X : Cx), X.prog = P → X.w = w → X.K = K → X.calm = true → ∀ (i : Nat) (pins : List (Addr × Obj)) (s : Shared) (σ : St) (H : Hp) (E : Value → Shared → Prop), Inv X pins σ H s → (∀ b ∈ fp, FpOk X pins H b) → tn i s.heap → J.go i H →
    wpAny (model P w) X.A (pyNext (.ref it)) (fun r s1 => ∃ u, r = some u ∧
      wpAny (model P w) X.A (letOwnedTupleGo tg (.ref it) u) (fun _ s2 => ∃ x H', Inv X pins σ H' s2 ∧ RelV x u ∧ J.yld i H x H' ∧ tn (i + 1) s2.heap ∧ ∀ b ∈ fp, H' b = none) E s1) E s
  done : ∀ (X : Cx), X.prog = P → X.w = w → X.K = K → X.calm = true → ∀ (i : Nat) (pins : List (Addr × Obj)) (s : Shared) (σ : St) (H : Hp) (E : Value → Shared → Prop), Inv X pins σ H s → (∀ b ∈ fp, FpOk X pins H b) → tn i s.heap → J.stop i H →
    wpAny (model P w) X.A (pyNext (.ref it)) (fun r s1 => r = none ∧ Inv X pins σ H s1) E s
  self : ∀ (A : Around) (i : Nat) (s : Shared) (Q : Value → Shared → Prop) (E : Value → Shared → Prop), tn i s.heap → Q (.ref it) s → wpAny (model P w) A (pyIter (.ref it)) Q E s
abbrev TI := St → Hp → (It → Hp → Prop) → Prop
def PIE (X : Cx) (pins : List (Addr × Obj)) (σ : St) (tg : Expr) (R : It → Hp → Prop) (itv : Value) (s2 : Shared) : Prop :=
  ∃ (it : Addr) (fp : List Addr) (tn : Nat → Heap → Prop) (J : It) (H' : Hp), itv = .ref it ∧ Inv X pins σ H' s2 ∧ Turn X.prog X.w X.K tg J fp it tn ∧ tn 0 s2.heap ∧ (∀ b ∈ fp, FpOk X pins H' b) ∧ R J H'
def PI (X : Cx) (tg iter : Expr) (wi : TI) : Prop :=
  ∀ (pins : List (Addr × Obj)) (s : Shared) (σ : St) (H : Hp) (R : It → Hp → Prop), Inv X pins σ H s → wi σ H R →
    wpAny (model X.prog X.w) X.A (eval iter X.env) (fun v s1 => wpAny (model X.prog X.w) X.A (pyIter v) (PIE X pins σ tg R) X.xe s1) X.xe s
theorem go_of {M : Model} {A : Around} {E : Value → Shared → Prop} {s : Shared} {tg : Expr} {it : Addr} {u : Value} {o : Obj} {n : String} {vs : Array Value} {Q : Unit → Shared → Prop} (ho : s.heap.get? it = some o) (hc : o.cls = .type n) (hd : o.data = .fields vs)
    (hn : ["enumerate", "zip", "dict_itemiterator", "dict_reverseitemiterator", "odict_iterator", "itertools.zip_longest", "itertools.pairwise"].contains n = false) (hQ : Q () s) : wpAny M A (letOwnedTupleGo tg (.ref it) u) Q E s := by
  unfold letOwnedTupleGo
  cases tg <;> first
    | exact wpAny_pure hQ
    | (cases u <;> first
        | exact wpAny_pure hQ
        | (refine wpAny_bind (wpAny_load ho ?_)
           rw [hc, hd]
           show wpAny M A (if (["enumerate", "zip", "dict_itemiterator", "dict_reverseitemiterator", "odict_iterator", "itertools.zip_longest", "itertools.pairwise"].contains n && vs[0]? == some (rawInt _)) = true then _ else _) Q E s
           rw [if_neg (by intro h; rw [hn, Bool.false_and] at h; cases h)]
           exact wpAny_pure hQ))
def Itl (K : PySem.W.Frag) (a : Addr) : It :=
  ⟨fun i H => ∃ xs x, SqL K H a xs ∧ xs[i]? = some x, fun i H x H' => H' = H ∧ ∀ xs, SqL K H a xs → xs[i]? = some x, fun i H => ∃ xs, SqL K H a xs ∧ xs.length ≤ i⟩
def Itt (K : PySem.W.Frag) (a : Addr) : It :=
  ⟨fun i H => ∃ xs x, SqT K H a xs ∧ xs[i]? = some x, fun i H x H' => H' = H ∧ ∀ xs, SqT K H a xs → xs[i]? = some x, fun i H => ∃ xs, SqT K H a xs ∧ xs.length ≤ i⟩
def Itr (lo : Int) (n : Nat) : It := ⟨fun i _ => i < n, fun i H x H' => H' = H ∧ x = .int (lo + i), fun i _ => n ≤ i⟩
theorem turn_list {P : Program} {w : World} {K : PySem.W.Frag} {tg : Expr} (a it : Addr) : Turn P w K tg (Itl K a) [it] it (fun i h => h.IsListIter it a i) where
  mem := by simp
  obj := fun i h st b hb => by
    have e : b = it := by simpa using hb
    subst e
    obtain ⟨o, e, c, d⟩ := st
    exact ⟨o, e, fun v z => by rw [d] at z; cases z⟩
  keep := fun i h h' st k => st.at fun o e => k it (by simp) o e
  item := by
    intro X hP hw hK hc i pins s σ H E I hf st hg
    subst hP hw hK
    obtain ⟨xs, x, hq, hx⟩ := hg
    obtain ⟨its, rv, p, hz⟩ := I.list hq
    obtain ⟨u, hu, ru⟩ := rv.get hx
    obtain ⟨f0, f1, f2, f3, f4, f5⟩ := hf it (by simp)
    refine wpAny_pyNext_list_item st p.isList (x := u) (by simpa using hu) fun h' st' sb => ?_
    have I1 : Inv X pins σ H { s with heap := h' } := I.turned (t' := s.toks) (fun b o hb e => (sb.2 b hb).trans e) f0 f1 f3 f4 f5
    obtain ⟨o, e, c, d⟩ := id st'
    exact ⟨u, rfl, go_of (s := { s with heap := h' }) e c d (by decide) ⟨x, H, I1, ru, ⟨rfl, fun ys hy => by rw [I.list_inj hy hq]; exact hx⟩, st', fun b hb => (hf b hb).1⟩⟩
  done := by
    intro X hP hw hK hc i pins s σ H E I hf st hg
    subst hP hw hK
    obtain ⟨xs, hq, hx⟩ := hg
    obtain ⟨its, rv, p, hz⟩ := I.list hq
    obtain ⟨f0, f1, f2, f3, f4, f5⟩ := hf it (by simp)
    have hl := rv.length
    exact wpAny_pyNext_list_end (I.ok.hd hc) st p.isList (by simp; omega) fun h' eb => ⟨rfl, I.turned (t' := s.toks) (fun b o hb e => eb b o hb e) f0 f1 f3 f4 f5⟩
  self := fun _ _ _ _ _ st h => wpAny_pyIter_listiter st h
theorem turn_tuple {P : Program} {w : World} {K : PySem.W.Frag} {tg : Expr} (a it : Addr) : Turn P w K tg (Itt K a) [it] it (fun i h => h.IsTupleIter it a i) where
  mem := by simp
  obj := fun i h st b hb => by
    have e : b = it := by simpa using hb
    subst e
    obtain ⟨o, e, c, d⟩ := st
    exact ⟨o, e, fun v z => by rw [d] at z; cases z⟩
  keep := fun i h h' st k => st.at fun o e => k it (by simp) o e
  item := by
    intro X hP hw hK hc i pins s σ H E I hf st hg
    subst hP hw hK
    obtain ⟨xs, x, hq, hx⟩ := hg
    obtain ⟨its, rv, p, hz⟩ := I.tuple hq
    obtain ⟨u, hu, ru⟩ := rv.get hx
    obtain ⟨f0, f1, f2, f3, f4, f5⟩ := hf it (by simp)
    refine wpAny_pyNext_tuple_item st (show s.heap.IsTuple a its.toArray from p) (x := u) (by simpa using hu) fun h' st' sb => ?_
    have I1 : Inv X pins σ H { s with heap := h' } := I.turned (t' := s.toks) (fun b o hb e => (sb.2 b hb).trans e) f0 f1 f3 f4 f5
    obtain ⟨o, e, c, d⟩ := id st'
    exact ⟨u, rfl, go_of (s := { s with heap := h' }) e c d (by decide) ⟨x, H, I1, ru, ⟨rfl, fun ys hy => by rw [I.tuple_inj hy hq]; exact hx⟩, st', fun b hb => (hf b hb).1⟩⟩
  done := by
    intro X hP hw hK hc i pins s σ H E I hf st hg
    subst hP hw hK
    obtain ⟨xs, hq, hx⟩ := hg
    obtain ⟨its, rv, p, hz⟩ := I.tuple hq
    obtain ⟨f0, f1, f2, f3, f4, f5⟩ := hf it (by simp)
    have hl := rv.length
    exact wpAny_pyNext_tuple_end (I.ok.hd hc) st (show s.heap.IsTuple a its.toArray from p) (by simp; omega) fun h' eb => ⟨rfl, I.turned (t' := s.toks) (fun b o hb e => eb b o hb e) f0 f1 f3 f4 f5⟩
  self := fun _ _ _ _ _ st h => wpAny_pyIter_tupleiter st h
theorem turn_range {P : Program} {w : World} {K : PySem.W.Frag} {tg : Expr} (it : Addr) (lo : Int) (n : Nat) : Turn P w K tg (Itr lo n) [it] it (fun i h => IsRangeIter h it (lo + (i : Nat) * 1) ((n : Int) - (i : Nat)) 1) where
  mem := by simp
  obj := fun i h st b hb => by
    have e : b = it := by simpa using hb
    subst e
    exact ⟨_, st, fun v z => by
      have z' : Data.fields _ = Data.cell v := z
      cases z'⟩
  keep := fun i h h' st k => k it (by simp) _ st
  item := by
    intro X hP hw hK hc i pins s σ H E I hf st hg
    subst hP hw hK
    obtain ⟨f0, f1, f2, f3, f4, f5⟩ := hf it (by simp)
    have W := Walks.range (prog := X.prog) (w := X.w) (I.ok.hd hc) it lo 1 n
    refine W.item i s _ _ hg st fun v h' tk hv st' kk => ?_
    obtain ⟨t, rfl⟩ := hv
    have I1 : Inv X pins σ H { s with heap := h', toks := tk } := I.turned (fun b o hb e => kk b o (by simpa using hb) e) f0 f1 f3 f4 f5
    refine ⟨_, rfl, go_of (s := { s with heap := h', toks := tk }) (n := "range_iterator") st' rfl rfl (by decide) ⟨.int (lo + i), H, I1, ⟨t, ?_⟩, ⟨rfl, rfl⟩, st', fun b hb => (hf b hb).1⟩⟩
    rw [Int.mul_one]
  done := by
    intro X hP hw hK hc i pins s σ H E I hf st hg
    subst hP hw hK
    obtain ⟨f0, f1, f2, f3, f4, f5⟩ := hf it (by simp)
    exact wpAny_pyNext_range_end (I.ok.hd hc) st (by have : n ≤ i := hg; omega) fun h' eb => ⟨rfl, I.turned (t' := s.toks) (fun b o hb e => eb b o hb e) f0 f1 f3 f4 f5⟩
  self := fun _ _ _ _ _ st h => wpAny_pyIter_rangeiter st h
end L2
namespace L2
open PySem PySem.Spec PyProof.Rows
section
variable {X : Cx} {tg : Expr}
theorem range_it {pins : List (Addr × Obj)} {σ : St} {H : Hp} {s : Shared} {R : It → Hp → Prop} {E : Value → Shared → Prop} {lo hi : Int} {t u v : Tok} {tk : Nat} (I : Inv X pins σ H s) (h1 : -(2 ^ 62) ≤ lo) (h2 : lo < 2 ^ 62) (h3 : -(2 ^ 62) ≤ hi) (h4 : hi < 2 ^ 62)
    (q : R (Itr lo (hi - lo).toNat) H) : wpAny (model X.prog X.w) X.A (pyIter (.ref s.heap.objs.size)) (PIE X pins σ tg R) E { s with heap := s.heap.push { cls := .type "range", data := .fields #[.int lo t, .int hi u, .int 1 v] }, toks := tk } := by
  refine wpAny_pyIter_range (IsRange.new ..) (small_one h1 h2 h3 h4) ?_
  have I1 : Inv X pins σ H { s with heap := s.heap.push { cls := .type "range", data := .fields #[.int lo t, .int hi u, .int 1 v] }, toks := tk } := I.kept fun b o e => Heap.get?_push_of_some _ e
  refine ⟨(s.heap.push { cls := .type "range", data := .fields #[.int lo t, .int hi u, .int 1 v] }).objs.size, [(s.heap.push { cls := .type "range", data := .fields #[.int lo t, .int hi u, .int 1 v] }).objs.size], _, _, H, rfl,
    I1.kept (t' := tk) fun b o e => Heap.get?_push_of_some _ e, turn_range _ lo (hi - lo).toNat, ?_, fun b hb => ?_, q⟩
  · have e1 : lo + ((0 : Nat) : Int) * 1 = lo := by simp
    have e2 : (((hi - lo).toNat : Nat) : Int) - ((0 : Nat) : Int) = Builtin.Range.rangeSize lo hi 1 := by rw [rangeSize_one]; split <;> omega
    show IsRangeIter _ _ (lo + ((0 : Nat) : Int) * 1) ((((hi - lo).toNat : Nat) : Int) - ((0 : Nat) : Int)) 1
    rw [e1, e2]
    exact Heap.get?_push_size _ rfl
  · have e : b = (s.heap.push { cls := .type "range", data := .fields #[.int lo t, .int hi u, .int 1 v] }).objs.size := by simpa using hb
    subst e
    exact I1.fpOk (Nat.le_refl _) (I1.hok.fresh (Nat.le_refl _))
def iRng1 (ta : TA) : TI := fun σ H R => ta σ H fun vs H1 => ∃ j : Int, vs = [.int j] ∧ -(2 ^ 62) ≤ j ∧ j < 2 ^ 62 ∧ R (Itr 0 j.toNat) H1
theorem pi_range1 {a : Expr} {ta : TA} {p pos : Pos} (hg : Gl X "range") (hm : X.mg "range" = none) (ha : PA X [a] ta) (hs : starEach [a] X.env = [(false, eval a X.env)] := by rfl) : PI X tg (.Call (.Name "range" p) [a] [] pos) (iRng1 ta) := by
  intro pins s σ H R I h
  refine Call_ (ld_blt I hg hm boot_range (PyProof.Rows.callWith_type1 (thn (ha pos pins s σ H _ I h) fun us s1 ⟨vs, H1, I1, r1, q1⟩ => ?_) hs rfl))
  obtain ⟨j, e, q1, q2, q⟩ := q1
  subst e
  cases r1 with
  | cons r rr =>
    cases rr
    obtain ⟨t, rfl⟩ := r
    exact call_range_1 (range_it I1 (by omega) (by omega) q1 q2 (by simpa using q))
def tFor (wi : TI) (g : TG) (tb : TS) : TS := fun D σ H => wi σ H fun J H1 => ∃ W : Nat → Nat → St → Hp → Prop, (∃ m, W 0 m σ H1) ∧ ∀ i m σ H, W i m σ H →
  (J.stop i H ∧ D.nx σ H) ∨ (J.go i H ∧ ∃ N : St → Hp → Prop, (∀ σ' H', N σ' H' → ∃ m', m' < m ∧ W (i + 1) m' σ' H') ∧ ∀ x H', J.yld i H x H' → g x σ H' fun σ2 H2 => tb { D with nx := N, ct := N, bk := D.nx } σ2 H2)
def pinsAt (fp : List Addr) (h : Heap) : List (Addr × Obj) := fp.filterMap fun b => (h.get? b).map fun o => (b, o)
theorem mem_pinsAt {fp : List Addr} {h : Heap} {b : Addr} {o : Obj} (hb : b ∈ fp) (e : h.get? b = some o) : (b, o) ∈ pinsAt fp h := List.mem_filterMap.mpr ⟨b, hb, by rw [e]; rfl⟩
theorem of_pinsAt {fp : List Addr} {h : Heap} {p : Addr × Obj} (hp : p ∈ pinsAt fp h) : p.1 ∈ fp ∧ h.get? p.1 = some p.2 := by
  obtain ⟨b, hb, e⟩ := List.mem_filterMap.mp hp
  cases q : h.get? b with
  | none => rw [q] at e; cases e
  | some o =>
    rw [q] at e
    have e' : (b, o) = p := Option.some.inj e
    subst e'
    exact ⟨hb, q⟩
theorem Inv.pinned {pins : List (Addr × Obj)} {σ : St} {H : Hp} {s : Shared} {fp : List Addr} (I : Inv X pins σ H s) (hf : ∀ b ∈ fp, FpOk X pins H b) (ho : ∀ b ∈ fp, ∃ o, s.heap.get? b = some o ∧ ∀ v, o.data ≠ .cell v) : Inv X (pins ++ pinsAt fp s.heap) σ H s :=
  I.pins_of fun p hp => (List.mem_append.mp hp).elim (fun z => I.pin p (List.mem_append_right _ z)) fun z => by
    obtain ⟨hb, e⟩ := of_pinsAt z
    obtain ⟨f0, f1, f2, _⟩ := hf p.1 hb
    obtain ⟨o, e', d⟩ := ho p.1 hb
    rw [e] at e'; cases e'
    exact ⟨e, f0, f1, f2, d⟩
theorem Inv.unpinned {pins pl : List (Addr × Obj)} {σ : St} {H : Hp} {s : Shared} (I : Inv X (pins ++ pl) σ H s) : Inv X pins σ H s := I.pins_of fun p hp => I.pin p (List.mem_append_right _ (List.mem_append_left _ hp))
theorem ps_for {iter : Expr} {body : List Stmt} {wi : TI} {g : TG} {tb : TS} {pos : Pos} (hp : PassesOwn (model X.prog X.w) X.A X.env X.xe) (hc : X.calm = true) (hi : PI X tg iter wi) (hg : PG X tg g) (hb : PSs X body tb)
    (hs : ∀ x, foldedSetIterable iter X.env x = pure x := by intro _; rfl) : PS X (.For tg iter body [] pos) (tFor wi g tb) := by
  intro pins s σ H D I h
  refine wpAny_For (thn (hi pins s σ H _ I h) fun v s1 h1 => thn h1 fun itv s2 h2 => ?_) hs
  obtain ⟨it, fp, tn, J, H2, e, I2, T, st2, f2, W, ⟨m0, w0⟩, turn⟩ := h2
  subst e
  -- what stays true of the iterator's objects through the loop
  have stat : ∀ {H' : Hp}, (∀ b ∈ fp, H' b = none) → ∀ b ∈ fp, FpOk X pins H' b := fun hn b hb => ⟨hn b hb, (f2 b hb).2⟩
  refine codeAny_forLoop_any (fun n s' => ∃ i σ' H', Inv X pins σ' H' s' ∧ tn i s'.heap ∧ (∀ b ∈ fp, H' b = none) ∧ W i n σ' H') ?_ m0 ⟨0, σ, H2, I2, st2, fun b hb => (f2 b hb).1, w0⟩
  rintro n s3 ⟨i, σ3, H3, I3, st3, fr3, w3⟩
  rcases turn i n σ3 H3 w3 with ⟨stop, qn⟩ | ⟨go, N, hN, step⟩
  · refine wpAny_passesOwn hp (thn (T.done X rfl rfl rfl hc i pins s3 σ3 H3 X.xe I3 (stat fr3) st3 stop) fun r s4 ⟨hr, I4⟩ => ?_)
    subst hr
    exact wpAny_execs_nil ⟨σ3, H3, I4, qn⟩
  · refine wpAny_passesOwn hp (thn (T.item X rfl rfl rfl hc i pins s3 σ3 H3 X.xe I3 (stat fr3) st3 go) fun r s4 ⟨u, hr, h4⟩ => ?_)
    subst hr
    refine wpAny_passesOwn hp (thn h4 fun _ s5 ⟨x, H5, I5, r5, y5, st5, fr5⟩ => ?_)
    have I5' := I5.pinned (stat fr5) (T.obj _ _ st5)
    refine wpAny_passesOwn hp (thn (hg _ s5 σ3 H5 x u _ I5' r5 (step x H5 y5)) fun _ s6 ⟨σ6, H6, I6, q6⟩ => ?_)
    refine wpAny_passesOwn hp (thn (hb _ s6 σ6 H6 _ I6 q6) fun f s7 q7 => ?_)
    have again : ∀ {σ7 : St} {H7 : Hp}, Inv X (pins ++ pinsAt fp s5.heap) σ7 H7 s7 → N σ7 H7 → ∃ m, m < n ∧ ∃ i σ' H', Inv X pins σ' H' s7 ∧ tn i s7.heap ∧ (∀ b ∈ fp, H' b = none) ∧ W i m σ' H' := fun {σ7 H7} I7 n7 => by
      obtain ⟨m', hm, w7⟩ := hN σ7 H7 n7
      refine ⟨m', hm, i + 1, σ7, H7, I7.unpinned, T.keep _ _ _ st5 fun b hb o e => (I7.pin (b, o) (List.mem_append_right _ (List.mem_append_right _ (mem_pinsAt hb e)))).1, fun b hb => ?_, w7⟩
      obtain ⟨o, e, d⟩ := T.obj _ _ st5 b hb
      exact (I7.pin (b, o) (List.mem_append_right _ (List.mem_append_right _ (mem_pinsAt hb e)))).2.1
    cases f with
    | next => obtain ⟨σ7, H7, I7, n7⟩ := q7; exact again I7 n7
    | cont => obtain ⟨σ7, H7, I7, n7⟩ := q7; exact again I7 n7
    | brk => obtain ⟨σ7, H7, I7, q7⟩ := q7; exact ⟨σ7, H7, I7.unpinned, q7⟩
    | ret v => obtain ⟨x7, σ7, H7, I7, r7, q7⟩ := q7; exact ⟨x7, σ7, H7, I7.unpinned, r7, q7⟩
end
end L2
namespace L2
open PySem PySem.Spec PyProof.Rows
abbrev R2 := V → V → Hp → VK → Prop
def OpR (X : Cx) (f : Value → Value → Sem Value) (r : R2) : Prop :=
  ∀ (pins : List (Addr × Obj)) (s : Shared) (σ : St) (H : Hp) (x y : V) (v u : Value) (Q : VK), Inv X pins σ H s → RelV x v → RelV y u → r x y H Q →
    wpAny (model X.prog X.w) X.A (f v u) (EP X pins σ Q) X.xe s
def UnR (X : Cx) (f : Value → Sem Value) (r : V → Hp → VK → Prop) : Prop :=
  ∀ (pins : List (Addr × Obj)) (s : Shared) (σ : St) (H : Hp) (x : V) (v : Value) (Q : VK), Inv X pins σ H s → RelV x v → r x H Q →
    wpAny (model X.prog X.w) X.A (f v) (EP X pins σ Q) X.xe s
def CallR (X : Cx) (f : Value) (r : List V → Hp → VK → Prop) : Prop :=
  ∀ (pins : List (Addr × Obj)) (s : Shared) (σ : St) (H : Hp) (xs : List V) (us : List Value) (Q : VK), Inv X pins σ H s → Vals xs us → r xs H Q →
    wpAny (model X.prog X.w) X.A (call f us) (EP X pins σ Q) X.xe s
def TruR (X : Cx) (r : V → Hp → (Bool → Hp → Prop) → Prop) : Prop :=
  ∀ (pins : List (Addr × Obj)) (s : Shared) (σ : St) (H : Hp) (x : V) (v : Value) (Q : Bool → Hp → Prop), Inv X pins σ H s → RelV x v → r x H Q →
    wpAny (model X.prog X.w) X.A (truthy v) (TP X pins σ Q) X.xe s
def tOp (r : R2) (ta tb : TE) : TE := fun σ H Q => ta σ H fun x H1 => tb σ H1 fun y H2 => r x y H2 Q
def tUn (r : V → Hp → VK → Prop) (ta : TE) : TE := fun σ H Q => ta σ H fun x H1 => r x H1 Q
def rI (C : Int → Int → Prop) (g : Int → Int → V) : R2 := fun x y H Q => ∃ i j, x = .int i ∧ y = .int j ∧ C i j ∧ Q (g i j) H
def rI0 (g : Int → Int → V) : R2 := fun x y H Q => ∃ i j, x = .int i ∧ y = .int j ∧ Q (g i j) H
def rU (g : Int → V) : V → Hp → VK → Prop := fun x H Q => ∃ i, x = .int i ∧ Q (g i) H
section
variable {X : Cx} {a b c : Expr} {ta tb tc : TE} {pos : Pos}
theorem binT (ha : PE X a ta) (hb : PE X b tb) {pins : List (Addr × Obj)} {s : Shared} {σ : St} {H : Hp} {R : V → V → Hp → Prop} (I : Inv X pins σ H s)
    (h : ta σ H fun x H1 => tb σ H1 fun y H2 => R x y H2) {Q : Value → Shared → Prop} {f : Value → Value → Sem Value}
    (hf : ∀ v u s2 x y H2, Inv X pins σ H2 s2 → RelV x v → RelV y u → R x y H2 → wpAny (model X.prog X.w) X.A (f v u) Q X.xe s2) :
    wpAny (model X.prog X.w) X.A (eval a X.env) (fun v s₁ => wpAny (model X.prog X.w) X.A (eval b X.env) (fun u s₂ => wpAny (model X.prog X.w) X.A (f v u) Q X.xe s₂) X.xe s₁) X.xe s := by
  refine thn (ha pins s σ H _ I h) fun v s1 ⟨x, H1, I1, r1, q1⟩ => ?_
  refine thn (hb pins s1 σ H1 _ I1 q1) fun u s2 ⟨y, H2, I2, r2, q2⟩ => ?_
  exact hf v u s2 x y H2 I2 r1 r2 q2
theorem pe_op {op : Operator} {r : R2} (ho : OpR X (binaryOp op) r) (ha : PE X a ta) (hb : PE X b tb) : PE X (.BinOp a op b pos) (tOp r ta tb) := by
  intro pins s σ H Q I h
  exact wpAny_BinOp (binT ha hb I h fun v u s2 x y H2 I2 rx ry q => ho pins s2 σ H2 x y v u Q I2 rx ry q)
theorem pe_un {op : UnaryOp} {r : V → Hp → VK → Prop} (ho : UnR X (unaryOp op) r) (ha : PE X a ta) : PE X (.UnaryOp op a pos) (tUn r ta) := by
  intro pins s σ H Q I h
  exact UnaryOp_ (thn (ha pins s σ H _ I h) fun v s1 ⟨x, H1, I1, r1, q1⟩ => ho pins s1 σ H1 x v Q I1 r1 q1)
theorem opI {f : Value → Value → Sem Value} {C : Int → Int → Prop} {g : Int → Int → Int}
    (rule : ∀ (i j : Int) (t u : Tok) (s : Shared) (Q : Value → Shared → Prop) (E : Value → Shared → Prop), C i j → Q (.int (g i j) s.toks) { s with toks := s.toks + 1 } → wpAny (model X.prog X.w) X.A (f (.int i t) (.int j u)) Q E s) :
    OpR X f (rI C fun i j => .int (g i j)) := by
  intro pins s σ H x y v u Q I rx ry h
  obtain ⟨i, j, rfl, rfl, hc, q⟩ := h
  obtain ⟨t, rfl⟩ := rx
  obtain ⟨t', rfl⟩ := ry
  exact rule i j t t' s _ _ hc ⟨.int (g i j), H, I.tok _, ⟨_, rfl⟩, q⟩
theorem opI0 {f : Value → Value → Sem Value} {g : Int → Int → Int}
    (rule : ∀ (i j : Int) (t u : Tok) (s : Shared) (Q : Value → Shared → Prop) (E : Value → Shared → Prop), Q (.int (g i j) s.toks) { s with toks := s.toks + 1 } → wpAny (model X.prog X.w) X.A (f (.int i t) (.int j u)) Q E s) :
    OpR X f (rI0 fun i j => .int (g i j)) := by
  intro pins s σ H x y v u Q I rx ry h
  obtain ⟨i, j, rfl, rfl, q⟩ := h
  obtain ⟨t, rfl⟩ := rx
  obtain ⟨t', rfl⟩ := ry
  exact rule i j t t' s _ _ ⟨.int (g i j), H, I.tok _, ⟨_, rfl⟩, q⟩
theorem opB0 {f : Value → Value → Sem Value} {g : Int → Int → Bool}
    (rule : ∀ (i j : Int) (t u : Tok) (s : Shared) (Q : Value → Shared → Prop) (E : Value → Shared → Prop), Q (.bool (g i j)) s → wpAny (model X.prog X.w) X.A (f (.int i t) (.int j u)) Q E s) :
    OpR X f (rI0 fun i j => .bl (g i j)) := by
  intro pins s σ H x y v u Q I rx ry h
  obtain ⟨i, j, rfl, rfl, q⟩ := h
  obtain ⟨t, rfl⟩ := rx
  obtain ⟨t', rfl⟩ := ry
  exact rule i j t t' s _ _ ⟨.bl (g i j), H, I, rfl, q⟩
def CPow (i j : Int) : Prop := 0 ≤ j ∧ j ≤ 1000000 ∧ i.natAbs < 2 ^ 64
def CMul (i j : Int) : Prop := (-(2 ^ 64) < i ∧ i < 2 ^ 64) ∨ (-(2 ^ 64) < j ∧ j < 2 ^ 64)
theorem CMul.ok {i j : Int} (h : CMul i j) : IntMulOk i j := by
  rcases h with ⟨h1, h2⟩ | ⟨h1, h2⟩
  · exact .of_left (intBits_le_64 h1 h2)
  · exact .of_right (intBits_le_64 h1 h2)
theorem op_add : OpR X (binaryOp .Add) (rI0 fun i j => .int (i + j)) := opI0 fun _ _ _ _ _ _ _ q => add_int q
theorem op_sub : OpR X (binaryOp .Sub) (rI0 fun i j => .int (i - j)) := opI0 fun _ _ _ _ _ _ _ q => sub_int q
theorem op_mul : OpR X (binaryOp .Mult) (rI CMul fun i j => .int (i * j)) := opI fun _ _ _ _ _ _ _ hc q => mul_int q hc.ok
theorem op_mod : OpR X (binaryOp .Mod) (rI (fun _ j => 0 < j) fun i j => .int (i % j)) := opI fun i j _ _ _ _ _ hc q => by
  have h1 : (0 : Int) < j := hc
  exact mod_int' (by omega) (by rw [Int.fmod_eq_emod_of_nonneg i (by omega)]; exact q)
theorem op_pow : OpR X (binaryOp .Pow) (rI CPow fun i j => .int (i ^ j.toNat)) := opI fun _ _ _ _ _ _ _ hc q => pow_int_small hc.1 hc.2.1 hc.2.2 q
theorem unI {f : Value → Sem Value} {g : Int → Int}
    (rule : ∀ (i : Int) (t : Tok) (s : Shared) (Q : Value → Shared → Prop) (E : Value → Shared → Prop), Q (.int (g i) s.toks) { s with toks := s.toks + 1 } → wpAny (model X.prog X.w) X.A (f (.int i t)) Q E s) :
    UnR X f (rU fun i => .int (g i)) := by
  intro pins s σ H x v Q I rx h
  obtain ⟨i, rfl, q⟩ := h
  obtain ⟨t, rfl⟩ := rx
  exact rule i t s _ _ ⟨.int (g i), H, I.tok _, ⟨_, rfl⟩, q⟩
theorem un_neg : UnR X (unaryOp .USub) (rU fun i => .int (-i)) := unI fun _ _ _ _ _ q => neg_int q
end
def scal : V → V → Bool
  | .non, .non => true | .non, .int _ => true | .int _, .non => true | .non, .bl _ => true | .bl _, .non => true | .non, .str _ => true | .str _, .non => true
  | .int _, .int _ => true | .bl _, .bl _ => true | .str _, .str _ => true | .byt _, .byt _ => true
  | .int _, .str _ => true | .str _, .int _ => true | .bl _, .str _ => true | .str _, .bl _ => true
  | _, _ => false
def rEq : R2 := fun x y H Q => scal x y = true ∧ Q (.bl (decide (x = y))) H
def rNe : R2 := fun x y H Q => scal x y = true ∧ Q (.bl (!decide (x = y))) H
theorem dec_int {i j : Int} : decide (V.int i = V.int j) = (i == j) := by
  rw [Bool.eq_iff_iff]
  simp
theorem dec_bl {i j : Bool} : decide (V.bl i = V.bl j) = (i == j) := by
  rw [Bool.eq_iff_iff]
  simp
theorem dec_str {i j : Str} : decide (V.str i = V.str j) = (i == j) := by
  rw [Bool.eq_iff_iff]
  simp
theorem dec_byt {i j : Array UInt8} : decide (V.byt i = V.byt j) = (i.toList == j.toList) := by
  rw [Bool.eq_iff_iff]
  cases i
  cases j
  simp
section
variable {X : Cx} {a b c : Expr} {ta tb tc : TE} {pos : Pos}
theorem fin_bl {pins : List (Addr × Obj)} {σ : St} {H : Hp} {s : Shared} {Q : VK} {k k' : Bool} (I : Inv X pins σ H s) (q : Q (.bl k) H) (e : k = k') : EP X pins σ Q (.bool k') s := by
  subst e
  exact ⟨.bl k, H, I, rfl, q⟩
theorem op_eq : OpR X (compareOp .Eq) rEq := by
  intro pins s σ H x y v u Q I rx ry h
  obtain ⟨hs, q⟩ := h
  cases x with
  | non =>
    cases rx
    cases y with
    | non => cases ry; exact PySem.EqNone.eq_none_none (fin_bl I q (by simp))
    | bl j => cases ry; exact PySem.EqNone.eq_none_bool (fin_bl I q (by simp))
    | int j => obtain ⟨t', rfl⟩ := ry; exact PySem.EqNone.eq_none_int (fin_bl I q (by simp))
    | str j => obtain ⟨t', rfl⟩ := ry; exact PySem.EqNone.eq_none_str (fin_bl I q (by simp))
    | _ => exact absurd (show false = true from hs) Bool.false_ne_true
  | bl i =>
    cases rx
    cases y with
    | non => cases ry; exact PySem.EqNone.eq_bool_none (fin_bl I q (by simp))
    | bl j => cases ry; exact eq_bool (fin_bl I q dec_bl)
    | str j => obtain ⟨t', rfl⟩ := ry; exact PySem.EqMixed.eq_bool_str (fin_bl I q (by simp))
    | _ => exact absurd (show false = true from hs) Bool.false_ne_true
  | int i =>
    obtain ⟨t, rfl⟩ := rx
    cases y with
    | non => cases ry; exact PySem.EqNone.eq_int_none (fin_bl I q (by simp))
    | int j => obtain ⟨t', rfl⟩ := ry; exact eq_int (fin_bl I q dec_int)
    | str j => obtain ⟨t', rfl⟩ := ry; exact PySem.EqMixed.eq_int_str (fin_bl I q (by simp))
    | _ => exact absurd (show false = true from hs) Bool.false_ne_true
  | str i =>
    obtain ⟨t, rfl⟩ := rx
    cases y with
    | non => cases ry; exact PySem.EqNone.eq_str_none (fin_bl I q (by simp))
    | bl j => cases ry; exact PySem.EqMixed.eq_str_bool (fin_bl I q (by simp))
    | int j => obtain ⟨t', rfl⟩ := ry; exact PySem.EqMixed.eq_str_int (fin_bl I q (by simp))
    | str j => obtain ⟨t', rfl⟩ := ry; exact eq_str (fin_bl I q dec_str)
    | _ => exact absurd (show false = true from hs) Bool.false_ne_true
  | byt i =>
    obtain ⟨t, rfl⟩ := rx
    cases y with
    | byt j => obtain ⟨t', rfl⟩ := ry; exact PySem.W.eq_bytes (fin_bl I q dec_byt)
    | _ => exact absurd (show false = true from hs) Bool.false_ne_true
  | _ => cases y <;> exact absurd (show false = true from hs) Bool.false_ne_true
theorem op_ne : OpR X (compareOp .NotEq) rNe := by
  intro pins s σ H x y v u Q I rx ry h
  obtain ⟨hs, q⟩ := h
  cases x with
  | non =>
    cases rx
    cases y with
    | non => cases ry; exact PySem.EqNone.ne_none_none (fin_bl I q (by simp))
    | bl j => cases ry; exact PySem.EqNone.ne_none_bool (fin_bl I q (by simp))
    | int j => obtain ⟨t', rfl⟩ := ry; exact PySem.EqNone.ne_none_int (fin_bl I q (by simp))
    | str j => obtain ⟨t', rfl⟩ := ry; exact PySem.EqNone.ne_none_str (fin_bl I q (by simp))
    | _ => exact absurd (show false = true from hs) Bool.false_ne_true
  | bl i =>
    cases rx
    cases y with
    | non => cases ry; exact PySem.EqNone.ne_bool_none (fin_bl I q (by simp))
    | bl j => cases ry; exact ne_bool (fin_bl I q (congrArg not dec_bl))
    | str j => obtain ⟨t', rfl⟩ := ry; exact PySem.EqMixed.ne_bool_str (fin_bl I q (by simp))
    | _ => exact absurd (show false = true from hs) Bool.false_ne_true
  | int i =>
    obtain ⟨t, rfl⟩ := rx
    cases y with
    | non => cases ry; exact PySem.EqNone.ne_int_none (fin_bl I q (by simp))
    | int j => obtain ⟨t', rfl⟩ := ry; exact ne_int (fin_bl I q (congrArg not dec_int))
    | str j => obtain ⟨t', rfl⟩ := ry; exact PySem.EqMixed.ne_int_str (fin_bl I q (by simp))
    | _ => exact absurd (show false = true from hs) Bool.false_ne_true
  | str i =>
    obtain ⟨t, rfl⟩ := rx
    cases y with
    | non => cases ry; exact PySem.EqNone.ne_str_none (fin_bl I q (by simp))
    | bl j => cases ry; exact PySem.EqMixed.ne_str_bool (fin_bl I q (by simp))
    | int j => obtain ⟨t', rfl⟩ := ry; exact PySem.EqMixed.ne_str_int (fin_bl I q (by simp))
    | str j => obtain ⟨t', rfl⟩ := ry; exact ne_str (fin_bl I q (congrArg not dec_str))
    | _ => exact absurd (show false = true from hs) Bool.false_ne_true
  | byt i =>
    obtain ⟨t, rfl⟩ := rx
    cases y with
    | byt j => obtain ⟨t', rfl⟩ := ry; exact PySem.W.ne_bytes (fin_bl I q (congrArg not dec_byt))
    | _ => exact absurd (show false = true from hs) Bool.false_ne_true
  | _ => cases y <;> exact absurd (show false = true from hs) Bool.false_ne_true
theorem op_lt : OpR X (compareOp .Lt) (rI0 fun i j => .bl (decide (i < j))) := opB0 fun _ _ _ _ _ _ _ q => lt_int q
theorem op_le : OpR X (compareOp .LtE) (rI0 fun i j => .bl (decide (i ≤ j))) := opB0 fun _ _ _ _ _ _ _ q => le_int q
theorem op_gt : OpR X (compareOp .Gt) (rI0 fun i j => .bl (decide (j < i))) := opB0 fun _ _ _ _ _ _ _ q => gt_int q
theorem op_lt_str : OpR X (compareOp .Lt) (fun x y H Q => ∃ i j, x = .str i ∧ y = .str j ∧ Q (.bl (decide (i.cps.toList < j.cps.toList))) H) := by
  intro pins s σ H x y v u Q I rx ry h
  obtain ⟨i, j, rfl, rfl, q⟩ := h
  obtain ⟨t, rfl⟩ := rx
  obtain ⟨t', rfl⟩ := ry
  exact lt_str (fin_bl I q rfl)
theorem op_in_str : OpR X (compareOp .In) (fun x y H Q => ∃ i j, x = .str i ∧ y = .str j ∧ Q (.bl (!(Builtin.Str.occurrences j i 0 j.length 1).isEmpty)) H) := by
  intro pins s σ H x y v u Q I rx ry h
  obtain ⟨i, j, rfl, rfl, q⟩ := h
  obtain ⟨t, rfl⟩ := rx
  obtain ⟨t', rfl⟩ := ry
  exact in_str (fin_bl I q rfl)
theorem op_notin_str : OpR X (compareOp .NotIn) (fun x y H Q => ∃ i j, x = .str i ∧ y = .str j ∧ Q (.bl (!(!(Builtin.Str.occurrences j i 0 j.length 1).isEmpty))) H) := by
  intro pins s σ H x y v u Q I rx ry h
  obtain ⟨i, j, rfl, rfl, q⟩ := h
  obtain ⟨t, rfl⟩ := rx
  obtain ⟨t', rfl⟩ := ry
  exact notIn_str (fin_bl I q rfl)
theorem nomark (b : Expr) {op : CmpOp} (h : op ≠ .In := by decide) (h2 : op ≠ .NotIn := by decide) : behindInMarks op b = false := by
  have e1 : (op == CmpOp.In) = false := by cases op <;> first | rfl | exact absurd rfl h
  have e2 : (op == CmpOp.NotIn) = false := by cases op <;> first | rfl | exact absurd rfl h2
  cases b <;> simp [behindInMarks, e1, e2]
theorem pe_cmpR {op : CmpOp} {r : R2} (ho : OpR X (compareOp op) r) (ha : PE X a ta) (hb : PE X b tb) (hm : behindInMarks op b = false) : PE X (.Compare a [op] [b] pos) (tOp r ta tb) := by
  intro pins s σ H Q I h
  exact wpAny_Compare1 (binT ha hb I h fun v u s2 x y H2 I2 rx ry q => ho pins s2 σ H2 x y v u Q I2 rx ry q) hm
def tTest (t : TE) : TT := fun σ H Q => t σ H fun x H' => ∃ k, x = .bl k ∧ Q k H'
theorem pt_cmpR {op : CmpOp} {r : R2} (ho : OpR X (compareOp op) r) (ha : PE X a ta) (hb : PE X b tb) (hm : behindInMarks op b = false) : PT X (.Compare a [op] [b] pos) (tTest (tOp r ta tb)) := by
  intro pins s σ H Q I h
  refine wpAny_isTrue_Compare1 (thn (ha pins s σ H _ I h) fun v s1 ⟨x, H1, I1, r1, q1⟩ => thn (hb pins s1 σ H1 _ I1 q1) fun u s2 ⟨y, H2, I2, r2, q2⟩ =>
    thn (ho pins s2 σ H2 x y v u _ I2 r1 r2 q2) fun c s3 ⟨z, H3, I3, r3, k, e, q3⟩ => ?_) hm
  subst e
  cases r3
  exact wpAny_truthy_bool ⟨H3, I3, q3⟩
def TruV (K : PySem.W.Frag) (x : V) (H : Hp) (k : Bool) : Prop :=
  match x with
  | .non => k = false
  | .bl b => k = b
  | .int i => k = (i != 0)
  | .str y => y.length ≤ sizeLine ∧ k = ((y.length : Int) != 0)
  | .byt y => y.size ≤ sizeLine ∧ k = ((y.size : Int) != 0)
  | .ref p => (∃ xs, SqL K H p xs ∧ k = !xs.isEmpty) ∨ (∃ xs, SqT K H p xs ∧ k = !xs.isEmpty) ∨ ∃ kvs, H p = some (.dK kvs) ∧ k = !kvs.isEmpty
  | _ => False
theorem isEmpty_kv {κ : Type} {kvs : List (κ × V)} {vs : List (κ × Value)} (r : KV kvs vs) : (!vs.isEmpty) = !kvs.isEmpty := by
  cases r <;> rfl
theorem isEmpty_of {xs : List V} {its : List Value} (r : Vals xs its) : (!its.toArray.isEmpty) = !xs.isEmpty := by
  cases r <;> simp
theorem line63 : (sizeLine : Nat) < 2 ^ 63 := by rw [sizeLine_eq]; decide
theorem tru_ok : TruR X (fun x H Q => ∃ k, TruV X.K x H k ∧ Q k H) := by
  intro pins s σ H x v Q I rx h
  obtain ⟨k, e, q⟩ := h
  have hl := line63
  have hs : sizeLine = 16777216 := sizeLine_eq
  cases x with
  | non =>
    cases rx
    have e' : k = false := e
    subst e'
    exact truthy_none ⟨H, I, q⟩
  | bl b =>
    cases rx
    have e' : k = b := e
    subst e'
    exact wpAny_truthy_bool ⟨H, I, q⟩
  | int i =>
    obtain ⟨t, rfl⟩ := rx
    have e' : k = (i != 0) := e
    subst e'
    exact PySem.P.truthy_int ⟨H, I, q⟩
  | str y =>
    obtain ⟨t, rfl⟩ := rx
    obtain ⟨hy, e'⟩ : y.length ≤ sizeLine ∧ k = ((y.length : Int) != 0) := e
    subst e'
    exact PySem.P.truthy_str (by omega) ⟨H, I.tok _, q⟩
  | byt y =>
    obtain ⟨t, rfl⟩ := rx
    obtain ⟨hy, e'⟩ : y.size ≤ sizeLine ∧ k = ((y.size : Int) != 0) := e
    subst e'
    exact PySem.W.truthy_bytes (by omega) ⟨H, I.tok _, q⟩
  | ref p =>
    cases rx
    have e' : (∃ xs, SqL X.K H p xs ∧ k = !xs.isEmpty) ∨ (∃ xs, SqT X.K H p xs ∧ k = !xs.isEmpty) ∨ ∃ kvs, H p = some (.dK kvs) ∧ k = !kvs.isEmpty := e
    rcases e' with ⟨xs, hx, e'⟩ | ⟨xs, hx, e'⟩ | ⟨kvs, hx, e'⟩
    · subst e'
      obtain ⟨its, r, pl, hz⟩ := I.list hx
      have hlen := r.length
      exact wpAny_truthy_list pl.isList (by simp only [List.size_toArray]; omega) ⟨H, I.tok _, by rw [isEmpty_of r]; exact q⟩
    · subst e'
      obtain ⟨its, r, pl, hz⟩ := I.tuple hx
      have hlen := r.length
      exact truthy_tuple pl (by simp only [List.size_toArray]; omega) ⟨H, I.tok _, by rw [isEmpty_of r]; exact q⟩
    · subst e'
      obtain ⟨hz, hS, vs, r, m⟩ : kvs.length ≤ sizeLine ∧ (p == sysModules) = false ∧ ∃ vs, KV kvs vs ∧ s.heap.DictOf (mixKind X.prog X.w) p vs := I.hok p _ hx
      have hlen : kvs.length = vs.length := Paired.length r
      exact wpAny_truthy_dict hS m (by omega) ⟨H, I.tok _, by rw [isEmpty_kv r]; exact q⟩
  | _ => exact (show False from e).elim
theorem pt_truth (ha : PE X a ta) (he : ∀ whole, isTrue a X.env whole = (do let v ← whole; standAt a.pos; holding [v] (truthy v))) :
    PT X a (fun σ H Q => ta σ H fun x H' => ∃ k, TruV X.K x H' k ∧ Q k H') := by
  intro pins s σ H Q I h
  exact isTrue_plain (thn (ha pins s σ H _ I h) fun v s1 ⟨x, H1, I1, r1, q1⟩ => tru_ok pins s1 σ H1 x v Q I1 r1 q1) (he _)
theorem op_add_str : OpR X (binaryOp .Add) (fun x y H Q => ∃ i j, x = .str i ∧ y = .str j ∧ i.length + j.length ≤ sizeLine ∧ Q (.str (i ++ j)) H) := by
  intro pins s σ H x y v u Q I rx ry h
  obtain ⟨i, j, rfl, rfl, hz, q⟩ := h
  obtain ⟨t, rfl⟩ := rx
  obtain ⟨t', rfl⟩ := ry
  exact add_str (fun t' tk => ⟨.str (i ++ j), H, I.tok _, ⟨_, rfl⟩, q⟩) hz
theorem vals1 {x : V} {us : List Value} (r : Vals [x] us) : ∃ u, us = [u] ∧ RelV x u := by
  cases r with
  | cons r1 r2 => cases r2; exact ⟨_, rfl, r1⟩
theorem vals2 {x y : V} {us : List Value} (r : Vals [x, y] us) : ∃ u w', us = [u, w'] ∧ RelV x u ∧ RelV y w' := by
  cases r with
  | cons r1 r2 =>
    cases r2 with
    | cons r3 r4 => cases r4; exact ⟨_, _, rfl, r1, r3⟩
theorem call_str_int : CallR X (.type "str") (fun xs H Q => ∃ i, xs = [.int i] ∧ i.natAbs.log2 < 1920 ∧ Q (.str (toString i)) H) := by
  intro pins s σ H xs us Q I r h
  obtain ⟨i, rfl, hz, q⟩ := h
  obtain ⟨u, rfl, t, rfl⟩ := vals1 r
  exact PySem.P.str_of_int hz ⟨.str _, H, I.tok _, ⟨_, rfl⟩, q⟩
end
end L2
namespace L2
open PySem PySem.Spec PyProof.Rows
structure ObjM (h : Heap) (x dx C : Addr) (mA : Str → Option Value) : Prop where
  obj : h.get? x = some (PySem.W.instObj C dx)
  ns : h.Ns1 dx mA
  ne : dx ≠ x
theorem lookIn_ns {h : Heap} {dx : Addr} {mA : Str → Option Value} (n : h.Ns1 dx mA) : ∃ od, h.get? dx = some od ∧ ∀ name, PySem.W.lookIn name od = some (mA name) := by
  obtain ⟨o, es, ep, ho, hd, hk, _, hm⟩ := n
  refine ⟨o, ho, fun name => ?_⟩
  have e := hm name
  unfold nsFind findBy at e
  rw [← Array.find?_toList] at e
  unfold PySem.W.lookIn
  rw [hd]
  dsimp only
  split
  · rename_i y q
    rw [q] at e
    exact congrArg some e
  · rename_i q
    rw [q] at e
    have a : es.toList.any (·.refKey) = false := by
      rw [List.any_eq_false]
      intro y hy
      obtain ⟨z, t, hkey⟩ := hk y (Array.mem_toList_iff.mp hy)
      simp [DictEntry.refKey, hkey]
    have a' : ¬ es.toList.any (·.refKey) = true := by rw [a]; exact Bool.false_ne_true
    rw [if_neg a']
    exact congrArg some e
theorem ObjM.look {h : Heap} {x dx C : Addr} {mA : Str → Option Value} (I : ObjM h x dx C mA) : ∃ od, PySem.W.InstAt h x (PySem.W.instObj C dx) C (some od) ∧ ∀ name, PySem.W.lookIn name od = some (mA name) :=
  let ⟨od, ho, hl⟩ := lookIn_ns I.ns
  ⟨od, ⟨I.obj, rfl, rfl, ho⟩, hl⟩
section
variable {prog : Program} {w : World} {A : Around} {E : Value → Shared → Prop} {s : Shared} {K : PySem.W.Frag} {x dx C f : Addr} {mA : Str → Option Value} {name : Str} {v : Value}
end
theorem RelO.some_of {v : V} {o : Option Value} (r : RelO (some v) o) : ∃ u, o = some u ∧ RelV v u := by
  cases o with
  | none => exact (show False from r).elim
  | some u => exact ⟨u, rfl, r⟩
section
variable {P : Program} {w : World} {H H' : Hp} {h h' : Heap} {a C dx : Addr} {fs fs' : List (Str × V)}
theorem ins_get (hok : HOk P w H h) (e : H a = some (.ins C dx fs)) : ∃ mA, ObjM h a dx C mA ∧ (∀ f, RelO (fs.lookup f) (mA f)) ∧ PySem.Within mA (fs.map (·.1)) ∧ fs.length ≤ 1000 ∧ H dx = some (.own a) := by
  obtain ⟨d, z, ne, ob, mA, n, r, q⟩ := (show ObjOk P w H h a (.ins C dx fs) from hok a _ e)
  exact ⟨mA, ⟨ob, n, ne⟩, r, q, z, d⟩
end
structure Cls (K : PySem.W.Frag) (C : Addr) : Prop where
  pg : PySem.W.plainGet K C Str.empty = true
  hd : PySem.W.hasDictIn K C = true
  po : PySem.W.plainOver K C = true
  sa : PySem.W.findIn K (.ref C) "__setattr__" = some (some (.builtin "object.__setattr__"))
theorem Cls.get {K : PySem.W.Frag} {C : Addr} (c : Cls K C) (f : Str) : PySem.W.plainGet K C f = true := c.pg
section
variable {X : Cx} {pins : List (Addr × Obj)} {σ : St} {H : Hp} {s : Shared} {a C dx : Addr} {fs : List (Str × V)} {f : Str} {v : V} {A : Around} {E : Value → Shared → Prop}
end
section
variable {X : Cx} {o e value : Expr} {f : Str} {pos pos' tpos : Pos} {ta tv : TE}
end
section
variable {X : Cx} {pins : List (Addr × Obj)} {σ : St} {H : Hp} {s : Shared} {A : Around} {E : Value → Shared → Prop} {Q : Value → Shared → Prop} {c : Value} {b : Bool}
inductive TyOf (K : PySem.W.Frag) (H : Hp) : V → Value → Prop where
  | non : TyOf K H .non (.type "NoneType")
  | bl (x : Bool) : TyOf K H (.bl x) (.type "bool")
  | int (i : Int) : TyOf K H (.int i) (.type "int")
  | str (x : Str) : TyOf K H (.str x) (.type "str")
  | flt (x : UInt64) : TyOf K H (.flt x) (.type "float")
  | lst {a : Addr} {xs : List V} (e : H a = some (.lst xs)) : TyOf K H (.ref a) (.type "list")
  | frz {a : Addr} {o : Obj} {xs : List V} (e : H a = some (.frz o (.lst xs))) : TyOf K H (.ref a) (.type "list")
  | tup {a : Addr} {xs : List V} (e : H a = some (.tup xs)) : TyOf K H (.ref a) (.type "tuple")
  | dK {a : Addr} {kvs : List (Key × V)} (e : H a = some (.dK kvs)) : TyOf K H (.ref a) (.type "dict")
  | dT {a : Addr} {kvs : List (List Key × V)} (e : H a = some (.dT kvs)) : TyOf K H (.ref a) (.type "dict")
  | ins {a C dx : Addr} {fs : List (Str × V)} (e : H a = some (.ins C dx fs)) (cl : Cls K C) (ha : PySem.W.findIn K (.ref C) "__class__" = some (some (.builtin "object.__class__")))
      (hn : PySem.W.specialIn K (.builtin "object.__class__") "__get__" = some (some (.builtin "getset_descriptor.__get__"))) (htk : PySem.W.takesIn K (.builtin "object.__class__") = some true)
      (hm : PySem.W.mroIn K C (.type "object") = some true) : TyOf K H (.ref a) (.ref C)
theorem isinst_ok {x : V} {u t : Value} (I : Inv X pins σ H s) (rx : RelV x u) (ty : TyOf X.K H x t) (e : PySem.W.kitOne X.K t c = some b) (h : ∀ tk, Q (.bool b) { s with toks := tk }) :
    wpAny (model X.prog X.w) A (call (.builtin "isinstance") [u, c]) Q E s := by
  cases ty with
  | non => cases (show u = Value.none from rx); exact PySem.W.kia_one PySem.W.kitx_none I.kIn True.intro e (fun z => nomatch z) h
  | bl y => cases (show u = Value.bool y from rx); exact PySem.W.kia_one PySem.W.kitx_bool I.kIn True.intro e (fun z => nomatch z) h
  | int i => obtain ⟨t, q⟩ := (show ∃ t, u = Value.int i t from rx); cases q; exact PySem.W.kia_one PySem.W.kitx_int I.kIn True.intro e (fun z => nomatch z) h
  | str y => obtain ⟨t, q⟩ := (show ∃ t, u = Value.str y t from rx); cases q; exact PySem.W.kia_one PySem.W.kitx_str I.kIn True.intro e (fun z => nomatch z) h
  | flt y => obtain ⟨t, q⟩ := (show ∃ t, u = Value.float y t from rx); cases q; exact PySem.W.kia_one PySem.W.kitx_float I.kIn True.intro e (fun z => nomatch z) h
  | @lst a xs ea =>
    cases (show u = Value.ref a from rx)
    obtain ⟨_, _, n, _, h1⟩ := (show ObjOk X.prog X.w H s.heap a (.lst xs) from I.hok a _ ea)
    exact PySem.W.kia_one PySem.W.kitx_list I.kIn ⟨_, h1, rfl⟩ e (fun z => nomatch z) h
  | @frz a ob xs ea =>
    cases (show u = Value.ref a from rx)
    obtain ⟨_, _, _, n, _, h1⟩ := (show ObjOk X.prog X.w H s.heap a (.frz ob (.lst xs)) from I.hok a _ ea)
    exact PySem.W.kia_one PySem.W.kitx_list I.kIn ⟨_, h1, rfl⟩ e (fun z => nomatch z) h
  | @tup a xs ea =>
    cases (show u = Value.ref a from rx)
    obtain ⟨_, _, _, p⟩ := (show ObjOk X.prog X.w H s.heap a (.tup xs) from I.hok a _ ea)
    obtain ⟨o, h1, h2, _⟩ := p
    exact PySem.W.kia_one PySem.W.kitx_tuple I.kIn ⟨o, h1, h2⟩ e (fun z => nomatch z) h
  | @dK a kvs ea =>
    cases (show u = Value.ref a from rx)
    obtain ⟨_, _, vs, _, p⟩ := (show ObjOk X.prog X.w H s.heap a (.dK kvs) from I.hok a _ ea)
    obtain ⟨o, es, ep, h1, h2, _⟩ := p
    exact PySem.W.kia_one PySem.W.kitx_dict I.kIn ⟨o, h1, h2.1⟩ e (fun z => nomatch z) h
  | @dT a kvs ea =>
    cases (show u = Value.ref a from rx)
    obtain ⟨_, _, xs, _, o, es, ep, h1, h2, _⟩ := (show ObjOk X.prog X.w H s.heap a (.dT kvs) from I.hok a _ ea)
    exact PySem.W.kia_one PySem.W.kitx_dict I.kIn ⟨o, h1, h2.1⟩ e (fun z => nomatch z) h
  | @ins a C dx fs ea cl ha hn htk hm =>
    cases (show u = Value.ref a from rx)
    obtain ⟨mA, O, _⟩ := ins_get I.hok ea
    obtain ⟨od, J, _⟩ := O.look
    exact PySem.W.kia_one (PySem.W.kitx_own (cl.get _) cl.hd ha hn htk hm) I.kIn J e (fun z => nomatch z) h
end
end L2
namespace L2
open PySem PySem.Spec PyProof.Rows
structure Room (k : Nat) (A : Around) : Prop where
  hd : A.handled = none
  dp : A.depth + 3 * k + 5 < recursionLimit
  un : A.units + 16 * k + 200 < cLine
theorem Room.mono {j k : Nat} {A : Around} (r : Room k A) (h : j ≤ k) : Room j A := ⟨r.hd, by have := r.dp; omega, by have := r.un; omega⟩
theorem Room.deeper {k : Nat} {A : Around} (r : Room (k + 1) A) (env : Env) : Room k (A.deeper env) :=
  ⟨r.hd, by have := r.dp; show A.depth + 1 + 3 * k + 5 < _; omega, by have := r.un; show A.units + 3 + 16 * k + 200 < _; omega⟩
theorem Room.in1 {k : Nat} {A : Around} (r : Room (k + 1) A) : Room k A.in1 :=
  ⟨r.hd, by have := r.dp; show A.depth + 3 * k + 5 < _; omega, by have := r.un; show A.units + 1 + 16 * k + 200 < _; omega⟩
theorem Room.depth {k : Nat} {A : Around} (r : Room k A) : A.depth < recursionLimit := by have := r.dp; omega
theorem Room.units {k : Nat} {A : Around} (r : Room k A) : A.units + 64 < cLine := by have := r.un; omega
def tNil : TA := fun _ H Q => Q [] H
def tCons (ta : TE) (tr : TA) : TA := fun σ H Q => ta σ H fun x H1 => tr σ H1 fun xs H2 => Q (x :: xs) H2
section
variable {X : Cx} {e : Expr} {es : List Expr} {te : TE} {t : TA} {pos : Pos}
theorem pa_nil : PA X [] tNil := fun _ _ _ _ H Q I h => Calls.spliced_nil ⟨[], H, I, .nil, h⟩
theorem pa_cons (ha : PE X e te) (hr : PA X es t) (hs : starEach (e :: es) X.env = (false, eval e X.env) :: starEach es X.env := by rfl) : PA X (e :: es) (tCons te t) := by
  intro pos pins s σ H Q I h
  rw [hs]
  show wpAny _ _ (spliced ((false, eval e X.env) :: backTo pos (starEach es X.env))) _ _ s
  refine Calls.spliced_cons (thn (ha pins s σ H _ I h) fun u s1 ⟨x, H1, I1, r1, q1⟩ => ?_)
  exact thn (hr pos pins s1 σ H1 _ I1 q1) fun us s2 ⟨xs, H2, I2, r2, q2⟩ => ⟨x :: xs, H2, I2, .cons r1 r2, q2⟩
def tTup (t : TA) : TE := fun σ H Q => t σ H fun xs H1 => xs.length ≤ sizeLine ∧ ∀ p, H1 p = none → Q (.ref p) (upd H1 p (.tup xs))
def tLst (t : TA) : TE := fun σ H Q => t σ H fun xs H1 => xs.length ≤ sizeLine ∧ ∀ p, H1 p = none → Q (.ref p) (upd H1 p (.lst xs))
theorem pe_tup {x1} (h : PA X es t) : PE X (.Tuple es x1 pos) (tTup t) := by
  intro pins s σ H Q I hq
  refine wpAny_Tuple_spliced (thn (h pos pins s σ H _ I hq) fun us s1 ⟨xs, H1, I1, r, z, q⟩ => ⟨by rw [← r.length]; exact z, ?_⟩)
  have hf : H1 s1.heap.objs.size = none := I1.hok.fresh (Nat.le_refl _)
  refine ⟨.ref s1.heap.objs.size, upd H1 s1.heap.objs.size (.tup xs), I1.laid (t' := s1.toks) (fun b u e => Heap.get?_push_of_some _ e) (Nat.le_refl _) ?_, rfl, q _ hf⟩
  exact ⟨z, us, r, ⟨_, Heap.get?_push_size _ rfl, rfl, _, rfl⟩⟩
theorem pe_lst (h : PA X es t) : PE X (.List es pos) (tLst t) := by
  intro pins s σ H Q I hq
  refine wpAny_List_spliced (thn (h pos pins s σ H _ I hq) fun us s1 ⟨xs, H1, I1, r, z, q⟩ => ⟨by rw [← r.length]; exact z, ?_⟩)
  have hf : H1 s1.heap.objs.size = none := I1.hok.fresh (Nat.le_refl _)
  refine ⟨.ref s1.heap.objs.size, upd H1 s1.heap.objs.size (.lst xs), I1.laid (t' := s1.toks) (fun b u e => Heap.get?_push_of_some _ e) (Nat.le_refl _) ?_, rfl, q _ hf⟩
  exact ⟨z, us, 0, r, Heap.get?_push_size _ rfl⟩
end
abbrev Sp := List V → Hp → VK → XK → Prop
abbrev CXT := List Env → Hp → Shared → XK → Value → Shared → Prop
structure Env0 (P : Program) (w : World) (K : PySem.W.Frag) (mg : Str → Option Value) (base : Heap) (A : Around) (outer : List Env) (s : Shared) (H : Hp) : Prop where
  frames : A.frames = some outer
  mod : Mod K mg base
  bs : ∀ b o, base.get? b = some o → s.heap.get? b = some o ∧ H b = none
  bsz : base.objs.size ≤ s.heap.objs.size
  funs : s.heap.FunFrames base outer
  frf : ∀ b ∈ frs outer, H b = none
  hok : HOk P w H s.heap
  bare : AllBare s.gens
def CE (outer : List Env) (P : Program) (w : World) (H : Hp) (s : Shared) (Q : VK) (u : Value) (s' : Shared) : Prop :=
  ∃ v H', s'.os = s.os ∧ AllBare s'.gens ∧ Un (frs outer) [] H H' s.heap s'.heap ∧ HOk P w H' s'.heap ∧ RelV v u ∧ Q v H'
def CR (CX : CXT) (outer : List Env) (P : Program) (w : World) (H : Hp) (s : Shared) (Q : VK) (E : XK) (r : Result) (s' : Shared) : Prop :=
  match r with
  | .ok (.ret u) => CE outer P w H s Q u s'
  | .ok _ => False
  | .error e => CX outer H s E e s'
structure FnOk (P : Program) (w : World) (K : PySem.W.Frag) (mg : Str → Option Value) (base : Heap) (CX : CXT) (k : Nat) (f : Addr) (fd : FuncData) (ps : List Str) (sp : Sp) : Prop where
  len : ∀ vs H Q E, sp vs H Q E → vs.length = ps.length
  run : ∀ (A : Around) (outer : List Env) (s : Shared) (H : Hp) (args : Args) (us : List Value) (vs : List V) (Q : VK) (E : XK), Room k A → Env0 P w K mg base A outer s H → BindsTo s fd args (ps.zip us) → Vals vs us → sp vs H Q E →
    codeAny (model P w) A (.call (.ref f) args) (CR CX outer P w H s Q E) s
theorem FnOk.imp {P : Program} {w : World} {K : PySem.W.Frag} {mg : Str → Option Value} {base : Heap} {CX : CXT} {k : Nat} {f : Addr} {fd : FuncData} {ps : List Str} {sp sp' : Sp} (F : FnOk P w K mg base CX k f fd ps sp)
    (h : ∀ vs H Q E, sp' vs H Q E → sp vs H Q E) : FnOk P w K mg base CX k f fd ps sp' :=
  ⟨fun vs H Q E q => F.len vs H Q E (h _ _ _ _ q), fun A outer s H args us vs Q E hr he hb hv hs => F.run A outer s H args us vs Q E hr he hb hv (h _ _ _ _ hs)⟩
theorem Env0.in1 {P : Program} {w : World} {K : PySem.W.Frag} {mg : Str → Option Value} {base : Heap} {A : Around} {outer : List Env} {s : Shared} {H : Hp} (e : Env0 P w K mg base A outer s H) :
    Env0 P w K mg base A.in1 outer s H := ⟨e.frames, e.mod, e.bs, e.bsz, e.funs, e.frf, e.hok, e.bare⟩
section
variable {X : Cx} {pins : List (Addr × Obj)} {σ : St} {H : Hp} {s s' : Shared}
theorem Inv.env0 (I : Inv X pins σ H s) : Env0 X.prog X.w X.K X.mg X.base X.A X.stack s H :=
  ⟨I.ok.frames, I.ok.mod, I.bs, Nat.le_trans I.ok.bsz I.sz, I.stack, I.stkFree, I.hok, I.bare⟩
theorem Inv.after {Q : VK} {u : Value} (I : Inv X pins σ H s) (h : CE X.stack X.prog X.w H s Q u s') : EP X pins σ Q u s' := by
  obtain ⟨v, H', os, bare, un, hok, r, q⟩ := h
  obtain ⟨hh, g, d, t, os'⟩ := s'
  obtain rfl : os' = s.os := os
  exact ⟨v, H', I.call (h' := hh) (g' := g) (d' := d) (t' := t) (ch := []) un hok bare (fun b z => absurd z (by simp)), r, q⟩
end
def tCall (sp : Sp) (dvs : List V) (E : XK) (t : TA) : TE := fun σ H Q => t σ H fun vs H1 => sp (vs ++ dvs) H1 Q E
def Binds (K : PySem.W.Frag) (fd : FuncData) (ps : List Str) (ds : List Value) : Prop :=
  ∀ (s : Shared) (us : List Value), K.In s.heap → (us ++ ds).length = ps.length → BindsTo s fd ⟨us, []⟩ (ps.zip (us ++ ds))
theorem Binds.all {K : PySem.W.Frag} {fd : FuncData} {ps : List Str} (h : ∀ us : List Value, us.length = ps.length → bindArgs fd ⟨us, []⟩ = pure (ps.zip us)) : Binds K fd ps [] := fun s us _ hl => by
  rw [List.append_nil] at hl ⊢
  exact .of_eq (h us hl)
def Passes (CX : CXT) (X : Cx) (E : XK) : Prop := ∀ (pins : List (Addr × Obj)) (σ : St) (H : Hp) (s : Shared) (e : Value) (s' : Shared), Inv X pins σ H s → CX X.stack H s E e s' → X.xe e s'
section
variable {X : Cx} {CX : CXT} {k : Nat} {f C : Addr} {fd : FuncData} {ps : List Str} {sp : Sp} {dvs : List V} {ds : List Value} {E : XK} {x m : Str} {p pos apos : Pos} {e o : Expr} {es : List Expr} {ta : TE} {t : TA}
theorem run_fn {pins : List (Addr × Obj)} {σ : St} {H : Hp} {s : Shared} {Q : VK} {us : List Value} {vs : List V} (F : FnOk X.prog X.w X.K X.mg X.base CX k f fd ps sp) (hr : Room k X.A) (hb : Binds X.K fd ps ds) (hd : Vals dvs ds) (hx : Passes CX X E)
    (I : Inv X pins σ H s) (r : Vals vs us) (h : sp (vs ++ dvs) H Q E) : wpAny (model X.prog X.w) X.A (call (.ref f) us) (EP X pins σ Q) X.xe s := by
  have r2 : Vals (vs ++ dvs) (us ++ ds) := r.append hd
  have hl : (us ++ ds).length = ps.length := by rw [← r2.length]; exact F.len _ _ _ _ h
  refine wpAny_call (codeAny_mono (F.run X.A X.stack s H ⟨us, []⟩ (us ++ ds) (vs ++ dvs) Q E hr I.env0 (hb s us I.kIn hl) r2 h) fun r s' hq => ?_)
  cases r with
  | error e => exact hx pins σ H s e s' I hq
  | ok fl =>
    cases fl with
    | ret u => exact I.after hq
    | next => exact False.elim hq
    | brk => exact False.elim hq
    | cont => exact False.elim hq
theorem pe_call (F : FnOk X.prog X.w X.K X.mg X.base CX k f fd ps sp) (hr : Room k X.A) (hg : Gl X x) (hm : X.mg x = some (.ref f)) (hk : PySem.W.keepIn X.K (.ref f) = true) (hb : Binds X.K fd ps ds) (hd : Vals dvs ds) (hx : Passes CX X E)
    (ha : PA X (e :: es) t) (hdb : (x == ("__debug__" : Str)) = false := by decide) (he : starEach (e :: es) X.env = (false, eval e X.env) :: starEach es X.env := by rfl) (hpl : (backTo pos (starEach es X.env)).any (·.1) = false := by rfl) :
    PE X (.Call (.Name x p) (e :: es) [] pos) (tCall sp dvs E t) := by
  intro pins s σ H Q I h
  refine wpAny_Call_Name_kw (ld_glob I hg hm ?_ hdb)
  refine PySem.W.callWith_K (h₀ := X.base) I.ok.mod.kin hk (thn (ha pos pins s σ H _ I h) fun us s1 ⟨vs, H1, I1, r, q⟩ => ⟨I1.kIn, ?_⟩) he hpl
  exact run_fn F hr hb hd hx I1 r q
end
section
variable {X : Cx} {CX : CXT} {k : Nat} {f C : Addr} {fd : FuncData} {ps ks : List Str} {sp : Sp} {E : XK} {x m : Str} {p pos apos kpos : Pos} {e o : Expr} {es : List Expr} {kws : List Keyword} {te ta : TE} {t tk : TA} {nm : Option Str}
variable {g : List Value → List Value → List Value} {gV : List V → List V → List V}
end
structure FnScope (N P : List Str) (sc : Scope) : Prop where
  kind : sc.kind = .function
  co : sc.isCoroutine = false
  gen : sc.isGenerator = false
  nd : N.Nodup
  pre : N.take P.length = P
  par : ∀ x ∈ P, sc.names.lookup x = some .local ∨ sc.names.lookup x = some .cell
  nofree : ∀ y ∈ sc.names, y.2 ≠ .free
theorem bindL_out {kindOf : Str → Option NameKind} {x : Str} : ∀ {binds : List (Str × Value)} {m : Str → Option Value}, (∀ v, (x, v) ∉ binds) → bindL kindOf binds m x = m x
  | [], _, _ => rfl
  | (n, v) :: r, m, h => by
    unfold bindL
    rw [bindL_out fun w hw => h w (List.mem_cons_of_mem _ hw)]
    split
    · have : x ≠ n := by rintro rfl; exact h v List.mem_cons_self
      simp [this]
    · rfl
theorem bindC_out {kindOf : Str → Option NameKind} {x : Str} : ∀ {binds : List (Str × Value)} {m : Str → Option Value}, (∀ v, (x, v) ∉ binds) → bindC kindOf binds m x = m x
  | [], _, _ => rfl
  | (n, v) :: r, m, h => by
    unfold bindC
    rw [bindC_out fun w hw => h w (List.mem_cons_of_mem _ hw)]
    split
    · rfl
    · have : x ≠ n := by rintro rfl; exact h v List.mem_cons_self
      simp [this]
theorem bindL_get {kindOf : Str → Option NameKind} {x : Str} {v : Value} : ∀ {P : List Str} {vs : List Value} {i : Nat} {m : Str → Option Value}, P.Nodup → P[i]? = some x → vs[i]? = some v → kindOf x = some .local →
    bindL kindOf (P.zip vs) m x = some v
  | [], _, _, _, _, h, _, _ => by simp at h
  | _ :: _, [], _, _, _, _, h, _ => by simp at h
  | p :: P, w :: vs, 0, m, nd, h1, h2, hk => by
    simp at h1 h2; subst h1; subst h2
    show bindL kindOf ((p, w) :: P.zip vs) m p = _
    unfold bindL
    rw [bindL_out fun v hv => (List.nodup_cons.mp nd).1 (List.of_mem_zip hv).1, if_pos hk]
    simp
  | p :: P, w :: vs, i + 1, m, nd, h1, h2, hk => by
    show bindL kindOf ((p, w) :: P.zip vs) m x = _
    unfold bindL
    exact bindL_get (i := i) (List.nodup_cons.mp nd).2 (by simpa using h1) (by simpa using h2) hk
theorem bindC_get {kindOf : Str → Option NameKind} {x : Str} {v : Value} : ∀ {P : List Str} {vs : List Value} {i : Nat} {m : Str → Option Value}, P.Nodup → P[i]? = some x → vs[i]? = some v → kindOf x ≠ some .local →
    bindC kindOf (P.zip vs) m x = some v
  | [], _, _, _, _, h, _, _ => by simp at h
  | _ :: _, [], _, _, _, _, h, _ => by simp at h
  | p :: P, w :: vs, 0, m, nd, h1, h2, hk => by
    simp at h1 h2; subst h1; subst h2
    show bindC kindOf ((p, w) :: P.zip vs) m p = _
    unfold bindC
    rw [bindC_out fun v hv => (List.nodup_cons.mp nd).1 (List.of_mem_zip hv).1, if_neg hk]
    simp
  | p :: P, w :: vs, i + 1, m, nd, h1, h2, hk => by
    show bindC kindOf ((p, w) :: P.zip vs) m x = _
    unfold bindC
    exact bindC_get (i := i) (List.nodup_cons.mp nd).2 (by simpa using h1) (by simpa using h2) hk
def start (N : List Str) (vs : List V) : St := vs.map some ++ List.replicate (N.length - vs.length) none
def cxOf (CX : CXT) (P : Program) (w : World) (K : PySem.W.Frag) (mg : Str → Option Value) (base : Heap) (N : List Str) (qual : Str) (scope : Scope) (f : Addr) (cd : Value) (A : Around) (outer : List Env) (s : Shared) (H : Hp) (E : XK) : Cx where
  prog := P
  w := w
  K := K
  mg := mg
  base := base
  A := A.deeper (envOfC qual scope s.heap.objs.size f cd)
  N := N
  s₀ := s
  H₀ := H
  env := envOfC qual scope s.heap.objs.size f cd
  outer := outer
  stack := envOfC qual scope s.heap.objs.size f cd :: outer
  ex := []
  calm := true
  fn := fun _ => true
  pn := []
  xe := fun e s' => wpAny (model P w) (A.deeper (envOfC qual scope s.heap.objs.size f cd)) (leaving (envOfC qual scope s.heap.objs.size f cd) e) (fun _ s'' => CX outer H s E e s'') (fun e' s'' => CX outer H s E e' s'') s'
theorem cell_has {sc : Scope} {n : Nat} {x : Str} (h : sc.names.lookup x = some .cell) : ∃ c, (cellsFrom n sc.names []).lookup x = some c := by
  have q := PySem.W.cellsFrom_some sc.names n [] (.inl h)
  exact Option.isSome_iff_exists.mp q
theorem inv_start {CX : CXT} {P : Program} {w : World} {K : PySem.W.Frag} {mg : Str → Option Value} {base : Heap} {N ps : List Str} {qual : Str} {scope : Scope} {f : Addr} {cd : Value} {A : Around} {outer : List Env} {s s1 : Shared} {H : Hp} {E : XK} {us : List Value} {vs : List V}
    (S : FnScope N ps scope) (hd : A.handled = none) (e0 : Env0 P w K mg base A outer s H) (hl : vs.length = ps.length) (r : Vals vs us)
    (x : InCallC s s.heap.objs.size (bindL (envOfC qual scope s.heap.objs.size f cd).kindOf (ps.zip us) fun _ => none) (cellsFrom (s.heap.objs.size + 1) scope.names []) (bindC (envOfC qual scope s.heap.objs.size f cd).kindOf (ps.zip us) fun _ => none) s1) :
    Inv (cxOf CX P w K mg base N qual scope f cd A outer s H E) [] (start N vs) H s1 := by
  have hpl : ps.length ≤ N.length := by have := congrArg List.length S.pre; rw [List.length_take] at this; omega
  obtain ⟨h1, tk, rfl, hk⟩ := x.done
  have noA : ∀ b : Addr, b ∉ (cxOf CX P w K mg base N qual scope f cd A outer s H E).ex := fun b z => absurd (show b ∈ ([] : List Addr) from z) (by simp)
  refine ⟨⟨e0.mod, S.kind, rfl, rfl, Nat.le_refl _, fun y z c h1 h2 => ?_, fun y hy => ?_, fun y c _ h => ?_, fun _ => hd, Around.frames_deeper e0.frames, .inr ⟨rfl, rfl⟩, fun b z => absurd z (noA b), e0.bs, e0.bsz, fun b _ _ => noA b, fun b z => absurd z (noA b), e0.funs, e0.frf⟩,
    rfl, e0.bare, Un.kept hk, ⟨_, x.toInCall.ns, fun i y v h1 h2 h3 => ?_⟩, fun y c h => ⟨_, x.cell y c h⟩, e0.hok.fresh (Nat.le_refl _), fun y c h => ?_, fun p hp => absurd (show p ∈ ([] : List (Addr × Obj)) from hp) (by simp), e0.hok.kept hk, ?_⟩
  · exact name_of_addr x.apart (PySem.mem_of_lookup h1) (PySem.mem_of_lookup h2)
  · have hy : scope.names.lookup y = some .cell ∨ scope.names.lookup y = some .free := hy
    rcases hy with hy | hy
    · exact cell_has hy
    · exact absurd rfl (S.nofree _ (PySem.mem_of_lookup hy))
  · exact Nat.le_of_lt (x.above y c (PySem.mem_of_lookup h))
  · have hi : i < vs.length := by
      unfold start at h2
      by_cases hi : i < vs.length
      · exact hi
      · rw [List.getElem?_append_right (by simpa using hi)] at h2
        rw [List.getElem?_replicate] at h2
        split at h2 <;> cases h2
    have ha : vs[i]? = some v := by
      unfold start at h2
      rw [List.getElem?_append_left (by simpa using hi), List.getElem?_map] at h2
      cases e : vs[i]? with
      | none => rw [e] at h2; cases h2
      | some a => rw [e] at h2; cases h2; rfl
    obtain ⟨u, hu, rv⟩ := r.get ha
    have hp : ps[i]? = some y := by
      rw [← S.pre, List.getElem?_take_of_lt (by omega)]; exact h1
    have ndP : ps.Nodup := by rw [← S.pre]; exact S.nd.sublist (List.take_sublist _ _)
    refine ⟨u, rv, ?_⟩
    rcases S.par y (List.mem_of_getElem? hp) with k | k
    · exact .inl ⟨k, bindL_get ndP hp hu k⟩
    · obtain ⟨c, e⟩ := cell_has (n := s.heap.objs.size + 1) k
      refine .inr ⟨.inl k, c, e, ?_⟩
      have q := x.cell y c e
      rw [bindC_get ndP hp hu (by show scope.names.lookup y ≠ _; rw [k]; decide)] at q
      exact q
  · exact e0.hok.fresh (Nat.le_of_lt (x.above y c (PySem.mem_of_lookup h)))
  · unfold start
    show _ = N.length
    rw [List.length_append, List.length_map, List.length_replicate]
    omega
theorem fn_of {CX : CXT} {P : Program} {w : World} {K : PySem.W.Frag} {mg : Str → Option Value} {base : Heap} {k : Nat} {f : Addr} {name qual : Str} {params : Arguments} {body : List Stmt} {scope : Scope} {dV kV doc pm cdv ct oc : Value} {an od : Option Addr}
    {osl : Array (Option Value)} {N ps : List Str} {sp : Sp} (lk : K.lookup f = some ⟨oc, od, .func (PySem.W.fnOf name qual params body scope dV kV doc pm an cdv ct), osl⟩) (hcd : PySem.W.codeIn K cdv qual = true) (S : FnScope N ps scope)
    (len : ∀ vs H Q E, sp vs H Q E → vs.length = ps.length)
    (hbody : ∀ (A : Around) (outer : List Env) (s : Shared) (H : Hp) (vs : List V) (Q : VK) (E : XK), Room k (A.deeper (envOfC qual scope s.heap.objs.size f cdv)) → sp vs H Q E →
      ∃ t, PSs (cxOf CX P w K mg base N qual scope f cdv A outer s H E) body t ∧ t { nx := fun _ H' => Q .non H', rt := Q } (start N vs) H) :
    FnOk P w K mg base CX (k + 1) f (PySem.W.fnOf name qual params body scope dV kV doc pm an cdv ct) ps sp := by
  refine ⟨len, fun A outer s H args us vs Q E hr e0 hb r hsp => ?_⟩
  have hl := len _ _ _ _ hsp
  have KX : K.In s.heap := e0.mod.kin.keeps fun b o e => (e0.bs b o e).1
  have lim : s.heap.NoLimit := e0.mod.nolimit.keeps fun b o e => (e0.bs b o e).1
  have hkind : ∀ y ∈ ps.zip us, scope.names.lookup y.1 = some .local ∨ (scope.names.lookup y.1 = some .cell ∧ ((cellsFrom (s.heap.objs.size + 1) scope.names []).lookup y.1).isSome = true) := fun ⟨n, v⟩ hy => by
    rcases S.par n (List.of_mem_zip hy).1 with q | q
    · exact .inl q
    · exact .inr ⟨q, PySem.W.cellsFrom_some _ _ _ (.inl q)⟩
  refine codeAny_call_function hr.depth (KX _ _ lk) rfl S.co S.gen rfl (PySem.W.codeRec_of KX hcd) (hb _ _ _ _ ?_)
  refine wpAny_newFunctionEnv_cells S.kind hkind fun env he s1 x => ?_
  subst he
  refine ⟨lim.keeps x.toInCall.keep, codeAny_func ?_⟩
  obtain ⟨t, ht, hq⟩ := hbody A outer s H vs Q E (hr.deeper _) hsp
  have I : Inv (cxOf CX P w K mg base N qual scope f cdv A outer s H E) [] (start N vs) H s1 := inv_start S hr.hd e0 hl r x
  refine wpAny_mono (ht [] s1 (start N vs) H _ I hq) (fun fl s' hs => ?_) fun e s' hs => hs
  have fin : ∀ {σ' : St} {H' : Hp} {v : V} {u : Value}, Inv (cxOf CX P w K mg base N qual scope f cdv A outer s H E) [] σ' H' s' → RelV v u → Q v H' → CE outer P w H s Q u s' :=
    fun {σ' H' v u} J rv q => ⟨v, H', J.os, J.bare, J.base, J.hok, rv, q⟩
  cases fl with
  | ret u =>
    obtain ⟨v, σ', H', J, rv, q⟩ := hs
    exact fin J rv q
  | next =>
    obtain ⟨σ', H', J, q⟩ := hs
    exact fin (v := V.non) (u := Value.none) J rfl q
  | brk =>
    obtain ⟨_, _, _, q⟩ := hs
    exact False.elim q
  | cont =>
    obtain ⟨_, _, _, q⟩ := hs
    exact False.elim q
end L2
namespace L2
open PySem PySem.Spec PyProof.Rows
section
variable {X : Cx} {x : Str} {p pos : Pos} {e : Expr} {es : List Expr} {t : TA} {id T : String} {r : List V → Hp → VK → Prop}
def tCB (r : List V → Hp → VK → Prop) (t : TA) : TE := fun σ H Q => t σ H fun vs H1 => r vs H1 Q
theorem pe_callB (hc : CallR X (.builtin id) r) (hg : Gl X x) (hm : X.mg x = none) (hv : bootBuiltins x = some (.builtin id)) (ha : PA X (e :: es) t) (hn : x ≠ "__name__" := by decide) (hdb : (x == ("__debug__" : Str)) = false := by decide)
    (he : starEach (e :: es) X.env = (false, eval e X.env) :: starEach es X.env := by rfl) (hpl : (backTo pos (starEach es X.env)).any (·.1) = false := by rfl) : PE X (.Call (.Name x p) (e :: es) [] pos) (tCB r t) := by
  intro pins s σ H Q I h
  refine wpAny_Call_Name_kw (ld_blt I hg hm hv ?_ hn hdb)
  exact PyProof.Rows.callWith_builtin1 (thn (ha pos pins s σ H _ I h) fun us s1 ⟨vs, H1, I1, r1, q1⟩ => hc pins s1 σ H1 vs us Q I1 r1 q1) he hpl
theorem pe_callTy (hc : CallR X (.type T) r) (hg : Gl X x) (hm : X.mg x = none) (hv : bootBuiltins x = some (.type T)) (ha : PA X (e :: es) t) (hn : x ≠ "__name__" := by decide) (hdb : (x == ("__debug__" : Str)) = false := by decide)
    (he : starEach (e :: es) X.env = (false, eval e X.env) :: starEach es X.env := by rfl) (hpl : (backTo pos (starEach es X.env)).any (·.1) = false := by rfl) : PE X (.Call (.Name x p) (e :: es) [] pos) (tCB r t) := by
  intro pins s σ H Q I h
  refine wpAny_Call_Name_kw (ld_blt I hg hm hv ?_ hn hdb)
  exact PyProof.Rows.callWith_type1 (thn (ha pos pins s σ H _ I h) fun us s1 ⟨vs, H1, I1, r1, q1⟩ => hc pins s1 σ H1 vs us Q I1 r1 q1) he hpl
end
end L2
namespace HT
open PySem PyProof.Rows
section
open PySem.SeqAt
open PySem.AutoSeq1 (wpAny_loadPart')
open PySem.MeetsSeq PySem.MeetsSeq2 PySem.MeetsSeq3
end
section
variable {prog : Program} {w : World} {A : Around} {E : Value → Shared → Prop} {s : Shared}
theorem cat_tup {t b : Addr} {vs ws : List Value} {Q : Value → Shared → Prop} (ht : IsTup s.heap t vs.toArray) (hb : IsTup s.heap b ws.toArray) (hv : vs ≠ [])
    (h1 : ws = [] → Q (.ref t) s) (h2 : ws ≠ [] → Q (.ref s.heap.objs.size) { s with heap := s.heap.push { cls := .type "tuple", data := .seq (vs ++ ws).toArray } })
    (hsz : vs.length + ws.length ≤ sizeLine) : wpAny (model prog w) A (binaryOp .Add (.ref t) (.ref b)) Q E s := by
  obtain ⟨⟨cls, dd, data, sl⟩, ho, hc, n, hd⟩ := id ht
  obtain ⟨⟨cls2, dd2, data2, sl2⟩, ho2, hc2, n2, hd2⟩ := id hb
  simp only at hc hd hc2 hd2
  subst hc hd hc2 hd2
  have e : vs.toArray ++ ws.toArray = (vs ++ ws).toArray := by simp
  by_cases hw : ws = []
  · exact concat_meets ⟨_, ho, rfl⟩ ⟨_, ho2, rfl⟩ noFill_tuple_add seq_tuple_add PySem.F.slot_tuple_add PySem.F.entry_tuple_add (PySem.F.args_tuple_add_2 _ _)
      (tuple_addW1 t b vs.toArray ws.toArray n n2 dd dd2 sl sl2 (by simpa using hv) (by simp [hw])) ⟨ho, ho2, h1 hw⟩
  · refine concat_meets ⟨_, ho, rfl⟩ ⟨_, ho2, rfl⟩ noFill_tuple_add seq_tuple_add PySem.F.slot_tuple_add PySem.F.entry_tuple_add (PySem.F.args_tuple_add_2 _ _)
      (tuple_addW2 t b vs.toArray ws.toArray n n2 dd dd2 sl sl2 (by simpa using hv) (by simpa using hw) (by rw [List.size_toArray, List.size_toArray]; exact hsz)) ⟨ho, ho2, ?_⟩
    rw [e]
    exact h2 hw
def sIx (n d : Nat) : Option Int → Nat
  | none => d
  | some v => if v < 0 then (v + (n : Int)).toNat else min v.toNat n
theorem sIx_nat (n d k : Nat) : sIx n d (some (k : Int)) = min k n := by
  show (if (k : Int) < 0 then ((k : Int) + (n : Int)).toNat else min (k : Int).toNat n) = min k n
  rw [if_neg (by omega), Int.toNat_natCast]
theorem sIx_le (n d : Nat) (hd : d ≤ n) (o : Option Int) : sIx n d o ≤ n := by
  cases o with
  | none => exact hd
  | some v =>
    show (if v < 0 then (v + (n : Int)).toNat else min v.toNat n) ≤ n
    by_cases hv : v < 0
    · rw [if_pos hv]; omega
    · rw [if_neg hv]; exact Nat.min_le_right _ _
theorem clip_eq (v : Int) (n d : Nat) : (if v < 0 then max (v + (n : Int)) 0 else min v (n : Int)) = ((sIx n d (some v) : Nat) : Int) := by
  show (if v < 0 then max (v + (n : Int)) 0 else min v (n : Int)) = (((if v < 0 then (v + (n : Int)).toNat else min v.toNat n) : Nat) : Int)
  by_cases hv : v < 0
  · simp only [if_pos hv]; omega
  · simp only [if_neg hv]; omega
theorem adjust_gen (lo hi : Option Int) (n : Nat) : Builtin.Slice.sliceAdjust lo hi 1 (n : Int) = (((sIx n 0 lo : Nat) : Int), ((sIx n n hi : Nat) : Int)) := by
  have h1 : ¬ ((1 : Int) < 0) := by omega
  unfold Builtin.Slice.sliceAdjust
  simp only [h1, if_false]
  refine Prod.ext ?_ ?_
  · cases lo with
    | none => rfl
    | some v => exact clip_eq v n 0
  · cases hi with
    | none => rfl
    | some v => exact clip_eq v n n
theorem places_gen (i j : Nat) : Builtin.Slice.slicePlaces (i : Int) (j : Int) 1 = j - i := by
  unfold Builtin.Slice.slicePlaces
  have h1 : (1 : Int) > 0 := by omega
  simp only [h1, if_true, Int.ediv_one]
  split <;> omega
theorem slicePart_ {v : Value} {o : Option Int} {Q : Option Int → Shared → Prop} (p : IsPart v o) (h : Q o s) : wpAny (model prog w) A (Builtin.Slice.slicePartIndex v) Q E s := by
  cases p with
  | none => exact slicePart_none h
  | int i t => exact slicePart_int h
theorem sliceApplied_gen {sl : Addr} {vl vu : Value} {lo hi : Option Int} {n : Nat} {Q : Int × Int × Nat → Shared → Prop} (hs : s.heap.IsSliceOf sl vl vu .none) (pl : IsPart vl lo) (pu : IsPart vu hi)
    (h : Q (((sIx n 0 lo : Nat) : Int), 1, sIx n n hi - sIx n 0 lo) s) : wpAny (model prog w) A (Builtin.Slice.sliceApplied (.ref sl) (pure (n : Int))) Q E s := by
  obtain ⟨os, hos, hcs, hds⟩ := id hs
  unfold Builtin.Slice.sliceApplied Builtin.Slice.sliceFields
  refine wpAny_bind (wpAny_bind (wpAny_field hos hds (x := vl) rfl (wpAny_bind (wpAny_field hos hds (x := vu) rfl (wpAny_bind (wpAny_field hos hds (x := .none) rfl (wpAny_pure ?_)))))))
  refine wpAny_bind (slicePart_none ?_)
  show wpAny _ _ (if ((1 : Int) == 0) = true then _ else _) _ _ s
  rw [if_neg (by decide)]
  refine wpAny_bind (slicePart_ pl (wpAny_bind (slicePart_ pu (wpAny_bind (wpAny_pure ?_)))))
  show wpAny _ _ (match Builtin.Slice.sliceAdjust lo hi 1 (n : Int) with | (lo, hi) => pure (lo, (1 : Int), Builtin.Slice.slicePlaces lo hi 1)) _ _ s
  rw [adjust_gen lo hi n]
  show wpAny _ _ (pure (((sIx n 0 lo : Nat) : Int), (1 : Int), Builtin.Slice.slicePlaces ((sIx n 0 lo : Nat) : Int) ((sIx n n hi : Nat) : Int) 1)) _ _ s
  rw [places_gen]
  exact wpAny_pure h
theorem pick_gen (xs : Array Value) (i k : Nat) : ((List.range k).filterMap fun (m : Nat) => xs[((i : Int) + (m : Int) * 1).toNat]?).toArray = ((xs.toList.drop i).take k).toArray := by
  have e : (fun (m : Nat) => xs[((i : Int) + (m : Int) * 1).toNat]?) = fun m => xs[i + m]? := by
    funext m
    have : ((i : Int) + (m : Int) * 1).toNat = i + m := by omega
    rw [this]
  rw [e]
  have := pick_run xs i k
  rw [List.filterMap_map] at this
  have e2 : ((fun x => xs[x]?) ∘ fun x => i + x) = fun m => xs[i + m]? := rfl
  rw [e2] at this
  rw [this]
theorem getItem_tuple_cut {t sl : Addr} {items : Array Value} {vl vu : Value} {lo hi : Option Int} {Q : Value → Shared → Prop} (ht : IsTup s.heap t items) (hs : s.heap.IsSliceOf sl vl vu .none) (pl : IsPart vl lo) (pu : IsPart vu hi)
    (hw : ¬ (sIx items.size 0 lo = 0 ∧ sIx items.size items.size hi = items.size))
    (h : Q (.ref s.heap.objs.size) { s with heap := s.heap.push { cls := .type "tuple", data := .seq ((items.toList.drop (sIx items.size 0 lo)).take (sIx items.size items.size hi - sIx items.size 0 lo)).toArray } })
    (hsz : items.size ≤ sizeLine) : wpAny (model prog w) A (getItem (.ref t) (.ref sl)) Q E s := by
  have htake : sizeOk (.seq ((items.toList.drop (sIx items.size 0 lo)).take (sIx items.size items.size hi - sIx items.size 0 lo)).toArray) := by
    show ((items.toList.drop (sIx items.size 0 lo)).take (sIx items.size items.size hi - sIx items.size 0 lo)).toArray.size ≤ sizeLine
    rw [List.size_toArray, List.length_take, List.length_drop, Array.length_toList]
    omega
  have hj : sIx items.size items.size hi ≤ items.size := sIx_le _ _ (Nat.le_refl _) hi
  obtain ⟨os, hos, hcs, hds⟩ := id hs
  have hTs : s.TypeIs (.ref sl) "slice" := ⟨os, hos, hcs⟩
  unfold getItem
  try with_reducible refine wpAny_holding ?_
  first | refine wpAny_bind (wpAny_pure ?_) | skip
  refine wpAny_bind (wpAny_sequenceKey ht.typeIs (by decide) ?_)
  refine wpAny_bind (wpAny_callSpecial?_slot (name := Str.ofString "__getitem__") ht.typeIs PyProof.Rows.slot_tuple_getitem
    (wpAny_call_entry PyProof.Rows.slot_tuple_getitem ht.typeIs entry_tuple_getitem ?_ (args_tuple_getitem _ _)))
  show wpAny _ _ (Builtin.Tuple.tupleItemsOf (.ref t) >>= _) _ _ s
  refine wpAny_bind (tupleItemsOf_ ht ?_)
  refine wpAny_bind (wpAny_typeOf hTs ?_)
  rw [if_pos (by decide)]
  refine wpAny_bind (sliceApplied_gen hs pl pu ?_)
  have hno : ¬ ((((sIx items.size 0 lo : Nat) : Int) == 0 && (1 : Int) == 1 && (sIx items.size items.size hi - sIx items.size 0 lo) == items.size) = true) := by
    intro q
    rw [Bool.and_eq_true, Bool.and_eq_true] at q
    have q1 : ((sIx items.size 0 lo : Nat) : Int) = 0 := eq_of_beq q.1.1
    have q2 : sIx items.size items.size hi - sIx items.size 0 lo = items.size := eq_of_beq q.2
    exact hw ⟨by omega, by omega⟩
  show wpAny _ _ (if (((sIx items.size 0 lo : Nat) : Int) == 0 && (1 : Int) == 1 && (sIx items.size items.size hi - sIx items.size 0 lo) == items.size) = true then _ else _) _ _ s
  rw [if_neg hno, pick_gen]
  first
    | exact wpAny_bind (m := Builtin.Tuple.tupleExact _) (wpAny_newObj_type (wpAny_pure ⟨_, rfl, wpAny_pure h⟩) htake)
    | exact wpAny_bind (m := Builtin.Tuple.tupleExact _) (wpAny_newObj_type (wpAny_bind (wpAny_pure (wpAny_pure ⟨_, rfl, wpAny_pure h⟩))) htake)
    | exact wpAny_bind (wpAny_bind (m := Builtin.Tuple.tupleExact _) (wpAny_newObj_type (wpAny_pure (wpAny_pure ⟨_, rfl, wpAny_pure h⟩)) htake))
    | exact wpAny_bind (wpAny_bind (m := Builtin.Tuple.tupleExact _) (wpAny_newObj_type (wpAny_pure ⟨_, rfl, wpAny_pure h⟩) htake))
end
end HT
namespace L2
open PySem PySem.Spec PyProof.Rows
abbrev TO := St → Hp → (Option Int → Hp → Prop) → Prop
def PO (X : Cx) (e : Option Expr) (t : TO) : Prop :=
  ∀ (pins : List (Addr × Obj)) (s : Shared) (σ : St) (H : Hp) (Q : Option Int → Hp → Prop), Inv X pins σ H s → t σ H Q →
    wpAny (model X.prog X.w) X.A (evalPart e X.env) (fun u s' => ∃ o H', Inv X pins σ H' s' ∧ IsPart u o ∧ Q o H') X.xe s
def tNoPart : TO := fun _ H Q => Q none H
def tPart (t : TE) : TO := fun σ H Q => t σ H fun x H1 => ∃ i, x = .int i ∧ Q (some i) H1
section
variable {X : Cx} {e : Expr} {te : TE} {lo hi : Option Expr} {tl th : TO} {pos p2 : Pos}
theorem po_none : PO X none tNoPart := by
  intro pins s σ H Q I h
  rw [evalPart_none]
  exact wpAny_pure ⟨none, H, I, .none, h⟩
theorem po_some (h : PE X e te) : PO X (some e) (tPart te) := by
  intro pins s σ H Q I hw
  rw [evalPart_some]
  refine thn (h pins s σ H _ I hw) fun u s1 ⟨x, H1, I1, r1, q1⟩ => ?_
  obtain ⟨i, rfl, q⟩ := q1
  obtain ⟨t, rfl⟩ := r1
  exact ⟨some i, H1, I1, .int i t, q⟩
def SlR (X : Cx) (r : V → Option Int → Option Int → Hp → VK → Prop) : Prop :=
  ∀ (pins : List (Addr × Obj)) (s : Shared) (σ : St) (H : Hp) (x : V) (v vl vu : Value) (lo hi : Option Int) (sl : Addr) (Q : VK), Inv X pins σ H s → RelV x v → s.heap.IsSliceOf sl vl vu .none → IsPart vl lo → IsPart vu hi → r x lo hi H Q →
    ∃ T id, typeLookup (.type T) "__getitem__" = pure (some (.builtin id)) ∧ s.TypeIs v T ∧ wpAny (model X.prog X.w) X.A (getItem v (.ref sl)) (EP X pins σ Q) X.xe s
def tSl (r : V → Option Int → Option Int → Hp → VK → Prop) (te : TE) (tl th : TO) : TE := fun σ H Q => te σ H fun x H1 => tl σ H1 fun l H2 => th σ H2 fun u H3 => r x l u H3 Q
theorem pe_slice {r : V → Option Int → Option Int → Hp → VK → Prop} (hr : SlR X r) (he : PE X e te) (hl : PO X lo tl) (hu : PO X hi th) : PE X (.Subscript e (.Slice lo hi none p2) pos) (tSl r te tl th) := by
  intro pins s σ H Q I h
  refine Subscript_ (thn (he pins s σ H _ I h) fun v s1 ⟨x, H1, I1, r1, q1⟩ => ?_)
  refine wpAny_Slice (thn (hl pins s1 σ H1 _ I1 q1) fun vl s2 ⟨l, H2, I2, pl, q2⟩ => thn (hu pins s2 σ H2 _ I2 q2) fun vu s3 ⟨u, H3, I3, pu, q3⟩ => ?_)
  rw [evalPart_none]
  refine wpAny_pure ?_
  have I4 : Inv X pins σ H3 { s3 with heap := s3.heap.push { cls := .type "slice", data := .fields #[vl, vu, .none] } } := I3.kept (t' := s3.toks) fun b ob q => Heap.get?_push_of_some _ q
  obtain ⟨T, id, hT, ht, hg⟩ := hr pins { s3 with heap := s3.heap.push { cls := .type "slice", data := .fields #[vl, vu, .none] } } σ H3 x v vl vu l u s3.heap.objs.size Q I4 r1 (Heap.IsSliceOf.new ..) pl pu q3
  show wpAny (model X.prog X.w) X.A (subscriptTail e (.Slice lo hi none p2) v (.ref s3.heap.objs.size)) (EP X pins σ Q) X.xe { s3 with heap := s3.heap.push { cls := .type "slice", data := .fields #[vl, vu, .none] } }
  exact tail_any (ops := [.ref s3.heap.objs.size, v]) ht hT hg (by with_unfolding_all rfl)
def cutV (xs : List V) (lo hi : Option Int) : List V := (xs.drop (HT.sIx xs.length 0 lo)).take (HT.sIx xs.length xs.length hi - HT.sIx xs.length 0 lo)
theorem cutV_length (xs : List V) (lo hi : Option Int) : (cutV xs lo hi).length ≤ xs.length := by
  unfold cutV
  rw [List.length_take, List.length_drop]
  omega
def rSlT (K : PySem.W.Frag) : V → Option Int → Option Int → Hp → VK → Prop := fun x lo hi H Q => ∃ a xs, x = .ref a ∧ SqT K H a xs ∧
  ¬ (HT.sIx xs.length 0 lo = 0 ∧ HT.sIx xs.length xs.length hi = xs.length) ∧ ∀ p, H p = none → Q (.ref p) (upd H p (.tup (cutV xs lo hi)))
theorem sl_tup : SlR X (rSlT X.K) := by
  intro pins s σ H x v vl vu lo hi sl Q I rx hs pl pu h
  obtain ⟨a, xs, rfl, hx, hw, q⟩ := h
  cases rx
  obtain ⟨its, r, ht, hz⟩ := I.tuple hx
  have hlen : its.toArray.size = xs.length := by rw [List.size_toArray]; exact r.length.symm
  refine ⟨"tuple", _, PyProof.Rows.slot_tuple_getitem.lookup, ht.typeIs, ?_⟩
  refine HT.getItem_tuple_cut ht hs pl pu (by rw [hlen]; exact hw) ?_ (by rw [hlen]; exact hz)
  rw [hlen]
  refine ⟨.ref s.heap.objs.size, _, I.laid (t' := s.toks) (o := .tup (cutV xs lo hi)) (fun b ob q => Heap.get?_push_of_some _ q) (Nat.le_refl _) ?_, rfl, q _ (I.hok.fresh (Nat.le_refl _))⟩
  exact ⟨Nat.le_trans (cutV_length xs lo hi) hz, _, (r.drop (HT.sIx xs.length 0 lo)).take (HT.sIx xs.length xs.length hi - HT.sIx xs.length 0 lo), IsTup.new _ _⟩
def rCatT (K : PySem.W.Frag) : R2 := fun x y H Q => ∃ a b xs ys, x = .ref a ∧ y = .ref b ∧ SqT K H a xs ∧ SqT K H b ys ∧ xs ≠ [] ∧ xs.length + ys.length ≤ sizeLine ∧
  (ys = [] → Q (.ref a) H) ∧ (ys ≠ [] → ∀ p, H p = none → Q (.ref p) (upd H p (.tup (xs ++ ys))))
theorem Vals.nil_iff {xs : List V} {us : List Value} (r : Vals xs us) : us = [] ↔ xs = [] := by
  cases r with
  | nil => simp
  | cons _ _ => simp
theorem op_catT : OpR X (binaryOp .Add) (rCatT X.K) := by
  intro pins s σ H x y v u Q I rx ry h
  obtain ⟨a, b, xs, ys, rfl, rfl, ha, hb, hx, hz, q1, q2⟩ := h
  cases rx
  cases ry
  obtain ⟨its, r1, p1, _⟩ := I.tuple ha
  obtain ⟨its2, r2, p2, _⟩ := I.tuple hb
  refine HT.cat_tup p1 p2 (fun z => hx (r1.nil_iff.mp z)) (fun z => ⟨.ref a, H, I, rfl, q1 (r2.nil_iff.mp z)⟩) (fun z => ?_) (by rw [← r1.length, ← r2.length]; exact hz)
  refine ⟨.ref s.heap.objs.size, _, I.laid (t' := s.toks) (o := .tup (xs ++ ys)) (fun b ob q => Heap.get?_push_of_some _ q) (Nat.le_refl _) ?_, rfl, q2 (fun w => z (r2.nil_iff.mpr w)) _ (I.hok.fresh (Nat.le_refl _))⟩
  exact ⟨by rw [List.length_append]; exact hz, _, r1.append r2, IsTup.new _ _⟩
end
end L2
namespace L2
open PySem PySem.Spec PyProof.Rows
def ixN (n : Nat) (i : Int) : Option Nat := if 0 ≤ i then (if i < n then some i.toNat else none) else if -(n : Int) ≤ i then some (i + n).toNat else none
def atI {α : Type} (xs : List α) (i : Int) : Option α := (ixN xs.length i).bind fun j => xs[j]?
theorem ixN_seq {n : Nat} {i : Int} {j : Nat} (h : ixN n i = some j) : seqIndex? i n = some j ∧ j < n ∧ -(n : Int) ≤ i ∧ i < n := by
  unfold ixN at h
  by_cases h0 : 0 ≤ i
  · rw [if_pos h0] at h
    by_cases h1 : i < n
    · rw [if_pos h1] at h
      have e : i.toNat = j := Option.some.inj h
      exact ⟨by rw [seqIndex_of h0 h1, e], by omega, by omega, h1⟩
    · rw [if_neg h1] at h; cases h
  · rw [if_neg h0] at h
    by_cases h1 : -(n : Int) ≤ i
    · rw [if_pos h1] at h
      have e : (i + n).toNat = j := Option.some.inj h
      exact ⟨by rw [seqIndex_neg (by omega) h1, e], by omega, h1, by omega⟩
    · rw [if_neg h1] at h; cases h
theorem atI_get {α : Type} {xs : List α} {i : Int} {v : α} (h : atI xs i = some v) : ∃ j, seqIndex? i xs.length = some j ∧ xs[j]? = some v ∧ j < xs.length ∧ -(xs.length : Int) ≤ i ∧ i < xs.length := by
  unfold atI at h
  cases e : ixN xs.length i with
  | none => rw [e] at h; cases h
  | some j =>
    rw [e] at h
    obtain ⟨h1, h2, h3, h4⟩ := ixN_seq e
    exact ⟨j, h1, h, h2, h3, h4⟩
theorem atI_nat {α : Type} {xs : List α} {j : Nat} {v : α} (h : xs[j]? = some v) : atI xs (j : Int) = some v := by
  have hj : j < xs.length := (List.getElem?_eq_some_iff.mp h).1
  have e : ixN xs.length (j : Int) = some j := by
    unfold ixN
    rw [if_pos (by omega), if_pos (by omega)]; simp
  unfold atI; rw [e]; exact h
def PlainIx (b : Expr) : Prop := ∀ o i, subscripted b false o i = operate [o, i] (getItem o i)
def IxR (X : Cx) (r : R2) : Prop :=
  ∀ (value slice : Expr) (pins : List (Addr × Obj)) (s : Shared) (σ : St) (H : Hp) (x y : V) (v u : Value) (Q : VK), Inv X pins σ H s → RelV x v → RelV y u → r x y H Q →
    subscripted slice false v u = operate [v, u] (getItem v u) → wpAny (model X.prog X.w) X.A (subscriptTail value slice v u) (EP X pins σ Q) X.xe s
def MtR (X : Cx) (id : String) (r : V → List V → Hp → VK → Prop) : Prop :=
  ∀ (pins : List (Addr × Obj)) (s : Shared) (σ : St) (H : Hp) (x : V) (xs : List V) (v : Value) (us : List Value) (Q : VK), Inv X pins σ H s → RelV x v → Vals xs us → r x xs H Q →
    wpAny (model X.prog X.w) X.A (call (.builtin id) (v :: us)) (EP X pins σ Q) X.xe s
section
variable {X : Cx} {a b : Expr} {ta tb : TE} {pos : Pos}
theorem pe_ix {r : R2} (hr : IxR X r) (ha : PE X a ta) (hb : PE X b tb) (hs : PlainIx b) : PE X (.Subscript a b pos) (tOp r ta tb) := by
  intro pins s σ H Q I h
  exact Subscript_ (binT ha hb I h fun v u s2 x y H2 I2 rx ry q => hr a b pins s2 σ H2 x y v u Q I2 rx ry q (hs _ _))
def rIxL (K : PySem.W.Frag) : R2 := fun x y H Q => ∃ p xs i v, x = .ref p ∧ y = .int i ∧ SqL K H p xs ∧ atI xs i = some v ∧ Q v H
def rIxT (K : PySem.W.Frag) : R2 := fun x y H Q => ∃ p xs i v, x = .ref p ∧ y = .int i ∧ SqT K H p xs ∧ atI xs i = some v ∧ Q v H
def rIxS : R2 := fun x y H Q => ∃ z i c, x = .str z ∧ y = .int i ∧ z.length ≤ sizeLine ∧ atI z.cps.toList i = some c ∧ Q (.str ⟨#[c]⟩) H
theorem ix_list : IxR X (rIxL X.K) := by
  intro value slice pins s σ H x y v u Q I rx ry h hs
  obtain ⟨p, xs, i, z, rfl, rfl, hq, he, q⟩ := h
  cases rx
  obtain ⟨t, rfl⟩ := ry
  obtain ⟨its, r, pl, hz⟩ := I.list hq
  obtain ⟨j, h1, h2, h3, h4, h5⟩ := atI_get he
  obtain ⟨w, ew, rw'⟩ := r.get h2
  have hl := r.length
  have hn := line63
  have fin : EP X pins σ Q w s := ⟨z, H, I, rw', q⟩
  by_cases h0 : 0 ≤ i
  · have hj : i.toNat = j := by
      rw [seqIndex_of h0 h5] at h1
      exact Option.some.inj h1
    exact item_listR pl.isList h0 (by omega) (by rw [hj]; simpa using ew) fin hs
  · have hj : (i + (its.toArray.size : Int)).toNat = j := by
      rw [seqIndex_neg (by omega) h4] at h1
      rw [List.size_toArray, ← hl]
      exact Option.some.inj h1
    exact subscriptTail_builtinR (x := w) pl.isList.typeIs slot_list_getitem.lookup
      (wpAny_getItem_list_neg (Q := fun r s' => r = w ∧ EP X pins σ Q r s') pl.isList (by omega) (by rw [List.size_toArray] <;> omega) (by omega) (by rw [hj]; simpa using ew) ⟨rfl, fin⟩) hs
theorem ix_tup : IxR X (rIxT X.K) := by
  intro value slice pins s σ H x y v u Q I rx ry h hs
  obtain ⟨p, xs, i, z, rfl, rfl, hq, he, q⟩ := h
  cases rx
  obtain ⟨t, rfl⟩ := ry
  obtain ⟨its, r, pl, hz⟩ := I.tuple hq
  obtain ⟨j, h1, h2, h3, h4, h5⟩ := atI_get he
  obtain ⟨w, ew, rw'⟩ := r.get h2
  have hl := r.length
  have hn := line63
  have fin : EP X pins σ Q w s := ⟨z, H, I, rw', q⟩
  exact subscriptTail_builtinR (x := w) pl.typeIs slot_tuple_getitem.lookup
    (getItem_tuple (j := j) (Q := fun r s' => r = w ∧ EP X pins σ Q r s') pl (by omega) (by omega) (by rw [List.size_toArray, ← hl]; exact h1) (by simpa using ew) ⟨rfl, fin⟩) hs
theorem ix_str : IxR X rIxS := by
  intro value slice pins s σ H x y v u Q I rx ry h hs
  obtain ⟨z, i, c, rfl, rfl, hz, he, q⟩ := h
  obtain ⟨t, rfl⟩ := rx
  obtain ⟨t', rfl⟩ := ry
  obtain ⟨j, h1, h2, h3, h4, h5⟩ := atI_get he
  have hl : z.cps.toList.length = z.length := by simp [Str.length]
  rw [hl] at h1 h4 h5
  have hn := line63
  exact tail_any (typeIs_str s z t) slot_str_getitem.lookup (getItem_str (c := c) (by
    have e1 : decide (i < -(2 ^ 63 : Int)) = false := decide_eq_false (by omega)
    have e2 : decide (i ≥ 2 ^ 63) = false := decide_eq_false (by omega)
    rw [e1, e2, Bool.or_false]) (by rw [h1]; simpa using h2) ⟨.str ⟨#[c]⟩, H, I.tok _, ⟨_, rfl⟩, q⟩) hs
theorem mapSeq_set (its : List Value) (n j : Nat) (u : Value) : Obj.mapSeq (·.setIfInBounds j u) { cls := .type "list", data := .seq its.toArray n } = { cls := .type "list", data := .seq (its.set j u).toArray n } := by
  simp [Obj.mapSeq]
theorem Inv.lst {pins : List (Addr × Obj)} {σ : St} {H : Hp} {s : Shared} {p : Addr} {xs : List V} (I : Inv X pins σ H s) (h : H p = some (.lst xs)) :
    ∃ (its : List Value) (n : Nat), Vals xs its ∧ s.heap.get? p = some { cls := .type "list", data := .seq its.toArray n } ∧ xs.length ≤ sizeLine := by
  obtain ⟨z, its, n, r, e⟩ := I.hok p _ h
  exact ⟨its, n, r, e, z⟩
theorem Inv.lstUpd {pins : List (Addr × Obj)} {σ : St} {H : Hp} {s : Shared} {p : Addr} {xs ys : List V} {its its' : List Value} {n n' : Nat} {f : Obj → Obj} (I : Inv X pins σ H s) (h : H p = some (.lst xs))
    (ho : s.heap.get? p = some { cls := .type "list", data := .seq its.toArray n }) (hf : f { cls := .type "list", data := .seq its.toArray n } = { cls := .type "list", data := .seq its'.toArray n' }) (r : Vals ys its') (hz : ys.length ≤ sizeLine) (t : Nat) :
    Inv X pins σ (upd H p (.lst ys)) { s with heap := s.heap.update p f, toks := t } := by
  have e : (s.heap.update p f).get? p = some { cls := .type "list", data := .seq its'.toArray n' } := by
    rw [Heap.get?_update_self f ho (by rw [hf] <;> rfl), hf]
  refine I.write (x := p) (e := p) (by rw [h]; trivial) (.inl rfl) (fun b u hb q => (Heap.get?_update_other _ _ (Ne.symm hb)).trans q) ⟨_, e⟩ ?_
  exact ⟨hz, its', n', r, e⟩
def rSetL : V → V → V → Hp → (Hp → Prop) → Prop := fun o i v H Q => ∃ p xs k j, o = .ref p ∧ i = .int k ∧ H p = some (.lst xs) ∧ ixN xs.length k = some j ∧ Q (upd H p (.lst (xs.set j v)))
theorem set_list : PSet X rSetL := by
  intro pins s σ H o i v ov iv u Q I ro ri rv h
  obtain ⟨p, xs, k, j, rfl, rfl, hp, hj, q⟩ := h
  cases ro
  obtain ⟨t, rfl⟩ := ri
  obtain ⟨its, n, r, ho, hz⟩ := I.lst hp
  obtain ⟨h1, h2, h3, h4⟩ := ixN_seq hj
  have hl := r.length
  have hn := line63
  have I' : Inv X pins σ (upd H p (.lst (xs.set j v))) { s with heap := s.heap.update p (Obj.mapSeq (·.setIfInBounds j u)) } :=
    I.lstUpd hp ho (mapSeq_set its n j u) (r.set rv j) (by rw [List.length_set]; exact hz) s.toks
  by_cases h0 : 0 ≤ k
  · have hk : k.toNat = j := by
      rw [seqIndex_of h0 h4] at h1
      exact Option.some.inj h1
    exact PySem.W.ki_setAt ho h0 (by omega) (by rw [List.size_toArray, ← hl]; exact h4) (by rw [hk]; exact ⟨_, I', q⟩)
  · have hk : (k + (its.toArray.size : Int)).toNat = j := by
      rw [seqIndex_neg (by omega) h3] at h1
      rw [List.size_toArray, ← hl]
      exact Option.some.inj h1
    exact PySem.W.ki_setBack ho (by omega) (by rw [List.size_toArray, ← hl]; exact h3) (by omega) (by rw [hk]; exact ⟨_, I', q⟩)
theorem slice_bounds (lo hi : Option Int) (n : Nat) : (sliceBounds lo hi none n).1 = ((HT.sIx n 0 lo : Nat) : Int) ∧ (sliceBounds lo hi none n).2.1 = ((HT.sIx n n hi : Nat) : Int) ∧ (sliceBounds lo hi none n).2.2 = 1 := by
  refine ⟨?_, ?_, rfl⟩
  · cases lo with
    | none => simp [sliceBounds, HT.sIx]
    | some i =>
      simp only [sliceBounds, HT.sIx, Option.getD_none, show (1 : Int) > 0 by decide, if_true]
      by_cases h : i < 0
      · simp only [h, if_true] <;> omega
      · simp only [h, if_false] <;> omega
  · cases hi with
    | none => simp [sliceBounds, HT.sIx]
    | some i =>
      simp only [sliceBounds, HT.sIx, Option.getD_none, show (1 : Int) > 0 by decide, if_true]
      by_cases h : i < 0
      · simp only [h, if_true] <;> omega
      · simp only [h, if_false] <;> omega
theorem slicePick_cut (its : List Value) (lo hi : Option Int) : slicePick its.toArray lo hi none = ((its.drop (HT.sIx its.length 0 lo)).take (HT.sIx its.length its.length hi - HT.sIx its.length 0 lo)).toArray := by
  obtain ⟨h1, h2, h3⟩ := slice_bounds lo hi its.toArray.size
  unfold slicePick
  rw [h1, h2, h3]
  simp only [sliceRange_one, pick_run, List.size_toArray] <;> rfl
def rSlL (K : PySem.W.Frag) : V → Option Int → Option Int → Hp → VK → Prop := fun x lo hi H Q => ∃ a xs, x = .ref a ∧ SqL K H a xs ∧ ∀ p, H p = none → Q (.ref p) (upd H p (.lst (cutV xs lo hi)))
theorem sl_list : SlR X (rSlL X.K) := by
  intro pins s σ H x v vl vu lo hi sl Q I rx hs pl pu h
  obtain ⟨a, xs, rfl, hx, q⟩ := h
  cases rx
  obtain ⟨its, r, ht, hz⟩ := I.list hx
  have hlen := r.length
  refine ⟨"list", _, slot_list_getitem.lookup, ht.isList.typeIs, ?_⟩
  refine wpAny_getItem_list_slice ht.isList hs pl pu .none (by simp) ?_ (by rw [List.size_toArray] <;> omega)
  rw [slicePick_cut, ← hlen]
  refine ⟨.ref s.heap.objs.size, _, I.laid (t' := s.toks) (o := .lst (cutV xs lo hi)) (fun b ob q => Heap.get?_push_of_some _ q) (Nat.le_refl _) ?_, rfl, q _ (I.hok.fresh (Nat.le_refl _))⟩
  exact ⟨Nat.le_trans (cutV_length xs lo hi) hz, _, 0, (r.drop (HT.sIx xs.length 0 lo)).take (HT.sIx xs.length xs.length hi - HT.sIx xs.length 0 lo), Heap.get?_push_size _ rfl⟩
def flatV : V → Bool
  | .non => true
  | .bl _ => true
  | .int _ => true
  | .str _ => true
  | _ => false
def eqV : V → V → Bool
  | .non, .non => true
  | .bl a, .bl b => a == b
  | .bl a, .int b => (if a then 1 else 0) == b
  | .int a, .bl b => a == (if b then 1 else 0)
  | .int a, .int b => a == b
  | .str a, .str b => a == b
  | _, _ => false
theorem eqAt_V {A : Around} {s : Shared} {y x : V} {u v : Value} (ry : RelV y u) (rx : RelV x v) (fy : flatV y = true) (fx : flatV x = true) : SeqAt.EqAt A s u v (eqV y x) := by
  cases y with
  | non =>
    cases ry
    cases x with
    | non => cases rx; exact SeqAt.EqAt.same _
    | bl b => cases rx; exact SeqAt.EqAt.none_bool b
    | int b => obtain ⟨t, rfl⟩ := rx; exact SeqAt.EqAt.none_int b t
    | str b => obtain ⟨t, rfl⟩ := rx; exact SeqAt.EqAt.none_str b t
    | _ => exact absurd (show false = true from fx) Bool.false_ne_true
  | bl a =>
    cases ry
    cases x with
    | non => cases rx; exact SeqAt.EqAt.bool_none a
    | bl b => cases rx; exact SeqAt.EqAt.bool_bool a b
    | int b => obtain ⟨t, rfl⟩ := rx; exact SeqAt.EqAt.bool_int a b t
    | str b => obtain ⟨t, rfl⟩ := rx; exact SeqAt.EqAt.bool_str a b t
    | _ => exact absurd (show false = true from fx) Bool.false_ne_true
  | int a =>
    obtain ⟨t', rfl⟩ := ry
    cases x with
    | non => cases rx; exact SeqAt.EqAt.int_none a t'
    | bl b => cases rx; exact SeqAt.EqAt.int_bool a t' b
    | int b => obtain ⟨t, rfl⟩ := rx; exact SeqAt.EqAt.int_int a t' b t
    | str b => obtain ⟨t, rfl⟩ := rx; exact SeqAt.EqAt.int_str a t' b t
    | _ => exact absurd (show false = true from fx) Bool.false_ne_true
  | str a =>
    obtain ⟨t', rfl⟩ := ry
    cases x with
    | non => cases rx; exact SeqAt.EqAt.str_none a t'
    | bl b => cases rx; exact SeqAt.EqAt.str_bool a t' b
    | int b => obtain ⟨t, rfl⟩ := rx; exact SeqAt.EqAt.str_int a t' b t
    | str b => obtain ⟨t, rfl⟩ := rx; exact SeqAt.EqAt.str_str a t' b t
    | _ => exact absurd (show false = true from fx) Bool.false_ne_true
  | _ => exact absurd (show false = true from fy) Bool.false_ne_true
def eqU (x : V) (u : Value) : Bool := match u with
  | .none => eqV .non x
  | .bool b => eqV (.bl b) x
  | .int i _ => eqV (.int i) x
  | .str z _ => eqV (.str z) x
  | _ => false
theorem eqU_of {x y : V} {u : Value} (r : RelV y u) (f : flatV y = true) : eqU x u = eqV y x := by
  cases y with
  | non => cases r; rfl
  | bl b => cases r; rfl
  | int i => obtain ⟨t, rfl⟩ := r; rfl
  | str z => obtain ⟨t, rfl⟩ := r; rfl
  | _ => exact absurd (show false = true from f) Bool.false_ne_true
theorem any_eqU {x : V} : ∀ {xs : List V} {us : List Value}, Vals xs us → xs.all flatV = true → us.any (eqU x) = xs.any fun y => eqV y x
  | _, _, .nil, _ => rfl
  | y :: xs, u :: us, .cons r t, f => by
    rw [List.all_cons, Bool.and_eq_true] at f
    rw [List.any_cons, List.any_cons, eqU_of r f.1, any_eqU t f.2]
theorem mem_eqAt {A : Around} {s : Shared} {x : V} {v : Value} (rx : RelV x v) (fx : flatV x = true) : ∀ {xs : List V} {us : List Value}, Vals xs us → xs.all flatV = true → ∀ u ∈ us, SeqAt.EqAt A s u v (eqU x u)
  | _, _, .nil, _ => fun u hu => by cases hu
  | y :: xs, u :: us, .cons r t, f => fun u' hu => by
    rw [List.all_cons, Bool.and_eq_true] at f
    rcases List.mem_cons.mp hu with rfl | hu
    · rw [eqU_of r f.1]; exact eqAt_V r rx f.1 fx
    · exact mem_eqAt rx fx t f.2 u' hu
def inV (x : V) (xs : List V) : Bool := xs.any fun y => eqV y x
def rIn (K : PySem.W.Frag) (neg : Bool) : R2 := fun x y H Q => ∃ p xs, y = .ref p ∧ (SqL K H p xs ∨ SqT K H p xs) ∧ flatV x = true ∧ xs.all flatV = true ∧ Q (.bl (if neg then !inV x xs else inV x xs)) H
theorem op_in_seq : OpR X (compareOp .In) (rIn X.K false) := by
  intro pins s σ H x y v u Q I rx ry h
  obtain ⟨p, xs, rfl, hq, fx, fs, q⟩ := h
  cases ry
  rcases hq with hq | hq
  · obtain ⟨its, r, pl, hz⟩ := I.list hq
    refine SeqAt.in_listAt (eqU x) pl.isList (fun w hw => mem_eqAt rx fx r fs w (by simpa using hw)) ⟨.bl _, H, I, rfl, ?_⟩
    rw [show its.toArray.any (eqU x) = its.any (eqU x) by simp, any_eqU r fs]
    exact q
  · obtain ⟨its, r, pl, hz⟩ := I.tuple hq
    refine SeqAt.in_tupleAt (eqU x) pl (fun w hw => mem_eqAt rx fx r fs w (by simpa using hw)) ⟨.bl _, H, I, rfl, ?_⟩
    rw [show its.toArray.any (eqU x) = its.any (eqU x) by simp, any_eqU r fs]
    exact q
theorem op_notIn_seq : OpR X (compareOp .NotIn) (rIn X.K true) := by
  intro pins s σ H x y v u Q I rx ry h
  obtain ⟨p, xs, rfl, hq, fx, fs, q⟩ := h
  cases ry
  rcases hq with hq | hq
  · obtain ⟨its, r, pl, hz⟩ := I.list hq
    refine SeqAt.notIn_listAt (eqU x) pl.isList (fun w hw => mem_eqAt rx fx r fs w (by simpa using hw)) ⟨.bl _, H, I, rfl, ?_⟩
    rw [show its.toArray.any (eqU x) = its.any (eqU x) by simp, any_eqU r fs]
    exact q
  · obtain ⟨its, r, pl, hz⟩ := I.tuple hq
    refine SeqAt.notIn_tupleAt (eqU x) pl (fun w hw => mem_eqAt rx fx r fs w (by simpa using hw)) ⟨.bl _, H, I, rfl, ?_⟩
    rw [show its.toArray.any (eqU x) = its.any (eqU x) by simp, any_eqU r fs]
    exact q
theorem call_len_seq : CallR X (.builtin "len") (fun xs H Q => ∃ p ys, xs = [.ref p] ∧ (SqL X.K H p ys ∨ SqT X.K H p ys) ∧ Q (.int ys.length) H) := by
  intro pins s σ H xs us Q I r h
  obtain ⟨p, ys, rfl, hq, q⟩ := h
  obtain ⟨u, rfl, rx⟩ := vals1 r
  cases rx
  have hn := line63
  rcases hq with hq | hq
  · obtain ⟨its, r', pl, hz⟩ := I.list hq
    have hlen := r'.length
    exact Calls.call_len_list pl.isList (by simp only [List.size_toArray] <;> omega) ⟨.int ys.length, H, I.tok _, ⟨s.toks + 1, by rw [List.size_toArray, hlen]⟩, q⟩
  · obtain ⟨its, r', pl, hz⟩ := I.tuple hq
    have hlen := r'.length
    exact len_tuple pl (by simp only [List.size_toArray] <;> omega) ⟨.int ys.length, H, I.tok _, ⟨s.toks + 1, by rw [List.size_toArray, hlen]⟩, q⟩
theorem call_len_str : CallR X (.builtin "len") (fun xs H Q => ∃ z, xs = [.str z] ∧ z.length ≤ sizeLine ∧ Q (.int z.length) H) := by
  intro pins s σ H xs us Q I r h
  obtain ⟨z, rfl, hz, q⟩ := h
  obtain ⟨u, rfl, t, rfl⟩ := vals1 r
  have hn := line63
  exact len_str (by omega) ⟨.int z.length, H, I.tok _, ⟨_, rfl⟩, q⟩
theorem call_list_of : CallR X (.type "list") (fun xs H Q => ∃ p ys, xs = [.ref p] ∧ (SqL X.K H p ys ∨ SqT X.K H p ys) ∧ ∀ l, H l = none → Q (.ref l) (upd H l (.lst ys))) := by
  intro pins s σ H xs us Q I r h
  obtain ⟨p, ys, rfl, hq, q⟩ := h
  obtain ⟨u, rfl, rx⟩ := vals1 r
  cases rx
  have fin : ∀ (its : List Value), Vals ys its → ys.length ≤ sizeLine → ∀ (h' : Heap) (c' : Nat), (∀ b o', s.heap.get? b = some o' → h'.get? b = some o') →
      h'.get? s.heap.objs.size = some { cls := .type "list", dict := none, data := .seq its.toArray c', slots := #[] } → EP X pins σ Q (.ref s.heap.objs.size) { s with heap := h' } := fun its r' hz h' c' kp e =>
    ⟨.ref s.heap.objs.size, _, I.laid (t' := s.toks) kp (Nat.le_refl _) (show ObjOk X.prog X.w _ h' _ (.lst ys) from ⟨hz, its, c', r', e⟩), rfl, q _ (I.hok.fresh (Nat.le_refl _))⟩
  rcases hq with hq | hq
  · obtain ⟨its, r', pl, hz⟩ := I.list hq
    have hlen := r'.length
    obtain ⟨o, ho, hc, n, hd⟩ := pl.isList
    exact call_list_seq p (.inl rfl) ho hc hd (fun h' c' kp e => fin its r' hz h' c' kp e) (by simp only [List.size_toArray] <;> omega)
  · obtain ⟨its, r', pl, hz⟩ := I.tuple hq
    have hlen := r'.length
    obtain ⟨o, ho, hc, n, hd⟩ := pl
    exact call_list_seq p (.inr rfl) ho hc hd (fun h' c' kp e => fin its r' hz h' c' kp e) (by simp only [List.size_toArray] <;> omega)
theorem call_tuple_of : CallR X (.type "tuple") (fun xs H Q => ∃ p ys, xs = [.ref p] ∧ ((SqL X.K H p ys ∧ ∀ l, H l = none → Q (.ref l) (upd H l (.tup ys))) ∨ (SqT X.K H p ys ∧ Q (.ref p) H))) := by
  intro pins s σ H xs us Q I r h
  obtain ⟨p, ys, rfl, h⟩ := h
  obtain ⟨u, rfl, rx⟩ := vals1 r
  cases rx
  rcases h with ⟨hq, q⟩ | ⟨hq, q⟩
  · obtain ⟨its, r', pl, hz⟩ := I.list hq
    have hlen := r'.length
    refine call_tuple_list pl.isList (fun h' kp => ?_) (by simp only [List.size_toArray] <;> omega)
    have I1 : Inv X pins σ H { s with heap := h' } := I.kept (t' := s.toks) kp
    have I2 : Inv X pins σ (upd H h'.objs.size (.tup ys)) { s with heap := h'.push { cls := .type "tuple", data := .seq its.toArray } } :=
      I1.laid (t' := s.toks) (fun b o e => Heap.get?_push_of_some _ e) (Nat.le_refl _) (show ObjOk X.prog X.w _ _ _ (.tup ys) from ⟨hz, its, r', IsTup.new _ _⟩)
    exact ⟨.ref h'.objs.size, _, I2, rfl, q _ (I1.hok.fresh (Nat.le_refl _))⟩
  · obtain ⟨its, r', pl, hz⟩ := I.tuple hq
    exact call_tuple_same pl ⟨.ref p, H, I, rfl, q⟩
def tyV (K : PySem.W.Frag) (T : String) (x : V) (H : Hp) : Prop := match x with
  | .str _ => T = "str"
  | .int _ => T = "int"
  | .ref p => (T = "list" ∧ ∃ xs, SqL K H p xs) ∨ (T = "tuple" ∧ ∃ o, K.lookup p = some o ∧ o.cls = .type "tuple" ∧ o.dict = none) ∨
      (T = "dict" ∧ ((∃ kvs, H p = some (.dK kvs)) ∨ ∃ kvs, H p = some (.dT kvs))) ∨ (T = "set" ∧ ∃ S n, H p = some (.set S n))
  | _ => False
theorem tyV_is {pins : List (Addr × Obj)} {σ : St} {H : Hp} {s : Shared} {T : String} {x : V} {v : Value} (I : Inv X pins σ H s) (r : RelV x v) (ty : tyV X.K T x H) :
    s.TypeIs v T ∧ ∀ a, v = .ref a → ∃ ob, s.heap.get? a = some ob ∧ ob.dict = none := by
  cases x with
  | str z =>
    obtain ⟨t, rfl⟩ := r
    cases (show T = "str" from ty)
    exact ⟨typeIs_str s z t, fun _ e => nomatch e⟩
  | int i =>
    obtain ⟨t, rfl⟩ := r
    cases (show T = "int" from ty)
    exact ⟨typeIs_int s i t, fun _ e => nomatch e⟩
  | ref p =>
    cases r
    rcases ty with ⟨rfl, xs, hq⟩ | ⟨rfl, o, hk, hc, hd⟩ | ⟨rfl, hk⟩ | ⟨rfl, S, n, hk⟩
    · obtain ⟨its, _, pl, _⟩ := I.list hq
      refine ⟨pl.isList.typeIs, fun a e => ?_⟩
      cases e
      obtain ⟨o, n, e, c, hd, _⟩ := pl
      exact ⟨o, e, hd⟩
    · refine ⟨⟨o, I.kIn p o hk, hc⟩, fun a e => ?_⟩
      cases e
      exact ⟨o, I.kIn _ o hk, hd⟩
    · have z : ∃ o, s.heap.get? p = some o ∧ o.ExactDict := by
        rcases hk with ⟨kvs, hk⟩ | ⟨kvs, hk⟩
        · obtain ⟨_, _, _, _, o, _, _, e, ex, _⟩ := I.hok p _ hk
          exact ⟨o, e, ex⟩
        · obtain ⟨_, _, _, _, o, _, _, e, ex, _⟩ := I.hok p _ hk
          exact ⟨o, e, ex⟩
      obtain ⟨o, e, ex⟩ := z
      refine ⟨⟨o, e, ex.1⟩, fun a e2 => ?_⟩
      cases e2
      exact ⟨o, e, ex.2.1⟩
    · obtain ⟨o, _, _, _, e, ex, _⟩ := I.hok p _ hk
      refine ⟨⟨o, e, ex.1⟩, fun a e2 => ?_⟩
      cases e2
      exact ⟨o, e, ex.2.1⟩
  | _ => exact False.elim ty
def tBM0 (K : PySem.W.Frag) (T : String) (r : V → List V → Hp → VK → Prop) (to : TE) : TE := fun σ H Q => to σ H fun x H1 => tyV K T x H1 ∧ r x [] H1 Q
def tBM (K : PySem.W.Frag) (T : String) (r : V → List V → Hp → VK → Prop) (to : TE) (t : TA) : TE := fun σ H Q => to σ H fun x H1 => tyV K T x H1 ∧ t σ H1 fun xs H2 => r x xs H2 Q
variable {o e : Expr} {es : List Expr} {to : TE} {t : TA} {name : Str} {apos cpos : Pos} {T id : String} {r : V → List V → Hp → VK → Prop}
theorem pe_bm0 (pa : PlainAttrs T) (slot : Slot T name id) (hty : typeOf (.builtin id) = pure (.type "method_descriptor")) (hm : MtR X id r) (ho : PE X o to)
    (hbase : attributeBase o name X.env (eval o X.env) = eval o X.env := by rfl) (hline : (apos.endLine == cpos.line) = true := by rfl) : PE X (.Call (.Attribute o name apos) [] [] cpos) (tBM0 X.K T r to) := by
  intro pins s σ H Q I h
  refine wpAny_Call_method0_late hbase hline (thn (ho pins s σ H _ I h) fun v s1 ⟨x, H1, I1, r1, ty, q1⟩ => ?_)
  obtain ⟨h1, h2⟩ := tyV_is I1 r1 ty
  exact ⟨T, id, pa, slot, hty, h1, h2, Calls.callWith_builtin rfl (PySem.evalArgs_none (hm pins s1 σ H1 x [] v [] Q I1 r1 .nil q1))⟩
theorem pe_bm (pa : PlainAttrs T) (slot : Slot T name id) (hty : typeOf (.builtin id) = pure (.type "method_descriptor")) (hm : MtR X id r) (ho : PE X o to) (ha : PA X (e :: es) t)
    (hbase : attributeBase o name X.env (eval o X.env) = eval o X.env := by rfl)
    (hfew : ((backTo cpos (starEach (e :: es) X.env)).all (fun x => !x.1) && (backToKw cpos (keywordEach [] X.env)).all (fun x => x.1.isSome)
      && decide ((e :: es).length + ([] : List Keyword).length + (if ([] : List Keyword).isEmpty then 0 else 1) < 30)) = true := by rfl)
    (hline : (apos.endLine == cpos.line) = true := by rfl) (hs : starEach (e :: es) X.env = (false, eval e X.env) :: starEach es X.env := by rfl) (hplain : (backTo cpos (starEach es X.env)).any (·.1) = false := by rfl) :
    PE X (.Call (.Attribute o name apos) (e :: es) [] cpos) (tBM X.K T r to t) := by
  intro pins s σ H Q I h
  refine wpAny_Call_method_late hbase hfew hline rfl (thn (ho pins s σ H _ I h) fun v s1 ⟨x, H1, I1, r1, ty, q1⟩ => ?_)
  obtain ⟨h1, h2⟩ := tyV_is I1 r1 ty
  refine ⟨T, id, pa, slot, hty, h1, h2, ?_⟩
  have hA := ha cpos pins s1 σ H1 _ I1 q1
  rw [hs] at hA ⊢
  refine Calls.callWith_builtin (by show (false || (backTo cpos (starEach es X.env)).any (·.1)) = false; rw [hplain] <;> rfl) (Calls.evalArgs_plain ?_)
  exact thn hA fun us s2 ⟨vs, H2, I2, r2, q2⟩ => hm pins s2 σ H2 x vs v us Q I2 r1 r2 q2
end
end L2
namespace L2
open PySem PySem.Spec PyProof.Rows
def MtM (X : Cx) (id : String) (r : V → List V → Hp → VK → Prop) : Prop :=
  ∀ (pins : List (Addr × Obj)) (s : Shared) (σ : St) (H : Hp) (x : V) (xs : List V) (v : Value) (us : List Value) (Q : VK), Inv X pins σ H s → RelV x v → Vals xs us → r x xs H Q →
    wpAny (model X.prog X.w) X.A (call (.builtin id) (v :: us)) (EP X pins σ Q) X.xe s
theorem Vals.one : ∀ {x : V} {us : List Value}, Vals [x] us → ∃ u, us = [u] ∧ RelV x u
  | _, _, .cons r .nil => ⟨_, rfl, r⟩
theorem Vals.zero : ∀ {us : List Value}, Vals [] us → us = []
  | _, .nil => rfl
theorem Vals.dropLast {xs : List V} {us : List Value} (h : Vals xs us) : Vals xs.dropLast us.dropLast := by
  induction h with
  | nil => exact .nil
  | cons r t ih =>
    cases t with
    | nil => exact .nil
    | cons q t' => exact .cons r ih
theorem Vals.eraseIdx : ∀ {xs : List V} {us : List Value} (i : Nat), Vals xs us → Vals (xs.eraseIdx i) (us.eraseIdx i)
  | _, _, _, .nil => .nil
  | _, _, 0, .cons _ t => t
  | _, _, i + 1, .cons r t => .cons r (Vals.eraseIdx i t)
theorem Vals.rep {xs : List V} {us : List Value} (h : Vals xs us) : ∀ k : Nat, Vals (List.replicate k xs).flatten (List.replicate k us).flatten
  | 0 => .nil
  | k + 1 => by
    rw [List.replicate_succ, List.replicate_succ, List.flatten_cons, List.flatten_cons]
    exact Vals.append h (Vals.rep h k)
theorem erase_last {α : Type} (l : List α) : l.eraseIdx (l.length - 1) = l.dropLast := by
  induction l with
  | nil => rfl
  | cons a r ih =>
    cases r with
    | nil => rfl
    | cons b r =>
      have e : (a :: b :: r).length - 1 = ((b :: r).length - 1) + 1 := by
        have h1 : (a :: b :: r).length = r.length + 2 := rfl
        have h2 : (b :: r).length = r.length + 1 := rfl
        omega
      rw [e, List.eraseIdx_cons_succ, ih]
      all_goals rfl
theorem foldl_rep (its : List Value) : ∀ (k : Nat) (acc : List Value),
    List.foldl (fun x1 x2 => x1 ++ x2) acc.toArray (List.replicate k its.toArray) = (acc ++ (List.replicate k its).flatten).toArray
  | 0, acc => by simp
  | k + 1, acc => by
    have e : acc.toArray ++ its.toArray = (acc ++ its).toArray := by simp
    have e2 : (acc ++ its) ++ (List.replicate k its).flatten = acc ++ (List.replicate (k + 1) its).flatten := by
      rw [List.replicate_succ, List.flatten_cons, List.append_assoc]
    rw [← e2, ← foldl_rep its k (acc ++ its), ← e, List.replicate_succ, List.foldl_cons]
section
variable {X : Cx} {pins : List (Addr × Obj)} {σ : St} {H : Hp} {s : Shared} {l b : Addr} {xs ys zs : List V}
theorem Inv.lset {its its' : List Value} {n : Nat} {f : Array Value → Array Value} {t' : Nat} (I : Inv X pins σ H s) (hH : H l = some (.lst xs))
    (e : s.heap.get? l = some { cls := .type "list", data := .seq its.toArray n }) (hf : f its.toArray = its'.toArray) (hv : Vals ys its') (hz : ys.length ≤ sizeLine) :
    Inv X pins σ (upd H l (.lst ys)) { s with heap := s.heap.update l (Obj.mapSeq f), toks := t' } := by
  have q := PySem.IsL.update e f
  rw [hf] at q
  refine I.write (x := l) (e := l) (by rw [hH]; exact trivial) (.inl rfl) (fun b' u hb hu => (Heap.get?_update_other s.heap (Obj.mapSeq f) (Ne.symm hb)).trans hu) ⟨_, q⟩ ?_
  exact ⟨hz, its', _, hv, q⟩
theorem Inv.lnew {its : List Value} {t' : Nat} (I : Inv X pins σ H s) (hv : Vals ys its) (hz : ys.length ≤ sizeLine) :
    Inv X pins σ (upd H s.heap.objs.size (.lst ys)) { s with heap := s.heap.push { cls := .type "list", data := .seq its.toArray }, toks := t' } :=
  I.laid (fun _ _ q => Heap.get?_push_of_some _ q) (Nat.le_refl _) ⟨hz, its, 0, hv, Heap.get?_push_size _ rfl⟩
theorem Inv.fresh (I : Inv X pins σ H s) : H s.heap.objs.size = none := I.hok.fresh (Nat.le_refl _)
theorem Inv.lstM (I : Inv X pins σ H s) (hH : H l = some (.lst xs)) : xs.length ≤ sizeLine ∧ ∃ (its : List Value) (n : Nat), Vals xs its ∧ xs.length = its.length ∧ s.heap.get? l = some { cls := .type "list", data := .seq its.toArray n } := by
  obtain ⟨z, its, n, r, e⟩ := I.hok l _ hH
  exact ⟨z, its, n, r, r.length, e⟩
theorem notLongL {n : Nat} (h : n ≤ sizeLine) : Builtin.List.listTooLong n = false := by
  unfold Builtin.List.listTooLong
  exact decide_eq_false (by omega)
end
section
variable {X : Cx}
def rAppend : V → List V → Hp → VK → Prop := fun x vs H Q => ∃ l xs y, x = .ref l ∧ vs = [y] ∧ H l = some (.lst xs) ∧ xs.length < sizeLine ∧ Q .non (upd H l (.lst (xs ++ [y])))
theorem mt_append : MtM X "list.append" rAppend := by
  intro pins s σ H x vs v us Q I rx rv h
  obtain ⟨l, xs, y, rfl, rfl, hH, hz, q⟩ := h
  cases rx
  obtain ⟨u, rfl, ru⟩ := rv.one
  obtain ⟨z, its, n, r, hl, e⟩ := I.lstM hH
  refine call_meets F.slot_list_append ⟨_, e, rfl⟩ F.entry_list_append (F.args_list_append_2 _ _) (PySem.list_append l its.toArray n u (by rw [List.size_toArray]; omega)) ⟨e, ?_⟩
  refine ⟨.non, _, I.lset (its' := its ++ [u]) hH e (by simp) (r.append (.cons ru .nil)) ?_, rfl, q⟩
  rw [List.length_append, List.length_singleton]
  omega
def rExtend : V → List V → Hp → VK → Prop := fun x vs H Q => ∃ l b xs zs, x = .ref l ∧ vs = [.ref b] ∧ H l = some (.lst xs) ∧ H b = some (.lst zs) ∧ xs.length + zs.length ≤ sizeLine ∧ Q .non (upd H l (.lst (xs ++ zs)))
theorem mt_extend : MtM X "list.extend" rExtend := by
  intro pins s σ H x vs v us Q I rx rv h
  obtain ⟨l, b, xs, zs, rfl, rfl, hH, hB, hz, q⟩ := h
  cases rx
  obtain ⟨u, rfl, ru⟩ := rv.one
  cases ru
  obtain ⟨z, its, n, r, hl, e⟩ := I.lstM hH
  obtain ⟨z2, its2, n2, r2, hl2, e2⟩ := I.lstM hB
  have hsz : its.toArray.size + its2.toArray.size ≤ sizeLine := by rw [List.size_toArray, List.size_toArray]; omega
  have hlong : ¬ (!its.toArray.isEmpty && Builtin.List.listTooLong (its.toArray.size + its2.toArray.size)) = true := by
    rw [notLongL hsz, Bool.and_false]
    exact Bool.false_ne_true
  refine call_meets F.slot_list_extend ⟨_, e, rfl⟩ F.entry_list_extend (F.args_list_extend_2 _ _)
    (AutoSeq1.list_extend_list_list_0 l its.toArray n b its2.toArray n2 hlong (by rw [List.size_toArray]; omega) (by omega)) ⟨e, e2, ?_⟩
  refine ⟨.non, _, I.lset (its' := its ++ its2) hH e (by simp) (r.append r2) ?_, rfl, q⟩
  rw [List.length_append]
  omega
def rPop : V → List V → Hp → VK → Prop := fun x vs H Q => ∃ l xs y, x = .ref l ∧ vs = [] ∧ H l = some (.lst xs) ∧ xs[xs.length - 1]? = some y ∧ Q y (upd H l (.lst xs.dropLast))
theorem mt_pop : MtM X "list.pop" rPop := by
  intro pins s σ H x vs v us Q I rx rv h
  obtain ⟨l, xs, y, rfl, rfl, hH, hy, q⟩ := h
  cases rx
  have hus := rv.zero
  subst hus
  obtain ⟨z, its, n, r, hl, e⟩ := I.lstM hH
  obtain ⟨u, hu, ru⟩ := r.get hy
  have hy' : its.toArray[its.toArray.size - 1]? = some u := by
    show its.toArray[its.length - 1]? = some u
    rw [← Array.getElem?_toList, ← hl]
    exact hu
  refine call_meets F.slot_list_pop ⟨_, e, rfl⟩ F.entry_list_pop (F.args_list_pop_1 _) (MeetsSeq.list_pop_last l its.toArray n u hy' (by rw [List.size_toArray]; omega)) ⟨e, ?_⟩
  refine ⟨y, _, I.lset (its' := its.dropLast) hH e ?_ r.dropLast ?_, ru, q⟩
  · show its.toArray.eraseIdxIfInBounds (its.toArray.size - 1) = its.dropLast.toArray
    rw [List.size_toArray, List.eraseIdxIfInBounds_toArray, erase_last]
  · rw [List.length_dropLast]
    omega
def rClear : V → List V → Hp → VK → Prop := fun x vs H Q => ∃ l xs, x = .ref l ∧ vs = [] ∧ H l = some (.lst xs) ∧ Q .non (upd H l (.lst []))
theorem mt_clear : MtM X "list.clear" rClear := by
  intro pins s σ H x vs v us Q I rx rv h
  obtain ⟨l, xs, rfl, rfl, hH, q⟩ := h
  cases rx
  have hus := rv.zero
  subst hus
  obtain ⟨z, its, n, r, hl, e⟩ := I.lstM hH
  refine call_meets F.slot_list_clear ⟨_, e, rfl⟩ F.entry_list_clear (F.args_list_clear_1 _) (AutoSeq1.list_clear_list_0 l its.toArray n (by rw [List.size_toArray]; omega)) ⟨e, ?_⟩
  exact ⟨.non, _, I.lset (its' := []) (ys := []) hH e rfl .nil (Nat.zero_le _), rfl, q⟩
def rCat : R2 := fun x y H Q => ∃ l b xs zs, x = .ref l ∧ y = .ref b ∧ H l = some (.lst xs) ∧ H b = some (.lst zs) ∧ xs.length + zs.length ≤ sizeLine ∧ ∀ p, H p = none → Q (.ref p) (upd H p (.lst (xs ++ zs)))
theorem op_cat : OpR X (binaryOp .Add) rCat := by
  intro pins s σ H x y v u Q I rx ry h
  obtain ⟨l, b, xs, zs, rfl, rfl, hH, hB, hz, q⟩ := h
  cases rx
  cases ry
  obtain ⟨z, its, n, r, hl, e⟩ := I.lstM hH
  obtain ⟨z2, its2, n2, r2, hl2, e2⟩ := I.lstM hB
  refine PySem.P.add_list e e2 ?_ (by rw [List.size_toArray, List.size_toArray]; omega)
  have ea : its.toArray ++ its2.toArray = (its ++ its2).toArray := by simp
  rw [ea]
  exact ⟨.ref _, _, I.lnew (t' := s.toks) (r.append r2) (by rw [List.length_append]; omega), rfl, q _ I.fresh⟩
def rRep : R2 := fun x y H Q => ∃ l k xs, x = .ref l ∧ y = .int k ∧ H l = some (.lst xs) ∧ -(2 ^ 63) ≤ k ∧ k < 2 ^ 63 ∧ xs.length * k.toNat ≤ sizeLine ∧
  ∀ p, H p = none → Q (.ref p) (upd H p (.lst (List.replicate k.toNat xs).flatten))
theorem len_rep {α : Type} (xs : List α) (k : Nat) : (List.replicate k xs).flatten.length = k * xs.length := by
  induction k with
  | zero => simp
  | succ k ih => rw [List.replicate_succ, List.flatten_cons, List.length_append, ih, Nat.succ_mul, Nat.add_comm]
theorem op_rep : OpR X (binaryOp .Mult) rRep := by
  intro pins s σ H x y v u Q I rx ry h
  obtain ⟨l, k, xs, rfl, rfl, hH, h1, h2, hz, q⟩ := h
  cases rx
  obtain ⟨t, rfl⟩ := ry
  obtain ⟨z, its, n, r, hl, e⟩ := I.lstM hH
  have hlen : its.toArray.size * k.toNat ≤ sizeLine := by rw [List.size_toArray, ← hl]; exact hz
  have hcap : ¬ its.toArray.size * k.toNat > (2 ^ 63 - 1) / 8 := by
    have : (sizeLine : Nat) ≤ (2 ^ 63 - 1) / 8 := by decide
    omega
  have hfit : ¬ (!Builtin.List.listFitsIndex k) = true := by
    rw [fitsIndex_both h1 h2]
    exact Bool.false_ne_true
  have hlong : ¬ Builtin.List.listTooLong (its.toArray.size * k.toNat) = true := by
    rw [notLongL hlen]
    exact Bool.false_ne_true
  have hnew : List.foldl (fun x1 x2 => x1 ++ x2) #[] (List.replicate (if its.toArray.isEmpty = true then 0 else k.toNat) its.toArray) = (List.replicate k.toNat its).flatten.toArray := by
    have f0 : ∀ m : Nat, List.foldl (fun x1 x2 => x1 ++ x2) #[] (List.replicate m its.toArray) = (List.replicate m its).flatten.toArray := fun m => by
      have := foldl_rep its m []
      rw [List.nil_append] at this
      exact this
    rw [f0]
    cases its with
    | nil => simp
    | cons a r' => rw [if_neg (by simp)]
  refine wpAny_binaryOp_repeat_ref (T := "list") (U := "int") (by decide) ⟨_, e, rfl⟩ (fun s' => typeIs_int s' k t) noFill_list_mul F.fills_int_mul F.slot_int_rmul repeat_list F.slot_int_index.lookup
    (call_meets F.slot_int_rmul (typeIs_int s k t) F.entry_int_rmul (F.args_int_rmul_2 _ _) (int___rmul___int_list k t l its.toArray n)
      ⟨e, rfl, ⟨_, e, rfl⟩, call_meets F.slot_list_mul ⟨_, e, rfl⟩ F.entry_list_mul (F.args_list_mul_2 _ _) (AutoListH.list___mul___list_int_3 l its.toArray n k t hfit hcap hlong) ⟨e, ?_⟩⟩)
  rw [hnew]
  exact ⟨.ref _, _, I.lnew (t' := s.toks) (r.rep k.toNat) (by rw [len_rep, Nat.mul_comm]; exact hz), rfl, q _ I.fresh⟩
end
section
variable {prog : Program} {w : World} {A : Around} {E : Value → Shared → Prop} {s : Shared}
end
section
variable {X : Cx}
end
end L2
namespace L2
open PySem PySem.Spec PyProof.Rows
section
variable {κ : Type} [DecidableEq κ]
def valV (kvs : List (κ × V)) (k : κ) : Option V := (kvs.find? fun kv => decide (kv.1 = k)).map (·.2)
def putK (kvs : List (κ × V)) (k : κ) (v : V) : List (κ × V) :=
  if (kvs.any fun kv => decide (kv.1 = k)) = true then kvs.map (fun kv => if kv.1 = k then (kv.1, v) else kv) else kvs ++ [(k, v)]
theorem valV_pos {p : κ × V} {r : List (κ × V)} {k : κ} (e : p.1 = k) : valV (p :: r) k = some p.2 := by simp [valV, List.find?_cons, e]
theorem valV_neg {p : κ × V} {r : List (κ × V)} {k : κ} (e : ¬ p.1 = k) : valV (p :: r) k = valV r k := by simp [valV, List.find?_cons, e]
theorem valV_any (k : κ) : ∀ kvs : List (κ × V), (kvs.any fun kv => decide (kv.1 = k)) = (valV kvs k).isSome
  | [] => rfl
  | p :: r => by
    rw [List.any_cons]
    by_cases e : p.1 = k
    · simp only [valV_pos e, decide_eq_true e, Bool.true_or, Option.isSome_some]
    · rw [valV_neg e, decide_eq_false e, Bool.false_or]; exact valV_any k r
theorem length_putK (kvs : List (κ × V)) (k : κ) (v : V) : (putK kvs k v).length ≤ kvs.length + 1 := by
  unfold putK
  split
  · rw [List.length_map]; omega
  · rw [List.length_append, List.length_cons, List.length_nil]; omega
theorem RelO.isSome_eq {o : Option V} {u : Option Value} (r : RelO o u) : o.isSome = u.isSome := by
  cases o with
  | none => cases u with
    | none => rfl
    | some _ => exact (show False from r).elim
  | some _ => cases u with
    | none => exact (show False from r).elim
    | some _ => rfl
theorem RelO.getD {o : Option V} {u : Option Value} {d : V} {d' : Value} (r : RelO o u) (rd : RelV d d') : RelV (o.getD d) (u.getD d') := by
  cases o with
  | none => cases u with
    | none => exact rd
    | some _ => exact (show False from r).elim
  | some _ => cases u with
    | none => exact (show False from r).elim
    | some _ => exact r
theorem KV.val {kvs : List (κ × V)} {vs : List (κ × Value)} (r : KV kvs vs) (k : κ) : RelO (valV kvs k) (valueAt vs k) := by
  unfold KV at r
  induction r with
  | nil => exact True.intro
  | @cons p q ps qs h t ih =>
    obtain ⟨h1, h2⟩ := h
    by_cases e : p.1 = k
    · have e' : q.1 = k := h1.symm.trans e
      have b : valueAt (q :: qs) k = some q.2 := by simp [valueAt, List.find?_cons, e']
      rw [valV_pos e, b]; exact h2
    · have e' : ¬ q.1 = k := fun z => e (h1.trans z)
      have b : valueAt (q :: qs) k = valueAt qs k := by simp [valueAt, List.find?_cons, e']
      rw [valV_neg e, b]; exact ih
theorem KV.any {kvs : List (κ × V)} {vs : List (κ × Value)} (r : KV kvs vs) (k : κ) : (kvs.any fun kv => decide (kv.1 = k)) = vs.any fun kv => decide (kv.1 = k) := by
  unfold KV at r
  induction r with
  | nil => rfl
  | cons h t ih => rw [List.any_cons, List.any_cons, ih, h.1]
theorem KV.repl {kvs : List (κ × V)} {vs : List (κ × Value)} (r : KV kvs vs) (k : κ) {y : V} {u : Value} (ry : RelV y u) :
    KV (kvs.map fun kv => if kv.1 = k then (kv.1, y) else kv) (vs.map fun kv => if kv.1 = k then (kv.1, u) else kv) := by
  unfold KV at r ⊢
  induction r with
  | nil => exact .nil
  | @cons p q ps qs h t ih =>
    rw [List.map_cons, List.map_cons]
    refine .cons ?_ ih
    obtain ⟨h1, h2⟩ := h
    by_cases e : p.1 = k
    · rw [if_pos e, if_pos (h1.symm.trans e)]; exact ⟨h1, ry⟩
    · rw [if_neg e, if_neg (fun z => e (h1.trans z))]; exact ⟨h1, h2⟩
theorem KV.put {kvs : List (κ × V)} {vs : List (κ × Value)} (r : KV kvs vs) (k : κ) {y : V} {u : Value} (ry : RelV y u) : KV (putK kvs k y) (stored vs k u) := by
  unfold putK stored
  rw [r.any k]
  by_cases e : (vs.any fun kv => decide (kv.1 = k)) = true
  · rw [if_pos e, if_pos e]; exact r.repl k ry
  · rw [if_neg e, if_neg e]; exact Paired.snoc r ⟨rfl, ry⟩
theorem KV.length {kvs : List (κ × V)} {vs : List (κ × Value)} (r : KV kvs vs) : kvs.length = vs.length := Paired.length r
end
theorem kV_is {P : Program} {w : World} {k : Key} {u : Value} (r : RelV (kV k) u) : (mixKind P w).is k u = true := by
  cases k with
  | inl i => obtain ⟨t, e⟩ := (show ∃ t, u = Value.int i t from r); subst e; exact mixKind_int P w i t
  | inr x => obtain ⟨t, e⟩ := (show ∃ t, u = Value.str x t from r); subst e; exact mixKind_str P w x t
theorem items_are {P : Program} {w : World} : ∀ {ks : List Key} {us : List Value}, Vals (ks.map kV) us → ItemsAre (mixKind P w) ks us
  | [], _, r => by rw [List.map_nil] at r; cases r; exact .nil
  | k :: ks, _, r => by
    rw [List.map_cons] at r
    cases r with
    | cons h t => exact .cons (kV_is h) (items_are t)
abbrev KT (H : Hp) : List (List Key × V) → List (List Key × Addr × Value) → Prop := Paired fun p q => p.1 = q.1 ∧ H q.2.1 = some (.tup (p.1.map kV)) ∧ RelV p.2 q.2.2
theorem KT.val {H : Hp} {kvs : List (List Key × V)} {xs : List (List Key × Addr × Value)} (r : KT H kvs xs) (k : List Key) : RelO (valV kvs k) ((atKey xs k).map (·.2)) := by
  induction r with
  | nil => exact True.intro
  | @cons p q ps qs h t ih =>
    obtain ⟨h1, _, h2⟩ := h
    by_cases e : p.1 = k
    · have e' : q.1 = k := h1.symm.trans e
      have b : atKey (q :: qs) k = some q.2 := by simp [atKey, List.find?_cons, e']
      rw [valV_pos e, b]; exact h2
    · have e' : ¬ q.1 = k := fun z => e (h1.trans z)
      have b : atKey (q :: qs) k = atKey qs k := by simp [atKey, List.find?_cons, e']
      rw [valV_neg e, b]; exact ih
theorem KT.repl {H : Hp} {kvs : List (List Key × V)} {xs : List (List Key × Addr × Value)} (r : KT H kvs xs) (k : List Key) {y : V} {u : Value} (ry : RelV y u) :
    KT H (kvs.map fun kv => if kv.1 = k then (kv.1, y) else kv) (xs.map (putAt k u)) := by
  induction r with
  | nil => exact .nil
  | @cons p q ps qs h t ih =>
    rw [List.map_cons, List.map_cons]
    refine .cons ?_ ih
    obtain ⟨h1, h2, h3⟩ := h
    unfold putAt
    by_cases e : p.1 = k
    · rw [if_pos e, if_pos (h1.symm.trans e)]; exact ⟨h1, h2, ry⟩
    · rw [if_neg e, if_neg (fun z => e (h1.trans z))]; exact ⟨h1, h2, h3⟩
theorem KT.put {H : Hp} {kvs : List (List Key × V)} {xs : List (List Key × Addr × Value)} (r : KT H kvs xs) (k : List Key) {b : Addr} {y : V} {u : Value} (hb : H b = some (.tup (k.map kV))) (ry : RelV y u) :
    KT H (putK kvs k y) (storedH xs k b u) := by
  have e : (kvs.any fun kv => decide (kv.1 = k)) = (atKey xs k).isSome := by
    rw [valV_any, (r.val k).isSome_eq, Option.isSome_map]
  unfold putK storedH
  rw [e]
  by_cases q : (atKey xs k).isSome = true
  · rw [if_pos q, if_pos q]; exact r.repl k ry
  · rw [if_neg q, if_neg q]; exact Paired.snoc r ⟨rfl, hb, ry⟩
theorem KT.keeps {H H' : Hp} {kvs : List (List Key × V)} {xs : List (List Key × Addr × Value)} (r : KT H kvs xs) (ht : ∀ b ys, H b = some (.tup ys) → H' b = some (.tup ys)) : KT H' kvs xs :=
  Paired.mapP r fun _ _ z => ⟨z.1, ht _ _ z.2.1, z.2.2⟩
section
variable {P : Program} {w : World} {H : Hp} {h : Heap} {a : Addr}
theorem rd_of {u : HO} (ok : HOk P w H h) (e : Rd H a u) : ObjOk P w H h a u := e.ok ok
theorem dk_rd {kvs : List (Key × V)} (ok : HOk P w H h) (e : Rd H a (.dK kvs)) : kvs.length ≤ sizeLine ∧ (a == sysModules) = false ∧ ∃ vs, KV kvs vs ∧ h.DictOf (mixKind P w) a vs :=
  show ObjOk P w H h a (.dK kvs) from rd_of ok e
theorem dk_of {kvs : List (Key × V)} (ok : HOk P w H h) (e : H a = some (.dK kvs)) : kvs.length ≤ sizeLine ∧ (a == sysModules) = false ∧ ∃ vs, KV kvs vs ∧ h.DictOf (mixKind P w) a vs := dk_rd ok (.inl e)
theorem key_of {ks : List Key} (ok : HOk P w H h) (e : H a = some (.tup (ks.map kV))) : (tupleKind (mixKind P w)).is h ks a := by
  obtain ⟨_, its, r, o, h1, h2, n, h3⟩ := (show ObjOk P w H h a (.tup (ks.map kV)) from ok a _ e)
  exact ⟨o, its.toArray, n, h1, h2, h3, by simpa using items_are r⟩
theorem dt_rd {kvs : List (List Key × V)} (ok : HOk P w H h) (e : Rd H a (.dT kvs)) : kvs.length ≤ sizeLine ∧ (a == sysModules) = false ∧
    ∃ xs, KT H kvs xs ∧ h.DictOfH (tupleKind (mixKind P w)) a xs := by
  obtain ⟨z, y, xs, r, o, es, ep, h1, h2, h3, h4, h5⟩ := (show ObjOk P w H h a (.dT kvs) from rd_of ok e)
  refine ⟨z, y, xs, r, o, es, ep, h1, h2, h3, h4, fun x hx => ?_, h5⟩
  have all : ∀ {l : List (List Key × V)} {m : List (List Key × Addr × Value)}, KT H l m → ∀ x ∈ m, (tupleKind (mixKind P w)).is h x.1 x.2.1 := by
    intro l m q
    induction q with
    | nil => intro x hx; exact nomatch hx
    | @cons p q ps qs hq t ih =>
      intro x hx
      rcases List.mem_cons.mp hx with e | hx
      · subst e
        exact key_of ok (by rw [← hq.1]; exact hq.2.1)
      · exact ih x hx
  exact all r x hx
theorem dt_of {kvs : List (List Key × V)} (ok : HOk P w H h) (e : H a = some (.dT kvs)) : kvs.length ≤ sizeLine ∧ (a == sysModules) = false ∧
    ∃ xs, KT H kvs xs ∧ h.DictOfH (tupleKind (mixKind P w)) a xs := dt_rd ok (.inl e)
end
def DGet (H : Hp) (a : Addr) (y : V) (r : Option V) : Prop :=
  (∃ kvs k, Rd H a (.dK kvs) ∧ y = kV k ∧ r = valV kvs k) ∨ ∃ kvs k b, Rd H a (.dT kvs) ∧ y = .ref b ∧ H b = some (.tup (k.map kV)) ∧ r = valV kvs k
def DPut (H : Hp) (a : Addr) (y v : V) (H' : Hp) : Prop :=
  (∃ kvs k, H a = some (.dK kvs) ∧ y = kV k ∧ kvs.length < sizeLine ∧ H' = upd H a (.dK (putK kvs k v))) ∨
  ∃ kvs k b, H a = some (.dT kvs) ∧ y = .ref b ∧ H b = some (.tup (k.map kV)) ∧ kvs.length < sizeLine ∧ H' = upd H a (.dT (putK kvs k v))
theorem DGet.k {H : Hp} {a : Addr} {kvs : List (Key × V)} {k : Key} (e : H a = some (.dK kvs)) : DGet H a (kV k) (valV kvs k) := .inl ⟨kvs, k, .inl e, rfl, rfl⟩
theorem DGet.t {H : Hp} {a b : Addr} {kvs : List (List Key × V)} {k : List Key} (e : H a = some (.dT kvs)) (eb : H b = some (.tup (k.map kV))) : DGet H a (.ref b) (valV kvs k) := .inr ⟨kvs, k, b, .inl e, rfl, eb, rfl⟩
theorem DPut.k {H : Hp} {a : Addr} {kvs : List (Key × V)} {k : Key} {v : V} (e : H a = some (.dK kvs)) (hl : kvs.length < sizeLine) : DPut H a (kV k) v (upd H a (.dK (putK kvs k v))) := .inl ⟨kvs, k, e, rfl, hl, rfl⟩
theorem DPut.t {H : Hp} {a b : Addr} {kvs : List (List Key × V)} {k : List Key} {v : V} (e : H a = some (.dT kvs)) (eb : H b = some (.tup (k.map kV))) (hl : kvs.length < sizeLine) :
    DPut H a (.ref b) v (upd H a (.dT (putK kvs k v))) := .inr ⟨kvs, k, b, e, rfl, eb, hl, rfl⟩
section
variable {X : Cx} {pins : List (Addr × Obj)} {σ : St} {H : Hp} {s : Shared} {a : Addr} {y v : V} {u r : Value} {o : Option V} {A : Around} {E : Value → Shared → Prop}
theorem Inv.big (I : Inv X pins σ H s) : sysModules < s.heap.objs.size := by
  have h : mainGlobals < s.heap.objs.size := (I.mod.glob.keeps I.bk).lt
  exact Nat.lt_trans (by decide) h
theorem d_getItem {Q : Value → Shared → Prop} (hu : A.units + 1 < cLine) (I : Inv X pins σ H s) (g : DGet H a y (some v)) (ry : RelV y u) (h : ∀ w' s', Inv X pins σ H s' → RelV v w' → Q w' s') :
    wpAny (model X.prog X.w) A (getItem (.ref a) u) Q E s := by
  rcases g with ⟨kvs, k, e, ey, l⟩ | ⟨kvs, k, b, e, ey, eb, l⟩
  · subst ey
    obtain ⟨z, hd, vs, rel, dd⟩ := dk_rd I.hok e
    obtain ⟨w', hw, rw'⟩ := RelO.some_of (v := v) (o := valueAt vs k) (by rw [l]; exact rel.val k)
    exact wpAny_getItem_of (kV_is ry) dd.mapOf hw (h w' _ (I.tok _) rw')
  · subst ey
    cases (show u = Value.ref b from ry)
    obtain ⟨z, hd, xs, rel, dd⟩ := dt_rd I.hok e
    obtain ⟨w', hw, rw'⟩ := RelO.some_of (v := v) (o := (atKey xs k).map (·.2)) (by rw [l]; exact rel.val k)
    obtain ⟨p, hp, hp2⟩ := Option.map_eq_some_iff.mp hw
    refine wpAny_getItem_heap (tupleKind_room_in1 hu) (key_of I.hok eb) dd hp ?_
    rw [hp2]
    exact h w' _ (I.tok _) rw'
theorem d_in {Q : Value → Shared → Prop} (hu : A.units + 1 < cLine) (I : Inv X pins σ H s) (g : DGet H a y o) (ry : RelV y u) (h : ∀ s', Inv X pins σ H s' → Q (.bool o.isSome) s') :
    wpAny (model X.prog X.w) A (compareOp .In u (.ref a)) Q E s := by
  rcases g with ⟨kvs, k, e, ey, l⟩ | ⟨kvs, k, b, e, ey, eb, l⟩
  · subst ey
    obtain ⟨z, hd, vs, rel, dd⟩ := dk_rd I.hok e
    refine wpAny_in_of (kV_is ry) hd dd.mapOf ?_
    rw [← (rel.val k).isSome_eq, ← l]
    exact h _ (I.tok _)
  · subst ey
    cases (show u = Value.ref b from ry)
    obtain ⟨z, hd, xs, rel, dd⟩ := dt_rd I.hok e
    refine wpAny_in_heap (tupleKind_room_in1 hu) (key_of I.hok eb) hd dd ?_
    have q := (rel.val k).isSome_eq
    rw [Option.isSome_map] at q
    rw [← q, ← l]
    exact h _ (I.tok _)
theorem d_notIn {Q : Value → Shared → Prop} (hu : A.units + 1 < cLine) (I : Inv X pins σ H s) (g : DGet H a y o) (ry : RelV y u) (h : ∀ s', Inv X pins σ H s' → Q (.bool (!o.isSome)) s') :
    wpAny (model X.prog X.w) A (compareOp .NotIn u (.ref a)) Q E s := by
  rcases g with ⟨kvs, k, e, ey, l⟩ | ⟨kvs, k, b, e, ey, eb, l⟩
  · subst ey
    obtain ⟨z, hd, vs, rel, dd⟩ := dk_rd I.hok e
    refine wpAny_notIn_of (kV_is ry) hd dd.mapOf ?_
    rw [← (rel.val k).isSome_eq, ← l]
    exact h _ (I.tok _)
  · subst ey
    cases (show u = Value.ref b from ry)
    obtain ⟨z, hd, xs, rel, dd⟩ := dt_rd I.hok e
    refine wpAny_notIn_heap (tupleKind_room_in1 hu) (key_of I.hok eb) hd dd ?_
    have q := (rel.val k).isSome_eq
    rw [Option.isSome_map] at q
    rw [← q, ← l]
    exact h _ (I.tok _)
theorem d_write {h' : Heap} {t' : Nat} {ob : HO} (I : Inv X pins σ H s) (mu : Mut (H a)) (hs : Heap.SameBut a s.heap h') (he : ∃ q, h'.get? a = some q) (new : ObjOk X.prog X.w (upd H a ob) h' a ob) :
    Inv X pins σ (upd H a ob) { s with heap := h', toks := t' } :=
  I.write (x := a) (e := a) mu (.inl rfl) (fun b q hb z => (hs.2 b hb).trans z) he new
theorem dk_new {P : Program} {w : World} {H' : Hp} {h' : Heap} {kvs : List (Key × V)} {vs : List (Key × Value)} (z : kvs.length ≤ sizeLine) (hd : (a == sysModules) = false) (rel : KV kvs vs) (dd : h'.DictOf (mixKind P w) a vs) :
    ObjOk P w H' h' a (.dK kvs) := ⟨z, hd, vs, rel, dd⟩
theorem d_setItem {H' : Hp} {Q : Unit → Shared → Prop} (hu : A.units + 1 < cLine) (I : Inv X pins σ H s) (g : DPut H a y v H') (ry : RelV y u) (rv : RelV v r) (h : ∀ s', Inv X pins σ H' s' → Q () s') :
    wpAny (model X.prog X.w) A (setItem (.ref a) u r) Q E s := by
  rcases g with ⟨kvs, k, e, ey, l, eH⟩ | ⟨kvs, k, b, e, ey, eb, l, eH⟩
  · subst ey eH
    obtain ⟨z, hd, vs, rel, dd⟩ := dk_of I.hok e
    have hz : vs.length ≤ sizeLine := by rw [← rel.length]; exact z
    have hl : (putK kvs k v).length ≤ sizeLine := by have := length_putK kvs k v; omega
    refine wpAny_setItem_pairs (hsz := hz) (kV_is ry) dd fun h' dd' hs => h _ ?_
    have he : ∃ q, h'.get? a = some q := let ⟨q, _, _, hq, _⟩ := dd'; ⟨q, hq⟩
    exact d_write I (by rw [e]; exact True.intro) hs he (dk_new hl hd (rel.put k rv) dd')
  · subst ey eH
    cases (show u = Value.ref b from ry)
    obtain ⟨z, hd, xs, rel, dd⟩ := dt_of I.hok e
    have hz : xs.length ≤ sizeLine := by rw [← Paired.length rel]; exact z
    have hl : (putK kvs k v).length ≤ sizeLine := by have := length_putK kvs k v; omega
    refine wpAny_setItem_heap (hsz := hz) (tupleKind_room_in1 hu) (key_of I.hok eb) dd fun h' dd' hs => h _ ?_
    obtain ⟨q, es, ep, hq, h2, h3, h4, _, h5⟩ := dd'
    refine d_write I (by rw [e]; exact True.intro) hs ⟨q, hq⟩ ⟨hl, hd, _, (rel.put k eb rv).keeps fun c ys ec => ?_, q, es, ep, hq, h2, h3, h4, h5⟩
    rw [upd_ne (ne_of ec e (fun z => nomatch z))]
    exact ec
end
section
variable {X : Cx} {pins : List (Addr × Obj)} {σ : St} {H : Hp} {s : Shared} {a : Addr} {kvs : List (Key × V)} {k : Key} {u : Value} {A : Around} {E : Value → Shared → Prop}
theorem d_len {Q : Value → Shared → Prop} (I : Inv X pins σ H s) (e : Rd H a (.dK kvs)) (h : ∀ t s', Inv X pins σ H s' → Q (.int kvs.length t) s') : wpAny (model X.prog X.w) A (call (.builtin "len") [.ref a]) Q E s := by
  obtain ⟨z, hd, vs, rel, dd⟩ := dk_rd I.hok e
  refine call_len_dict hd dd (by rw [← rel.length]; rw [sizeLine_eq] at z; omega) ?_
  rw [← rel.length]
  exact h _ _ (I.tok _)
end
theorem dict_typeIs {X : Cx} {pins : List (Addr × Obj)} {σ : St} {H : Hp} {s : Shared} {a : Addr} {y : V} {o : Option V} (I : Inv X pins σ H s) (g : DGet H a y o) : s.TypeIs (.ref a) "dict" := by
  rcases g with ⟨kvs, k, e, _, _⟩ | ⟨kvs, k, b, e, _, _, _⟩
  · obtain ⟨_, _, vs, _, dd⟩ := dk_rd I.hok e
    exact dd.typeIs
  · obtain ⟨_, _, xs, _, dd⟩ := dt_rd I.hok e
    exact dd.typeIs
section
variable {X : Cx} {o i e value : Expr} {pos pos' tpos : Pos} {td ty tv : TE}
end
theorem dk_empty {P : Program} {w : World} {H : Hp} (h : Heap) (hb : sysModules < h.objs.size) : ObjOk P w H (h.push { cls := .type "dict", data := .dict #[] }) h.objs.size (.dK []) :=
  ⟨Nat.zero_le _, beq_eq_false_iff_ne.mpr (Ne.symm (Nat.ne_of_lt hb)), [], .nil, Heap.DictOf.new h⟩
def tDNewK : TE := fun _ H Q => ∀ p, H p = none → Q (.ref p) (upd H p (.dK []))
section
variable {X : Cx} {pos : Pos}
theorem pe_dnewK : PE X (.Dict [] [] pos) tDNewK := fun pins s σ H Q I h =>
  wpAny_Dict_empty ⟨.ref s.heap.objs.size, _, I.laid (a := s.heap.objs.size) (o := .dK []) (t' := s.toks) (fun _ _ q => Heap.get?_push_of_some _ q) (Nat.le_refl _) (dk_empty s.heap I.big), rfl, h _ (I.hok.fresh (Nat.le_refl _))⟩
end
structure M1 (X : Cx) (o : Expr) (m : Str) (apos : Pos) (e : Expr) (cpos : Pos) : Prop where
  base : attributeBase o m X.env (eval o X.env) = eval o X.env
  few : ((backTo cpos (starEach [e] X.env)).all (fun x => !x.1) && (backToKw cpos (keywordEach [] X.env)).all (fun x => x.1.isSome)
    && decide (([e] : List Expr).length + ([] : List Keyword).length + (if ([] : List Keyword).isEmpty then 0 else 1) < 30)) = true
  line : (apos.endLine == cpos.line) = true
  trees : backTo cpos (starEach [e] X.env) = [(false, eval e X.env)]
structure M2 (X : Cx) (o : Expr) (m : Str) (apos : Pos) (e f : Expr) (cpos : Pos) : Prop where
  base : attributeBase o m X.env (eval o X.env) = eval o X.env
  few : ((backTo cpos (starEach [e, f] X.env)).all (fun x => !x.1) && (backToKw cpos (keywordEach [] X.env)).all (fun x => x.1.isSome)
    && decide (([e, f] : List Expr).length + ([] : List Keyword).length + (if ([] : List Keyword).isEmpty then 0 else 1) < 30)) = true
  line : (apos.endLine == cpos.line) = true
  trees : backTo cpos (starEach [e, f] X.env) = [(false, eval e X.env), (false, eval f X.env)]
section
variable {X : Cx} {pins : List (Addr × Obj)} {σ : St} {H : Hp} {s : Shared} {a : Addr} {y d : V} {u r : Value} {o : Option V} {A : Around} {E : Value → Shared → Prop}
end
section
variable {X : Cx} {o e f : Expr} {apos cpos : Pos} {td ty tx : TE}
end
section
variable {X : Cx} {pins : List (Addr × Obj)} {σ : St} {H : Hp} {s : Shared} {a : Addr} {kvs : List (Key × V)} {A : Around} {E : Value → Shared → Prop}
end
section
variable {X : Cx} {pins : List (Addr × Obj)} {σ : St} {H : Hp} {s : Shared} {a : Addr} {y : V} {u : Value} {A : Around} {E : Value → Shared → Prop}
end
end L2
namespace Att
open PySem PySem.W PySem.Calls PyProof.Rows
theorem ints_of_wellAll {P : Params} {h : Heap} : ∀ (ns : List Int) (vs : List Value), WellAll P h vs (ns.map WData.int) → IntsAre vs ns := by
  intro ns
  induction ns with
  | nil =>
    intro vs w
    rw [List.map_nil] at w
    cases w
    exact .nil
  | cons n ns ih =>
    intro vs w
    rw [List.map_cons] at w
    cases w with
    | cons a b =>
      cases a
      exact .cons _ _ (ih _ b)
theorem script_of {l : OpenLaw} {n : Nat} (hn : l.most = some n) {P : Params} {h : Heap} {args : List WData} {vals : List Value}
    (hpre : l.row.toRowW.claim.pre args = true) (hwl : WellAll P h vals args) :
    ∃ a vs ns, vals = [Value.ref a] ∧ args = [WData.list (ns.map WData.int)] ∧ h.get? a = some { cls := .type "list", data := .seq vs.toArray } ∧ IntsAre vs ns ∧ ns.length ≤ n := by
  have hsh : WShape.hasAll [] args [.list .int] = true := (pre_splitW hpre).1
  have hc : l.pre.holds [] { args := args } = true := (pre_splitW hpre).2
  obtain ⟨d, r, rfl, h1, h2⟩ := hasAllW_cons hsh
  obtain rfl := hasAllW_nil h2
  obtain ⟨xs, rfl, h3⟩ := hasW_list h1
  obtain ⟨ns, rfl⟩ := items_int h3
  have hlen : ns.length ≤ n := by
    unfold OpenLaw.pre at hc
    have h4 : (WTm.not (.lt (.lit (.int (n : Int))) (.len (.arg 0)))).holds [] { args := [.list (ns.map .int)] } = true := by
      have h4 := (holds_andW hc).1
      rw [hn] at h4
      exact h4
    have h5 := condW_of h4 (w_not (w_lt w_lit (w_len_list (w_arg rfl))))
    rw [List.length_map] at h5
    refine Nat.le_of_not_lt fun q => ?_
    have q' : (n : Int) < ((ns.length : Nat) : Int) := by omega
    first
      | (rw [decide_eq_true q'] at h5; exact absurd h5 (by decide))
      | (simp at h5; omega)
  cases hwl with
  | cons w1 w2 =>
    cases w2
    cases w1 with
    | list ho hall => exact ⟨_, _, ns, rfl, rfl, ho, ints_of_wellAll ns _ hall, hlen⟩
theorem post_true (l : OpenLaw) (args : List WData) : l.row.toRowW.claim.post args (.bool true) args = true :=
  postW_of (r := l.row.toRowW) (X := (true == true))
    (show WShape.has [] (.bool true) .bool = true by first | rfl | decide | simp [WShape.has, WShape.arms, WShape.armsAll])
    (show (WTm.eq .res (.lit (.bool true))).value [] { args := args, res := some (.bool true), after := args } = some (.bool (true == true)) from w_eq_bool (w_res rfl) w_lit) rfl
theorem attach_call {l : OpenLaw} {n : Nat} {q : Program} {loose : List Str} {XP : (Str → Option Value) → Heap → Prop} {YP : World → Heap → Prop} {d : DefRec}
    (hn : l.most = some n) (hdf : d.params.defaults = [])
    (call : ∀ (w : World) (s₀ s₁ : Shared) (mg mb : Str → Option Value) (fa : Addr) (o : Obj) (pm cd doc : Value) (a : Addr) (vs : List Value) (ns : List Int),
      Ground q loose [] XP w s₀ mg mb s₁.heap → YP w s₁.heap →
      s₁.heap.get? fa = some o → o.data = .func (docDef d.name d.params d.body d.scope pm cd doc) → s₁.heap.CodeRec cd d.name → mg d.name = some (.ref fa) →
      s₁.heap.get? a = some { cls := .type "list", data := .seq vs.toArray } → IntsAre vs ns → ns.length ≤ n → s₁.gens = #[] →
      codeAny (model l.prog w) callerA (.call (.ref fa) ⟨[.ref a], []⟩) (fun r s' => r = .ok (.ret (.bool true)) ∧ OldK s₁.heap s'.heap ∧ s'.os = s₁.os ∧ AllBare s'.gens) s₁) :
    WalkO q loose XP YP l.row.toRowW d [] (fun f vs => PySem.call f vs) := by
  intro w s₀ s₁ mg mb G Y fa o pm cd doc dV kV ho hd hcd hD hmg hg args vals as hpre hlay hrd hwl hlo
  obtain rfl : dV = .none := Dflts.none hD hdf
  obtain rfl : kV = .none := Dflts.noKw hD
  obtain ⟨a, vs, ns, rfl, rfl, hobj, hints, hlen⟩ := script_of hn hpre hwl
  refine enter_call (codeAny_mono (call w s₀ s₁ mg mb fa o pm cd doc a vs ns G Y ho (fd_plain hd) hcd hmg hobj hints hlen hg) fun r s' hq => ?_)
  obtain ⟨rfl, h2, h3, h4⟩ := hq
  exact ⟨.inl ⟨.bool true, .bool true, [], rfl, fun _ => rfl, .bool true, post_true l _, fun _ => ⟨List.Pairwise.nil, fun _ hm => (nomatch hm)⟩⟩, h2, h3, h4⟩
section
variable {prog : Program} {w : World} {A : Around} {E : Value → Shared → Prop} {s : Shared} {K : Frag}
end
end Att
namespace L2
open PySem PySem.Spec PyProof.Rows
theorem vals_ints : ∀ {vs : List Value} {ns : List Int}, IntsAre vs ns → Vals (ns.map V.int) vs
  | _, _, .nil => .nil
  | _, _, .cons n t h => .cons ⟨t, rfl⟩ (vals_ints h)
def Only (H : Hp) : Prop := ∀ b, H b = none ∨ ∃ o xs, H b = some (.frz o (.lst xs))
theorem law_call {P : Program} {w : World} {K : PySem.W.Frag} {mg mb : Str → Option Value} {CX : CXT} {k : Nat} {fa a : Addr} {fd : FuncData} {x : Str} {sp : Sp} {s₁ : Shared} {vs : List Value} {ns : List Int}
    (KX : K.In s₁.heap) (hns : s₁.heap.Ns mainGlobals mg) (hb : s₁.heap.Ns builtinsNs mb) (hbb : ∀ x : Str, x ≠ "__name__" → mb x = bootBuiltins x) (hlim : s₁.heap.NoLimit) (hg : s₁.gens = #[])
    (ha : s₁.heap.get? a = some { cls := .type "list", data := .seq vs.toArray }) (hi : IntsAre vs ns) (hl : ns.length ≤ sizeLine) (hr : Room k callerA)
    (F : ∀ base : Heap, K.In base → base.Ns mainGlobals mg → FnOk P w K mg base CX k fa fd [x] sp) (hbind : ∀ (s : Shared) (u : Value), BindsTo s fd ⟨[u], []⟩ [(x, u)])
    (hsp : ∀ H : Hp, Only H → SqL K H a (ns.map V.int) → sp [.ref a] H (fun v _ => v = .bl true) fun _ _ _ => False)
    (hCX : ∀ H e s', CX [] H s₁ (fun _ _ _ => False) e s' → False) :
    codeAny (model P w) callerA (.call (.ref fa) ⟨[.ref a], []⟩) (fun r s' => r = .ok (.ret (.bool true)) ∧ OldK s₁.heap s'.heap ∧ s'.os = s₁.os ∧ AllBare s'.gens) s₁ := by
  have rv := vals_ints hi
  have lenV := hi.length
  -- from an abstract heap in which nothing but the script may be tracked
  have core : ∀ H : Hp, Only H → SqL K H a (ns.map V.int) → HOk P w H s₁.heap → (∀ b, H b ≠ none → b = a) → (H a ≠ none → K.lookup a = none) →
      codeAny (model P w) callerA (.call (.ref fa) ⟨[.ref a], []⟩) (fun r s' => r = .ok (.ret (.bool true)) ∧ OldK s₁.heap s'.heap ∧ s'.os = s₁.os ∧ AllBare s'.gens) s₁ := by
    intro H hO hS hok hA hK
    have base_of : ∀ {b : Addr} {o : Obj}, s₁.heap.get? b = some o → H b = none → (hidT s₁.heap H).get? b = some o := fun e n => hidT_get e n
    have noA : ∀ {b : Addr} {o : Obj} {es : Array DictEntry} {ep : Nat}, s₁.heap.get? b = some o → o.data = .dict es ep → H b = none := fun {b o es ep} e d => by
      cases q : H b with
      | none => rfl
      | some u =>
        have e' : b = a := hA b (by rw [q]; simp)
        subst e'
        rw [ha] at e; cases e
        have d' : Data.seq vs.toArray _ = Data.dict es ep := d
        cases d'
    have nsK : ∀ {b : Addr} {m : Str → Option Value}, s₁.heap.Ns b m → (hidT s₁.heap H).Ns b m := fun {b m} ⟨o, es, ep, e, d, r⟩ => ⟨o, es, ep, base_of e (noA e d), d, r⟩
    have hKb : K.In (hidT s₁.heap H) := fun b o e => base_of (KX b o e) (by
      cases q : H b with
      | none => rfl
      | some u =>
        have e' : b = a := hA b (by rw [q]; simp)
        subst e'
        rw [hK (by rw [q]; simp)] at e; cases e)
    have hM : Mod K mg (hidT s₁.heap H) := ⟨hKb, nsK hns, ⟨mb, nsK hb, hbb⟩, let ⟨mc, h1, h2⟩ := hlim; ⟨mc, nsK h1, h2⟩⟩
    have e0 : Env0 P w K mg (hidT s₁.heap H) callerA [] s₁ H := ⟨rfl, hM, fun b o e => of_hidT e, Nat.le_of_eq (hidT_size _ _), trivial, fun b hb => absurd (show b ∈ ([] : List Addr) from hb) (by simp), hok, .of_eq hg⟩
    refine codeAny_mono ((F _ hKb (nsK hns)).run callerA [] s₁ H ⟨[.ref a], []⟩ [.ref a] [.ref a] _ _ hr e0 (hbind s₁ (.ref a)) (.cons rfl .nil) (hsp H hO hS)) fun r s' h => ?_
    cases r with
    | error e => exact (hCX H e s' h).elim
    | ok fl =>
      cases fl with
      | next => exact False.elim h
      | brk => exact False.elim h
      | cont => exact False.elim h
      | ret u =>
        obtain ⟨v, H', os, bare, un, hok', r', q⟩ := h
        have q' : v = .bl true := q
        subst q'
        obtain rfl : u = Value.bool true := r'
        refine ⟨rfl, OldK.of_keep fun b o e => ?_, os, bare⟩
        cases q : H b with
        | none => exact un.keep b o e q (by intro z; exact absurd (show b ∈ ([] : List Addr) from z) (by simp)) (by simp)
        | some u =>
          rcases hO b with z | ⟨ob, xs, z⟩
          · rw [q] at z; cases z
          · have z2 := un.frzs b ob _ z
            obtain ⟨e1, _⟩ := hok b _ z
            obtain ⟨e2, _⟩ := hok' b _ z2
            rw [e] at e1; cases e1
            exact e2
  cases hk : K.lookup a with
  | some o =>
    -- the script is one of the module's own objects
    have e := KX a o hk
    rw [ha] at e
    cases e
    refine core (fun _ => none) (fun _ => .inl rfl) (.inr ⟨_, vs.toArray, _, hk, rfl, rfl, rfl, by rw [List.size_toArray, lenV]; exact hl, by simpa using rv⟩) (fun b u z => by have z' : (none : Option HO) = some u := z; cases z') (fun b z => absurd rfl z) fun z => absurd rfl z
  | none =>
    refine core (fun b => if b = a then some (.frz { cls := .type "list", data := .seq vs.toArray } (.lst (ns.map V.int))) else none) (fun b => ?_) (.inl (.inr ⟨{ cls := .type "list", data := .seq vs.toArray }, if_pos rfl⟩)) (fun b u z => ?_) (fun b z => ?_) fun _ => hk
    · by_cases hb : b = a
      · exact .inr ⟨_, _, if_pos hb⟩
      · exact .inl (if_neg hb)
    · by_cases hb : b = a
      · have z' := (if_pos hb).symm.trans z
        cases z'
        subst hb
        exact ⟨ha, by rw [List.length_map]; exact hl, vs, _, rv, ha⟩
      · have z' := (if_neg hb).symm.trans z
        cases z'
    · by_cases hb : b = a
      · exact hb
      · exact absurd (if_neg hb) z
end L2
namespace L2
open PySem PySem.Spec PyProof.Rows
theorem walk_of {l : PySem.W.OpenLaw} {n k : Nat} {q : Program} {loose : List Str} {XP : (Str → Option Value) → Heap → Prop} {YP : World → Heap → Prop} {d : DefRec} {K : Params → PySem.W.Frag} {CX : World → CXT} {sp : World → Sp} {x : Str}
    (hn : l.most = some n) (hn2 : n ≤ sizeLine) (hdf : d.params.defaults = []) (hr : Room k callerA)
    (hY : ∀ (w : World) (h : Heap), YP w h → (K w.params).In h)
    (F : ∀ (w : World) (mg : Str → Option Value) (fa : Addr) (h : Heap), (K w.params).In h → h.Ns mainGlobals mg → mg d.name = some (.ref fa) →
      ∃ fd : FuncData, (∀ (s : Shared) (u : Value), BindsTo s fd ⟨[u], []⟩ [(x, u)]) ∧
        ∀ base : Heap, (K w.params).In base → base.Ns mainGlobals mg → FnOk l.prog w (K w.params) mg base (CX w) k fa fd [x] (sp w))
    (hsp : ∀ (w : World) (H : Hp) (a : Addr) (ns : List Int), ns.length ≤ n → Only H → SqL (K w.params) H a (ns.map V.int) → sp w [.ref a] H (fun v _ => v = .bl true) fun _ _ _ => False)
    (hCX : ∀ (w : World) (H : Hp) (s : Shared) (e : Value) (s' : Shared), CX w [] H s (fun _ _ _ => False) e s' → False) :
    PySem.W.WalkO q loose XP YP l.row.toRowW d [] (fun f vs => PySem.call f vs) := by
  refine Att.attach_call hn hdf fun w s₀ s₁ mg mb fa o pm cd doc a vs ns G Y ho hd hcd hmg hobj hints hlen hg => ?_
  have KX := hY w _ Y
  obtain ⟨fd, hb, hF⟩ := F w mg fa _ KX G.T.g hmg
  exact law_call KX G.T.g G.T.b G.T.builtins G.T.nolimit hg hobj hints (Nat.le_trans hlen hn2) hr hF hb (fun H hO hS => hsp w H a ns hlen hO hS) fun H e s' => hCX w H s₁ e s'
end L2
namespace L2
open PySem PySem.Spec PyProof.Rows
def defArgs (s : Stmt) : Arguments := match s with
  | .FunctionDef _ a _ _ _ _ _ _ _ _ => a
  | _ => { posonlyargs := [], args := [], vararg := none, kwonlyargs := [], kw_defaults := [], kwarg := none, defaults := [] }
def defBody (s : Stmt) : List Stmt := match s with
  | .FunctionDef _ _ b _ _ _ _ _ _ _ => b
  | _ => []
def defScope (s : Stmt) : Scope := match s with
  | .FunctionDef _ _ _ _ _ _ sc _ _ _ => sc
  | _ => { kind := .function, names := [], isGenerator := false, isCoroutine := false }
abbrev CX0 : CXT := fun _ _ _ _ _ _ => False
abbrev E0 : XK := fun _ _ _ => False
theorem pass0 {X : Cx} : Passes CX0 X E0 := fun _ _ _ _ _ _ _ h => h.elim
structure Fun (K : PySem.W.Frag) (x qual : Str) (st : Stmt) (f : Addr) (fd : FuncData) : Prop where
  ex : ∃ (oc : Value) (od : Option Addr) (kV doc pm : Value) (an : Option Addr) (cdv ct : Value) (osl : Array (Option Value)),
    fd = PySem.W.fnOf x qual (defArgs st) (defBody st) (defScope st) .none kV doc pm an cdv ct ∧ K.lookup f = some ⟨oc, od, .func fd, osl⟩ ∧ PySem.W.codeIn K cdv qual = true
  kp : PySem.W.keepIn K (.ref f) = true
section
variable {P : Program} {w : World} {K : PySem.W.Frag} {mg : Str → Option Value} {base : Heap}
theorem Fun.ok {x qual : Str} {st : Stmt} {f : Addr} {fd : FuncData} {N ps : List Str} {k : Nat} {sp : Sp} (F : Fun K x qual st f fd) (S : FnScope N ps (defScope st)) (len : ∀ vs H Q E, sp vs H Q E → vs.length = ps.length)
    (hbody : ∀ (cdv : Value) (A : Around) (outer : List Env) (s : Shared) (H : Hp) (vs : List V) (Q : VK) (E : XK), Room k (A.deeper (envOfC qual (defScope st) s.heap.objs.size f cdv)) → sp vs H Q E →
      ∃ t, PSs (cxOf CX0 P w K mg base N qual (defScope st) f cdv A outer s H E).nox (defBody st) t ∧ t { nx := fun _ H' => Q .non H', rt := Q } (start N vs) H) : FnOk P w K mg base CX0 (k + 1) f fd ps sp := by
  obtain ⟨oc, od, kV, doc, pm, an, cdv, ct, osl, rfl, lk, hcd⟩ := F.ex
  refine fn_of lk hcd S len fun A outer s H vs Q E hr hsp => ?_
  obtain ⟨t, h, q⟩ := hbody cdv A outer s H vs Q E hr hsp
  exact ⟨t, h.nox, q⟩
theorem Fun.binds {x qual : Str} {st : Stmt} {f : Addr} {fd : FuncData} {ps : List Str} (F : Fun K x qual st f fd)
    (h : ∀ (kV doc pm : Value) (an : Option Addr) (cdv ct : Value) (us : List Value), us.length = ps.length → bindArgs (PySem.W.fnOf x qual (defArgs st) (defBody st) (defScope st) .none kV doc pm an cdv ct) ⟨us, []⟩ = pure (ps.zip us)) : Binds K fd ps [] := by
  obtain ⟨oc, od, kV, doc, pm, an, cdv, ct, osl, rfl, lk, hcd⟩ := F.ex
  exact .all (h kV doc pm an cdv ct)
theorem fun_mk {x qual : Str} {st : Stmt} {f : Addr} {oc : Value} {od an : Option Addr} {osl : Array (Option Value)} {kV doc pm cdv ct : Value} (l : K.lookup f = some ⟨oc, od, .func (PySem.W.fnOf x qual (defArgs st) (defBody st) (defScope st) .none kV doc pm an cdv ct), osl⟩)
    (c : PySem.W.codeIn K cdv qual = true) (k : PySem.W.keepIn K (.ref f) = true) : Fun K x qual st f (PySem.W.fnOf x qual (defArgs st) (defBody st) (defScope st) .none kV doc pm an cdv ct) := ⟨⟨oc, od, kV, doc, pm, an, cdv, ct, osl, rfl, l, c⟩, k⟩
end
theorem hu_of {A : Around} {k : Nat} (hr : Room k A) : A.units + 1 < cLine := Nat.lt_of_le_of_lt (Nat.add_le_add_left (by decide : 1 ≤ 64) _) hr.units
section
variable {X : Cx}
theorem pv (i : Nat) {x : Str} {pos : Pos} (hN : X.N[i]? = some x := by rfl) (hv : Vis X.env.scope x := by first | exact Or.inl rfl | exact Or.inr (Or.inl rfl) | exact Or.inr (Or.inr rfl)) (hd : (x == ("__debug__" : Str)) = false := by decide)
    (hcd : (x == ("__classdict__" : Str)) = false := by decide) : PE X (.Name x pos) (tVar i) := pe_var hN hv hd hcd
theorem call_lenD : CallR X (.builtin "len") (fun xs H Q => ∃ a kvs, xs = [V.ref a] ∧ H a = some (.dK kvs) ∧ Q (.int kvs.length) H) := by
  intro pins s σ H xs us Q I r h
  obtain ⟨a, kvs, rfl, ha, q⟩ := h
  obtain ⟨u, rfl, ru⟩ := vals1 r
  cases ru
  exact d_len I (.inl ha) fun t s' I' => ⟨.int kvs.length, H, I', ⟨t, rfl⟩, q⟩
end
theorem iteF {A B : Prop} (h : B) : if false = true then A else B := by
  rw [if_neg Bool.false_ne_true]
  exact h
theorem iteT {A B : Prop} (h : A) : if true = true then A else B := by
  rw [if_pos rfl]
  exact h
def Same (H H' : Hp) : Prop := ∀ b o, H b = some o → H' b = some o
theorem Same.free {H H' : Hp} (e : Same H H') {l : Addr} (h : H' l = Option.none) : H l = Option.none := by
  cases q : H l with
  | none => rfl
  | some o =>
    rw [e l o q] at h
    cases h
theorem Same.seq {K : PySem.W.Frag} {H H' : Hp} {a : Addr} {xs : List V} (e : Same H H') (h : SqL K H a xs) : SqL K H' a xs := by
  rcases h with (h | ⟨o, h⟩) | h
  · exact .inl (.inl (e _ _ h))
  · exact .inl (.inr ⟨o, e _ _ h⟩)
  · exact .inr h
section
variable {κ : Type} [DecidableEq κ]
end
end L2
set_option Elab.async false
set_option linter.all false
set_option maxRecDepth 100000
set_option maxHeartbeats 4000000
namespace L2
open PySem PySem.Spec PyProof.Rows
structure Blk where
  cl : List (Str × Addr)
  s : Shared
  H : Hp
  fp : List Addr
  C : Addr
def cxB (X : Cx) (sc : Scope) (N' : List Str) (B : Blk) : Cx where
  prog := X.prog
  w := X.w
  K := X.K
  mg := X.mg
  base := X.base
  A := X.A
  N := N'
  s₀ := B.s
  H₀ := B.H
  env := compEnvC sc B.cl B.C X.env
  outer := X.stack
  stack := X.stack
  ex := B.fp
  fn := fun _ => false
  calm := X.calm
  pn := []
  xe := fun _ _ => False
def closL (cells : List (Str × Addr)) : List (Str × NameKind) → List (Str × Addr) → List (Str × Addr)
  | [], acc => acc
  | (n, k) :: r, acc => if k = .free then closL cells r ((n, (cells.lookup n).getD 0) :: acc) else closL cells r acc
theorem closure_ok {scope : Scope} {env : Env} (h : ∀ y ∈ scope.names, y.2 = .free → ∃ c, env.cells.lookup y.1 = some c) : closureFor scope env = pure (closL env.cells scope.names []) := by
  have key : ∀ (names : List (Str × NameKind)) (acc : List (Str × Addr)), (∀ y ∈ names, y.2 = .free → ∃ c, env.cells.lookup y.1 = some c) →
      (forIn names acc fun (x : Str × NameKind) (cs : List (Str × Addr)) => (if (x.2 == NameKind.free) = true then (do let a ← cellOf env x.1; pure (ForInStep.yield ((x.1, a) :: cs))) else pure (ForInStep.yield cs) : Sem (ForInStep (List (Str × Addr))))) = (pure (closL env.cells names acc) : Sem _) := by
    intro names
    induction names with
    | nil => intro acc _; rfl
    | cons y r ih =>
      intro acc hy
      obtain ⟨n, k⟩ := y
      rw [List.forIn_cons]
      by_cases hk : k = .free
      · subst hk
        obtain ⟨c, hc⟩ := hy (n, .free) List.mem_cons_self rfl
        have e1 : cellOf env n = (pure c : Sem Addr) := by
          unfold cellOf
          rw [show env.cells.lookup n = some c from hc]
        simp only [beq_self_eq_true, if_true, e1, pure_bind]
        rw [ih _ fun z hz => hy z (List.mem_cons_of_mem _ hz)]
        simp only [closL, if_true]
        rw [show env.cells.lookup n = some c from hc]
        rfl
      · have hb : (k == NameKind.free) = false := by simpa using hk
        simp only [hb, Bool.false_eq_true, if_false, pure_bind]
        rw [ih _ fun z hz => hy z (List.mem_cons_of_mem _ hz)]
        simp only [closL, if_neg hk]
  have e : closureFor scope env = ((forIn scope.names [] fun (x : Str × NameKind) (cs : List (Str × Addr)) => (if (x.2 == NameKind.free) = true then (do let a ← cellOf env x.1; pure (ForInStep.yield ((x.1, a) :: cs))) else pure (ForInStep.yield cs) : Sem (ForInStep (List (Str × Addr))))) >>= fun cs => pure cs) := by
    unfold closureFor
    rfl
  rw [e, key _ _ h, pure_bind]
theorem closL_sub {cells : List (Str × Addr)} {x : Str} {c : Addr} : ∀ {names : List (Str × NameKind)} {acc : List (Str × Addr)}, (∀ y ∈ names, y.2 = .free → ∃ c, cells.lookup y.1 = some c) →
    (∀ x c, acc.lookup x = some c → cells.lookup x = some c) → (closL cells names acc).lookup x = some c → cells.lookup x = some c
  | [], acc, _, ha, e => ha x c e
  | (n, k) :: r, acc, hy, ha, e => by
    have hr : ∀ y ∈ r, y.2 = .free → ∃ c, cells.lookup y.1 = some c := fun z hz => hy z (List.mem_cons_of_mem _ hz)
    unfold closL at e
    by_cases hk : k = .free
    · subst hk
      rw [if_pos rfl] at e
      obtain ⟨d, hd⟩ := hy (n, .free) List.mem_cons_self rfl
      have hd : cells.lookup n = some d := hd
      refine closL_sub hr (fun z b q => ?_) e
      rw [List.lookup_cons] at q
      by_cases hz : z = n
      · subst hz
        rw [beq_self_eq_true, hd] at q
        rw [hd]; exact q
      · have : (z == n) = false := beq_eq_false_iff_ne.mpr hz
        rw [this] at q
        exact ha z b q
    · rw [if_neg hk] at e
      exact closL_sub hr ha e
theorem closL_has {cells : List (Str × Addr)} {x : Str} : ∀ {names : List (Str × NameKind)} {acc : List (Str × Addr)}, ((x, NameKind.free) ∈ names ∨ ∃ c, acc.lookup x = some c) → ∃ c, (closL cells names acc).lookup x = some c
  | [], acc, h => by
    rcases h with h | h
    · cases h
    · exact h
  | (n, k) :: r, acc, h => by
    unfold closL
    by_cases hk : k = .free
    · subst hk
      rw [if_pos rfl]
      refine closL_has ?_
      by_cases hx : x = n
      · subst hx
        right
        rw [List.lookup_cons, beq_self_eq_true]
        exact ⟨_, rfl⟩
      · have hb : (x == n) = false := beq_eq_false_iff_ne.mpr hx
        rcases h with h | ⟨c, h⟩
        · rcases List.mem_cons.mp h with e | h
          · cases e; exact absurd rfl hx
          · exact .inl h
        · right
          rw [List.lookup_cons, hb]
          exact ⟨c, h⟩
    · rw [if_neg hk]
      refine closL_has ?_
      rcases h with h | h
      · rcases List.mem_cons.mp h with e | h
        · cases e; exact absurd rfl hk
        · exact .inl h
      · exact .inr h
structure CScope (N' : List Str) (sc osc : Scope) : Prop where
  kind : sc.kind = .function
  nd : N'.Nodup
  nocell : ∀ y ∈ sc.names, y.2 ≠ .cell
  loc : ∀ y ∈ sc.names, y.2 = .local → sc.names.lookup y.1 = some .local
  free : ∀ y ∈ sc.names, y.2 = .free → osc.names.lookup y.1 = some .cell ∨ osc.names.lookup y.1 = some .free
def cscopeB (N' : List Str) (sc osc : Scope) : Bool :=
  decide (sc.kind = .function) && decide N'.Nodup && sc.names.all (fun y => decide (y.2 ≠ .cell)) && sc.names.all (fun y => decide (y.2 = .local → sc.names.lookup y.1 = some .local)) &&
    sc.names.all (fun y => decide (y.2 = .free → osc.names.lookup y.1 = some .cell ∨ osc.names.lookup y.1 = some .free))
theorem CScope.of {N' : List Str} {sc osc : Scope} (h : cscopeB N' sc osc = true) : CScope N' sc osc := by
  unfold cscopeB at h
  simp only [Bool.and_eq_true] at h
  obtain ⟨⟨⟨⟨h1, h2⟩, h3⟩, h4⟩, h5⟩ := h
  exact ⟨of_decide_eq_true h1, of_decide_eq_true h2, fun y hy => of_decide_eq_true (List.all_eq_true.mp h3 y hy), fun y hy => of_decide_eq_true (List.all_eq_true.mp h4 y hy), fun y hy => of_decide_eq_true (List.all_eq_true.mp h5 y hy)⟩
def cmap (js : List (Option Nat)) (σ : St) : St := js.map fun o => o.bind fun j => (σ[j]?).join
def jsOk (N' N : List Str) (sc : Scope) : List (Option Nat) → List Str → Bool
  | [], [] => true
  | none :: js, _ :: r => jsOk N' N sc js r
  | some j :: js, x :: r => decide (N[j]? = some x) && decide (sc.names.lookup x = some .free) && jsOk N' N sc js r
  | _, _ => false
theorem jsOk_len {N' N : List Str} {sc : Scope} : ∀ {js : List (Option Nat)} {r : List Str}, jsOk N' N sc js r = true → js.length = r.length
  | [], [], _ => rfl
  | none :: js, _ :: r, h => by
    have := jsOk_len (js := js) (r := r) h
    simp [this]
  | some j :: js, x :: r, h => by
    unfold jsOk at h
    rw [Bool.and_eq_true] at h
    have := jsOk_len (js := js) (r := r) h.2
    simp [this]
  | [], _ :: _, h => by simp [jsOk] at h
  | none :: _, [], h => by simp [jsOk] at h
  | some _ :: _, [], h => by simp [jsOk] at h
theorem jsOk_get {N' N : List Str} {sc : Scope} : ∀ {js : List (Option Nat)} {r : List Str} {i j : Nat} {x : Str}, jsOk N' N sc js r = true → js[i]? = some (some j) → r[i]? = some x → N[j]? = some x ∧ sc.names.lookup x = some .free
  | [], [], i, j, x, _, e, _ => by simp at e
  | none :: js, _ :: r, 0, j, x, h, e, _ => by simp at e
  | none :: js, _ :: r, i + 1, j, x, h, e, e2 => jsOk_get (js := js) (r := r) (i := i) h (by simpa using e) (by simpa using e2)
  | some k :: js, y :: r, 0, j, x, h, e, e2 => by
    unfold jsOk at h
    rw [Bool.and_eq_true, Bool.and_eq_true] at h
    simp at e e2
    subst e; subst e2
    exact ⟨of_decide_eq_true h.1.1, of_decide_eq_true h.1.2⟩
  | some k :: js, y :: r, i + 1, j, x, h, e, e2 => by
    unfold jsOk at h
    rw [Bool.and_eq_true, Bool.and_eq_true] at h
    exact jsOk_get (js := js) (r := r) (i := i) h.2 (by simpa using e) (by simpa using e2)
  | [], _ :: _, _, _, _, h, _, _ => by simp [jsOk] at h
  | none :: _, [], _, _, _, h, _, _ => by simp [jsOk] at h
  | some _ :: _, [], _, _, _, h, _, _ => by simp [jsOk] at h
theorem relabel_kind {env : Env} {x : Str} : ∀ {names : List (Str × NameKind)}, (∀ y ∈ names, y.2 ≠ .cell) →
    (((names.map fun (n, k) => if (k == NameKind.free && env.scope.kind == .function && env.kindOf n == some .cell) then (n, NameKind.cell) else (n, k)).lookup x = some .cell ∨
     (names.map fun (n, k) => if (k == NameKind.free && env.scope.kind == .function && env.kindOf n == some .cell) then (n, NameKind.cell) else (n, k)).lookup x = some .free) ↔ names.lookup x = some .free)
  | [], _ => by simp
  | (n, k) :: r, h => by
    have ih := @relabel_kind env x r fun y hy => h y (List.mem_cons_of_mem _ hy)
    have hk : k ≠ .cell := h (n, k) List.mem_cons_self
    rw [List.map_cons]
    dsimp only
    by_cases hx : (x == n) = true
    · by_cases hc : (k == NameKind.free && env.scope.kind == .function && env.kindOf n == some .cell) = true
      · rw [if_pos hc]
        simp only [List.lookup_cons, hx]
        have : k = .free := by
          rw [Bool.and_eq_true, Bool.and_eq_true] at hc
          exact beq_iff_eq.mp hc.1.1
        simp [this]
      · rw [if_neg hc]
        simp only [List.lookup_cons, hx]
        constructor
        · rintro (e | e)
          · cases e; exact absurd rfl hk
          · exact e
        · intro e; exact .inr e
    · have hx : (x == n) = false := by simpa using hx
      by_cases hc : (k == NameKind.free && env.scope.kind == .function && env.kindOf n == some .cell) = true
      · rw [if_pos hc]
        simp only [List.lookup_cons, hx]
        exact ih
      · rw [if_neg hc]
        simp only [List.lookup_cons, hx]
        exact ih
theorem lookup_memF {x : Str} {k : NameKind} : ∀ {names : List (Str × NameKind)}, names.lookup x = some k → (x, k) ∈ names := fun h => PySem.mem_of_lookup h
section
variable {X : Cx} {sc : Scope} {N' : List Str} {js : List (Option Nat)} {pins : List (Addr × Obj)} {σ : St} {H H1 : Hp} {s : Shared} {fp : List Addr} {C : Addr}
theorem cells_of (S : CScope N' sc X.env.scope) (I : Inv X pins σ H s) : ∀ y ∈ sc.names, y.2 = .free → ∃ c, X.env.cells.lookup y.1 = some c := fun y hy hk =>
  I.ok.has y.1 (S.free y hy hk)
theorem inv_blk (S : CScope N' sc X.env.scope) (hj : jsOk N' X.N sc js N' = true) (I : Inv X pins σ H s) (hf : ∀ b ∈ fp, FpOk X pins H b) (ho : ∀ b ∈ fp, ∃ o, s.heap.get? b = some o)
    {h1 : Heap} {tk : Nat} {m : Str → Option Value} (hC : s.heap.objs.size ≤ C) (keep : ∀ b o, s.heap.get? b = some o → h1.get? b = some o) (un : Un (frs X.stack) fp H H1 s.heap h1) (hok : HOk X.prog X.w H1 h1) (hn : h1.Ns C m) (hfree : H1 C = none) :
    Inv (cxB X sc N' ⟨closL X.env.cells sc.names [], s, H, fp, C⟩) [] (cmap js σ) H1 { s with heap := h1, toks := tk } := by
  have cs := cells_of S I
  have sub : ∀ x c, (closL X.env.cells sc.names []).lookup x = some c → X.env.cells.lookup x = some c := fun x c e => closL_sub cs (fun _ _ z => by simp at z) e
  refine ⟨⟨I.ok.mod, S.kind, I.ok.glob, I.ok.blt, hC, fun x y c e1 e2 => I.ok.inj x y c (sub x c e1) (sub y c e2), fun x hx => ?_, fun _ _ h _ => absurd (show false = true from h) Bool.false_ne_true, I.ok.hd, I.ok.frames, .inl rfl, fun b hb => ?_, I.bs, Nat.le_trans I.ok.bsz I.sz, fun b o e hb => ?_, fun b hb hb' => ?_, I.stack, I.stkFree⟩,
    rfl, I.bare, un, ⟨m, hn, fun i x v e1 e2 e3 => ?_⟩, fun x c e => ?_, hfree, fun x c e => ?_, fun p hp => absurd (show p ∈ ([] : List (Addr × Obj)) from hp) (by simp), hok, ?_⟩
  · have q : sc.names.lookup x = some .free := (relabel_kind (env := X.env) S.nocell).mp hx
    exact closL_has (.inl (lookup_memF q))
  · obtain ⟨o, e⟩ := ho b hb
    exact ⟨Nat.ne_of_lt (Nat.lt_of_lt_of_le (Heap.lt_size e) hC), fun x c q => (hf b hb).2.2.2.2.1 x c (sub x c q)⟩
  · rcases (hf b hb).2.2.2.1 with z | z
    · exact I.ok.noex b o e z
    · exact absurd (Nat.lt_of_lt_of_le (Heap.lt_size e) (Nat.le_trans I.ok.bsz z)) (Nat.lt_irrefl _)
  · rcases List.mem_cons.mp (I.stkSub b hb') with z | z
    · exact (hf b hb).2.1 z
    · exact (hf b hb).2.2.1 z
  · -- the names that are handed in
    have e1 : N'[i]? = some x := e1
    unfold cmap at e2
    rw [List.getElem?_map] at e2
    cases hji : js[i]? with
    | none => rw [hji] at e2; cases e2
    | some o =>
      rw [hji] at e2
      cases o with
      | none => cases e2
      | some j =>
        obtain ⟨a1, a2⟩ := jsOk_get hj hji e1
        have e2 : (σ[j]?).join = some v := by simpa using e2
        have e2' : σ[j]? = some (some v) := by
          cases q : σ[j]? with
          | none => rw [q] at e2; cases e2
          | some z => rw [q] at e2; simpa using e2
        obtain ⟨m0, hn0, hl0⟩ := I.loc
        have kx := S.free _ (lookup_memF a2) rfl
        obtain ⟨u, r, l⟩ := hl0 j x v a1 e2' (kx.elim (fun z => .inr (.inl z)) fun z => .inr (.inr z))
        refine ⟨u, r, .inr ⟨(relabel_kind (env := X.env) S.nocell).mpr a2, ?_⟩⟩
        rcases l with ⟨k, _⟩ | ⟨_, c, ec, hc⟩
        · have k : X.env.scope.names.lookup x = some .local := k
          rcases kx with z | z
          · rw [k] at z; cases z
          · rw [k] at z; cases z
        · obtain ⟨c', ec'⟩ := closL_has (cells := X.env.cells) (acc := []) (.inl (lookup_memF a2))
          have : c' = c := Option.some.inj ((sub x c' ec').symm.trans ec)
          subst this
          obtain ⟨oc, hoc, hd⟩ := hc
          exact ⟨c', ec', oc, keep _ _ hoc, hd⟩
  · obtain ⟨v, oc, hoc, hd⟩ := I.cell x c (sub x c e)
    exact ⟨v, oc, keep _ _ hoc, hd⟩
  · obtain ⟨v, oc, hoc, hd⟩ := I.cell x c (sub x c e)
    have nfp : c ∉ fp := fun z => (hf c z).2.2.2.2.1 x c (sub x c e) rfl
    exact un.free c oc hoc (I.freeC x c (sub x c e)) nfp
  · show (cmap js σ).length = N'.length
    unfold cmap
    rw [List.length_map]
    exact jsOk_len hj
end
section
variable {prog : Program} {w : World} {A : Around} {R : Result → Shared → Prop} {s : Shared}
theorem compLoop_any {elt target iter : Expr} {ifs : List Expr} {scope : Scope} {pos : Pos} {it acc : Value} {env : Env} (I : Nat → Shared → Prop)
    (turn : ∀ n s, I n s → wpAny (model prog w) A (pyNext it) (fun r s₁ => match r with
      | none => R (.ok .next) s₁
      | some v => wpAny (model prog w) A (letOwnedTupleGo target it v) (fun _ s₀ => wpAny (model prog w) A (assign target env v) (fun _ s₂ =>
          wpAny (model prog w) A (forIn ifs true fun c r => if r = true then do let ok ← isTrue c env (eval c env); pure (ForInStep.yield ok) else pure (ForInStep.yield r)) (fun ok s₃ =>
            if ok = true then wpAny (model prog w) A (eval elt env) (fun x s₄ =>
              wpAny (model prog w) A (call (.builtin "list.append") [acc, x]) (fun _ s₅ => ∃ m, m < n ∧ I m s₅) (fun _ _ => False) s₄) (fun _ _ => False) s₃
            else ∃ m, m < n ∧ I m s₃) (fun _ _ => False) s₂) (fun _ _ => False) s₀) (fun _ _ => False) s₁) (fun _ _ => False) s)
    (n : Nat) (h : I n s) :
    codeAny (model prog w) A (.compLoop (.ListComp elt [⟨target, iter, ifs, 0⟩] scope pos) 0 it acc env) R s := by
  refine codeAny_loop rfl I (fun n s hI => ?_) n h
  show wpAny _ A ((compTurn (.ListComp elt [⟨target, iter, ifs, 0⟩] scope pos) 0 it acc env).onRaise (fun x => do noteFrame x env; theTreesLotGoes x)) _ _ s
  refine wpAny_noted ?_
  rw [compTurn_list]
  refine wpAny_bind (wpAny_standAt (wpAny_bind (wpAny_mono (turn n s hI) (fun r s₁ h₁ => ?_) fun _ _ h' => h'.elim)))
  cases r with
  | none => exact wpAny_pure h₁
  | some v =>
    refine wpAny_bind (wpAny_mono h₁ (fun _ s₀ h₀ => ?_) fun _ _ h' => h'.elim)
    refine wpAny_bind (wpAny_mono h₀ (fun _ s₂ h₂ => wpAny_bind (wpAny_mono h₂ (fun ok s₃ h₃ => ?_) fun _ _ h' => h'.elim)) fun _ _ h' => h'.elim)
    cases ok with
    | false => exact wpAny_pure ⟨rfl, h₃⟩
    | true =>
      exact wpAny_bind (wpAny_bind (wpAny_mono h₃ (fun x s₄ h₄ => wpAny_bind (wpAny_mono h₄ (fun _ s₅ h₅ => wpAny_pure (wpAny_pure ⟨rfl, h₅⟩)) fun _ _ h' => h'.elim)) fun _ _ h' => h'.elim))
end
def PIfs (X : Cx) (ifs : List Expr) (t : TT) : Prop :=
  ∀ (pins : List (Addr × Obj)) (s : Shared) (σ : St) (H : Hp) (Q : Bool → Hp → Prop), Inv X pins σ H s → t σ H Q →
    wpAny (model X.prog X.w) X.A (forIn ifs true fun c r => if r = true then do let ok ← isTrue c X.env (eval c X.env); pure (ForInStep.yield ok) else pure (ForInStep.yield r)) (TP X pins σ Q) X.xe s
def tTrue : TT := fun _ H Q => Q true H
theorem pifs_nil {X : Cx} : PIfs X [] tTrue := fun _ _ _ H _ I h => wpAny_tests_nil ⟨H, I, h⟩
def CompW (J : It) (g : TG) (tt : TT) (te : TE) (p : Addr) (σ₀ : St) (H1 : Hp) (Q : VK) : Prop :=
  ∃ W : Nat → Nat → St → List V → Hp → Prop, (∃ m, W 0 m σ₀ [] (upd H1 p (.lst []))) ∧ ∀ i m σ' acc H, W i m σ' acc H →
    (J.stop i H ∧ Q (.ref p) H) ∨ (J.go i H ∧ ∃ N : St → List V → Hp → Prop, (∀ σ2 acc' H', N σ2 acc' H' → ∃ m', m' < m ∧ W (i + 1) m' σ2 acc' H') ∧ ∀ x H', J.yld i H x H' → g x σ' H' fun σ2 H2 => tt σ2 H2 fun b H3 =>
      if b = true then te σ2 H3 fun y H4 => H4 p = some (.lst acc) ∧ acc.length < sizeLine ∧ N σ2 (acc ++ [y]) (upd H4 p (.lst (acc ++ [y])))
      else N σ2 acc H3)
def tComp (wi : TI) (g : Blk → TG) (tt : Blk → TT) (te : Blk → TE) (js : List (Option Nat)) : TE := fun σ H Q => wi σ H fun J H1 => ∀ p, H1 p = none → ∀ B : Blk, CompW J (g B) (tt B) (te B) p (cmap js σ) H1 Q
section
variable {X : Cx} {sc : Scope} {N' : List Str} {js : List (Option Nat)} {tg iter elt : Expr} {ifs : List Expr} {pos : Pos} {wi : TI} {g : Blk → TG} {tt : Blk → TT} {te : Blk → TE}
theorem comp_core (S : CScope N' sc X.env.scope) (hj : jsOk N' X.N sc js N' = true) (hc : X.calm = true)
    (hg : ∀ B, PG (cxB X sc N' B) tg (g B)) (ht : ∀ B, PIfs (cxB X sc N' B) ifs (tt B)) (he : ∀ B, PE (cxB X sc N' B) elt (te B))
    {pins : List (Addr × Obj)} {s : Shared} {σ : St} {J : It} {H : Hp} {it : Addr} {fp : List Addr} {tn : Nat → Heap → Prop} (I : Inv X pins σ H s) (T : Turn X.prog X.w X.K tg J fp it tn) (st : tn 0 s.heap) (hf : ∀ b ∈ fp, FpOk X pins H b)
    {Q : VK} (hw : ∀ p, H p = none → ∀ B : Blk, CompW J (g B) (tt B) (te B) p (cmap js σ) H Q) {E : Value → Shared → Prop} {RR : Value → Addr → Result → Shared → Prop}
    (hRR : ∀ p C H' s' m, Inv X pins σ H' s' → FpOk X pins H' C → s'.heap.Ns C m → Q (.ref p) H' → RR (.ref p) C (.ok .next) s') :
    wpAny (model X.prog X.w) X.A (newList []) (fun acc s₃ => wpAny (model X.prog X.w) X.A (newFunctionEnv sc X.env.globals (closL X.env.cells sc.names []) [] X.env.qual none .none (some X.env)) (fun cenv s₄ =>
      codeAny (model X.prog X.w) X.A (.compStart (.ListComp elt [⟨tg, iter, ifs, 0⟩] sc pos) 0 (.ref it) acc { cenv with scope := relabel sc X.env }) (RR acc cenv.locals) s₄) E s₃) E s := by
  refine wpAny_newObj_type (wpAny_newFunctionEnv S.nocell (by intro y hy; simp at hy) (fun h₁ hns₁ hsb₁ => ?_) S.kind)
  dsimp only at hns₁ hsb₁ ⊢
  generalize hH2 : s.heap.push { cls := .type "list", dict := none, data := .seq ([] : List Value).toArray } = H2 at hns₁ hsb₁ ⊢
  have hC : H2.objs.size = s.heap.objs.size + 1 := by rw [← hH2, Heap.size_push]
  have hDC : s.heap.objs.size ≠ H2.objs.size := by rw [hC]; exact Nat.ne_of_lt (Nat.lt_succ_self _)
  have hCle : s.heap.objs.size ≤ H2.objs.size := by rw [hC]; exact Nat.le_succ _
  have below : ∀ b, b < s.heap.objs.size → b ≠ H2.objs.size := fun b hb => by rw [hC]; exact Nat.ne_of_lt (Nat.lt_succ_of_lt hb)
  have old : ∀ b o, s.heap.get? b = some o → h₁.get? b = some o := fun b o e => hsb₁.extBut b o (below b (Heap.lt_size e)) (Heap.get?_push_of_some _ (hH2 ▸ Heap.get?_push_of_some _ e))
  have hacc : h₁.get? s.heap.objs.size = some { cls := .type "list", dict := none, data := .seq ([] : List Value).toArray } := hsb₁.extBut _ _ hDC (Heap.get?_push_of_some _ (hH2 ▸ Heap.get?_push_size _ rfl))
  have hp0 : H s.heap.objs.size = none := I.hok.fresh (Nat.le_refl _)
  have newO : ObjOk X.prog X.w (upd H s.heap.objs.size (.lst [])) h₁ s.heap.objs.size (.lst []) := ⟨Nat.zero_le _, [], _, .nil, hacc⟩
  have hok1 : HOk X.prog X.w (upd H s.heap.objs.size (.lst [])) h₁ := I.hok.laid old (Nat.le_refl _) newO
  have un1 : Un (frs X.stack) fp H (upd H s.heap.objs.size (.lst [])) s.heap h₁ := Un.laid old (Nat.le_refl _) hp0
  have fC : (upd H s.heap.objs.size (.lst [])) H2.objs.size = none := by rw [upd_ne (Ne.symm hDC)]; exact I.hok.fresh hCle
  have IB := inv_blk (tk := s.toks + ([] : List (Str × Value)).length) S hj I hf (fun b hb => let ⟨o, e, _⟩ := T.obj 0 _ st b hb; ⟨o, e⟩) hCle old un1 hok1 hns₁ fC
  obtain ⟨W, ⟨m0, w0⟩, turn⟩ := hw _ hp0 ⟨closL X.env.cells sc.names [], s, H, fp, H2.objs.size⟩
  have st1 : tn 0 h₁ := T.keep _ _ _ st fun b _ o e => old b o e
  have loop : ∀ s₃ : Shared, s₃ = { s with heap := h₁, toks := s.toks + ([] : List (Str × Value)).length } →
      codeAny (model X.prog X.w) X.A (.compLoop (.ListComp elt [⟨tg, iter, ifs, 0⟩] sc pos) 0 (.ref it) (.ref s.heap.objs.size) (compEnvC sc (closL X.env.cells sc.names []) H2.objs.size X.env))
        (RR (.ref s.heap.objs.size) H2.objs.size) s₃ := by
    rintro s₃ rfl
    generalize hB : (⟨closL X.env.cells sc.names [], s, H, fp, H2.objs.size⟩ : Blk) = B at turn w0 IB
    have eB : compEnvC sc (closL X.env.cells sc.names []) H2.objs.size X.env = (cxB X sc N' B).env := by subst hB; rfl
    have exB : (cxB X sc N' B).ex = fp := by subst hB; rfl
    rw [eB]
    have stat : ∀ {σ' : St} {H' : Hp} {s' : Shared}, Inv (cxB X sc N' B) [] σ' H' s' → (∀ b ∈ fp, H' b = none) → ∀ b ∈ fp, FpOk (cxB X sc N' B) [] H' b := fun {σ' H' s'} J' hn b hb => by
      refine ⟨hn b hb, (J'.ok.exf b (by rw [exB]; exact hb)).1, J'.ok.exfs b (by rw [exB]; exact hb), .inl (by rw [exB]; exact hb), (J'.ok.exf b (by rw [exB]; exact hb)).2, fun p hp => absurd (show p ∈ ([] : List (Addr × Obj)) from hp) (by simp)⟩
    have fp0 : ∀ b ∈ fp, (upd H s.heap.objs.size (.lst [])) b = none := fun b hb => by
      obtain ⟨o, e, _⟩ := T.obj 0 _ st b hb
      rw [upd_ne (Nat.ne_of_lt (Heap.lt_size e))]
      exact (hf b hb).1
    refine compLoop_any (fun n s' => ∃ i σ' acc H', Inv (cxB X sc N' B) [] σ' H' s' ∧ tn i s'.heap ∧ (∀ b ∈ fp, H' b = none) ∧ W i n σ' acc H') ?_ m0 ⟨0, _, [], _, IB, st1, fp0, w0⟩
    rintro n s3 ⟨i, σ3, acc, H3, I3, st3, fr3, w3⟩
    rcases turn i n σ3 acc H3 w3 with ⟨stop, qn⟩ | ⟨go, N, hN, step⟩
    · refine thn (T.done (cxB X sc N' B) rfl rfl rfl hc i [] s3 σ3 H3 (fun _ _ => False) I3 (stat I3 fr3) st3 stop) fun r s4 ⟨hr, I4⟩ => ?_
      subst hr
      obtain ⟨m4, hn4, _⟩ := I4.loc
      have u4 : Un (frs X.stack) fp H H3 s.heap s4.heap := by have := I4.base; subst hB; exact this
      have o4 : s4.os = s.os := by have := I4.os; subst hB; exact this
      have c4 : (cxB X sc N' B).env.locals = H2.objs.size := by subst hB; rfl
      have hIX : Inv X pins σ H3 s4 := I.call' (ch := fp) o4 u4 I4.hok I4.bare fun b hb => ⟨(hf b hb).2.2.2.1, (hf b hb).2.1, (hf b hb).2.2.2.2.1, (hf b hb).2.2.2.2.2⟩
      exact hRR _ _ H3 s4 m4 hIX (I.fpOk hCle (by rw [← c4]; exact I4.free)) (by rw [← c4]; exact hn4) qn
    · refine thn (T.item (cxB X sc N' B) rfl rfl rfl hc i [] s3 σ3 H3 (fun _ _ => False) I3 (stat I3 fr3) st3 go) fun r s4 ⟨u, hr, h4⟩ => ?_
      subst hr
      refine thn h4 fun _ s5 ⟨x, H5, I5, r5, y5, st5, fr5⟩ => ?_
      have I5' := I5.pinned (stat I5 fr5) (T.obj _ _ st5)
      refine thn (hg B _ s5 σ3 H5 x u _ I5' r5 (step x H5 y5)) fun _ s6 ⟨σ6, H6, I6, q6⟩ => ?_
      refine thn (ht B _ s6 σ6 H6 _ I6 q6) fun ok s7 ⟨H7, I7, q7⟩ => ?_
      have again : ∀ {H8 : Hp} {s8 : Shared} {acc' : List V}, Inv (cxB X sc N' B) ([] ++ pinsAt fp s5.heap) σ6 H8 s8 → (∃ m', m' < n ∧ W (i + 1) m' σ6 acc' H8) → ∃ m, m < n ∧ ∃ i σ' acc H', Inv (cxB X sc N' B) [] σ' H' s8 ∧ tn i s8.heap ∧ (∀ b ∈ fp, H' b = none) ∧ W i m σ' acc H' :=
        fun {H8 s8 acc'} I8 ⟨m', hm, w8⟩ => by
          refine ⟨m', hm, i + 1, σ6, acc', H8, I8.unpinned, T.keep _ _ _ st5 fun b hb o e => (I8.pin (b, o) (List.mem_append_right _ (List.mem_append_right _ (mem_pinsAt hb e)))).1, fun b hb => ?_, w8⟩
          obtain ⟨o, e, d⟩ := T.obj _ _ st5 b hb
          exact (I8.pin (b, o) (List.mem_append_right _ (List.mem_append_right _ (mem_pinsAt hb e)))).2.1
      cases ok with
      | false =>
        rw [if_neg Bool.false_ne_true] at q7
        rw [if_neg Bool.false_ne_true]
        exact again I7 (hN _ _ _ q7)
      | true =>
        rw [if_pos rfl] at q7
        rw [if_pos rfl]
        refine thn (he B _ s7 σ6 H7 _ I7 q7) fun y s8 ⟨z, H8, I8, r8, hp8, hl8, q8⟩ => ?_
        exact thn (mt_append _ s8 σ6 H8 (.ref s.heap.objs.size) [z] (.ref s.heap.objs.size) [y] (fun _ H9 => N σ6 (acc ++ [z]) H9) I8 rfl (.cons r8 .nil) ⟨_, acc, z, rfl, rfl, hp8, hl8, q8⟩) fun _ s9 ⟨_, H9, I9, _, q9⟩ => again I9 (hN _ _ _ q9)
  exact codeAny_compStart_list (loop _ rfl) (T.self _ 0 _ _ _ st1 (loop _ rfl))
theorem pe_comp (N' : List Str) (js : List (Option Nat)) (hi : PI X tg iter wi)
    (hg : ∀ B, PG (cxB X sc N' B) tg (g B)) (ht : ∀ B, PIfs (cxB X sc N' B) ifs (tt B)) (he : ∀ B, PE (cxB X sc N' B) elt (te B))
    (S0 : cscopeB N' sc X.env.scope = true := by kernel_rfl) (hj : jsOk N' X.N sc js N' = true := by kernel_rfl) (hc : X.calm = true := by rfl) (hs : ∀ x, foldedSetIterable iter X.env x = pure x := by intro _; rfl) : PE X (.ListComp elt [⟨tg, iter, ifs, 0⟩] sc pos) (tComp wi g tt te js) := by
  intro pins s σ H Q I h
  have S := CScope.of S0
  rw [eval_ListComp]
  refine wpAny_comprehension_free (use := none) rfl hs (closure_ok (cells_of S I)) S.kind S.loc (thn (hi pins s σ H _ I h) fun xv s₁ h₁ => thn h₁ fun itv s₂ h₂ => ?_)
  obtain ⟨it, fp, tn, J, H2, e, I2, T, st2, f2, hw⟩ := h₂
  subst e
  refine comp_core (RR := fun acc C => compPost (model X.prog X.w) X.A X.xe none (EP X pins σ Q) acc C) S hj hc hg ht he I2 T st2 f2 hw ?_
  intro p C H' s' m I' fC hn q
  refine ⟨m, hn, fun h' hs' => ⟨.ref p, H', ?_, rfl, q⟩⟩
  exact I'.turned (t' := s'.toks) (fun b o hb e => (hs'.2 b hb).trans e) fC.1 fC.2.1 fC.2.2.2.1 fC.2.2.2.2.1 fC.2.2.2.2.2
end
section
variable {g : TG} {tt : TT} {te : TE} {p : Addr} {σ₀ : St} {H1 : Hp} {Q : VK}
theorem comp_by {J : It} (n : Nat) (Pv : Nat → St → List V → Hp → Prop) (h0 : Pv 0 σ₀ [] (upd H1 p (.lst []))) (hd : ∀ σ acc H, Pv n σ acc H → J.stop n H ∧ Q (.ref p) H)
    (hs : ∀ i σ acc H, i < n → Pv i σ acc H → J.go i H ∧ ∀ x H', J.yld i H x H' → g x σ H' fun σ2 H2 => tt σ2 H2 fun b H3 =>
      if b = true then te σ2 H3 fun y H4 => H4 p = some (.lst acc) ∧ acc.length < sizeLine ∧ Pv (i + 1) σ2 (acc ++ [y]) (upd H4 p (.lst (acc ++ [y]))) else Pv (i + 1) σ2 acc H3) : CompW J g tt te p σ₀ H1 Q := by
  refine ⟨fun i m σ acc H => m = n - i ∧ i ≤ n ∧ Pv i σ acc H, ⟨n, by simp, Nat.zero_le _, h0⟩, ?_⟩
  rintro i m σ acc H ⟨rfl, hi, q⟩
  by_cases hlt : i < n
  · obtain ⟨hg, hy⟩ := hs i σ acc H hlt q
    exact .inr ⟨hg, Pv (i + 1), fun σ2 acc' H' q' => ⟨n - (i + 1), by omega, rfl, hlt, q'⟩, hy⟩
  · have e : i = n := by omega
    subst e
    exact .inl (hd σ acc H q)
end
end L2
set_option Elab.async false
set_option linter.all false
set_option maxRecDepth 100000
set_option maxHeartbeats 4000000
namespace L2
open PySem PySem.Spec PyProof.Rows
section
variable {X : Cx}
theorem bits_small {i : Int} (h : i.natAbs < 2 ^ 4096) : Builtin.Int.intBits i ≤ 2 ^ 20 := by
  unfold Builtin.Int.intBits
  split
  · exact Nat.zero_le _
  · rename_i h0
    have hn : i.natAbs ≠ 0 := by
      intro z
      have : i = 0 := Int.natAbs_eq_zero.mp z
      rw [this] at h0
      exact h0 rfl
    have : i.natAbs.log2 < 4096 := (Nat.log2_lt hn).mpr h
    have e : (2 : Nat) ^ 20 = 1048576 := by decide
    omega
def CBig (i j : Int) : Prop := i.natAbs < 2 ^ 4096 ∧ j.natAbs < 2 ^ 4096
theorem op_mulB : OpR X (binaryOp .Mult) (rI CBig fun i j => .int (i * j)) := opI fun _ _ _ _ _ _ _ hc q => mul_int q (IntMulOk.of_bits (bits_small hc.1) (bits_small hc.2))
def CDivB (i j : Int) : Prop := 0 < j ∧ j < 2 ^ 4096
theorem op_fdivB : OpR X (binaryOp .FloorDiv) (rI CDivB fun i j => .int (i / j)) := opI fun i j _ _ _ _ _ hc q => by
  refine floordiv_int (by have := hc.1; omega) ?_ (.inl (PyProof.noPylong_of_log2 ?_))
  · rw [Int.fdiv_eq_ediv_of_nonneg _ (Int.le_of_lt hc.1)]; exact q
  · have h0 : j.natAbs ≠ 0 := by have := hc.1; omega
    have h1 : j.natAbs < 2 ^ 4096 := by
      have a := hc.1
      have b := hc.2
      omega
    have := (Nat.log2_lt h0).mpr h1
    omega
theorem op_mulS : OpR X (binaryOp .Mult) (fun x y H Q => ∃ z n, x = .str z ∧ y = .int n ∧ z.length ≤ 16 ∧ -(2 ^ 63) ≤ n ∧ n ≤ 1048576 ∧ Q (.str (Txt.mul z n)) H) := by
  intro pins s σ H x y v u Q I rx ry h
  obtain ⟨z, n, rfl, rfl, h1, h2, h3, q⟩ := h
  obtain ⟨t, rfl⟩ := rx
  obtain ⟨t', rfl⟩ := ry
  exact SB.mul (mulOk_of 16 1048576 h1 h3 h2 (by decide) (by decide)) fun t' k => ⟨.str _, H, I.tok _, ⟨_, rfl⟩, q⟩
theorem mt_partition : MtR X "str.partition" (fun x vs H Q => ∃ z y, x = .str z ∧ vs = [.str y] ∧ (y.length == 0) = false ∧ z.length ≤ sizeLine ∧
    ∀ p, H p = none → Q (.ref p) (upd H p (.tup [.str (Txt.partition z y).1, .str (Txt.partition z y).2.1, .str (Txt.partition z y).2.2]))) := by
  intro pins s σ H x xs v us Q I rx rv h
  obtain ⟨z, y, rfl, rfl, hy, hz, q⟩ := h
  obtain ⟨t, rfl⟩ := rx
  obtain ⟨u, rfl, ru⟩ := rv.one
  obtain ⟨t', rfl⟩ := ru
  refine call_meets F.slot_str_partition (typeIs_str _ _ _) F.entry_str_partition (F.args_str_partition_2 _ _) (meets_str_partition z y t t' hy hz) ?_
  have q' := q s.heap.objs.size (I.hok.fresh (Nat.le_refl _))
  have fin : ∀ (a b c : Str) (ta tb tc : Tok) (tk : Nat), Q (.ref s.heap.objs.size) (upd H s.heap.objs.size (.tup [.str a, .str b, .str c])) →
      EP X pins σ Q (.ref s.heap.objs.size) { s with toks := tk, heap := s.heap.push { cls := .type "tuple", data := .seq [.str a ta, .str b tb, .str c tc].toArray } } := fun a b c ta tb tc tk qq =>
    ⟨.ref s.heap.objs.size, _, I.laid (o := .tup [.str a, .str b, .str c]) (t' := tk) (fun b o e => Heap.get?_push_of_some _ e) (Nat.le_refl _)
      ⟨by show 3 ≤ sizeLine; decide, [.str a ta, .str b tb, .str c tc], .cons ⟨_, rfl⟩ (.cons ⟨_, rfl⟩ (.cons ⟨_, rfl⟩ .nil)), ⟨_, Heap.get?_push_size _ rfl, rfl, _, rfl⟩⟩, rfl, qq⟩
  unfold Txt.partition at q'
  revert q'
  cases Builtin.Str.occurrences z y 0 z.length 1 with
  | nil => intro q'; exact fin _ _ _ _ _ _ _ q'
  | cons i r => intro q'; exact fin _ _ _ _ _ _ _ q'
theorem all_range {bs : List Bool} : (List.range bs.length).all (fun i => bs.getD i false) = bs.all id := by
  induction bs with
  | nil => rfl
  | cons b r ih =>
    rw [List.length_cons, List.range_succ_eq_map, List.all_cons, List.all_map, List.all_cons]
    have : ((fun i => (b :: r).getD i false) ∘ Nat.succ) = fun i => r.getD i false := by
      funext i; simp [List.getD]
    rw [this, ih]
    simp
theorem call_all (hc : X.calm = true) : CallR X (.builtin "all") (fun xs H Q => ∃ (p : Addr) (bs : List Bool), xs = [.ref p] ∧ SqL X.K H p (bs.map V.bl) ∧ Q (.bl (bs.all id)) H) := by
  intro pins s σ H xs us Q I r h
  obtain ⟨p, bs, rfl, hq, q⟩ := h
  obtain ⟨u, rfl, ru⟩ := vals1 r
  cases ru
  obtain ⟨its, rv, pl, hz⟩ := I.list hq
  have hlt : p < s.heap.objs.size := by obtain ⟨_, e, _⟩ := pl.isList; exact Heap.lt_size e
  refine call_all_walk (wpAny_pyIter_list pl.isList ?_)
  have hA : X.A.in1.handled = none := I.ok.hd hc
  refine ⟨s.heap.objs.size, [s.heap.objs.size, p], [s.heap.objs.size], its.toArray.size, (fun i v => its.toArray[i]? = some v), _, (fun i => bs.getD i false), rfl, Walks.list hA s.heap.objs.size p (Nat.ne_of_lt hlt) its.toArray,
    ⟨⟨_, Heap.get?_push_size _ rfl, rfl, rfl⟩, pl.isList.push _⟩, ?_, fun h' tk hk => ?_⟩
  · intro i v s' Q' E' hv hQ'
    have hv' : its[i]? = some v := by simpa using hv
    have hi : i < its.length := (List.getElem?_eq_some_iff.mp hv').1
    have hl := rv.length
    rw [List.length_map] at hl
    have hb : bs[i]? = some (bs.getD i false) := by
      have hi' : i < bs.length := by omega
      simp [List.getD, List.getElem?_eq_getElem hi']
    obtain ⟨u, hu, ru⟩ := rv.get (i := i) (x := .bl (bs.getD i false)) (by rw [List.getElem?_map, hb]; rfl)
    rw [hv'] at hu; cases hu
    cases (show v = Value.bool (bs.getD i false) from ru)
    exact wpAny_pure hQ'
  · have hl := rv.length
    rw [List.length_map] at hl
    have e : (List.range its.toArray.size).all (fun i => bs.getD i false) = bs.all id := by
      rw [List.size_toArray, ← hl, all_range]
    rw [e]
    refine ⟨.bl (bs.all id), H, ?_, rfl, q⟩
    exact I.kept (t' := tk) fun b o eb => hk b o (fun z => by
      have : b = s.heap.objs.size := by simpa using z
      exact absurd (Heap.lt_size eb) (by rw [this]; exact Nat.lt_irrefl _)) (Heap.get?_push_of_some _ eb)
theorem call_isinst : CallR X (.builtin "isinstance") (fun xs H Q => ∃ x T t b, xs = [x, .ty T] ∧ TyOf X.K H x t ∧ PySem.W.kitOne X.K t (.type T) = some b ∧ Q (.bl b) H) := by
  intro pins s σ H xs us Q I r h
  obtain ⟨x, T, t, b, rfl, ty, e, q⟩ := h
  obtain ⟨u, w', rfl, ru, rw'⟩ := vals2 r
  cases (show w' = Value.type T from rw')
  exact isinst_ok I ru ty e fun tk => ⟨.bl b, H, I.tok _, rfl, q⟩
def Its (z : Str) : It := ⟨fun i _ => i < z.cps.size, fun i H x H' => H' = H ∧ ∃ c, z.cps.toList[i]? = some c ∧ x = .str ⟨#[c]⟩, fun i _ => z.cps.size ≤ i⟩
theorem turn_str {P : Program} {w : World} {K : PySem.W.Frag} {x : Str} {px : Pos} (z : Str) (it : Addr) (ty : String) (tk0 : Tok)
    (nx : ∀ (A : Around) (s : Shared) (i c : Nat) (Q : Option Value → Shared → Prop) (E : Value → Shared → Prop), s.heap.IsStrIter it ty z tk0 i → z.cps[i]? = some c →
      (∀ h', h'.IsStrIter it ty z tk0 (i + 1) → Heap.SameBut it s.heap h' → Q (some (.str ⟨#[c]⟩ s.toks)) { s with heap := h', toks := s.toks + 1 }) → wpAny (model P w) A (pyNext (.ref it)) Q E s)
    (en : ∀ (A : Around) (s : Shared) (i : Nat) (Q : Option Value → Shared → Prop) (E : Value → Shared → Prop), A.handled = none → s.heap.IsStrIter it ty z tk0 i → z.cps[i]? = none →
      (∀ h', Heap.ExtBut it s.heap h' → Q none { s with heap := h' }) → wpAny (model P w) A (pyNext (.ref it)) Q E s)
    (slf : ∀ (A : Around) (i : Nat) (s : Shared) (Q : Value → Shared → Prop) (E : Value → Shared → Prop), s.heap.IsStrIter it ty z tk0 i → Q (.ref it) s → wpAny (model P w) A (pyIter (.ref it)) Q E s) :
    Turn P w K (.Name x px) (Its z) [it] it (fun i h => h.IsStrIter it ty z tk0 i) where
  mem := by simp
  obj := fun i h st b hb => by
    have e : b = it := by simpa using hb
    subst e
    obtain ⟨o, ho, _, hd⟩ := st
    exact ⟨o, ho, fun v q => by rw [hd] at q; cases q⟩
  keep := fun i h h' st k => by
    obtain ⟨o, ho, r⟩ := st
    exact ⟨o, k it (by simp) o ho, r⟩
  item := by
    intro X hP hw hK hc i pins s σ H E I hf st hg
    subst hP hw hK
    obtain ⟨f0, f1, f2, f3, f4, f5⟩ := hf it (by simp)
    have hi : z.cps[i]? = some z.cps[i] := Array.getElem?_eq_getElem hg
    refine nx X.A s i _ _ _ st hi fun h' st' sb => ?_
    have I1 : Inv X pins σ H { s with heap := h', toks := s.toks + 1 } := I.turned (fun b o hb e => (sb.2 b hb).trans e) f0 f1 f3 f4 f5
    exact ⟨_, rfl, wpAny_pure ⟨.str ⟨#[z.cps[i]]⟩, H, I1, ⟨_, rfl⟩, ⟨rfl, z.cps[i], by rw [Array.getElem?_toList]; exact hi, rfl⟩, st', fun b hb => (hf b hb).1⟩⟩
  done := by
    intro X hP hw hK hc i pins s σ H E I hf st hg
    subst hP hw hK
    obtain ⟨f0, f1, f2, f3, f4, f5⟩ := hf it (by simp)
    have hg' : z.cps.size ≤ i := hg
    exact en X.A s i _ _ (I.ok.hd hc) st (Array.getElem?_eq_none hg') fun h' eb => ⟨rfl, I.turned (t' := s.toks) (fun b o hb e => eb b o hb e) f0 f1 f3 f4 f5⟩
  self := slf
theorem draw_list {prog : Program} {w : World} {A : Around} {E : Value → Shared → Prop} {it l : Addr} {items : Array Value} (hne : l ≠ it) : ∀ (n i : Nat) (s : Shared) (Q : List Value → Shared → Prop), s.heap.IsListIter it l i → s.heap.IsList l items → i + n ≤ items.size →
    (∀ h', h'.IsListIter it l (i + n) → Heap.SameBut it s.heap h' → Q ((items.toList.drop i).take n) { s with heap := h' }) → wpAny (model prog w) A (draw (.ref it) n) Q E s
  | 0, i, s, Q, hit, _, _, hQ => by
    show wpAny _ _ (pure []) Q E s
    exact wpAny_pure (by simpa using hQ s.heap hit (Heap.SameBut.refl ..))
  | n + 1, i, s, Q, hit, ht, hle, hQ => by
    have hlt : i < items.size := by omega
    show wpAny _ _ (pyNext (.ref it) >>= _) Q E s
    refine wpAny_bind (wpAny_pyNext_list_item hit ht (x := items[i]) (by simp [hlt]) fun h₁ hit₁ hs₁ => ?_)
    refine wpAny_bind (wpAny_holding (draw_list hne n (i + 1) _ _ hit₁ (ht.extBut hs₁.extBut hne) (by omega) fun h₂ hit₂ hs₂ => wpAny_pure ?_))
    have hd : items.toList.drop i = items[i] :: items.toList.drop (i + 1) := by simp [List.drop_eq_getElem_cons, hlt]
    have := hQ h₂ (by rw [show i + (n + 1) = i + 1 + n by omega]; exact hit₂) (hs₁.trans hs₂)
    rw [hd, List.take_succ_cons] at this
    exact this
theorem unpack_list {prog : Program} {w : World} {A : Around} {E : Value → Shared → Prop} {s : Shared} {t : Addr} {items : Array Value} {targets : List (Bool × (Value → Sem Unit))} {Q : Unit → Shared → Prop} (hh : A.handled = none) (ht : s.heap.IsList t items)
    (hn : targets.length = items.size) (hstar : targets.findIdx? (·.1) = none)
    (h : ∀ h', Heap.ExtBut s.heap.objs.size s.heap h' → wpAny (model prog w) A (assignInOrder (targets.map (·.2)) items.toList) Q E { s with heap := h' }) :
    wpAny (model prog w) A (unpack (.ref t) targets) Q E s := by
  have hlt : t ≠ s.heap.objs.size := by obtain ⟨o, ho, _⟩ := ht; exact Nat.ne_of_lt (Heap.lt_size ho)
  unfold unpack
  rw [hn, hstar]
  refine wpAny_bind (wpAny_holding ?_)
  unfold unpackItems
  refine wpAny_bind ?_
  unfold notIterableAtAll
  refine wpAny_bind (wpAny_specialOf ht.typeIs F.slot_list_iter.lookup ?_)
  refine wpAny_pure ?_
  simp only [Bool.false_eq_true, if_false]
  refine wpAny_bind (wpAny_holding (wpAny_pyIter_list ht ?_))
  refine wpAny_bind (wpAny_holding (draw_list hlt items.size 0 _ _ ⟨_, Heap.get?_push_size _ rfl, rfl, rfl⟩ (ht.push _) (by omega) fun h₁ hit₁ hs₁ => ?_))
  have hall : List.take items.size (List.drop 0 items.toList) = items.toList := by
    rw [List.drop_zero]; exact List.take_of_length_le (by simp)
  rw [hall]
  rw [if_neg (by simp)]
  have ht₁ : h₁.IsList t items := (ht.push _).extBut hs₁.extBut hlt
  refine wpAny_bind (wpAny_holding (wpAny_pyNext_list_end hh hit₁ ht₁ (by simp) fun h₂ he₂ => ?_))
  simp only [Option.isSome_none, Bool.false_eq_true, if_false]
  refine wpAny_pure (h h₂ fun b o hb e => he₂ b o hb (hs₁.extBut b o hb (Heap.get?_push_of_some _ e)))
def gLst (K : PySem.W.Frag) (n : Nat) (t : TGs) : TG := fun v σ H Q => ∃ a xs, v = .ref a ∧ SqL K H a xs ∧ xs.length = n ∧ t xs σ H Q
theorem pg_lst {es : List Expr} {k : Nat} {pos : Pos} {t : TGs} {n : Nat} (hc : X.calm = true) (h : PGs X es t)
    (hn : (assignEach es X.env).length = n := by rfl) (hst : (assignEach es X.env).findIdx? (·.1) = none := by rfl) : PG X (.Tuple es k pos) (gLst X.K n t) := by
  intro pins s σ H v u Q I r hw
  obtain ⟨a, xs, e1, hq, hl, hw⟩ := hw
  subst e1
  cases r
  obtain ⟨its, rv, ht, hz⟩ := I.list hq
  rw [PyProof.Rows.assign_Tuple]
  refine wpAny_bind (wpAny_standAt (unpack_list (I.ok.hd hc) ht.isList (by simp [hn, ← hl, rv.length]) hst fun h' hx => ?_))
  have I1 : Inv X pins σ H { s with heap := h' } := I.kept (t' := s.toks) fun b o e => hx b o (Nat.ne_of_lt (Heap.lt_size e)) e
  exact h pins _ σ H xs _ Q I1 (by simpa using rv) hw
end
end L2
set_option Elab.async false
set_option linter.all false
set_option maxRecDepth 100000
set_option maxHeartbeats 4000000
namespace Rg
open PySem PySem.Spec PyProof.Rows L2
abbrev GREAT : Str := "ABCDEFGHIJKLMNOPQRSTUVWXYZ"
abbrev FIGS : Str := "0123456789"
abbrev SMALL : Str := "abcdefghijklmnopqrstuvwxyz"
def cs (z : Str) : List Nat := z.cps.toList
def madeB (z g : Str) : Bool := (!decide (V.str z = V.str "")) && (cs z).all fun c => decide (c ∈ cs g)
def isNameB (z : Str) : Bool := (decide (V.str (Txt.partition z "_").2.1 = V.str "") || madeB (Txt.partition z "_").2.2 FIGS) && madeB (Txt.partition z "_").1 GREAT
theorem cs_inj {x y : Str} (h : cs x = cs y) : x = y := by
  obtain ⟨x⟩ := x; obtain ⟨y⟩ := y
  exact congrArg Str.mk (Array.toList_inj.mp h)
theorem cs_len (x : Str) : (cs x).length = x.length := by unfold cs Str.length; simp
theorem cs_app (x y : Str) : cs (x ++ y) = cs x ++ cs y := by
  show (x.cps ++ y.cps).toList = _
  rw [Array.toList_append]; rfl
theorem cs_empty : cs "" = [] := by decide +kernel
theorem vstr_empty (z : Str) : decide (V.str z = V.str "") = decide (cs z = []) := by
  by_cases h : z = ""
  · subst h; simp [cs_empty]
  · rw [decide_eq_false (fun e => h (V.str.inj e)), decide_eq_false]
    intro e
    exact h (cs_inj (e.trans cs_empty.symm))
theorem madeB_eq (z g : Str) : madeB z g = (!decide (cs z = []) && (cs z).all fun c => decide (c ∈ cs g)) := by unfold madeB; rw [vstr_empty]
theorem under_eq : ("_" : Str) = ⟨#[95]⟩ := by decide +kernel
theorem cs_under : cs "_" = [95] := by decide +kernel
theorem part_none {z : Str} (h : 95 ∉ cs z) : Txt.partition z "_" = (z, Str.empty, Str.empty) := by
  rw [under_eq]
  rcases partition_whole z ⟨#[95]⟩ with ⟨e, _⟩ | ⟨i, _, hi, _⟩
  · exact e
  · exact absurd ((mem_iff_at z 95).mpr ⟨i, hi⟩) h
theorem cs_sub (z : Str) (i j : Nat) : cs (Builtin.Str.strSub z i j) = ((cs z).drop i).take (j - i) := by
  show (z.cps.extract i j).toList = _
  rw [Array.toList_extract]; rfl
theorem part_one {z a b : Str} (e : cs z = cs a ++ 95 :: cs b) (h : 95 ∉ cs a) : Txt.partition z "_" = (a, ("_" : Str), b) := by
  have hz : z.length = (cs a).length + 1 + (cs b).length := by
    rw [← cs_len, e, List.length_append, List.length_cons]; omega
  rw [under_eq]
  rcases partition_whole z ⟨#[95]⟩ with ⟨_, hn⟩ | ⟨i, hp, hi, hn⟩
  · have hm : 95 ∈ cs z := by rw [e]; simp
    obtain ⟨j, hj⟩ := (mem_iff_at z 95).mp hm
    exact absurd hj (hn j)
  · have h1 : (cs z)[i]? = some 95 := (StrLaws.subAt_one z 95 i).mp hi
    have h2 : ∀ k, k < i → (cs z)[k]? ≠ some 95 := fun k hk q => hn k hk ((StrLaws.subAt_one z 95 k).mpr q)
    have hi' : i = (cs a).length := by
      rcases Nat.lt_trichotomy i (cs a).length with q | q | q
      · rw [e, List.getElem?_append_left q] at h1
        exact absurd (List.mem_of_getElem? h1) h
      · exact q
      · refine absurd ?_ (h2 (cs a).length q)
        rw [e, List.getElem?_append_right (Nat.le_refl _)]
        simp
    rw [hp]
    have ea : Builtin.Str.strSub z 0 i = a := by
      apply cs_inj
      rw [cs_sub, List.drop_zero, e, hi', Nat.sub_zero, List.take_left']
      rfl
    have eb : Builtin.Str.strSub z (i + (⟨#[95]⟩ : Str).length) z.length = b := by
      apply cs_inj
      have l1 : (⟨#[95]⟩ : Str).length = 1 := rfl
      rw [cs_sub, l1, e, hi', hz]
      have d : (cs a ++ 95 :: cs b).drop ((cs a).length + 1) = cs b := by
        rw [List.drop_append]
        simp
      rw [d]
      have : (cs a).length + 1 + (cs b).length - ((cs a).length + 1) = (cs b).length := by omega
      rw [this, List.take_length]
    rw [ea, eb]
theorem name_letters {z : Str} (h0 : cs z ≠ []) (h : ∀ c ∈ cs z, c ∈ cs GREAT) : isNameB z = true := by
  have h95 : 95 ∉ cs z := fun m => absurd (h _ m) (by decide +kernel)
  unfold isNameB
  rw [part_none h95]
  dsimp only
  rw [vstr_empty]
  have e : cs Str.empty = [] := by decide +kernel
  simp only [e, decide_true, Bool.true_or, Bool.true_and]
  rw [madeB_eq, decide_eq_false h0, List.all_eq_true.mpr fun c hc => decide_eq_true (h c hc)]
  rfl
theorem name_figures {z a b : Str} (e : cs z = cs a ++ 95 :: cs b) (h0 : cs a ≠ []) (h : ∀ c ∈ cs a, c ∈ cs GREAT) (h1 : cs b ≠ []) (h2 : ∀ c ∈ cs b, c ∈ cs FIGS) : isNameB z = true := by
  have h95 : 95 ∉ cs a := fun m => absurd (h _ m) (by decide +kernel)
  unfold isNameB
  rw [part_one e h95, madeB_eq, madeB_eq]
  rw [decide_eq_false h0, List.all_eq_true.mpr fun c hc => decide_eq_true (h c hc), decide_eq_false h1, List.all_eq_true.mpr fun c hc => decide_eq_true (h2 c hc)]
  simp
theorem name_not {z : Str} (h0 : cs z ≠ []) (h : ∀ c ∈ cs z, c ∈ cs SMALL) : isNameB z = false := by
  have h95 : 95 ∉ cs z := fun m => absurd (h _ m) (by decide +kernel)
  unfold isNameB
  rw [part_none h95, madeB_eq, madeB_eq]
  have hh : ((cs z).all fun c => decide (c ∈ cs GREAT)) = false := by
    cases hz : cs z with
    | nil => exact absurd hz h0
    | cons c r =>
      have hc : c ∈ cs SMALL := h c (by rw [hz]; simp)
      have hn : c ∉ cs GREAT := by
        have key : ∀ c ∈ cs SMALL, c ∉ cs GREAT := by decide +kernel
        exact key c hc
      rw [List.all_cons, decide_eq_false hn, Bool.false_and]
  rw [hh]
  simp
theorem figs_of {m : Nat} : (∀ c ∈ cs (Str.ofString (toString ((m : Nat) : Int))), c ∈ cs FIGS) ∧ cs (Str.ofString (toString ((m : Nat) : Int))) ≠ [] := by
  have e := PySem.W.KIN.signs_num m
  have e : cs (Str.ofString (toString ((m : Nat) : Int))) = (Nat.toDigits 10 m).map Char.toNat := e
  constructor
  · intro c hc
    rw [e] at hc
    obtain ⟨ch, hch, rfl⟩ := List.mem_map.mp hc
    have hd : ch.isDigit = true := Nat.isDigit_of_mem_toDigits (by decide) (by decide) hch
    have : 48 ≤ ch.toNat ∧ ch.toNat ≤ 57 := by
      unfold Char.isDigit at hd
      simp only [Bool.and_eq_true, decide_eq_true_eq] at hd
      exact ⟨hd.1, hd.2⟩
    have key : ∀ k, 48 ≤ k → k ≤ 57 → k ∈ cs FIGS := by
      intro k h1 h2
      have : k = 48 ∨ k = 49 ∨ k = 50 ∨ k = 51 ∨ k = 52 ∨ k = 53 ∨ k = 54 ∨ k = 55 ∨ k = 56 ∨ k = 57 := by omega
      rcases this with h | h | h | h | h | h | h | h | h | h <;> subst h <;> decide +kernel
    exact key _ this.1 this.2
  · rw [e]
    intro z
    have : Nat.toDigits 10 m = [] := List.map_eq_nil_iff.mp z
    have hl : 0 < (Nat.toDigits 10 m).length := by
      by_cases h : m < 10
      · rw [Nat.toDigits_of_lt_base h]; simp
      · have hm : m % 10 < 10 := Nat.mod_lt m (by decide)
        have t : Nat.toDigits 10 (m / 10) ++ Nat.toDigits 10 (m % 10) = Nat.toDigits 10 (10 * (m / 10) + m % 10) := Nat.toDigits_append_toDigits (by decide) (by omega) hm
        rw [Nat.div_add_mod] at t
        rw [← t, Nat.toDigits_of_lt_base hm]
        simp
    rw [this] at hl
    exact absurd hl (by simp)
theorem mul_one (x : Str) : Txt.mul x 1 = x := by unfold Txt.mul; rw [if_neg (by decide), if_pos (by simp)]
def Below (d s : Int) : Prop := 0 ≤ d ∧ d < s
abbrev Drawn : List Int → List Int → Prop := Paired Below
end Rg
set_option Elab.async false
set_option linter.all false
set_option maxRecDepth 100000
set_option maxHeartbeats 4000000
namespace L2
open PySem PySem.Spec PyProof.Rows
mutual
inductive RT (H : Hp) : V → PyData → Prop
  | non : RT H .non .none
  | bl (b : Bool) : RT H (.bl b) (.bool b)
  | int (i : Int) : RT H (.int i) (.int i)
  | str (x : Str) : RT H (.str x) (.str x)
  | tup {a : Addr} {xs : List V} {ds : List PyData} : H a = some (.tup xs) → RTs H xs ds → RT H (.ref a) (.tuple ds)
inductive RTs (H : Hp) : List V → List PyData → Prop
  | nil : RTs H [] []
  | cons {v : V} {vs : List V} {d : PyData} {ds : List PyData} : RT H v d → RTs H vs ds → RTs H (v :: vs) (d :: ds)
end
def KeepT (H H' : Hp) : Prop := ∀ b xs, H b = some (.tup xs) → H' b = some (.tup xs)
mutual
theorem RT.keep {H H' : Hp} (k : KeepT H H') : ∀ {v : V} {d : PyData}, RT H v d → RT H' v d
  | _, _, .non => .non
  | _, _, .bl b => .bl b
  | _, _, .int i => .int i
  | _, _, .str x => .str x
  | _, _, .tup e r => .tup (k _ _ e) (RTs.keep k r)
theorem RTs.keep {H H' : Hp} (k : KeepT H H') : ∀ {vs : List V} {ds : List PyData}, RTs H vs ds → RTs H' vs ds
  | _, _, .nil => .nil
  | _, _, .cons a b => .cons (RT.keep k a) (RTs.keep k b)
end
theorem RTs.getD {H : Hp} : ∀ {vs : List V} {ds : List PyData} {i : Nat} {d : PyData}, RTs H vs ds → ds[i]? = some d → ∃ v, vs[i]? = some v ∧ RT H v d
  | _, _, _, _, .nil, e => by simp at e
  | _, _, 0, _, .cons a _, e => by simp at e; subst e; exact ⟨_, rfl, a⟩
  | _, _, i + 1, d, .cons _ r, e => by
    obtain ⟨v, h1, h2⟩ := RTs.getD (i := i) (d := d) r (by simpa using e)
    exact ⟨v, by simpa using h1, h2⟩
section
variable {P : Program} {w : World} {H : Hp} {h : Heap}
end
def RD (K : PySem.W.Frag) (H : Hp) (v : V) (d : PyData) : Prop := RT H v d ∨ ∃ a xs ds, v = .ref a ∧ d = .list ds ∧ SqL K H a xs ∧ RTs H xs ds
theorem RD.l {K : PySem.W.Frag} {H : Hp} {a : Addr} {xs : List V} {ds : List PyData} (h : SqL K H a xs) (r : RTs H xs ds) : RD K H (.ref a) (.list ds) := .inr ⟨a, xs, ds, rfl, rfl, h, r⟩
section
variable {X : Cx}
def Flt (d : PyData) : Prop := d.canLay0 = true ∧ d.depth ≤ 60
theorem vals_of : ∀ {xs : List V} {us : List Value}, xs.length = us.length → (∀ (j : Nat) (u : Value), us[j]? = some u → ∃ x, xs[j]? = some x ∧ RelV x u) → Vals xs us
  | [], [], _, _ => .nil
  | [], _ :: _, h, _ => by simp at h
  | _ :: _, [], h, _ => by simp at h
  | x :: xs, u :: us, h, k => by
    obtain ⟨y, e, r⟩ := k 0 u rfl
    simp at e
    subst e
    exact .cons r (vals_of (by simpa using h) fun j v hv => by
      obtain ⟨y, e, r⟩ := k (j + 1) v (by simpa using hv)
      exact ⟨y, by simpa using e, r⟩)
theorem kv_get : ∀ {kvs : List (Key × V)} {vs : List (Key × Value)} {j : Nat} {k : Key} {x : Value}, KV kvs vs → vs[j]? = some (k, x) → ∃ v, kvs[j]? = some (k, v)
  | _, _, _, _, _, .nil, e => by simp at e
  | _, _, 0, _, _, .cons (a := p) r _, e => by
    simp at e
    subst e
    exact ⟨p.2, by obtain ⟨a, b⟩ := p; cases r.1; rfl⟩
  | _, _, j + 1, k, x, .cons _ t, e => by
    obtain ⟨v, q⟩ := kv_get (j := j) (k := k) (x := x) t (by simpa using e)
    exact ⟨v, by simpa using q⟩
theorem kV_rel {k : Key} {v : Value} (h : keyIs k v = true) : RelV (kV k) v := by
  rcases keyIs_shape h with ⟨i, t, rfl, rfl⟩ | ⟨x, t, rfl, rfl⟩
  · exact ⟨t, rfl⟩
  · exact ⟨t, rfl⟩
theorem call_list_dict (hc : X.calm = true) : CallR X (.type "list") (fun xs H Q => ∃ d kvs, xs = [.ref d] ∧ H d = some (.dK kvs) ∧ ∀ l, H l = none → Q (.ref l) (upd H l (.lst (kvs.map fun kv => kV kv.1)))) := by
  intro pins s σ H xs us Q I r h
  obtain ⟨d, kvs, rfl, hd, q⟩ := h
  obtain ⟨u, rfl, ru⟩ := vals1 r
  cases ru
  obtain ⟨hz, hne, vs, rkv, hD⟩ := (show ObjOk X.prog X.w H s.heap d (.dK kvs) from I.hok d _ hd)
  obtain ⟨ep, hat⟩ := hD.dictAt
  have hl := rkv.length
  refine PySem.W.kdl_call (PySem.W.kdl_dict (knd := mixKind X.prog X.w) (kvs := vs) (ep := ep) hne) (I.ok.hd hc) hat (by rw [← hl]; exact hz) fun h' tk acc' c' hk hS hacc => ?_
  refine ⟨.ref s.heap.objs.size, _, I.laid (o := .lst (kvs.map fun kv => kV kv.1)) (t' := tk) hk (Nat.le_refl _) ⟨by rw [List.length_map]; exact hz, acc'.toList, c', ?_, by rw [Array.toArray_toList]; exact hS⟩, rfl, q _ (I.hok.fresh (Nat.le_refl _))⟩
  refine vals_of (by have h1 := hacc.1; have h2 : acc'.toList.length = acc'.size := Array.length_toList; have h3 : (kvs.map fun kv => kV kv.1).length = kvs.length := List.length_map ..; omega) fun j v hv => ?_
  obtain ⟨k, x, hx, hk'⟩ := hacc.2 j v (by rw [← Array.getElem?_toList]; exact hv)
  obtain ⟨y, hy⟩ := kv_get rkv hx
  exact ⟨kV k, by rw [List.getElem?_map, hy]; rfl, kV_rel hk'⟩
end
end L2
set_option Elab.async false
set_option linter.all false
set_option maxRecDepth 100000
set_option maxHeartbeats 4000000
namespace L2
open PySem PySem.Spec PyProof.Rows
section
variable {X : Cx}
theorem Inv.turnedT {pins : List (Addr × Obj)} {σ : St} {H : Hp} {s : Shared} {fp : List Addr} {h'' : Heap} {tk : Nat} (I : Inv X pins σ H s) (hf : ∀ b ∈ fp, FpOk X pins H b)
    (keep2 : ∀ q o, q ∉ fp → s.heap.get? q = some o → h''.get? q = some o) : Inv X pins σ H { s with heap := h'', toks := tk } := by
  have nfp : ∀ q ∈ fp, H q = none := fun q hq => (hf q hq).1
  refine I.step (g' := s.gens) (d' := s.drawn) (t' := tk) (ch := fp) (fun q hq => ⟨(hf q hq).2.2.2.1, (hf q hq).2.1, (hf q hq).2.2.2.2.1, (hf q hq).2.2.2.2.2⟩)
      (fun q o _ _ hc e _ => keep2 q o hc e) (fun q o _ _ hc e _ => ⟨o.slots, keep2 q o hc e⟩) (fun q o _ e n => n)
      (fun q o hc e => ⟨o, keep2 q o hc e⟩) (fun q zs e => e) (fun q o zs e => e) (fun q ps e => ⟨#[], by rw [e]; simp⟩) (fun m hm => ?_) ?_ I.bare
  · obtain ⟨o, es, ep, ho, r⟩ := hm
    exact ⟨o, es, ep, keep2 _ o (fun z => absurd rfl (hf _ z).2.1) ho, r⟩
  · intro q o e
    refine (I.hok q o e).stay (fun t w' ht qq => keep2 t w' (fun z => ?_) qq) (fun t qq => qq) fun t zs qq => qq
    have n0 := nfp t z
    rcases ht with rfl | ht
    · rw [n0] at e; cases e
    · rw [n0] at ht; cases ht
end
end L2
set_option Elab.async false
set_option linter.all false
set_option maxRecDepth 100000
set_option maxHeartbeats 4000000
namespace PySem
namespace Rv
open PyProof.Rows L2 PySem.Spec
section
variable {prog : Program} {w : World} {A : Around} {E : Value → Shared → Prop} {s : Shared}
end
end Rv
end PySem
namespace PySem
namespace Rv
open PyProof.Rows L2 PySem.Spec
section
variable {prog : Program} {w : World} {A : Around} {E : Value → Shared → Prop} {s : Shared}
end
end Rv
end PySem
set_option Elab.async false
set_option linter.all false
set_option maxRecDepth 100000
set_option maxHeartbeats 4000000
namespace PySem
namespace Rv
open PyProof.Rows L2 PySem.Spec
section
variable {prog : Program} {w : World} {A : Around} {E : Value → Shared → Prop} {s : Shared}
end
end Rv
end PySem
set_option Elab.async false
set_option linter.all false
set_option maxRecDepth 100000
set_option maxHeartbeats 4000000
namespace L2
open PySem PySem.Spec PyProof.Rows
section
variable {X : Cx} {a : Expr} {ta : TA} {p p2 pos pos2 : Pos}
theorem bt_reversed : bootBuiltins "reversed" = some (.type "reversed") := by decide +kernel
end
end L2
set_option Elab.async false
set_option linter.all false
set_option maxRecDepth 100000
set_option maxHeartbeats 4000000
namespace PySem
namespace Zt
open PyProof.Rows L2 PySem.Spec
section
variable {prog : Program} {w : World} {A : Around} {E : Value → Shared → Prop} {s : Shared}
structure Side (prog : Program) (w : World) (i l : Addr) (xs : Array Value) (St : Nat → Heap → Prop) : Prop where
  keep : ∀ k h h', St k h → (∀ c, c = i ∨ c = l → ∀ o, h.get? c = some o → h'.get? c = some o) → St k h'
  there : ∀ k h, St k h → i < h.objs.size
  item : ∀ (A : Around) (E : Value → Shared → Prop) (s : Shared) (k : Nat) (x : Value) (Q : Value → Shared → Prop), St k s.heap → xs[k]? = some x → (∀ h', St (k + 1) h' → Heap.SameBut i s.heap h' → Q x { s with heap := h' }) →
    wpAny (model prog w) A (Builtin.SmallTypes.nextOf (.ref i)) Q E s
  stop : ∀ (A : Around) (E : Value → Shared → Prop) (s : Shared) (k : Nat) (Q : Value → Shared → Prop), A.handled = none → St k s.heap → xs[k]? = none →
    (∀ h' e, Heap.ExtBut i s.heap h' → (∃ o, h'.get? e = some o ∧ o.cls = .type "StopIteration") → E (.ref e) { s with heap := h' }) → wpAny (model prog w) A (Builtin.SmallTypes.nextOf (.ref i)) Q E s
structure Apart (z TI TO i1 i2 l1 l2 : Addr) : Prop where
  nd : [z, TI, TO, i1, i2].Nodup
  a : l1 ≠ z ∧ l1 ≠ TI ∧ l1 ≠ TO ∧ l1 ≠ i1 ∧ l1 ≠ i2
  b : l2 ≠ z ∧ l2 ≠ TI ∧ l2 ≠ TO ∧ l2 ≠ i1 ∧ l2 ≠ i2
variable {z TI TO i1 i2 l1 l2 : Addr} {xs ys : Array Value} {S1 S2 : Nat → Heap → Prop}
theorem item {k : Nat} {x y a b : Value} {Q : Value → Shared → Prop} (D : Apart z TI TO i1 i2 l1 l2) (W1 : Side prog w i1 l1 xs S1) (W2 : Side prog w i2 l2 ys S2) (hz : IsZip s.heap z TI TO .none) (hI : IsPair s.heap TI (.ref i1) (.ref i2)) (hO : IsPair s.heap TO a b)
    (h1 : S1 k s.heap) (h2 : S2 k s.heap) (hx : xs[k]? = some x) (hy : ys[k]? = some y)
    (hQ : ∀ h', IsZip h' z TI TO (rawInt s.heap.objs.size) → IsPair h' TO x y → S1 (k + 1) h' → S2 (k + 1) h' → IsPair h' s.heap.objs.size x y → (∀ c o, c ≠ z → c ≠ TO → c ≠ i1 → c ≠ i2 → s.heap.get? c = some o → h'.get? c = some o) → Q (.ref s.heap.objs.size) { s with heap := h' }) :
    wpAny (model prog w) A (Builtin.«zip.__next__» ⟨[.ref z], []⟩) (fun fin s' => ∃ v, fin = .done (.ret v) ∧ Q v s') E s := by
  have nd := D.nd
  simp only [List.nodup_cons, List.mem_cons, List.not_mem_nil, or_false, not_or, not_false_eq_true, List.nodup_nil, and_true] at nd
  obtain ⟨⟨zI, zO, z1, z2⟩, ⟨IO, I1, I2⟩, ⟨O1, O2⟩, n12⟩ := nd
  obtain ⟨az, aI, aO, a1, a2⟩ := D.a
  obtain ⟨bz, bI, bO, b1, b2⟩ := D.b
  show wpAny _ _ (field (.ref z) 2 >>= fun q => _) _ _ _
  refine wpAny_bind (wpAny_field hz rfl (x := .bool false) rfl ?_)
  show wpAny _ _ (field (.ref z) 3 >>= fun q => _) _ _ _
  refine wpAny_bind (wpAny_field hz rfl (x := .ref TI) rfl (wpAny_bind (wpAny_seqItems hI rfl ?_)))
  show wpAny _ _ (Builtin.SmallTypes.ownedTupleIsFree (.ref z) >>= fun q => _) _ _ _
  refine wpAny_bind ?_
  unfold Builtin.SmallTypes.ownedTupleIsFree
  refine wpAny_bind (wpAny_field hz rfl (x := .none) rfl (wpAny_pure ?_))
  simp only [if_true]
  refine wpAny_bind (wpAny_rule (wpAny_bind (wpAny_field hz rfl (x := .ref TO) rfl (wpAny_bind (wpAny_setField_rec hz (by simp) fun g1 q1 s1 => wpAny_bind ?_)))))
  simp only [List.zipIdx_cons, List.zipIdx_nil, List.forIn_cons, List.forIn_nil]
  have k1 : ∀ c, c = i1 ∨ c = l1 → c ≠ z ∧ c ≠ TO ∧ c ≠ i2 := fun c hc => by
    rcases hc with rfl | rfl
    · exact ⟨Ne.symm z1, Ne.symm O1, n12⟩
    · exact ⟨az, aO, a2⟩
  have k2 : ∀ c, c = i2 ∨ c = l2 → c ≠ z ∧ c ≠ TO ∧ c ≠ i1 := fun c hc => by
    rcases hc with rfl | rfl
    · exact ⟨Ne.symm z2, Ne.symm O2, Ne.symm n12⟩
    · exact ⟨bz, bO, b1⟩
  refine wpAny_bind (wpAny_bind (wpAny_onRaise ?_))
  show wpAny _ _ (Builtin.SmallTypes.nextOf (.ref i1) >>= fun q => _) _ _ _
  refine wpAny_bind (W1.item _ _ { s with heap := g1 } k x _ (W1.keep k _ _ h1 fun c hc o e => s1.extBut c o (k1 c hc).1 e) hx fun g2 t2 s2 => wpAny_pure ?_)
  have o2 : IsPair g2 TO a b := s2.extBut _ _ O1 (s1.extBut _ _ (Ne.symm zO) hO)
  refine wpAny_bind (wpAny_seqItems o2 rfl (wpAny_bind (wpAny_updateSeq_pair o2 fun g3 o3 s3 => wpAny_bind (wpAny_letGo (wpAny_pure ?_)))))
  replace o3 : IsPair g3 TO x b := o3
  refine wpAny_bind (wpAny_bind (wpAny_onRaise ?_))
  show wpAny _ _ (Builtin.SmallTypes.nextOf (.ref i2) >>= fun q => _) _ _ _
  refine wpAny_bind (W2.item _ _ { s with heap := g3 } k y _ (W2.keep k _ _ h2 fun c hc o e => s3.extBut c o (k2 c hc).2.1 (s2.extBut c o (k2 c hc).2.2 (s1.extBut c o (k2 c hc).1 e))) hy fun g4 t4 s4 => wpAny_pure ?_)
  have o4 : IsPair g4 TO x b := s4.extBut _ _ O2 o3
  refine wpAny_bind (wpAny_seqItems o4 rfl (wpAny_bind (wpAny_updateSeq_pair o4 fun g5 o5 s5 => wpAny_bind (wpAny_letGo (wpAny_pure (wpAny_pure ?_))))))
  replace o5 : IsPair g5 TO x y := o5
  refine wpAny_bind (wpAny_seqItems o5 rfl (wpAny_bind (wpAny_newTuple ?_)))
  have size5 : g5.objs.size = s.heap.objs.size := by rw [s5.1, s4.1, s3.1, s2.1, s1.1]
  have z5 : IsZip g5 z TI TO .ellipsis := s5.extBut _ _ zO (s4.extBut _ _ z2 (s3.extBut _ _ zO (s2.extBut _ _ z1 q1)))
  have lz : z < g5.objs.size := Heap.lt_size z5
  refine wpAny_bind (m := Builtin.SmallTypes.ownedTupleHandOut _ _) ?_
  unfold Builtin.SmallTypes.ownedTupleHandOut
  have z6 : IsZip (g5.push { cls := .type "tuple", data := .seq #[x, y] }) z TI TO .ellipsis := Heap.get?_push_of_some _ z5
  refine wpAny_bind (wpAny_setField_rec z6 (by simp) fun g7 z7 s7 => wpAny_setField_rec z7 (by simp) fun g8 z8 s8 => wpAny_pure ⟨_, rfl, ?_⟩)
  have up : ∀ c o, c ≠ z → g5.get? c = some o → g8.get? c = some o := fun c o hc e => s8.extBut _ _ hc (s7.extBut _ _ hc (Heap.get?_push_of_some _ e))
  have t8 : IsPair g8 g5.objs.size x y := s8.extBut _ _ (Nat.ne_of_gt lz) (s7.extBut _ _ (Nat.ne_of_gt lz) (Heap.get?_push_size _ rfl))
  have r1 : S1 (k + 1) g8 := W1.keep _ _ _ t2 fun c hc o e => up c o (k1 c hc).1 (s5.extBut _ _ (k1 c hc).2.1 (s4.extBut _ _ (k1 c hc).2.2 (s3.extBut _ _ (k1 c hc).2.1 e)))
  have r2 : S2 (k + 1) g8 := W2.keep _ _ _ t4 fun c hc o e => up c o (k2 c hc).1 (s5.extBut _ _ (k2 c hc).2.1 e)
  show Q (.ref g5.objs.size) _
  replace z8 : IsZip g8 z TI TO (rawInt g5.objs.size) := z8
  rw [size5] at z8 t8 ⊢
  exact hQ g8 z8 (up _ _ (Ne.symm zO) o5) r1 r2 t8 fun c o c1 c2 c3 c4 e => up c o c1 (s5.extBut _ _ c2 (s4.extBut _ _ c4 (s3.extBut _ _ c2 (s2.extBut _ _ c3 (s1.extBut _ _ c1 e)))))
theorem stop {k : Nat} {a b : Value} {Q : Fin → Shared → Prop} (hh : A.handled = none) (D : Apart z TI TO i1 i2 l1 l2) (W1 : Side prog w i1 l1 xs S1) (W2 : Side prog w i2 l2 ys S2) (hz : IsZip s.heap z TI TO .none) (hI : IsPair s.heap TI (.ref i1) (.ref i2)) (hO : IsPair s.heap TO a b)
    (h1 : S1 k s.heap) (h2 : S2 k s.heap) (hend : xs[k]? = none ∨ ys[k]? = none)
    (hE : ∀ h' e, (∀ c o, c ≠ z → c ≠ TO → c ≠ i1 → c ≠ i2 → s.heap.get? c = some o → h'.get? c = some o) → (∃ o, h'.get? e = some o ∧ o.cls = .type "StopIteration") → E (.ref e) { s with heap := h' }) :
    wpAny (model prog w) A (Builtin.«zip.__next__» ⟨[.ref z], []⟩) Q E s := by
  have nd := D.nd
  simp only [List.nodup_cons, List.mem_cons, List.not_mem_nil, or_false, not_or, not_false_eq_true, List.nodup_nil, and_true] at nd
  obtain ⟨⟨zI, zO, z1, z2⟩, ⟨IO, I1, I2⟩, ⟨O1, O2⟩, n12⟩ := nd
  obtain ⟨az, aI, aO, a1, a2⟩ := D.a
  obtain ⟨bz, bI, bO, b1, b2⟩ := D.b
  have k1 : ∀ c, c = i1 ∨ c = l1 → c ≠ z := fun c hc => by rcases hc with rfl | rfl; exact Ne.symm z1; exact az
  have k2 : ∀ c, c = i2 ∨ c = l2 → c ≠ z ∧ c ≠ TO ∧ c ≠ i1 := fun c hc => by
    rcases hc with rfl | rfl
    · exact ⟨Ne.symm z2, Ne.symm O2, Ne.symm n12⟩
    · exact ⟨bz, bO, b1⟩
  show wpAny _ _ (field (.ref z) 2 >>= fun q => _) _ _ _
  refine wpAny_bind (wpAny_field hz rfl (x := .bool false) rfl ?_)
  show wpAny _ _ (field (.ref z) 3 >>= fun q => _) _ _ _
  refine wpAny_bind (wpAny_field hz rfl (x := .ref TI) rfl (wpAny_bind (wpAny_seqItems hI rfl ?_)))
  show wpAny _ _ (Builtin.SmallTypes.ownedTupleIsFree (.ref z) >>= fun q => _) _ _ _
  refine wpAny_bind ?_
  unfold Builtin.SmallTypes.ownedTupleIsFree
  refine wpAny_bind (wpAny_field hz rfl (x := .none) rfl (wpAny_pure ?_))
  simp only [if_true]
  refine wpAny_bind (wpAny_rule (wpAny_bind (wpAny_field hz rfl (x := .ref TO) rfl (wpAny_bind (wpAny_setField_rec hz (by simp) fun g1 q1 s1 => wpAny_bind ?_)))))
  simp only [List.zipIdx_cons, List.zipIdx_nil, List.forIn_cons, List.forIn_nil]
  refine wpAny_bind (wpAny_bind (wpAny_onRaise ?_))
  show wpAny _ _ (Builtin.SmallTypes.nextOf (.ref i1) >>= fun q => _) _ _ _
  cases hx : xs[k]? with
  | none =>
    refine wpAny_bind (W1.stop _ _ { s with heap := g1 } k _ hh (W1.keep k _ _ h1 fun c hc o e => s1.extBut c o (k1 c hc) e) hx fun g2 e s2 he => ?_)
    obtain ⟨oe, ge, ce⟩ := he
    have q2 : IsZip g2 z TI TO .ellipsis := s2 _ _ z1 q1
    have ez : e ≠ z := fun u => by subst u; rw [q2] at ge; cases ge; simp at ce
    exact wpAny_setField_rec q2 (by simp) fun g3 _ s3 => hE g3 e (fun c o c1 _ c3 _ u => s3.extBut _ _ c1 (s2 _ _ c3 (s1.extBut _ _ c1 u))) ⟨oe, s3.extBut _ _ ez ge, ce⟩
  | some x =>
    have hy : ys[k]? = none := by rcases hend with h | h; rw [hx] at h; cases h; exact h
    refine wpAny_bind (W1.item _ _ { s with heap := g1 } k x _ (W1.keep k _ _ h1 fun c hc o e => s1.extBut c o (k1 c hc) e) hx fun g2 t2 s2 => wpAny_pure ?_)
    have o2 : IsPair g2 TO a b := s2.extBut _ _ O1 (s1.extBut _ _ (Ne.symm zO) hO)
    refine wpAny_bind (wpAny_seqItems o2 rfl (wpAny_bind (wpAny_updateSeq_pair o2 fun g3 o3 s3 => wpAny_bind (wpAny_letGo (wpAny_pure ?_)))))
    refine wpAny_bind (wpAny_bind (wpAny_onRaise ?_))
    show wpAny _ _ (Builtin.SmallTypes.nextOf (.ref i2) >>= fun q => _) _ _ _
    refine wpAny_bind (W2.stop _ _ { s with heap := g3 } k _ hh (W2.keep k _ _ h2 fun c hc o e => s3.extBut c o (k2 c hc).2.1 (s2.extBut c o (k2 c hc).2.2 (s1.extBut c o (k2 c hc).1 e))) hy fun g4 e s4 he => ?_)
    obtain ⟨oe, ge, ce⟩ := he
    have q4 : IsZip g4 z TI TO .ellipsis := s4 _ _ z2 (s3.extBut _ _ zO (s2.extBut _ _ z1 q1))
    have ez : e ≠ z := fun u => by subst u; rw [q4] at ge; cases ge; simp at ce
    exact wpAny_setField_rec q4 (by simp) fun g5 _ s5 => hE g5 e (fun c o c1 c2 c3 c4 u => s5.extBut _ _ c1 (s4 _ _ c4 (s3.extBut _ _ c2 (s2.extBut _ _ c3 (s1.extBut _ _ c1 u))))) ⟨oe, s5.extBut _ _ ez ge, ce⟩
end
end Zt
end PySem
set_option Elab.async false
set_option linter.all false
set_option maxRecDepth 100000
set_option maxHeartbeats 4000000
namespace PySem
namespace Zt
open PyProof.Rows L2 PySem.Spec
section
variable {prog : Program} {w : World} {A : Around} {E : Value → Shared → Prop} {s : Shared} {z TI TO i1 i2 l1 l2 : Addr} {xs ys : Array Value} {S1 S2 : Nat → Heap → Prop}
end
end Zt
end PySem
set_option Elab.async false
set_option linter.all false
set_option maxRecDepth 100000
set_option maxHeartbeats 4000000
namespace L2
open PySem PySem.Spec PyProof.Rows
section
variable {X : Cx}
end
end L2
set_option Elab.async false
set_option linter.all false
set_option maxRecDepth 100000
set_option maxHeartbeats 4000000
namespace L2
open PySem PySem.Spec PyProof.Rows
section
variable {X : Cx}
end
end L2
set_option Elab.async false
set_option linter.all false
set_option maxRecDepth 100000
set_option maxHeartbeats 4000000
namespace L2
open PySem PySem.Spec PyProof.Rows
section
variable {X : Cx}
end
end L2
set_option Elab.async false
set_option linter.all false
set_option maxRecDepth 100000
set_option maxHeartbeats 4000000
namespace L3
open PySem PySem.Spec PyProof.Rows L2
abbrev SV := L2.St
inductive W where
  | non | bl (b : Bool) | int (i : Int) | str (x : Str) | ty (n : String) | tup (ws : List W) | rl (ws : List W) | sc (ws : List W) | ref (a : Addr)
  | dk (kvs : List (Key × W)) | dt (kvs : List (List Key × W))
inductive MO where
  | lst (ws : List W) | dK (kvs : List (Key × W)) | dT (kvs : List (List Key × W)) | fix (vs : List V) | exc (cls : Value)
abbrev Mm := Addr → Option MO
def put (M : Mm) (a : Addr) (o : MO) : Mm := fun b => if b = a then some o else M b
def del (M : Mm) (a : Addr) : Mm := fun b => if b = a then none else M b
theorem put_same {M : Mm} {a : Addr} {o : MO} : put M a o a = some o := by unfold put; rw [if_pos rfl]
theorem put_ne {M : Mm} {a b : Addr} {o : MO} (h : b ≠ a) : put M a o b = M b := by unfold put; rw [if_neg h]
theorem put_put {M : Mm} {a : Addr} {o u : MO} : put (put M a o) a u = put M a u := by
  funext b; unfold put; split <;> rfl
theorem del_put {M : Mm} {a : Addr} {o : MO} (h : M a = none) : del (put M a o) a = M := by
  funext b; unfold del put; split
  · rename_i e; rw [e, h]
  · rfl
theorem del_same {M : Mm} {a : Addr} : del M a a = none := by unfold del; rw [if_pos rfl]
theorem put_self {M : Mm} {a : Addr} {o : MO} (h : M a = some o) : put M a o = M := by
  funext b; unfold put; split
  · rename_i e; rw [e, h]
  · rfl
def Sub (M M' : Mm) : Prop := ∀ a o, M a = some o → M' a = some o
theorem Sub.refl (M : Mm) : Sub M M := fun _ _ h => h
theorem Sub.trans {M M1 M2 : Mm} (a : Sub M M1) (b : Sub M1 M2) : Sub M M2 := fun c o h => b c o (a c o h)
theorem Sub.new {M : Mm} {a : Addr} {o : MO} (h : M a = none) : Sub M (put M a o) := fun b u e => by
  rw [put_ne (fun z => by rw [z, h] at e; cases e)]; exact e
theorem Sub.put {M M' : Mm} {a : Addr} {o : MO} (h : Sub M M') : Sub (put M a o) (put M' a o) := fun b u e => by
  unfold L3.put at e ⊢
  split at e
  · rename_i z; rw [if_pos z]; exact e
  · rename_i z; rw [if_neg z]; exact h b u e
theorem Sub.del {M : Mm} {a : Addr} : Sub (del M a) M := fun b u e => by
  unfold L3.del at e
  split at e
  · cases e
  · exact e
theorem Sub.non {M M' : Mm} (h : Sub M M') {a : Addr} (e : M' a = none) : M a = none := by
  cases q : M a with
  | none => rfl
  | some o => rw [h a o q] at e; cases e
def SqR (K : PySem.W.Frag) (H : Hp) (a : Addr) (xs : List V) : Prop :=
  (∃ o, H a = some (.frz o (.lst xs))) ∨
    ∃ (o : Obj) (its : Array Value) (n : Nat), K.lookup a = some o ∧ o.cls = .type "list" ∧ o.dict = none ∧ o.data = .seq its n ∧ its.size ≤ sizeLine ∧ Vals xs its.toList
theorem SqR.sq {K : PySem.W.Frag} {H : Hp} {a : Addr} {xs : List V} (h : SqR K H a xs) : SqL K H a xs := by
  rcases h with ⟨o, h⟩ | h
  · exact .inl (.inr ⟨o, h⟩)
  · exact .inr h
mutual
inductive AV (K : PySem.W.Frag) (H : Hp) (M : Mm) : V → W → Prop
  | non : AV K H M .non .non
  | bl (b : Bool) : AV K H M (.bl b) (.bl b)
  | int (i : Int) : AV K H M (.int i) (.int i)
  | str (x : Str) : AV K H M (.str x) (.str x)
  | ty (n : String) : AV K H M (.ty n) (.ty n)
  | tup {a : Addr} {xs : List V} {ws : List W} : H a = some (.tup xs) → AVs K H M xs ws → AV K H M (.ref a) (.tup ws)
  | sc {a : Addr} {xs : List V} {ws : List W} : SqR K H a xs → AVs K H M xs ws → AV K H M (.ref a) (.sc ws)
  | rl {a : Addr} {xs : List V} {ws : List W} : H a = some (.lst xs) → M a = none → AVs K H M xs ws → AV K H M (.ref a) (.rl ws)
  | ref (a : Addr) : AV K H M (.ref a) (.ref a)
  | dk {a : Addr} {ks : List (Key × V)} {kvs : List (Key × W)} : H a = some (.dK ks) → M a = none → ks.map Prod.fst = kvs.map Prod.fst → AVs K H M (ks.map Prod.snd) (kvs.map Prod.snd) → AV K H M (.ref a) (.dk kvs)
  | dt {a : Addr} {ks : List (List Key × V)} {kvs : List (List Key × W)} : H a = some (.dT ks) → M a = none → ks.map Prod.fst = kvs.map Prod.fst → AVs K H M (ks.map Prod.snd) (kvs.map Prod.snd) → AV K H M (.ref a) (.dt kvs)
inductive AVs (K : PySem.W.Frag) (H : Hp) (M : Mm) : List V → List W → Prop
  | nil : AVs K H M [] []
  | cons {v : V} {vs : List V} {w : W} {ws : List W} : AV K H M v w → AVs K H M vs ws → AVs K H M (v :: vs) (w :: ws)
end
abbrev PKV (K : PySem.W.Frag) (H : Hp) (M : Mm) (κ : Type) : List (κ × V) → List (κ × W) → Prop := Paired fun p q => p.1 = q.1 ∧ AV K H M p.2 q.2
theorem pkv_of {K : PySem.W.Frag} {H : Hp} {M : Mm} {κ : Type} : ∀ {ks : List (κ × V)} {kvs : List (κ × W)}, ks.map Prod.fst = kvs.map Prod.fst → AVs K H M (ks.map Prod.snd) (kvs.map Prod.snd) → PKV K H M κ ks kvs
  | [], [], _, _ => .nil
  | [], _ :: _, e, _ => by simp at e
  | _ :: _, [], e, _ => by simp at e
  | p :: ps, q :: qs, e, h => by
    rw [List.map_cons, List.map_cons] at e h
    rw [List.cons.injEq] at e
    cases h with
    | cons x r => exact .cons ⟨e.1, x⟩ (pkv_of e.2 r)
theorem PKV.keys {K : PySem.W.Frag} {H : Hp} {M : Mm} {κ : Type} {ks : List (κ × V)} {kvs : List (κ × W)} (h : PKV K H M κ ks kvs) : ks.map Prod.fst = kvs.map Prod.fst := by
  induction h with
  | nil => rfl
  | cons r _ ih => rw [List.map_cons, List.map_cons, ih, r.1]
theorem PKV.vals {K : PySem.W.Frag} {H : Hp} {M : Mm} {κ : Type} {ks : List (κ × V)} {kvs : List (κ × W)} (h : PKV K H M κ ks kvs) : AVs K H M (ks.map Prod.snd) (kvs.map Prod.snd) := by
  induction h with
  | nil => exact .nil
  | cons r _ ih => exact .cons r.2 ih
def AO (K : PySem.W.Frag) (H : Hp) (M : Mm) (a : Addr) : MO → Prop
  | .lst ws => ∃ vs, H a = some (.lst vs) ∧ AVs K H M vs ws
  | .dK kvs => ∃ ks, H a = some (.dK ks) ∧ PKV K H M Key ks kvs
  | .dT kvs => ∃ ks, H a = some (.dT ks) ∧ PKV K H M (List Key) ks kvs
  | .fix vs => H a = some (.lst vs)
  | .exc c => H a = some (.ext fun h => ∃ o, h.get? a = some o ∧ o.cls = c)
def AM (K : PySem.W.Frag) (H : Hp) (M : Mm) : Prop := ∀ a o, M a = some o → AO K H M a o
structure Kp (H : Hp) (M : Mm) (H' : Hp) (M' : Mm) : Prop where
  fr : ∀ a o, M a = none → H a = some o → H' a = some o ∧ M' a = none
  dom : ∀ a o, M a = some o → ∃ u, H' a = some u
structure Go (H : Hp) (M : Mm) (H' : Hp) (M' : Mm) : Prop where
  ht : ∀ b xs, H b = some (.tup xs) → H' b = some (.tup xs)
  hf : ∀ b o u, H b = some (.frz o u) → H' b = some (.frz o u)
  hl : ∀ b o, M b = none → H b = some o → H' b = some o ∧ M' b = none
section
variable {K : PySem.W.Frag} {H H' H1 H2 : Hp} {M M' M1 M2 : Mm} {a : Addr}
theorem AO.has {o : MO} (h : AO K H M a o) : ∃ u, H a = some u := by
  cases o with
  | lst ws => obtain ⟨vs, e, _⟩ := h; exact ⟨_, e⟩
  | dK kvs => obtain ⟨ks, e, _⟩ := h; exact ⟨_, e⟩
  | dT kvs => obtain ⟨ks, e, _⟩ := h; exact ⟨_, e⟩
  | fix vs => exact ⟨_, h⟩
  | exc c => exact ⟨_, h⟩
theorem AM.nonM (am : AM K H M) (h : H a = none) : M a = none := by
  cases q : M a with
  | none => rfl
  | some o => obtain ⟨u, e⟩ := (am a o q).has; rw [h] at e; cases e
theorem AM.noTup (am : AM K H M) {xs : List V} (h : H a = some (.tup xs)) : M a = none := by
  cases q : M a with
  | none => rfl
  | some o =>
    have := am a o q
    cases o with
    | lst ws => obtain ⟨vs, e, _⟩ := this; rw [h] at e; cases e
    | dK kvs => obtain ⟨ks, e, _⟩ := this; rw [h] at e; cases e
    | dT kvs => obtain ⟨ks, e, _⟩ := this; rw [h] at e; cases e
    | fix vs => have e : H a = some (.lst vs) := this; rw [h] at e; cases e
    | exc c => have e : H a = some (.ext fun h => ∃ o, h.get? a = some o ∧ o.cls = c) := this; rw [h] at e; cases e
theorem AM.noFrz (am : AM K H M) {ob : Obj} {u : HO} (h : H a = some (.frz ob u)) : M a = none := by
  cases q : M a with
  | none => rfl
  | some o =>
    have := am a o q
    cases o with
    | lst ws => obtain ⟨vs, e, _⟩ := this; rw [h] at e; cases e
    | dK kvs => obtain ⟨ks, e, _⟩ := this; rw [h] at e; cases e
    | dT kvs => obtain ⟨ks, e, _⟩ := this; rw [h] at e; cases e
    | fix vs => have e : H a = some (.lst vs) := this; rw [h] at e; cases e
    | exc c => have e : H a = some (.ext fun h => ∃ o, h.get? a = some o ∧ o.cls = c) := this; rw [h] at e; cases e
theorem Kp.refl (am : AM K H M) : Kp H M H M := ⟨fun a o h e => ⟨e, h⟩, fun a o h => (am a o h).has⟩
theorem Kp.trans (x : Kp H M H1 M1) (y : Kp H1 M1 H2 M2) : Kp H M H2 M2 where
  fr := fun a o h e => by
    obtain ⟨e1, n1⟩ := x.fr a o h e
    exact y.fr a o n1 e1
  dom := fun a o h => by
    obtain ⟨u, e⟩ := x.dom a o h
    cases q : M1 a with
    | none => exact ⟨u, (y.fr a u q e).1⟩
    | some o1 => exact y.dom a o1 q
theorem Kp.sub (x : Kp H M H1 M1) (h : Sub M2 M1) : Kp H M H1 M2 where
  fr := fun a o n e => ⟨(x.fr a o n e).1, h.non (x.fr a o n e).2⟩
  dom := x.dom
theorem Kp.go (am : AM K H M) (k : Kp H M H' M') : Go H M H' M' := ⟨fun b xs e => (k.fr b _ (am.noTup e) e).1, fun b o u e => (k.fr b _ (am.noFrz e) e).1, k.fr⟩
theorem Go.sub (h : Sub M' M) : Go H M H M' := ⟨fun _ _ e => e, fun _ _ _ e => e, fun b o n e => ⟨e, h.non n⟩⟩
mutual
theorem AV.go (g : Go H M H' M') : ∀ {v : V} {w : W}, AV K H M v w → AV K H' M' v w
  | _, _, .non => .non
  | _, _, .bl b => .bl b
  | _, _, .int i => .int i
  | _, _, .str x => .str x
  | _, _, .ty n => .ty n
  | _, _, .tup e r => .tup (g.ht _ _ e) (AVs.go g r)
  | _, _, .sc e r => .sc (e.elim (fun ⟨o, q⟩ => .inl ⟨o, g.hf _ _ _ q⟩) .inr) (AVs.go g r)
  | _, _, .rl e n r => .rl (g.hl _ _ n e).1 (g.hl _ _ n e).2 (AVs.go g r)
  | _, _, .ref a => .ref a
  | _, _, .dk e n ke r => .dk (g.hl _ _ n e).1 (g.hl _ _ n e).2 ke (AVs.go g r)
  | _, _, .dt e n ke r => .dt (g.hl _ _ n e).1 (g.hl _ _ n e).2 ke (AVs.go g r)
theorem AVs.go (g : Go H M H' M') : ∀ {vs : List V} {ws : List W}, AVs K H M vs ws → AVs K H' M' vs ws
  | _, _, .nil => .nil
  | _, _, .cons x r => .cons (AV.go g x) (AVs.go g r)
end
theorem PKV.go {κ : Type} {ks : List (κ × V)} {kvs : List (κ × W)} (g : Go H M H' M') (h : PKV K H M κ ks kvs) : PKV K H' M' κ ks kvs := Paired.mapP h fun p q z => ⟨z.1, z.2.go g⟩
theorem AO.go {o : MO} (g : Go H M H' M') (e : H' a = H a) (h : AO K H M a o) : AO K H' M' a o := by
  cases o with
  | lst ws => obtain ⟨vs, e1, r⟩ := h; exact ⟨vs, by rw [e]; exact e1, r.go g⟩
  | dK kvs => obtain ⟨vs, e1, r⟩ := h; exact ⟨vs, by rw [e]; exact e1, r.go g⟩
  | dT kvs => obtain ⟨vs, e1, r⟩ := h; exact ⟨vs, by rw [e]; exact e1, r.go g⟩
  | fix vs => exact e.trans h
  | exc c => exact e.trans h
theorem AM.sub (am : AM K H M') (h : Sub M M') : AM K H M := fun a o e => (am a o (h a o e)).go (Go.sub h) rfl
theorem AV.sub (h : Sub M' M) {v : V} {w : W} (x : AV K H M v w) : AV K H M' v w := x.go (Go.sub h)
theorem AVs.sub (h : Sub M' M) {v : List V} {w : List W} (x : AVs K H M v w) : AVs K H M' v w := x.go (Go.sub h)
theorem AV.kp (am : AM K H M) (k : Kp H M H' M') {v : V} {w : W} (h : AV K H M v w) : AV K H' M' v w := h.go (k.go am)
theorem AVs.kp (am : AM K H M) (k : Kp H M H' M') {vs : List V} {ws : List W} (h : AVs K H M vs ws) : AVs K H' M' vs ws := h.go (k.go am)
theorem AVs.length : ∀ {vs : List V} {ws : List W}, AVs K H M vs ws → vs.length = ws.length
  | _, _, .nil => rfl
  | _, _, .cons _ r => by simp [AVs.length r]
theorem AVs.append : ∀ {vs us : List V} {ws zs : List W}, AVs K H M vs ws → AVs K H M us zs → AVs K H M (vs ++ us) (ws ++ zs)
  | _, _, _, _, .nil, s => s
  | _, _, _, _, .cons x r, s => .cons x (AVs.append r s)
theorem AVs.getW : ∀ {vs : List V} {ws : List W} {i : Nat} {w : W}, AVs K H M vs ws → ws[i]? = some w → ∃ v, vs[i]? = some v ∧ AV K H M v w
  | _, _, _, _, .nil, e => by simp at e
  | _, _, 0, _, .cons x _, e => by simp at e; subst e; exact ⟨_, rfl, x⟩
  | _, _, i + 1, w, .cons _ r, e => by
    obtain ⟨v, h1, h2⟩ := AVs.getW (i := i) (w := w) r (by simpa using e)
    exact ⟨v, by simpa using h1, h2⟩
theorem AVs.getV : ∀ {vs : List V} {ws : List W} {i : Nat} {v : V}, AVs K H M vs ws → vs[i]? = some v → ∃ w, ws[i]? = some w ∧ AV K H M v w
  | _, _, _, _, .nil, e => by simp at e
  | _, _, 0, _, .cons x _, e => by simp at e; subst e; exact ⟨_, rfl, x⟩
  | _, _, i + 1, v, .cons _ r, e => by
    obtain ⟨w, h1, h2⟩ := AVs.getV (i := i) (v := v) r (by simpa using e)
    exact ⟨w, by simpa using h1, h2⟩
theorem AVs.set {v : V} {w : W} (x : AV K H M v w) : ∀ {vs : List V} {ws : List W} (i : Nat), AVs K H M vs ws → AVs K H M (vs.set i v) (ws.set i w)
  | _, _, _, .nil => .nil
  | _, _, 0, .cons _ t => .cons x t
  | _, _, i + 1, .cons q t => .cons q (AVs.set x i t)
theorem AVs.take : ∀ {vs : List V} {ws : List W} (n : Nat), AVs K H M vs ws → AVs K H M (vs.take n) (ws.take n)
  | _, _, 0, _ => by simp; exact .nil
  | _, _, _ + 1, .nil => .nil
  | _, _, n + 1, .cons x t => .cons x (AVs.take n t)
theorem AVs.drop : ∀ {vs : List V} {ws : List W} (n : Nat), AVs K H M vs ws → AVs K H M (vs.drop n) (ws.drop n)
  | _, _, 0, h => h
  | _, _, _ + 1, .nil => .nil
  | _, _, n + 1, .cons _ t => AVs.drop n t
theorem AVs.reverse {vs : List V} {ws : List W} (h : AVs K H M vs ws) : AVs K H M vs.reverse ws.reverse := by
  induction vs generalizing ws with
  | nil => cases h; exact .nil
  | cons v vs ih =>
    cases h with
    | cons x r => rw [List.reverse_cons, List.reverse_cons]; exact (ih r).append (.cons x .nil)
theorem AVs.dropLast {vs : List V} {ws : List W} (h : AVs K H M vs ws) : AVs K H M vs.dropLast ws.dropLast := by
  rw [List.dropLast_eq_take, List.dropLast_eq_take, h.length]; exact h.take _
theorem AVs.eraseIdx : ∀ {vs : List V} {ws : List W} (i : Nat), AVs K H M vs ws → AVs K H M (vs.eraseIdx i) (ws.eraseIdx i)
  | _, _, _, .nil => .nil
  | _, _, 0, .cons _ t => t
  | _, _, i + 1, .cons q t => .cons q (AVs.eraseIdx i t)
theorem AVs.flatRep {vs : List V} {ws : List W} (h : AVs K H M vs ws) : ∀ n : Nat, AVs K H M (List.replicate n vs).flatten (List.replicate n ws).flatten
  | 0 => .nil
  | n + 1 => by
    rw [List.replicate_succ, List.replicate_succ, List.flatten_cons, List.flatten_cons]
    exact h.append (AVs.flatRep h n)
theorem AVs.int (is : List Int) : AVs K H M (is.map V.int) (is.map W.int) := by
  induction is with
  | nil => exact .nil
  | cons i r ih => exact .cons (.int i) ih
theorem go_new {p : Addr} {u : HO} (hp : H p = none) (hs : ∀ b, b ≠ p → M b = none → M' b = none) : Go H M (upd H p u) M' :=
  ⟨fun b xs e => by rw [upd_ne (ne_of_none e hp)]; exact e, fun b o x e => by rw [upd_ne (ne_of_none e hp)]; exact e, fun b o n e => ⟨by rw [upd_ne (ne_of_none e hp)]; exact e, hs b (ne_of_none e hp) n⟩⟩
theorem go_put {p : Addr} {o : MO} {u : HO} (hp : H p = none) : Go H M (upd H p u) (put M p o) := go_new hp fun b ne n => by rw [put_ne ne]; exact n
theorem go_same {p : Addr} {u : HO} (hp : H p = none) : Go H M (upd H p u) M := go_new hp fun b ne n => n
theorem AM.laid {p : Addr} {o : MO} {u : HO} (am : AM K H M) (hp : H p = none) (h : AO K (upd H p u) (put M p o) p o) : AM K (upd H p u) (put M p o) ∧ Kp H M (upd H p u) (put M p o) := by
  refine ⟨fun a x e => ?_, fun a x h e => ⟨?_, ?_⟩, fun a x h => ?_⟩
  · by_cases ha : a = p
    · subst ha; rw [put_same] at e; cases e; exact h
    · rw [put_ne ha] at e
      exact (am a x e).go (go_put hp) (upd_ne ha)
  · rw [upd_ne (ne_of_none e hp)]; exact e
  · rw [put_ne (ne_of_none e hp)]; exact h
  · obtain ⟨y, e⟩ := (am a x h).has
    exact ⟨y, by rw [upd_ne (ne_of_none e hp)]; exact e⟩
theorem go_re {p : Addr} {o u : MO} : Go H (put M p o) H (put M p u) := ⟨fun _ _ e => e, fun _ _ _ e => e, fun b x n e => ⟨e, by
  have ne : b ≠ p := fun z => by rw [z, put_same] at n; cases n
  rw [put_ne ne] at n ⊢; exact n⟩⟩
theorem AM.tup {p : Addr} {u : HO} (am : AM K H M) (hp : H p = none) : AM K (upd H p u) M ∧ Kp H M (upd H p u) M := by
  refine ⟨fun a x e => ?_, fun a x h e => ⟨?_, h⟩, fun a x h => ?_⟩
  · have ne : a ≠ p := fun z => by rw [z, am.nonM hp] at e; cases e
    exact (am a x e).go (go_same hp) (upd_ne ne)
  · rw [upd_ne (ne_of_none e hp)]; exact e
  · obtain ⟨y, e⟩ := (am a x h).has
    exact ⟨y, by rw [upd_ne (ne_of_none e hp)]; exact e⟩
theorem go_wr {l : Addr} {o0 o : MO} {u : HO} (am : AM K H M) (hl : M l = some o0) : Go H M (upd H l u) (put M l o) :=
  ⟨fun b xs e => by rw [upd_ne (fun z => by rw [← z, am.noTup e] at hl; cases hl)]; exact e, fun b ob x e => by rw [upd_ne (fun z => by rw [← z, am.noFrz e] at hl; cases hl)]; exact e,
   fun b x n e => by
    have ne : b ≠ l := fun z => by rw [← z, n] at hl; cases hl
    rw [upd_ne ne, put_ne ne]; exact ⟨e, n⟩⟩
theorem AM.write {l : Addr} {o0 o : MO} {u : HO} (am : AM K H M) (hl : M l = some o0) (h : AO K (upd H l u) (put M l o) l o) : AM K (upd H l u) (put M l o) ∧ Kp H M (upd H l u) (put M l o) := by
  refine ⟨fun a x e => ?_, fun a x h e => ?_, fun a x h => ?_⟩
  · by_cases ha : a = l
    · subst ha; rw [put_same] at e; cases e; exact h
    · rw [put_ne ha] at e
      exact (am a x e).go (go_wr am hl) (upd_ne ha)
  · have : a ≠ l := fun z => by rw [z, hl] at h; cases h
    rw [upd_ne this, put_ne this]; exact ⟨e, h⟩
  · by_cases ha : a = l
    · subst ha; exact ⟨u, upd_same⟩
    · obtain ⟨y, e⟩ := (am a x h).has
      exact ⟨y, by rw [upd_ne ha]; exact e⟩
theorem AM.lst (am : AM K H M) {ws : List W} (h : M a = some (.lst ws)) : ∃ vs, H a = some (.lst vs) ∧ AVs K H M vs ws := am a _ h
theorem AVs.newT {p : Addr} {u : HO} {vs : List V} {ws : List W} (hp : H p = none) (h : AVs K H M vs ws) : AVs K (upd H p u) M vs ws := h.go (go_same hp)
theorem AVs.newL {p : Addr} {u : HO} {o : MO} {vs : List V} {ws : List W} (hp : H p = none) (h : AVs K H M vs ws) : AVs K (upd H p u) (put M p o) vs ws := h.go (go_put hp)
theorem AVs.wr {l : Addr} {o0 o : MO} {u : HO} {vs : List V} {ws : List W} (am : AM K H M) (hl : M l = some o0) (h : AVs K H M vs ws) : AVs K (upd H l u) (put M l o) vs ws := h.go (go_wr am hl)
theorem AV.wr {l : Addr} {o0 o : MO} {u : HO} {v : V} {w : W} (am : AM K H M) (hl : M l = some o0) (h : AV K H M v w) : AV K (upd H l u) (put M l o) v w := h.go (go_wr am hl)
end
abbrev S3 := List (Option W)
abbrev K3 := W → Mm → Prop
abbrev TE3 := S3 → Mm → K3 → Prop
abbrev TT3 := S3 → Mm → (Bool → Mm → Prop) → Prop
abbrev TA3 := S3 → Mm → (List W → Mm → Prop) → Prop
abbrev R3 := W → W → Mm → K3 → Prop
structure D3 where
  nx : S3 → Mm → Prop
  rt : K3
  bk : S3 → Mm → Prop := fun _ _ => False
  ct : S3 → Mm → Prop := fun _ _ => False
abbrev TS3 := D3 → S3 → Mm → Prop
def AS (K : PySem.W.Frag) (H : Hp) (M : Mm) : SV → S3 → Prop := Paired fun ov ow => ∀ w, ow = some w → ∃ v, ov = some v ∧ AV K H M v w
section
variable {K : PySem.W.Frag} {H H' : Hp} {M M' : Mm}
theorem AS.kp (am : AM K H M) (k : Kp H M H' M') {σ : SV} {τ : S3} (h : AS K H M σ τ) : AS K H' M' σ τ :=
  Paired.mapP h fun ov ow z w e => by obtain ⟨v, e1, r⟩ := z w e; exact ⟨v, e1, r.kp am k⟩
theorem AS.sub {M' : Mm} (g : Sub M' M) {σ : SV} {τ : S3} (h : AS K H M σ τ) : AS K H M' σ τ :=
  Paired.mapP h fun ov ow z w e => by obtain ⟨v, e1, r⟩ := z w e; exact ⟨v, e1, r.sub g⟩
theorem AS.get {w : W} : ∀ {σ : SV} {τ : S3} {i : Nat}, AS K H M σ τ → τ[i]? = some (some w) → ∃ v, σ[i]? = some (some v) ∧ AV K H M v w
  | _, _, _, .nil, e => by simp at e
  | _, _, 0, .cons r _, e => by
    simp at e
    obtain ⟨v, h1, h2⟩ := r w e
    exact ⟨v, by rw [h1]; rfl, h2⟩
  | _, _, i + 1, .cons _ t, e => by
    obtain ⟨v, h1, h2⟩ := AS.get (i := i) t (by simpa using e)
    exact ⟨v, by simpa using h1, h2⟩
theorem AS.set {v : V} {w : W} (r : AV K H M v w) : ∀ {σ : SV} {τ : S3} (i : Nat), AS K H M σ τ → AS K H M (σ.set i (some v)) (τ.set i (some w))
  | _, _, _, .nil => .nil
  | _, _, 0, .cons _ t => .cons (fun x e => ⟨v, rfl, by cases e; exact r⟩) t
  | _, _, i + 1, .cons q t => .cons q (AS.set r i t)
theorem AS.nones : ∀ n : Nat, AS K H M (List.replicate n none) (List.replicate n none)
  | 0 => .nil
  | n + 1 => .cons (fun _ e => nomatch e) (AS.nones n)
theorem AS.start {vs : List V} {ws : List W} (h : AVs K H M vs ws) (n : Nat) : AS K H M (vs.map some ++ List.replicate n none) (ws.map some ++ List.replicate n none) := by
  induction vs generalizing ws with
  | nil => cases h; exact AS.nones n
  | cons v vs ih =>
    cases h with
    | cons x r => exact .cons (fun w e => ⟨v, rfl, by cases e; exact x⟩) (ih r)
end
def Up (K : PySem.W.Frag) (H : Hp) (M : Mm) (R : K3) (Q : VK) : Prop := ∀ v H' w M', Kp H M H' M' → AM K H' M' → AV K H' M' v w → R w M' → Q v H'
def up (K : PySem.W.Frag) (t : TE3) : TE := fun σ H Q => ∃ τ M R, AS K H M σ τ ∧ AM K H M ∧ t τ M R ∧ Up K H M R Q
def upT (K : PySem.W.Frag) (t : TT3) : TT := fun σ H Q => ∃ (τ : S3) (M : Mm) (R : Bool → Mm → Prop), AS K H M σ τ ∧ AM K H M ∧ t τ M R ∧ ∀ b H' M', Kp H M H' M' → AM K H' M' → R b M' → Q b H'
def upA (K : PySem.W.Frag) (t : TA3) : TA := fun σ H Q => ∃ (τ : S3) (M : Mm) (R : List W → Mm → Prop), AS K H M σ τ ∧ AM K H M ∧ t τ M R ∧ ∀ vs H' ws M', Kp H M H' M' → AM K H' M' → AVs K H' M' vs ws → R ws M' → Q vs H'
def UpS (K : PySem.W.Frag) (H : Hp) (M : Mm) (R : S3 → Mm → Prop) (Q : SV → Hp → Prop) : Prop := ∀ σ' H' τ' M', Kp H M H' M' → AM K H' M' → AS K H' M' σ' τ' → R τ' M' → Q σ' H'
structure UpD (K : PySem.W.Frag) (H : Hp) (M : Mm) (D : D3) (E : Ends) : Prop where
  nx : UpS K H M D.nx E.nx
  rt : Up K H M D.rt E.rt
  bk : UpS K H M D.bk E.bk
  ct : UpS K H M D.ct E.ct
def upS (K : PySem.W.Frag) (t : TS3) : TS := fun E σ H => ∃ τ M D, AS K H M σ τ ∧ AM K H M ∧ t D τ M ∧ UpD K H M D E
section
variable {K : PySem.W.Frag} {H H1 : Hp} {M M1 : Mm}
theorem Up.kp {R : K3} {Q : VK} (h : Up K H M R Q) (k : Kp H M H1 M1) : Up K H1 M1 R Q := fun v H' w M' k' am av r => h v H' w M' (k.trans k') am av r
theorem UpS.kp {R : S3 → Mm → Prop} {Q : SV → Hp → Prop} (h : UpS K H M R Q) (k : Kp H M H1 M1) : UpS K H1 M1 R Q := fun v H' w M' k' am av r => h v H' w M' (k.trans k') am av r
theorem UpD.kp {D : D3} {E : Ends} (h : UpD K H M D E) (k : Kp H M H1 M1) : UpD K H1 M1 D E := ⟨h.nx.kp k, h.rt.kp k, h.bk.kp k, h.ct.kp k⟩
theorem Up.at {R : K3} {Q : VK} (h : Up K H M R Q) (am : AM K H M) {v : V} {w : W} (av : AV K H M v w) (r : R w M) : Q v H := h v H w M (Kp.refl am) am av r
end
def frz : W → Mm → K3 → Prop
  | .ref p, M, R => (∃ ws, M p = some (.lst ws) ∧ R (.rl ws) (del M p)) ∨ (∃ kvs, M p = some (.dK kvs) ∧ R (.dk kvs) (del M p)) ∨ (∃ kvs, M p = some (.dT kvs) ∧ R (.dt kvs) (del M p)) ∨ R (.ref p) M
  | w, M, R => R w M
theorem Up.frz {K : PySem.W.Frag} {H : Hp} {M : Mm} {R : K3} {Q : VK} (h : Up K H M R Q) : Up K H M (fun w M' => frz w M' R) Q := fun v H' w M' k am av r => by
  have av' := av
  cases av <;> first | exact h _ _ _ _ k am av' r | skip
  case ref p =>
    rcases r with ⟨ws, e, r⟩ | ⟨kvs, e, r⟩ | ⟨kvs, e, r⟩ | r
    · obtain ⟨vs, f, q⟩ := am.lst e
      exact h _ _ _ _ (k.sub Sub.del) (am.sub Sub.del) (.rl f del_same (q.sub Sub.del)) r
    · obtain ⟨ks, f, q⟩ := am _ _ e
      exact h _ _ _ _ (k.sub Sub.del) (am.sub Sub.del) (.dk f del_same q.keys (q.vals.sub Sub.del)) r
    · obtain ⟨ks, f, q⟩ := am _ _ e
      exact h _ _ _ _ (k.sub Sub.del) (am.sub Sub.del) (.dt f del_same q.keys (q.vals.sub Sub.del)) r
    · exact h _ _ _ _ k am (.ref p) r
theorem frz_new {M : Mm} {p : Addr} {ws : List W} {R : K3} (hp : M p = none) (r : R (.rl ws) M) : frz (.ref p) (put M p (.lst ws)) R := .inl ⟨ws, put_same, by rw [del_put hp]; exact r⟩
def New (ws : List W) (M : Mm) (R : K3) : Prop := ∀ p, M p = none → R (.ref p) (put M p (.lst ws))
def NewK (kvs : List (Key × W)) (M : Mm) (R : K3) : Prop := ∀ p, M p = none → R (.ref p) (put M p (.dK kvs))
def NewT (kvs : List (List Key × W)) (M : Mm) (R : K3) : Prop := ∀ p, M p = none → R (.ref p) (put M p (.dT kvs))
theorem New.frz {M : Mm} {ws : List W} {R : K3} (r : R (.rl ws) M) : New ws M fun w M' => L3.frz w M' R := fun p hp => frz_new hp r
def vFrz (t : TE3) : TE3 := fun τ M R => t τ M fun w M' => frz w M' R
end L3
namespace L2
section
variable {X : Cx}
theorem PE.weak {e : PySem.Expr} {t t' : TE} (h : PE X e t) (k : ∀ σ H Q, t' σ H Q → t σ H Q) : PE X e t' := fun pins s σ H Q I q => h pins s σ H Q I (k σ H Q q)
theorem PT.weak {e : PySem.Expr} {t t' : TT} (h : PT X e t) (k : ∀ σ H Q, t' σ H Q → t σ H Q) : PT X e t' := fun pins s σ H Q I q => h pins s σ H Q I (k σ H Q q)
theorem PW.weak {e : PySem.Expr} {t t' : TT} (h : PW X e t) (k : ∀ σ H Q, t' σ H Q → t σ H Q) : PW X e t' := fun wh pins s σ H Q I q => h wh pins s σ H Q I (k σ H Q q)
theorem PA.weak {es : List PySem.Expr} {t t' : TA} (h : PA X es t) (k : ∀ σ H Q, t' σ H Q → t σ H Q) : PA X es t' := fun pos pins s σ H Q I q => h pos pins s σ H Q I (k σ H Q q)
theorem PS.weak {st : PySem.Stmt} {t t' : TS} (h : PS X st t) (k : ∀ D σ H, t' D σ H → t D σ H) : PS X st t' := fun pins s σ H D I q => h pins s σ H D I (k D σ H q)
theorem PSs.weak {st : List PySem.Stmt} {t t' : TS} (h : PSs X st t) (k : ∀ D σ H, t' D σ H → t D σ H) : PSs X st t' := fun pins s σ H D I q => h pins s σ H D I (k D σ H q)
theorem PO.weak {e : Option PySem.Expr} {t t' : TO} (h : PO X e t) (k : ∀ σ H Q, t' σ H Q → t σ H Q) : PO X e t' := fun pins s σ H Q I q => h pins s σ H Q I (k σ H Q q)
theorem PIfs.weak {es : List PySem.Expr} {t t' : TT} (h : PIfs X es t) (k : ∀ σ H Q, t' σ H Q → t σ H Q) : PIfs X es t' := fun pins s σ H Q I q => h pins s σ H Q I (k σ H Q q)
end
end L2
set_option Elab.async false
set_option linter.all false
set_option maxRecDepth 100000
set_option maxHeartbeats 4000000
namespace L3
open PySem PySem.Spec PyProof.Rows L2
abbrev E3 (X : Cx) (e : Expr) (t : TE3) : Prop := PE X e (up X.K t)
abbrev T3 (X : Cx) (e : Expr) (t : TT3) : Prop := PT X e (upT X.K t)
abbrev W3 (X : Cx) (e : Expr) (t : TT3) : Prop := PW X e (upT X.K t)
abbrev A3 (X : Cx) (es : List Expr) (t : TA3) : Prop := PA X es (upA X.K t)
def upO (K : PySem.W.Frag) (r : R3) : R2 := fun x y H Q => ∃ wx wy M R, AM K H M ∧ AV K H M x wx ∧ AV K H M y wy ∧ r wx wy M R ∧ Up K H M R Q
def upU (K : PySem.W.Frag) (r : W → Mm → K3 → Prop) : V → Hp → VK → Prop := fun x H Q => ∃ wx M R, AM K H M ∧ AV K H M x wx ∧ r wx M R ∧ Up K H M R Q
def upC (K : PySem.W.Frag) (r : List W → Mm → K3 → Prop) : List V → Hp → VK → Prop := fun xs H Q => ∃ ws M R, AM K H M ∧ AVs K H M xs ws ∧ r ws M R ∧ Up K H M R Q
def upM (K : PySem.W.Frag) (r : W → List W → Mm → K3 → Prop) : V → List V → Hp → VK → Prop := fun x xs H Q => ∃ wx ws M R, AM K H M ∧ AV K H M x wx ∧ AVs K H M xs ws ∧ r wx ws M R ∧ Up K H M R Q
section
variable {X : Cx} {a b c : Expr} {ta tb tc : TE3} {pos : Pos}
def vVar (i : Nat) : TE3 := fun τ M R => ∃ w, τ[i]? = some (some w) ∧ R w M
def vC (w : W) : TE3 := fun _ M R => R w M
theorem v (i : Nat) {x : Str} {pos : Pos} (hN : X.N[i]? = some x := by rfl) (hv : Vis X.env.scope x := by first | exact Or.inl rfl | exact Or.inr (Or.inl rfl) | exact Or.inr (Or.inr rfl)) (hd : (x == ("__debug__" : Str)) = false := by decide)
    (hcd : (x == ("__classdict__" : Str)) = false := by decide) : E3 X (.Name x pos) (vVar i) := (pe_var hN hv hd hcd).weak fun σ H Q ⟨τ, M, R, as, am, ⟨w, e, r⟩, k⟩ => by
  obtain ⟨v, e1, av⟩ := as.get e
  exact ⟨v, e1, k.at am av r⟩
theorem v_int {i j pos} : E3 X (.Constant (.int i) j pos) (vC (.int i)) := pe_int.weak fun σ H Q ⟨τ, M, R, as, am, r, k⟩ => k.at am (.int i) r
theorem v_bl {b j pos} : E3 X (.Constant (.bool b) j pos) (vC (.bl b)) := pe_bl.weak fun σ H Q ⟨τ, M, R, as, am, r, k⟩ => k.at am (.bl b) r
theorem v_str {x j pos} : E3 X (.Constant (.str x) j pos) (vC (.str x)) := pe_str.weak fun σ H Q ⟨τ, M, R, as, am, r, k⟩ => k.at am (.str x) r
theorem v_glob {x : Str} {y : V} {w : W} {u : Value} {pos : Pos} (hg : Gl X x) (hm : X.mg x = some u) (r : RelV y u) (hw : ∀ H M, AV X.K H M y w) (hd : (x == ("__debug__" : Str)) = false := by decide) : E3 X (.Name x pos) (vC w) :=
  (pe_glob hg hm r hd).weak fun σ H Q ⟨τ, M, R, as, am, r, k⟩ => k.at am (hw H M) r
theorem v_bltn {x : Str} {y : V} {w : W} {u : Value} {pos : Pos} (hg : Gl X x) (hm : X.mg x = none) (hv : bootBuiltins x = some u) (r : RelV y u) (hw : ∀ H M, AV X.K H M y w) (hn : x ≠ "__name__" := by decide) (hd : (x == ("__debug__" : Str)) = false := by decide) : E3 X (.Name x pos) (vC w) :=
  (pe_bltn hg hm hv r hn hd).weak fun σ H Q ⟨τ, M, R, as, am, r, k⟩ => k.at am (hw H M) r
theorem v_frz (ha : E3 X a ta) : E3 X a (vFrz ta) := ha.weak fun σ H Q ⟨τ, M, R, as, am, h, k⟩ => ⟨τ, M, _, as, am, h, k.frz⟩
def vOp (r : R3) (ta tb : TE3) : TE3 := fun τ M R => ta τ M fun x M1 => tb τ M1 fun y M2 => r x y M2 R
theorem vOp_up {K : PySem.W.Frag} {r : R3} {σ : SV} {H : Hp} {Q : VK} (h : up K (vOp r ta tb) σ H Q) : tOp (upO K r) (up K ta) (up K tb) σ H Q := by
  obtain ⟨τ, M, R, as, am, h, k⟩ := h
  refine ⟨τ, M, _, as, am, h, fun x H1 wx M1 k1 am1 ax h1 => ⟨τ, M1, _, as.kp am k1, am1, h1, fun y H2 wy M2 k2 am2 ay h2 => ?_⟩⟩
  exact ⟨wx, wy, M2, R, am2, ax.kp am1 k2, ay, h2, (k.kp k1).kp k2⟩
theorem v_op {op : Operator} {r : R3} (ho : OpR X (binaryOp op) (upO X.K r)) (ha : E3 X a ta) (hb : E3 X b tb) : E3 X (.BinOp a op b pos) (vOp r ta tb) := (pe_op ho ha hb).weak fun _ _ _ h => vOp_up h
theorem v_cmp {op : CmpOp} {r : R3} (ho : OpR X (compareOp op) (upO X.K r)) (ha : E3 X a ta) (hb : E3 X b tb) (hm : behindInMarks op b = false) : E3 X (.Compare a [op] [b] pos) (vOp r ta tb) := (pe_cmpR ho ha hb hm).weak fun _ _ _ h => vOp_up h
def vTest (t : TE3) : TT3 := fun τ M Q => t τ M fun w M' => ∃ k, w = .bl k ∧ Q k M'
theorem AV.bl_inv {K : PySem.W.Frag} {H : Hp} {M : Mm} {v : V} {k : Bool} (h : AV K H M v (.bl k)) : v = .bl k := by cases h; rfl
theorem t_cmp {op : CmpOp} {r : R3} (ho : OpR X (compareOp op) (upO X.K r)) (ha : E3 X a ta) (hb : E3 X b tb) (hm : behindInMarks op b = false) : T3 X (.Compare a [op] [b] pos) (vTest (vOp r ta tb)) :=
  (pt_cmpR ho ha hb hm).weak fun σ H Q ⟨τ, M, R, as, am, h, k⟩ => vOp_up ⟨τ, M, _, as, am, h, fun v H' w M' k' am' av ⟨c, e, r⟩ => by
    subst e
    exact ⟨c, av.bl_inv, k c H' M' k' am' r⟩⟩
def vUn (r : W → Mm → K3 → Prop) (ta : TE3) : TE3 := fun τ M R => ta τ M fun x M1 => r x M1 R
theorem v_un {op : UnaryOp} {r : W → Mm → K3 → Prop} (ho : UnR X (unaryOp op) (upU X.K r)) (ha : E3 X a ta) : E3 X (.UnaryOp op a pos) (vUn r ta) :=
  (pe_un ho ha).weak fun σ H Q ⟨τ, M, R, as, am, h, k⟩ => ⟨τ, M, _, as, am, h, fun x H1 wx M1 k1 am1 ax h1 => ⟨wx, M1, R, am1, ax, h1, k.kp k1⟩⟩
def vTru : W → Mm → (Bool → Mm → Prop) → Prop
  | .non, M, Q => Q false M
  | .bl b, M, Q => Q b M
  | .int i, M, Q => Q (i != 0) M
  | .str y, M, Q => y.length ≤ sizeLine ∧ Q ((y.length : Int) != 0) M
  | .tup ws, M, Q => Q (!ws.isEmpty) M
  | .rl ws, M, Q => Q (!ws.isEmpty) M
  | .sc ws, M, Q => Q (!ws.isEmpty) M
  | .dk kvs, M, Q => Q (!kvs.isEmpty) M
  | .ref p, M, Q => (∃ ws, M p = some (.lst ws) ∧ Q (!ws.isEmpty) M) ∨ ∃ kvs, M p = some (.dK kvs) ∧ Q (!kvs.isEmpty) M
  | _, _, _ => False
def vTruth (t : TE3) : TT3 := fun τ M Q => t τ M fun w M' => vTru w M' Q
theorem AVs.empty {K : PySem.W.Frag} {H : Hp} {M : Mm} {vs : List V} {ws : List W} (h : AVs K H M vs ws) : (!ws.isEmpty) = !vs.isEmpty := by cases h <;> rfl
theorem t_val (ha : E3 X a ta) (he : ∀ whole, isTrue a X.env whole = (do let v ← whole; standAt a.pos; holding [v] (truthy v)) := by intro _; rfl) : T3 X a (vTruth ta) :=
  (pt_truth ha he).weak fun σ H Q ⟨τ, M, R, as, am, h, k⟩ => ⟨τ, M, _, as, am, h, fun v H' w M' k' am' av r => by
    cases av with
    | non => exact ⟨false, rfl, k _ _ _ k' am' r⟩
    | bl b => exact ⟨b, rfl, k _ _ _ k' am' r⟩
    | int i => exact ⟨_, rfl, k _ _ _ k' am' r⟩
    | str y => exact ⟨_, ⟨r.1, rfl⟩, k _ _ _ k' am' r.2⟩
    | ty n => exact (show False from r).elim
    | tup e q => exact ⟨_, .inr (.inl ⟨_, SqT.of e, q.empty⟩), k _ _ _ k' am' r⟩
    | rl e n q => exact ⟨_, .inl ⟨_, SqL.of e, q.empty⟩, k _ _ _ k' am' r⟩
    | sc e q => exact ⟨_, .inl ⟨_, e.sq, q.empty⟩, k _ _ _ k' am' r⟩
    | @dk a ks kvs e n ke q => exact ⟨!kvs.isEmpty, .inr (.inr ⟨_, e, by have := pkv_of ke q; cases this <;> rfl⟩), k _ _ _ k' am' r⟩
    | dt e n ke q => exact (show False from r).elim
    | ref p =>
      rcases r with ⟨ws, e, r⟩ | ⟨kvs, e, r⟩
      · obtain ⟨vs, e1, q⟩ := am'.lst e
        exact ⟨_, .inl ⟨_, SqL.of e1, q.empty⟩, k _ _ _ k' am' r⟩
      · obtain ⟨ks, e1, q⟩ := am' _ _ e
        exact ⟨!kvs.isEmpty, .inr (.inr ⟨_, e1, by cases q <;> rfl⟩), k _ _ _ k' am' r⟩⟩
def vAnd (t u : TT3) : TT3 := fun τ M Q => t τ M fun c M1 => if c = true then u τ M1 Q else Q false M1
def vOr (t u : TT3) : TT3 := fun τ M Q => t τ M fun c M1 => if c = true then Q true M1 else u τ M1 Q
def vNot (t : TT3) : TT3 := fun τ M Q => t τ M fun c M1 => Q (!c) M1
variable {tA tB' : TT3} {rest : List Expr}
theorem t_and1 (ha : T3 X a tA) : W3 X (.BoolOp .And [a] pos) tA := pw_and1 ha
theorem t_or1 (ha : T3 X a tA) : W3 X (.BoolOp .Or [a] pos) tA := pw_or1 ha
theorem t_and (ha : T3 X a tA) (hb : W3 X (.BoolOp .And (b :: rest) pos) tB') : W3 X (.BoolOp .And (a :: b :: rest) pos) (vAnd tA tB') :=
  (pw_and ha hb).weak fun σ H Q ⟨τ, M, R, as, am, h, k⟩ => ⟨τ, M, _, as, am, h, fun c H1 M1 k1 am1 h1 => by
    cases c with
    | true => exact ⟨τ, M1, R, as.kp am k1, am1, h1, fun b H' M' k' am' r => k b H' M' (k1.trans k') am' r⟩
    | false => exact k false H1 M1 k1 am1 h1⟩
theorem t_or (ha : T3 X a tA) (hb : W3 X (.BoolOp .Or (b :: rest) pos) tB') : W3 X (.BoolOp .Or (a :: b :: rest) pos) (vOr tA tB') :=
  (pw_or ha hb).weak fun σ H Q ⟨τ, M, R, as, am, h, k⟩ => ⟨τ, M, _, as, am, h, fun c H1 M1 k1 am1 h1 => by
    cases c with
    | true => exact k true H1 M1 k1 am1 h1
    | false => exact ⟨τ, M1, R, as.kp am k1, am1, h1, fun b H' M' k' am' r => k b H' M' (k1.trans k') am' r⟩⟩
theorem t_not (ha : T3 X a tA) : T3 X (.UnaryOp .Not a pos) (vNot tA) :=
  (pt_not ha).weak fun σ H Q ⟨τ, M, R, as, am, h, k⟩ => ⟨τ, M, _, as, am, h, fun c H1 M1 k1 am1 h1 => k (!c) H1 M1 k1 am1 h1⟩
def vAndV (ta tb : TE3) : TE3 := fun τ M R => ta τ M fun x M1 => ∃ c, x = .bl c ∧ if c = true then tb τ M1 R else R (.bl false) M1
def vOrV (ta tb : TE3) : TE3 := fun τ M R => ta τ M fun x M1 => ∃ c, x = .bl c ∧ if c = true then R (.bl true) M1 else tb τ M1 R
def vNotV (ta : TE3) : TE3 := fun τ M R => ta τ M fun x M1 => ∃ c, x = .bl c ∧ R (.bl (!c)) M1
theorem v_one {op} (h : E3 X a ta) : E3 X (.BoolOp op [a] pos) ta := pe_one h
theorem v_and (ha : E3 X a ta) (hb : E3 X (.BoolOp .And (b :: rest) pos) tb) : E3 X (.BoolOp .And (a :: b :: rest) pos) (vAndV ta tb) :=
  (pe_and ha hb).weak fun σ H Q ⟨τ, M, R, as, am, h, k⟩ => ⟨τ, M, _, as, am, h, fun x H1 wx M1 k1 am1 ax ⟨c, e, h1⟩ => by
    subst e
    refine ⟨c, ax.bl_inv, ?_⟩
    cases c with
    | true => exact ⟨τ, M1, R, as.kp am k1, am1, h1, k.kp k1⟩
    | false => exact (k.kp k1).at am1 (.bl false) h1⟩
theorem v_or (ha : E3 X a ta) (hb : E3 X (.BoolOp .Or (b :: rest) pos) tb) : E3 X (.BoolOp .Or (a :: b :: rest) pos) (vOrV ta tb) :=
  (pe_or ha hb).weak fun σ H Q ⟨τ, M, R, as, am, h, k⟩ => ⟨τ, M, _, as, am, h, fun x H1 wx M1 k1 am1 ax ⟨c, e, h1⟩ => by
    subst e
    refine ⟨c, ax.bl_inv, ?_⟩
    cases c with
    | true => exact (k.kp k1).at am1 (.bl true) h1
    | false => exact ⟨τ, M1, R, as.kp am k1, am1, h1, k.kp k1⟩⟩
def vIf (t : TT3) (ta tb : TE3) : TE3 := fun τ M R => t τ M fun c M1 => if c = true then ta τ M1 R else tb τ M1 R
theorem v_if {c : Expr} (hc : T3 X c tA) (ha : E3 X a ta) (hb : E3 X b tb) : E3 X (.IfExp c a b pos) (vIf tA ta tb) :=
  (pe_ifExp hc ha hb).weak fun σ H Q ⟨τ, M, R, as, am, h, k⟩ => ⟨τ, M, _, as, am, h, fun c H1 M1 k1 am1 h1 => by
    cases c with
    | true => exact ⟨τ, M1, R, as.kp am k1, am1, h1, k.kp k1⟩
    | false => exact ⟨τ, M1, R, as.kp am k1, am1, h1, k.kp k1⟩⟩
def aNil : TA3 := fun _ M R => R [] M
def aCons (ta : TE3) (tr : TA3) : TA3 := fun τ M R => ta τ M fun x M1 => tr τ M1 fun xs M2 => R (x :: xs) M2
variable {e : Expr} {es : List Expr} {te : TE3} {t : TA3}
theorem a_nil : A3 X [] aNil := pa_nil.weak fun σ H Q ⟨τ, M, R, as, am, h, k⟩ => k [] H [] M (Kp.refl am) am .nil h
theorem a_cons (ha : E3 X e te) (hr : A3 X es t) (hs : starEach (e :: es) X.env = (false, eval e X.env) :: starEach es X.env := by rfl) : A3 X (e :: es) (aCons te t) :=
  (pa_cons ha hr hs).weak fun σ H Q ⟨τ, M, R, as, am, h, k⟩ => ⟨τ, M, _, as, am, h, fun x H1 wx M1 k1 am1 ax h1 => ⟨τ, M1, _, as.kp am k1, am1, h1, fun xs H2 ws M2 k2 am2 axs h2 =>
    k (x :: xs) H2 (wx :: ws) M2 (k1.trans k2) am2 (.cons (ax.kp am1 k2) axs) h2⟩⟩
def vTup (t : TA3) : TE3 := fun τ M R => t τ M fun ws M1 => ws.length ≤ sizeLine ∧ R (.tup ws) M1
def vLst (t : TA3) : TE3 := fun τ M R => t τ M fun ws M1 => ws.length ≤ sizeLine ∧ New ws M1 R
theorem laidT {K : PySem.W.Frag} {H : Hp} {M : Mm} {R : K3} {Q : VK} {p : Addr} {xs : List V} {ws : List W} (am : AM K H M) (k : Up K H M R Q) (hp : H p = none) (ax : AVs K H M xs ws) (r : R (.tup ws) M) : Q (.ref p) (upd H p (.tup xs)) := by
  obtain ⟨am2, k2⟩ := am.tup (u := .tup xs) hp
  exact k _ _ _ _ k2 am2 (.tup upd_same (ax.newT hp)) r
theorem laidL {K : PySem.W.Frag} {H : Hp} {M : Mm} {R : K3} {Q : VK} {p : Addr} {xs : List V} {ws : List W} (am : AM K H M) (k : Up K H M R Q) (hp : H p = none) (ax : AVs K H M xs ws) (r : ∀ p, M p = none → R (.ref p) (put M p (.lst ws))) : Q (.ref p) (upd H p (.lst xs)) := by
  obtain ⟨am2, k2⟩ := am.laid (o := .lst ws) (u := .lst xs) hp ⟨xs, upd_same, ax.newL hp⟩
  exact k _ _ _ _ k2 am2 (.ref p) (r p (am.nonM hp))
theorem wroteL {K : PySem.W.Frag} {H : Hp} {M : Mm} {R : K3} {Q : VK} {l : Addr} {xs : List V} {ws ws0 : List W} {y : V} {w : W} (am : AM K H M) (k : Up K H M R Q) (hl : M l = some (.lst ws0)) (ax : AVs K H M xs ws) (ay : AV K H M y w) (r : R w (put M l (.lst ws))) : Q y (upd H l (.lst xs)) := by
  obtain ⟨am2, k2⟩ := am.write (o := .lst ws) (u := .lst xs) hl ⟨xs, upd_same, ax.wr am hl⟩
  exact k _ _ _ _ k2 am2 (ay.wr am hl) r
theorem v_tup {x1} (h : A3 X es t) : E3 X (.Tuple es x1 pos) (vTup t) :=
  (pe_tup h).weak fun σ H Q ⟨τ, M, R, as, am, h, k⟩ => ⟨τ, M, _, as, am, h, fun xs H1 ws M1 k1 am1 axs ⟨hl, r⟩ => ⟨by rw [axs.length]; exact hl, fun p hp => laidT am1 (k.kp k1) hp axs r⟩⟩
theorem v_lst (h : A3 X es t) : E3 X (.List es pos) (vLst t) :=
  (pe_lst h).weak fun σ H Q ⟨τ, M, R, as, am, h, k⟩ => ⟨τ, M, _, as, am, h, fun xs H1 ws M1 k1 am1 axs ⟨hl, r⟩ => ⟨by rw [axs.length]; exact hl, fun p hp => laidL am1 (k.kp k1) hp axs r⟩⟩
def vCB (r : List W → Mm → K3 → Prop) (t : TA3) : TE3 := fun τ M R => t τ M fun ws M1 => r ws M1 R
variable {x : Str} {p : Pos} {id T : String} {r : List W → Mm → K3 → Prop}
theorem vCB_up {K : PySem.W.Frag} {σ : SV} {H : Hp} {Q : VK} (h : up K (vCB r t) σ H Q) : tCB (upC K r) (upA K t) σ H Q := by
  obtain ⟨τ, M, R, as, am, h, k⟩ := h
  exact ⟨τ, M, _, as, am, h, fun xs H1 ws M1 k1 am1 axs h1 => ⟨ws, M1, R, am1, axs, h1, k.kp k1⟩⟩
theorem v_callB (hc : CallR X (.builtin id) (upC X.K r)) (hg : Gl X x) (hm : X.mg x = none) (hv : bootBuiltins x = some (.builtin id)) (ha : A3 X (e :: es) t) (hn : x ≠ "__name__" := by decide) (hdb : (x == ("__debug__" : Str)) = false := by decide)
    (hs : starEach (e :: es) X.env = (false, eval e X.env) :: starEach es X.env := by rfl) (hpl : (backTo pos (starEach es X.env)).any (·.1) = false := by rfl) : E3 X (.Call (.Name x p) (e :: es) [] pos) (vCB r t) := (pe_callB hc hg hm hv ha hn hdb hs hpl).weak fun _ _ _ h => vCB_up h
theorem v_callTy (hc : CallR X (.type T) (upC X.K r)) (hg : Gl X x) (hm : X.mg x = none) (hv : bootBuiltins x = some (.type T)) (ha : A3 X (e :: es) t) (hn : x ≠ "__name__" := by decide) (hdb : (x == ("__debug__" : Str)) = false := by decide)
    (hs : starEach (e :: es) X.env = (false, eval e X.env) :: starEach es X.env := by rfl) (hpl : (backTo pos (starEach es X.env)).any (·.1) = false := by rfl) : E3 X (.Call (.Name x p) (e :: es) [] pos) (vCB r t) := (pe_callTy hc hg hm hv ha hn hdb hs hpl).weak fun _ _ _ h => vCB_up h
abbrev Sp3 := List W → Mm → K3 → Prop
def upSp (K : PySem.W.Frag) (sp : Sp3) : Sp := fun vs H Q _ => ∃ ws M R, AM K H M ∧ AVs K H M vs ws ∧ sp ws M R ∧ Up K H M R Q
variable {k : Nat} {f : Addr} {fd : FuncData} {ps : List Str} {sp : Sp3}
def vCall (sp : Sp3) (t : TA3) : TE3 := fun τ M R => t τ M fun ws M1 => sp ws M1 R
theorem vCall_up {K : PySem.W.Frag} {σ : SV} {H : Hp} {Q : VK} (h : up K (vCall sp t) σ H Q) : tCall (upSp K sp) [] E0 (upA K t) σ H Q := by
  obtain ⟨τ, M, R, as, am, h, k⟩ := h
  exact ⟨τ, M, _, as, am, h, fun xs H1 ws M1 k1 am1 axs h1 => ⟨ws, M1, R, am1, by rw [List.append_nil]; exact axs, h1, k.kp k1⟩⟩
theorem v_call (F : FnOk X.prog X.w X.K X.mg X.base CX0 k f fd ps (upSp X.K sp)) (hr : Room k X.A) (hg : Gl X x) (hm : X.mg x = some (.ref f)) (hk : PySem.W.keepIn X.K (.ref f) = true) (hb : Binds X.K fd ps [])
    (ha : A3 X (e :: es) t) (hdb : (x == ("__debug__" : Str)) = false := by decide) (he : starEach (e :: es) X.env = (false, eval e X.env) :: starEach es X.env := by rfl) (hpl : (backTo pos (starEach es X.env)).any (·.1) = false := by rfl) :
    E3 X (.Call (.Name x p) (e :: es) [] pos) (vCall sp t) := (pe_call F hr hg hm hk hb .nil pass0 ha hdb he hpl).weak fun _ _ _ h => vCall_up h
def tyW (T : String) : W → Mm → Prop
  | .str _, _ => T = "str"
  | .int _, _ => T = "int"
  | .rl _, _ => T = "list"
  | .sc _, _ => T = "list"
  | .dk _, _ => T = "dict"
  | .dt _, _ => T = "dict"
  | .ref p, M => (T = "list" ∧ ∃ ws, M p = some (.lst ws)) ∨ (T = "dict" ∧ ((∃ kvs, M p = some (.dK kvs)) ∨ ∃ kvs, M p = some (.dT kvs)))
  | _, _ => False
theorem tyW_up {K : PySem.W.Frag} {H : Hp} {M : Mm} {v : V} {w : W} (am : AM K H M) (av : AV K H M v w) (h : tyW T w M) : tyV K T v H := by
  cases av with
  | str y => exact h
  | int i => exact h
  | rl e n q => exact .inl ⟨h, _, SqL.of e⟩
  | sc e q => exact .inl ⟨h, _, e.sq⟩
  | dk e n ke q => exact .inr (.inr (.inl ⟨h, .inl ⟨_, e⟩⟩))
  | dt e n ke q => exact .inr (.inr (.inl ⟨h, .inr ⟨_, e⟩⟩))
  | ref p =>
    rcases h with ⟨e, ws, h⟩ | ⟨e, h⟩
    · obtain ⟨vs, e1, _⟩ := am.lst h
      exact .inl ⟨e, vs, SqL.of e1⟩
    · refine .inr (.inr (.inl ⟨e, ?_⟩))
      rcases h with ⟨kvs, h⟩ | ⟨kvs, h⟩
      · obtain ⟨ks, e1, _⟩ := am _ _ h; exact .inl ⟨ks, e1⟩
      · obtain ⟨ks, e1, _⟩ := am _ _ h; exact .inr ⟨ks, e1⟩
  | non => exact h.elim
  | bl b => exact h.elim
  | ty n => exact h.elim
  | tup e q => exact h.elim
variable {o : Expr} {to : TE3} {name : Str} {apos cpos : Pos} {rm : W → List W → Mm → K3 → Prop}
def vBM0 (T : String) (r : W → List W → Mm → K3 → Prop) (to : TE3) : TE3 := fun τ M R => to τ M fun x M1 => tyW T x M1 ∧ r x [] M1 R
def vBM (T : String) (r : W → List W → Mm → K3 → Prop) (to : TE3) (t : TA3) : TE3 := fun τ M R => to τ M fun x M1 => tyW T x M1 ∧ t τ M1 fun xs M2 => r x xs M2 R
theorem v_bm0 (pa : PlainAttrs T) (slot : Slot T name id) (hty : typeOf (.builtin id) = pure (.type "method_descriptor")) (hm : MtR X id (upM X.K rm)) (ho : E3 X o to)
    (hbase : attributeBase o name X.env (eval o X.env) = eval o X.env := by rfl) (hline : (apos.endLine == cpos.line) = true := by rfl) : E3 X (.Call (.Attribute o name apos) [] [] cpos) (vBM0 T rm to) :=
  (pe_bm0 pa slot hty hm ho hbase hline).weak fun σ H Q ⟨τ, M, R, as, am, h, k⟩ => ⟨τ, M, _, as, am, h, fun x H1 wx M1 k1 am1 ax ⟨ty, h1⟩ => ⟨tyW_up am1 ax ty, wx, [], M1, R, am1, ax, .nil, h1, k.kp k1⟩⟩
theorem v_bm (pa : PlainAttrs T) (slot : Slot T name id) (hty : typeOf (.builtin id) = pure (.type "method_descriptor")) (hm : MtR X id (upM X.K rm)) (ho : E3 X o to) (ha : A3 X (e :: es) t)
    (hbase : attributeBase o name X.env (eval o X.env) = eval o X.env := by rfl)
    (hfew : ((backTo cpos (starEach (e :: es) X.env)).all (fun x => !x.1) && (backToKw cpos (keywordEach [] X.env)).all (fun x => x.1.isSome)
      && decide ((e :: es).length + ([] : List Keyword).length + (if ([] : List Keyword).isEmpty then 0 else 1) < 30)) = true := by rfl)
    (hline : (apos.endLine == cpos.line) = true := by rfl) (hs : starEach (e :: es) X.env = (false, eval e X.env) :: starEach es X.env := by rfl) (hplain : (backTo cpos (starEach es X.env)).any (·.1) = false := by rfl) :
    E3 X (.Call (.Attribute o name apos) (e :: es) [] cpos) (vBM T rm to t) :=
  (pe_bm pa slot hty hm ho ha hbase hfew hline hs hplain).weak fun σ H Q ⟨τ, M, R, as, am, h, k⟩ => ⟨τ, M, _, as, am, h, fun x H1 wx M1 k1 am1 ax ⟨ty, h1⟩ => ⟨tyW_up am1 ax ty, τ, M1, _, as.kp am k1, am1, h1, fun xs H2 ws M2 k2 am2 axs h2 =>
    ⟨wx, ws, M2, R, am2, ax.kp am1 k2, axs, h2, (k.kp k1).kp k2⟩⟩⟩
end
end L3
set_option Elab.async false
set_option linter.all false
set_option maxRecDepth 100000
set_option maxHeartbeats 4000000
namespace L3
open PySem PySem.Spec PyProof.Rows L2
section
variable {X : Cx}
def rAdd : R3
  | .int i, .int j, M, R => R (.int (i + j)) M
  | .str i, .str j, M, R => i.length + j.length ≤ sizeLine ∧ R (.str (i ++ j)) M
  | .tup xs, .tup ys, M, R => xs ≠ [] ∧ xs.length + ys.length ≤ sizeLine ∧ R (.tup (xs ++ ys)) M
  | .ref a, .ref b, M, R => ∃ xs ys, M a = some (.lst xs) ∧ M b = some (.lst ys) ∧ xs.length + ys.length ≤ sizeLine ∧ New (xs ++ ys) M R
  | .rl xs, .ref b, M, R => ∃ ys, M b = some (.lst ys) ∧ xs.length + ys.length ≤ sizeLine ∧ New (xs ++ ys) M R
  | .ref a, .rl ys, M, R => ∃ xs, M a = some (.lst xs) ∧ xs.length + ys.length ≤ sizeLine ∧ New (xs ++ ys) M R
  | .rl xs, .rl ys, M, R => xs.length + ys.length ≤ sizeLine ∧ New (xs ++ ys) M R
  | _, _, _, _ => False
theorem o_add : OpR X (binaryOp .Add) (upO X.K rAdd) := by
  rintro pins s σ H x y v u Q I rx ry ⟨wx, wy, M, R, am, ax, ay, h, k⟩
  cases ax <;> cases ay <;> first | exact (show False from h).elim | skip
  case int.int i j => exact op_add pins s σ H _ _ v u Q I rx ry ⟨i, j, rfl, rfl, k.at am (.int _) h⟩
  case str.str i j => exact op_add_str pins s σ H _ _ v u Q I rx ry ⟨i, j, rfl, rfl, h.1, k.at am (.str _) h.2⟩
  case tup.tup a xs ws e q b ys zs e2 q2 =>
    refine op_catT pins s σ H _ _ v u Q I rx ry ⟨a, b, xs, ys, rfl, rfl, SqT.of e, SqT.of e2, fun z => ?_, by rw [q.length, q2.length]; exact h.2.1, fun z => ?_, fun _ p hp => ?_⟩
    · subst z; cases q; exact h.1 rfl
    · subst z; cases q2
      have := h.2.2
      rw [List.append_nil] at this
      exact k.at am (.tup e q) this
    · exact laidT am k hp (q.append q2) h.2.2
  case ref.ref a b =>
    obtain ⟨xs, ys, e1, e2, hl, r⟩ := h
    obtain ⟨vs, f1, q1⟩ := am.lst e1
    obtain ⟨us, f2, q2⟩ := am.lst e2
    exact op_cat pins s σ H _ _ v u Q I rx ry ⟨a, b, vs, us, rfl, rfl, f1, f2, by rw [q1.length, q2.length]; exact hl, fun p hp => laidL am k hp (q1.append q2) r⟩
  case rl.ref a vs xs f1 _ q1 b =>
    obtain ⟨ys, e2, hl, r⟩ := h
    obtain ⟨us, f2, q2⟩ := am.lst e2
    exact op_cat pins s σ H _ _ v u Q I rx ry ⟨a, b, vs, us, rfl, rfl, f1, f2, by rw [q1.length, q2.length]; exact hl, fun p hp => laidL am k hp (q1.append q2) r⟩
  case ref.rl a b us ys f2 _ q2 =>
    obtain ⟨xs, e1, hl, r⟩ := h
    obtain ⟨vs, f1, q1⟩ := am.lst e1
    exact op_cat pins s σ H _ _ v u Q I rx ry ⟨a, b, vs, us, rfl, rfl, f1, f2, by rw [q1.length, q2.length]; exact hl, fun p hp => laidL am k hp (q1.append q2) r⟩
  case rl.rl a vs xs f1 _ q1 b us ys f2 _ q2 =>
    exact op_cat pins s σ H _ _ v u Q I rx ry ⟨a, b, vs, us, rfl, rfl, f1, f2, by rw [q1.length, q2.length]; exact h.1, fun p hp => laidL am k hp (q1.append q2) h.2⟩
def rII (C : Int → Int → Prop) (g : Int → Int → W) : R3
  | .int i, .int j, M, R => C i j ∧ R (g i j) M
  | _, _, _, _ => False
theorem o_II {f : Value → Value → Sem Value} {C : Int → Int → Prop} {g : Int → Int → V} {g' : Int → Int → W} (h0 : OpR X f (rI C g)) (hg : ∀ H M i j, AV X.K H M (g i j) (g' i j)) : OpR X f (upO X.K (rII C g')) := by
  rintro pins s σ H x y v u Q I rx ry ⟨wx, wy, M, R, am, ax, ay, h, k⟩
  cases ax <;> cases ay <;> first | exact (show False from h).elim | skip
  case int.int i j => exact h0 pins s σ H _ _ v u Q I rx ry ⟨i, j, rfl, rfl, h.1, k.at am (hg H M i j) h.2⟩
def rII0 (g : Int → Int → W) : R3
  | .int i, .int j, M, R => R (g i j) M
  | _, _, _, _ => False
theorem o_II0 {f : Value → Value → Sem Value} {g : Int → Int → V} {g' : Int → Int → W} (h0 : OpR X f (rI0 g)) (hg : ∀ H M i j, AV X.K H M (g i j) (g' i j)) : OpR X f (upO X.K (rII0 g')) := by
  rintro pins s σ H x y v u Q I rx ry ⟨wx, wy, M, R, am, ax, ay, h, k⟩
  cases ax <;> cases ay <;> first | exact (show False from h).elim | skip
  case int.int i j => exact h0 pins s σ H _ _ v u Q I rx ry ⟨i, j, rfl, rfl, k.at am (hg H M i j) h⟩
abbrev rSub : R3 := rII0 fun i j => .int (i - j)
theorem o_sub : OpR X (binaryOp .Sub) (upO X.K rSub) := o_II0 op_sub fun _ _ _ _ => .int _
abbrev rFdiv : R3 := rII CDivB fun i j => .int (i / j)
theorem o_fdiv : OpR X (binaryOp .FloorDiv) (upO X.K rFdiv) := o_II op_fdivB fun _ _ _ _ => .int _
abbrev rMod : R3 := rII (fun _ j => 0 < j) fun i j => .int (i % j)
theorem o_mod : OpR X (binaryOp .Mod) (upO X.K rMod) := o_II op_mod fun _ _ _ _ => .int _
abbrev rPow : R3 := rII CPow fun i j => .int (i ^ j.toNat)
theorem o_pow : OpR X (binaryOp .Pow) (upO X.K rPow) := o_II op_pow fun _ _ _ _ => .int _
def rMul : R3
  | .int i, .int j, M, R => (CMul i j ∨ CBig i j) ∧ R (.int (i * j)) M
  | .str z, .int n, M, R => z.length ≤ 16 ∧ -(2 ^ 63) ≤ n ∧ n ≤ 1048576 ∧ R (.str (Txt.mul z n)) M
  | .ref a, .int n, M, R => ∃ xs, M a = some (.lst xs) ∧ -(2 ^ 63) ≤ n ∧ n < 2 ^ 63 ∧ xs.length * n.toNat ≤ sizeLine ∧ New (List.replicate n.toNat xs).flatten M R
  | .rl xs, .int n, M, R => -(2 ^ 63) ≤ n ∧ n < 2 ^ 63 ∧ xs.length * n.toNat ≤ sizeLine ∧ New (List.replicate n.toNat xs).flatten M R
  | _, _, _, _ => False
theorem o_mul : OpR X (binaryOp .Mult) (upO X.K rMul) := by
  rintro pins s σ H x y v u Q I rx ry ⟨wx, wy, M, R, am, ax, ay, h, k⟩
  cases ax <;> cases ay <;> first | exact (show False from h).elim | skip
  case int.int i j =>
    rcases h with ⟨h | h, r⟩
    · exact op_mul pins s σ H _ _ v u Q I rx ry ⟨i, j, rfl, rfl, h, k.at am (.int _) r⟩
    · exact op_mulB pins s σ H _ _ v u Q I rx ry ⟨i, j, rfl, rfl, h, k.at am (.int _) r⟩
  case str.int z n => exact op_mulS pins s σ H _ _ v u Q I rx ry ⟨z, n, rfl, rfl, h.1, h.2.1, h.2.2.1, k.at am (.str _) h.2.2.2⟩
  case ref.int a n =>
    obtain ⟨xs, e, h1, h2, h3, r⟩ := h
    obtain ⟨vs, f, q⟩ := am.lst e
    exact op_rep pins s σ H _ _ v u Q I rx ry ⟨a, n, vs, rfl, rfl, f, h1, h2, by rw [q.length]; exact h3, fun p hp => laidL am k hp (q.flatRep _) r⟩
  case rl.int a vs xs f _ q n =>
    obtain ⟨h1, h2, h3, r⟩ := h
    exact op_rep pins s σ H _ _ v u Q I rx ry ⟨a, n, vs, rfl, rfl, f, h1, h2, by rw [q.length]; exact h3, fun p hp => laidL am k hp (q.flatRep _) r⟩
def rNeg : W → Mm → K3 → Prop
  | .int i, M, R => R (.int (-i)) M
  | _, _, _ => False
theorem o_neg : UnR X (unaryOp .USub) (upU X.K rNeg) := by
  rintro pins s σ H x v Q I rx ⟨wx, M, R, am, ax, h, k⟩
  cases ax <;> first | exact (show False from h).elim | skip
  case int i => exact un_neg pins s σ H _ v Q I rx ⟨i, rfl, k.at am (.int _) h⟩
def strLt (i j : Str) : Bool := decide (i.cps.toList < j.cps.toList)
def rLt : R3
  | .int i, .int j, M, R => R (.bl (decide (i < j))) M
  | .str i, .str j, M, R => R (.bl (strLt i j)) M
  | _, _, _, _ => False
theorem o_lt : OpR X (compareOp .Lt) (upO X.K rLt) := by
  rintro pins s σ H x y v u Q I rx ry ⟨wx, wy, M, R, am, ax, ay, h, k⟩
  cases ax <;> cases ay <;> first | exact (show False from h).elim | skip
  case int.int i j => exact op_lt pins s σ H _ _ v u Q I rx ry ⟨i, j, rfl, rfl, k.at am (.bl _) h⟩
  case str.str i j => exact op_lt_str pins s σ H _ _ v u Q I rx ry ⟨i, j, rfl, rfl, k.at am (.bl _) h⟩
abbrev rLe : R3 := rII0 fun i j => .bl (decide (i ≤ j))
theorem o_le : OpR X (compareOp .LtE) (upO X.K rLe) := o_II0 op_le fun _ _ _ _ => .bl _
abbrev rGt : R3 := rII0 fun i j => .bl (decide (j < i))
theorem o_gt : OpR X (compareOp .Gt) (upO X.K rGt) := o_II0 op_gt fun _ _ _ _ => .bl _
def isNon : W → Bool
  | .non => true
  | _ => false
mutual
inductive Snap (M : Mm) : W → PyData → Prop
  | non : Snap M .non .none
  | bl (b : Bool) : Snap M (.bl b) (.bool b)
  | int (i : Int) : Snap M (.int i) (.int i)
  | str (x : Str) : Snap M (.str x) (.str x)
  | tup {ws : List W} {ds : List PyData} : Snaps M ws ds → Snap M (.tup ws) (.tuple ds)
  | rl {ws : List W} {ds : List PyData} : Snaps M ws ds → Snap M (.rl ws) (.list ds)
  | ref {a : Addr} {ws : List W} {ds : List PyData} : M a = some (.lst ws) → Snaps M ws ds → Snap M (.ref a) (.list ds)
inductive Snaps (M : Mm) : List W → List PyData → Prop
  | nil : Snaps M [] []
  | cons {w : W} {ws : List W} {d : PyData} {ds : List PyData} : Snap M w d → Snaps M ws ds → Snaps M (w :: ws) (d :: ds)
end
section
variable {pins : List (Addr × Obj)} {σ : SV} {H : Hp} {s : Shared} {M : Mm}
mutual
theorem Snap.reads (I : Inv X pins σ H s) (am : AM X.K H M) : ∀ {w : W} {d : PyData} {v : V} {u : Value}, Snap M w d → AV X.K H M v w → RelV v u → ∃ as, Reads s.heap u d as
  | _, _, _, _, .non, av, r => by cases av; cases r; exact ⟨_, .none⟩
  | _, _, _, _, .bl b, av, r => by cases av; cases r; exact ⟨_, .bool b⟩
  | _, _, _, _, .int i, av, r => by cases av; obtain ⟨t, rfl⟩ := r; exact ⟨_, .int i t⟩
  | _, _, _, _, .str x, av, r => by cases av; obtain ⟨t, rfl⟩ := r; exact ⟨_, .str x t⟩
  | _, _, _, _, .tup h, av, r => by
    cases av with
    | tup e q =>
      cases r
      obtain ⟨its, rv, ⟨o, e1, e2, n, e3⟩, _⟩ := I.tuple (SqT.of e)
      obtain ⟨as, z⟩ := Snaps.reads I am h q rv
      exact ⟨_, .tuple e1 e2 e3 (by simpa using z)⟩
  | _, _, _, _, .rl h, av, r => by
    cases av with
    | rl e _ q =>
      cases r
      obtain ⟨its, rv, pl, _⟩ := I.list (SqL.of e)
      obtain ⟨o, e1, e2, n, e3⟩ := pl.isList
      obtain ⟨as, z⟩ := Snaps.reads I am h q rv
      exact ⟨_, .list e1 e2 e3 (by simpa using z)⟩
  | _, _, _, _, .ref e h, av, r => by
    cases av with
    | ref a =>
      cases r
      obtain ⟨vs, e0, q⟩ := am.lst e
      obtain ⟨its, rv, pl, _⟩ := I.list (SqL.of e0)
      obtain ⟨o, e1, e2, n, e3⟩ := pl.isList
      obtain ⟨as, z⟩ := Snaps.reads I am h q rv
      exact ⟨_, .list e1 e2 e3 (by simpa using z)⟩
theorem Snaps.reads (I : Inv X pins σ H s) (am : AM X.K H M) : ∀ {ws : List W} {ds : List PyData} {vs : List V} {us : List Value}, Snaps M ws ds → AVs X.K H M vs ws → Vals vs us → ∃ as, ReadsAll s.heap us ds as
  | _, _, _, _, .nil, av, r => by cases av; cases r; exact ⟨_, .nil⟩
  | _, _, _, _, .cons h t, av, r => by
    cases av with
    | cons a b =>
      cases r with
      | cons r1 r2 =>
        obtain ⟨x, q1⟩ := Snap.reads I am h a r1
        obtain ⟨y, q2⟩ := Snaps.reads I am t b r2
        exact ⟨_, .cons q1 q2⟩
end
end
def rEqD (neg : Bool) : R3 := fun x y M R => ∃ da db, Snap M x da ∧ Snap M y db ∧ Flt da ∧ Flt db ∧ R (.bl (if neg then !PyData.eqv da db else PyData.eqv da db)) M
def rEq (neg : Bool) : R3
  | .int i, .int j, M, R => R (.bl (if neg then !decide (i = j) else decide (i = j))) M
  | .str i, .str j, M, R => R (.bl (if neg then !decide (i = j) else decide (i = j))) M
  | .bl i, .bl j, M, R => R (.bl (if neg then !decide (i = j) else decide (i = j))) M
  | x, y, M, R => rEqD neg x y M R
theorem dInt {i j : Int} : decide (V.int i = V.int j) = decide (i = j) := by rw [Bool.eq_iff_iff]; simp
theorem dStr {i j : Str} : decide (V.str i = V.str j) = decide (i = j) := by rw [Bool.eq_iff_iff]; simp
theorem dBl {i j : Bool} : decide (V.bl i = V.bl j) = decide (i = j) := by rw [Bool.eq_iff_iff]; simp
theorem o_eq (hu : X.A.units + 64 < cLine) : OpR X (compareOp .Eq) (upO X.K (rEq false)) := by
  rintro pins s σ H x y v u Q I rx ry ⟨wx, wy, M, R, am, ax, ay, h, k⟩
  have data : rEqD false wx wy M R → wpAny (model X.prog X.w) X.A (compareOp .Eq v u) (EP X pins σ Q) X.xe s := fun h => by
    obtain ⟨da, db, ha, hb, fa, fb, q⟩ := h
    obtain ⟨as, ra⟩ := ha.reads I am ax rx
    obtain ⟨bs, rb⟩ := hb.reads I am ay ry
    exact SeqAt.compareEq_reads ra rb fa.1 fb.1 (Nat.lt_of_le_of_lt (Nat.add_le_add_left (Nat.le_trans (Nat.min_le_left _ _) (Nat.le_trans fa.2 (by decide))) _) hu) ⟨.bl _, H, I, rfl, k.at am (.bl _) q⟩
  cases ax <;> cases ay <;> first | exact data h | skip
  case int.int i j => exact op_eq pins s σ H _ _ v u Q I rx ry ⟨rfl, by rw [dInt]; exact k.at am (.bl _) h⟩
  case str.str i j => exact op_eq pins s σ H _ _ v u Q I rx ry ⟨rfl, by rw [dStr]; exact k.at am (.bl _) h⟩
  case bl.bl i j => exact op_eq pins s σ H _ _ v u Q I rx ry ⟨rfl, by rw [dBl]; exact k.at am (.bl _) h⟩
theorem o_ne (hu : X.A.units + 64 < cLine) : OpR X (compareOp .NotEq) (upO X.K (rEq true)) := by
  rintro pins s σ H x y v u Q I rx ry ⟨wx, wy, M, R, am, ax, ay, h, k⟩
  have data : rEqD true wx wy M R → wpAny (model X.prog X.w) X.A (compareOp .NotEq v u) (EP X pins σ Q) X.xe s := fun h => by
    obtain ⟨da, db, ha, hb, fa, fb, q⟩ := h
    obtain ⟨as, ra⟩ := ha.reads I am ax rx
    obtain ⟨bs, rb⟩ := hb.reads I am ay ry
    exact SeqAt.compareNe_reads ra rb fa.1 fb.1 (Nat.lt_of_le_of_lt (Nat.add_le_add_left (Nat.le_trans (Nat.min_le_left _ _) (Nat.le_trans fa.2 (by decide))) _) hu) ⟨.bl _, H, I, rfl, k.at am (.bl _) q⟩
  cases ax <;> cases ay <;> first | exact data h | skip
  case int.int i j => exact op_ne pins s σ H _ _ v u Q I rx ry ⟨rfl, by rw [dInt]; exact k.at am (.bl _) h⟩
  case str.str i j => exact op_ne pins s σ H _ _ v u Q I rx ry ⟨rfl, by rw [dStr]; exact k.at am (.bl _) h⟩
  case bl.bl i j => exact op_ne pins s σ H _ _ v u Q I rx ry ⟨rfl, by rw [dBl]; exact k.at am (.bl _) h⟩
def wK : Key → W
  | .inl i => .int i
  | .inr x => .str x
def lookW {κ : Type} [DecidableEq κ] (kvs : List (κ × W)) (k : κ) : Option W := (kvs.find? fun kv => decide (kv.1 = k)).map (·.2)
def putW {κ : Type} [DecidableEq κ] (kvs : List (κ × W)) (k : κ) (v : W) : List (κ × W) :=
  if (kvs.any fun kv => decide (kv.1 = k)) = true then kvs.map (fun kv => if kv.1 = k then (kv.1, v) else kv) else kvs ++ [(k, v)]
theorem AV.key {K : PySem.W.Frag} {H : Hp} {M : Mm} {v : V} {k : Key} (h : AV K H M v (wK k)) : v = kV k := by
  cases k <;> (cases h; rfl)
theorem AVs.keys {K : PySem.W.Frag} {H : Hp} {M : Mm} : ∀ {vs : List V} {k : List Key}, AVs K H M vs (k.map wK) → vs = k.map kV
  | _, [], h => by cases h; rfl
  | _, a :: r, h => by
    cases h with
    | cons x y => rw [x.key, AVs.keys y]; rfl
section
variable {κ : Type} [DecidableEq κ] {K : PySem.W.Frag} {H : Hp} {M : Mm}
theorem pkv_look {ks : List (κ × V)} {kvs : List (κ × W)} (h : PKV K H M κ ks kvs) (k : κ) : (lookW kvs k = none ∧ valV ks k = none) ∨ ∃ v w, lookW kvs k = some w ∧ valV ks k = some v ∧ AV K H M v w := by
  induction h with
  | nil => exact .inl ⟨rfl, rfl⟩
  | @cons p q ps qs r t ih =>
    by_cases e : p.1 = k
    · refine .inr ⟨p.2, q.2, ?_, ?_, r.2⟩
      · unfold lookW; rw [List.find?_cons, decide_eq_true (by rw [← r.1]; exact e)]; rfl
      · exact valV_pos e
    · have e2 : ¬ q.1 = k := by rw [← r.1]; exact e
      have l : lookW (q :: qs) k = lookW qs k := by unfold lookW; rw [List.find?_cons, decide_eq_false e2]
      rw [l, valV_neg e]
      exact ih
theorem pkv_any {ks : List (κ × V)} {kvs : List (κ × W)} (h : PKV K H M κ ks kvs) (k : κ) : (ks.any fun kv => decide (kv.1 = k)) = (kvs.any fun kv => decide (kv.1 = k)) := by
  induction h with
  | nil => rfl
  | cons r t ih => rw [List.any_cons, List.any_cons, ih, r.1]
theorem pkv_map {ks : List (κ × V)} {kvs : List (κ × W)} {v : V} {w : W} {k : κ} (av : AV K H M v w) (h : PKV K H M κ ks kvs) : PKV K H M κ (ks.map (fun kv => if kv.1 = k then (kv.1, v) else kv)) (kvs.map (fun kv => if kv.1 = k then (kv.1, w) else kv)) := by
  induction h with
  | nil => exact .nil
  | @cons p q ps qs r t ih =>
    rw [List.map_cons, List.map_cons]
    refine .cons ?_ ih
    by_cases e : p.1 = k
    · rw [if_pos e, if_pos (by rw [← r.1]; exact e)]; exact ⟨r.1, av⟩
    · rw [if_neg e, if_neg (by rw [← r.1]; exact e)]; exact r
theorem pkv_snoc {ks : List (κ × V)} {kvs : List (κ × W)} {v : V} {w : W} {k : κ} (av : AV K H M v w) (h : PKV K H M κ ks kvs) : PKV K H M κ (ks ++ [(k, v)]) (kvs ++ [(k, w)]) := by
  induction h with
  | nil => exact .cons ⟨rfl, av⟩ .nil
  | cons r t ih => exact .cons r ih
theorem pkv_put {ks : List (κ × V)} {kvs : List (κ × W)} {v : V} {w : W} (h : PKV K H M κ ks kvs) (k : κ) (av : AV K H M v w) : PKV K H M κ (putK ks k v) (putW kvs k w) := by
  unfold putK putW
  rw [pkv_any h k]
  split
  · exact pkv_map av h
  · exact pkv_snoc av h
end
def dGet (M : Mm) : W → W → Option W → Prop
  | .ref a, y, o => (∃ kvs k, M a = some (.dK kvs) ∧ y = wK k ∧ o = lookW kvs k) ∨ ∃ kvs k, M a = some (.dT kvs) ∧ y = .tup (k.map wK) ∧ o = lookW kvs k
  | .dk kvs, y, o => ∃ k, y = wK k ∧ o = lookW kvs k
  | .dt kvs, y, o => ∃ k, y = .tup (k.map wK) ∧ o = lookW kvs k
  | _, _, _ => False
theorem dGet_k {K : PySem.W.Frag} {H : Hp} {M : Mm} {a : Addr} {y : V} {k : Key} {ks : List (Key × V)} {kvs : List (Key × W)} (e1 : H a = some (.dK ks)) (q : PKV K H M Key ks kvs) (ay : AV K H M y (wK k)) : (lookW kvs k = none ∧ DGet H a y none) ∨ ∃ v w, lookW kvs k = some w ∧ DGet H a y (some v) ∧ AV K H M v w := by
  rw [ay.key]
  rcases pkv_look q k with ⟨l1, l2⟩ | ⟨v, w, l1, l2, av⟩
  · exact .inl ⟨l1, by rw [← l2]; exact DGet.k e1⟩
  · exact .inr ⟨v, w, l1, by rw [← l2]; exact DGet.k e1, av⟩
theorem dGet_t {K : PySem.W.Frag} {H : Hp} {M : Mm} {a : Addr} {y : V} {k : List Key} {ks : List (List Key × V)} {kvs : List (List Key × W)} (e1 : H a = some (.dT ks)) (q : PKV K H M (List Key) ks kvs) (ay : AV K H M y (.tup (k.map wK))) : (lookW kvs k = none ∧ DGet H a y none) ∨ ∃ v w, lookW kvs k = some w ∧ DGet H a y (some v) ∧ AV K H M v w := by
  cases ay with
  | tup eb qb =>
    have eb' := eb
    rw [qb.keys] at eb'
    rcases pkv_look q k with ⟨l1, l2⟩ | ⟨v, w, l1, l2, av⟩
    · exact .inl ⟨l1, by rw [← l2]; exact DGet.t e1 eb'⟩
    · exact .inr ⟨v, w, l1, by rw [← l2]; exact DGet.t e1 eb', av⟩
theorem dGet_up {K : PySem.W.Frag} {H : Hp} {M : Mm} {x y : V} {wx wy : W} {o : Option W} (am : AM K H M) (ax : AV K H M x wx) (ay : AV K H M y wy) (h : dGet M wx wy o) : ∃ a, x = .ref a ∧ ((o = none ∧ DGet H a y none) ∨ ∃ v w, o = some w ∧ DGet H a y (some v) ∧ AV K H M v w) := by
  cases ax <;> first | exact (show False from h).elim | skip
  case ref a =>
    rcases h with ⟨kvs, k, e, rfl, rfl⟩ | ⟨kvs, k, e, rfl, rfl⟩
    · obtain ⟨ks, e1, q⟩ := am _ _ e
      exact ⟨a, rfl, dGet_k e1 q ay⟩
    · obtain ⟨ks, e1, q⟩ := am _ _ e
      exact ⟨a, rfl, dGet_t e1 q ay⟩
  case dk a ks kvs e _ ke q =>
    obtain ⟨k, rfl, rfl⟩ := h
    exact ⟨a, rfl, dGet_k e (pkv_of ke q) ay⟩
  case dt a ks kvs e _ ke q =>
    obtain ⟨k, rfl, rfl⟩ := h
    exact ⟨a, rfl, dGet_t e (pkv_of ke q) ay⟩
def rIx : R3
  | .tup ws, .int i, M, R => ∃ w, atI ws i = some w ∧ R w M
  | .rl ws, .int i, M, R => ∃ w, atI ws i = some w ∧ R w M
  | .sc ws, .int i, M, R => ∃ w, atI ws i = some w ∧ R w M
  | .dk kvs, y, M, R => ∃ w, dGet M (.dk kvs) y (some w) ∧ R w M
  | .dt kvs, y, M, R => ∃ w, dGet M (.dt kvs) y (some w) ∧ R w M
  | .str z, .int i, M, R => z.length ≤ sizeLine ∧ ∃ c, atI z.cps.toList i = some c ∧ R (.str ⟨#[c]⟩) M
  | .ref a, .int i, M, R => (∃ ws w, M a = some (.lst ws) ∧ atI ws i = some w ∧ R w M) ∨ ∃ w, dGet M (.ref a) (.int i) (some w) ∧ R w M
  | .ref a, y, M, R => ∃ w, dGet M (.ref a) y (some w) ∧ R w M
  | _, _, _, _ => False
theorem atI_up {K : PySem.W.Frag} {H : Hp} {M : Mm} {vs : List V} {ws : List W} {i : Int} {w : W} (q : AVs K H M vs ws) (h : atI ws i = some w) : ∃ v, atI vs i = some v ∧ AV K H M v w := by
  unfold atI at h ⊢
  rw [q.length]
  cases e : ixN ws.length i with
  | none => rw [e] at h; cases h
  | some j =>
    rw [e] at h
    exact q.getW (i := j) h
theorem ix_dict (hu : X.A.units + 1 < cLine) : IxR X (fun x y H Q => ∃ a v, x = .ref a ∧ DGet H a y (some v) ∧ Q v H) := by
  intro value slice pins s σ H x y v u Q I rx ry h hs
  obtain ⟨a, z, rfl, g, q⟩ := h
  cases rx
  exact tail_any (dict_typeIs I g) PySem.F.slot_dict_getitem.lookup (d_getItem hu I g ry fun w' s3 I3 rw' => ⟨z, H, I3, rw', q⟩) hs
theorem ix_up (hu : X.A.units + 1 < cLine) : IxR X (upO X.K rIx) := by
  rintro value slice pins s σ H x y v u Q I rx ry ⟨wx, wy, M, R, am, ax, ay, h, k⟩ hs
  have dict : (∃ w, dGet M wx wy (some w) ∧ R w M) → wpAny (model X.prog X.w) X.A (subscriptTail value slice v u) (EP X pins σ Q) X.xe s := fun ⟨w, g, r⟩ => by
    obtain ⟨a, e, g⟩ := dGet_up am ax ay g
    rcases g with ⟨z, _⟩ | ⟨z, w', e', g', av⟩
    · cases z
    · cases e'
      exact ix_dict hu value slice pins s σ H x y v u Q I rx ry ⟨a, z, e, g', k.at am av r⟩ hs
  cases ax <;> first | exact (show False from h).elim | skip
  case str z =>
    cases ay <;> first | exact (show False from h).elim | skip
    case int i =>
      obtain ⟨hz, c, e, r⟩ := h
      exact ix_str value slice pins s σ H _ _ v u Q I rx ry ⟨z, i, c, rfl, rfl, hz, e, k.at am (.str _) r⟩ hs
  case tup a xs ws e q =>
    cases ay <;> first | exact (show False from h).elim | skip
    case int i =>
      obtain ⟨w, e2, r⟩ := h
      obtain ⟨z, e3, av⟩ := atI_up q e2
      exact ix_tup value slice pins s σ H _ _ v u Q I rx ry ⟨a, xs, i, z, rfl, rfl, SqT.of e, e3, k.at am av r⟩ hs
  case dk a ks kvs e n ke q => exact dict (by cases ay <;> exact h)
  case dt a ks kvs e n ke q => exact dict (by cases ay <;> exact h)
  case rl a xs ws e _ q =>
    cases ay <;> first | exact (show False from h).elim | skip
    case int i =>
      obtain ⟨w, e2, r⟩ := h
      obtain ⟨z, e3, av⟩ := atI_up q e2
      exact ix_list value slice pins s σ H _ _ v u Q I rx ry ⟨a, xs, i, z, rfl, rfl, SqL.of e, e3, k.at am av r⟩ hs
  case sc a xs ws e q =>
    cases ay <;> first | exact (show False from h).elim | skip
    case int i =>
      obtain ⟨w, e2, r⟩ := h
      obtain ⟨z, e3, av⟩ := atI_up q e2
      exact ix_list value slice pins s σ H _ _ v u Q I rx ry ⟨a, xs, i, z, rfl, rfl, e.sq, e3, k.at am av r⟩ hs
  case ref a =>
    cases ay <;> first | exact dict h | skip
    case int i =>
      rcases h with ⟨ws, w, e, e2, r⟩ | h
      · obtain ⟨vs, f, q⟩ := am.lst e
        obtain ⟨z, e3, av⟩ := atI_up q e2
        exact ix_list value slice pins s σ H _ _ v u Q I rx ry ⟨a, vs, i, z, rfl, rfl, SqL.of f, e3, k.at am av r⟩ hs
      · exact dict h
variable {a b : Expr} {ta tb : TE3} {pos : Pos}
theorem v_ix (hu : X.A.units + 1 < cLine) (ha : E3 X a ta) (hb : E3 X b tb) (hs : PlainIx b := by exact fun _ _ => rfl) : E3 X (.Subscript a b pos) (vOp rIx ta tb) := (pe_ix (ix_up hu) ha hb hs).weak fun _ _ _ h => vOp_up h
def cutW (ws : List W) (lo hi : Option Int) : List W := (ws.drop (HT.sIx ws.length 0 lo)).take (HT.sIx ws.length ws.length hi - HT.sIx ws.length 0 lo)
def rSl : W → Option Int → Option Int → Mm → K3 → Prop
  | .rl ws, lo, hi, M, R => New (cutW ws lo hi) M R
  | .sc ws, lo, hi, M, R => New (cutW ws lo hi) M R
  | .ref a, lo, hi, M, R => ∃ ws, M a = some (.lst ws) ∧ New (cutW ws lo hi) M R
  | .tup ws, lo, hi, M, R => ¬ (HT.sIx ws.length 0 lo = 0 ∧ HT.sIx ws.length ws.length hi = ws.length) ∧ R (.tup (cutW ws lo hi)) M
  | _, _, _, _, _ => False
theorem cut_up {K : PySem.W.Frag} {H : Hp} {M : Mm} {vs : List V} {ws : List W} {lo hi : Option Int} (q : AVs K H M vs ws) : AVs K H M (cutV vs lo hi) (cutW ws lo hi) := by
  unfold cutV cutW
  rw [q.length]
  exact (q.drop _).take _
def upSl (K : PySem.W.Frag) (r : W → Option Int → Option Int → Mm → K3 → Prop) : V → Option Int → Option Int → Hp → VK → Prop := fun x lo hi H Q => ∃ wx M R, AM K H M ∧ AV K H M x wx ∧ r wx lo hi M R ∧ Up K H M R Q
theorem sl_up : SlR X (upSl X.K rSl) := by
  rintro pins s σ H x v vl vu lo hi sl Q I rx hs pl pu ⟨wx, M, R, am, ax, h, k⟩
  cases ax <;> first | exact (show False from h).elim | skip
  case tup a xs ws e q => exact sl_tup pins s σ H _ v vl vu lo hi sl Q I rx hs pl pu ⟨a, xs, rfl, SqT.of e, by rw [q.length]; exact h.1, fun p hp => laidT am k hp (cut_up q) h.2⟩
  case sc a xs ws e q => exact sl_list pins s σ H _ v vl vu lo hi sl Q I rx hs pl pu ⟨a, xs, rfl, e.sq, fun p hp => laidL am k hp (cut_up q) h⟩
  case rl a xs ws e _ q => exact sl_list pins s σ H _ v vl vu lo hi sl Q I rx hs pl pu ⟨a, xs, rfl, SqL.of e, fun p hp => laidL am k hp (cut_up q) h⟩
  case ref a =>
    obtain ⟨ws, e, r⟩ := h
    obtain ⟨vs, f, q⟩ := am.lst e
    exact sl_list pins s σ H _ v vl vu lo hi sl Q I rx hs pl pu ⟨a, vs, rfl, SqL.of f, fun p hp => laidL am k hp (cut_up q) r⟩
abbrev TO3 := S3 → Mm → (Option Int → Mm → Prop) → Prop
def upOp (K : PySem.W.Frag) (t : TO3) : TO := fun σ H Q => ∃ (τ : S3) (M : Mm) (R : Option Int → Mm → Prop), AS K H M σ τ ∧ AM K H M ∧ t τ M R ∧ ∀ o H' M', Kp H M H' M' → AM K H' M' → R o M' → Q o H'
def sNo : TO3 := fun _ M Q => Q none M
def sPt (t : TE3) : TO3 := fun τ M Q => t τ M fun x M1 => ∃ i, x = .int i ∧ Q (some i) M1
theorem s_none : PO X none (upOp X.K sNo) := po_none.weak fun σ H Q ⟨τ, M, R, as, am, h, k⟩ => k none H M (Kp.refl am) am h
theorem s_some (h : E3 X a ta) : PO X (some a) (upOp X.K (sPt ta)) := (po_some h).weak fun σ H Q ⟨τ, M, R, as, am, h, k⟩ => ⟨τ, M, _, as, am, h, fun x H1 wx M1 k1 am1 ax ⟨i, e, h1⟩ => by
  subst e; cases ax; exact ⟨i, rfl, k _ _ _ k1 am1 h1⟩⟩
def vSl (ta : TE3) (tl th : TO3) : TE3 := fun τ M R => ta τ M fun x M1 => tl τ M1 fun l M2 => th τ M2 fun u M3 => rSl x l u M3 R
def flatW : W → Bool
  | .non => true
  | .bl _ => true
  | .int _ => true
  | .str _ => true
  | _ => false
def eqW : W → W → Bool
  | .non, .non => true
  | .bl a, .bl b => a == b
  | .bl a, .int b => (if a then 1 else 0) == b
  | .int a, .bl b => a == (if b then 1 else 0)
  | .int a, .int b => a == b
  | .str a, .str b => a == b
  | _, _ => false
def inW (x : W) (ws : List W) : Bool := ws.any fun y => eqW y x
theorem AV.flat {K : PySem.W.Frag} {H : Hp} {M : Mm} {v : V} {w : W} (h : AV K H M v w) (f : flatW w = true) : flatV v = true := by cases h <;> first | rfl | exact f
theorem AV.eq {K : PySem.W.Frag} {H : Hp} {M : Mm} {v u : V} {w z : W} (h : AV K H M v w) (h2 : AV K H M u z) (f : flatW w = true) (f2 : flatW z = true) : eqV v u = eqW w z := by
  cases h <;> cases h2 <;> first | rfl | (exact absurd f Bool.false_ne_true) | (exact absurd f2 Bool.false_ne_true)
theorem AVs.inn {K : PySem.W.Frag} {H : Hp} {M : Mm} {u : V} {z : W} (hz : AV K H M u z) (fz : flatW z = true) : ∀ {vs : List V} {ws : List W}, AVs K H M vs ws → ws.all flatW = true → vs.all flatV = true ∧ inV u vs = inW z ws
  | _, _, .nil, _ => ⟨rfl, rfl⟩
  | _, _, .cons x r, f => by
    rw [List.all_cons, Bool.and_eq_true] at f
    obtain ⟨h1, h2⟩ := AVs.inn hz fz r f.2
    refine ⟨by rw [List.all_cons, x.flat f.1, h1]; rfl, ?_⟩
    unfold inV inW at h2 ⊢
    rw [List.any_cons, List.any_cons, h2, x.eq hz f.1 fz]
def occ (i j : Str) : Bool := !(Builtin.Str.occurrences j i 0 j.length 1).isEmpty
def rIn (neg : Bool) : R3
  | .str i, .str j, M, R => R (.bl (if neg then !occ i j else occ i j)) M
  | x, .tup ws, M, R => flatW x = true ∧ ws.all flatW = true ∧ R (.bl (if neg then !inW x ws else inW x ws)) M
  | x, .rl ws, M, R => flatW x = true ∧ ws.all flatW = true ∧ R (.bl (if neg then !inW x ws else inW x ws)) M
  | x, .ref a, M, R => (∃ ws, M a = some (.lst ws) ∧ flatW x = true ∧ ws.all flatW = true ∧ R (.bl (if neg then !inW x ws else inW x ws)) M) ∨ ∃ o, dGet M (.ref a) x o ∧ R (.bl (if neg then !o.isSome else o.isSome)) M
  | x, .dk kvs, M, R => ∃ o, dGet M (.dk kvs) x o ∧ R (.bl (if neg then !o.isSome else o.isSome)) M
  | x, .dt kvs, M, R => ∃ o, dGet M (.dt kvs) x o ∧ R (.bl (if neg then !o.isSome else o.isSome)) M
  | _, _, _, _ => False
theorem o_in (hu : X.A.units + 1 < cLine) : OpR X (compareOp .In) (upO X.K (rIn false)) := by
  rintro pins s σ H x y v u Q I rx ry ⟨wx, wy, M, R, am, ax, ay, h, k⟩
  have dict : ∀ {y : V} {u : Value} {wy : W}, RelV y u → AV X.K H M y wy → ∀ o, dGet M wy wx o → R (.bl (o.isSome)) M → wpAny (model X.prog X.w) X.A (compareOp .In v u) (EP X pins σ Q) X.xe s := fun {y u wy} ry ay o g r => by
    obtain ⟨a, rfl, g⟩ := dGet_up am ay ax g
    cases ry
    rcases g with ⟨rfl, g'⟩ | ⟨z, w, rfl, g', av⟩
    · exact d_in hu I g' rx fun s3 I3 => ⟨.bl false, H, I3, rfl, k.at am (.bl _) r⟩
    · exact d_in hu I g' rx fun s3 I3 => ⟨.bl true, H, I3, rfl, k.at am (.bl _) r⟩
  cases ay <;> first | (cases wx <;> exact (show False from h).elim) | skip
  case str j =>
    cases ax <;> first | exact (show False from h).elim | skip
    case str i => exact op_in_str pins s σ H _ _ v u Q I rx ry ⟨i, j, rfl, rfl, k.at am (.bl _) h⟩
  case tup a xs ws e q =>
    have h : flatW wx = true ∧ ws.all flatW = true ∧ R (.bl (inW wx ws)) M := by cases wx <;> exact h
    obtain ⟨h1, h2⟩ := AVs.inn ax h.1 q h.2.1
    exact op_in_seq pins s σ H _ _ v u Q I rx ry ⟨a, xs, rfl, .inr (SqT.of e), ax.flat h.1, h1, by rw [h2]; exact k.at am (.bl _) h.2.2⟩
  case rl a xs ws e _ q =>
    have h : flatW wx = true ∧ ws.all flatW = true ∧ R (.bl (inW wx ws)) M := by cases wx <;> exact h
    obtain ⟨h1, h2⟩ := AVs.inn ax h.1 q h.2.1
    exact op_in_seq pins s σ H _ _ v u Q I rx ry ⟨a, xs, rfl, .inl (SqL.of e), ax.flat h.1, h1, by rw [h2]; exact k.at am (.bl _) h.2.2⟩
  case dk a ks kvs e n ke q =>
    have h : ∃ o, dGet M (.dk kvs) wx o ∧ R (.bl (o.isSome)) M := by cases wx <;> exact h
    obtain ⟨o, g, r⟩ := h
    exact dict ry (.dk e n ke q) o g r
  case dt a ks kvs e n ke q =>
    have h : ∃ o, dGet M (.dt kvs) wx o ∧ R (.bl (o.isSome)) M := by cases wx <;> exact h
    obtain ⟨o, g, r⟩ := h
    exact dict ry (.dt e n ke q) o g r
  case ref a =>
    have h : (∃ ws, M a = some (.lst ws) ∧ flatW wx = true ∧ ws.all flatW = true ∧ R (.bl (inW wx ws)) M) ∨ ∃ o, dGet M (.ref a) wx o ∧ R (.bl o.isSome) M := by cases wx <;> exact h
    rcases h with ⟨ws, e, h⟩ | ⟨o, g, r⟩
    · obtain ⟨vs, f, q⟩ := am.lst e
      obtain ⟨h1, h2⟩ := AVs.inn ax h.1 q h.2.1
      exact op_in_seq pins s σ H _ _ v u Q I rx ry ⟨a, vs, rfl, .inl (SqL.of f), ax.flat h.1, h1, by rw [h2]; exact k.at am (.bl _) h.2.2⟩
    · exact dict ry (.ref a) o g r
theorem o_notin (hu : X.A.units + 1 < cLine) : OpR X (compareOp .NotIn) (upO X.K (rIn true)) := by
  rintro pins s σ H x y v u Q I rx ry ⟨wx, wy, M, R, am, ax, ay, h, k⟩
  have dict : ∀ {y : V} {u : Value} {wy : W}, RelV y u → AV X.K H M y wy → ∀ o, dGet M wy wx o → R (.bl (!o.isSome)) M → wpAny (model X.prog X.w) X.A (compareOp .NotIn v u) (EP X pins σ Q) X.xe s := fun {y u wy} ry ay o g r => by
    obtain ⟨a, rfl, g⟩ := dGet_up am ay ax g
    cases ry
    rcases g with ⟨rfl, g'⟩ | ⟨z, w, rfl, g', av⟩
    · exact d_notIn hu I g' rx fun s3 I3 => ⟨.bl true, H, I3, rfl, k.at am (.bl _) r⟩
    · exact d_notIn hu I g' rx fun s3 I3 => ⟨.bl false, H, I3, rfl, k.at am (.bl _) r⟩
  cases ay <;> first | (cases wx <;> exact (show False from h).elim) | skip
  case str j =>
    cases ax <;> first | exact (show False from h).elim | skip
    case str i => exact op_notin_str pins s σ H _ _ v u Q I rx ry ⟨i, j, rfl, rfl, k.at am (.bl _) h⟩
  case tup a xs ws e q =>
    have h : flatW wx = true ∧ ws.all flatW = true ∧ R (.bl (!inW wx ws)) M := by cases wx <;> exact h
    obtain ⟨h1, h2⟩ := AVs.inn ax h.1 q h.2.1
    exact op_notIn_seq pins s σ H _ _ v u Q I rx ry ⟨a, xs, rfl, .inr (SqT.of e), ax.flat h.1, h1, by rw [h2]; exact k.at am (.bl _) h.2.2⟩
  case rl a xs ws e _ q =>
    have h : flatW wx = true ∧ ws.all flatW = true ∧ R (.bl (!inW wx ws)) M := by cases wx <;> exact h
    obtain ⟨h1, h2⟩ := AVs.inn ax h.1 q h.2.1
    exact op_notIn_seq pins s σ H _ _ v u Q I rx ry ⟨a, xs, rfl, .inl (SqL.of e), ax.flat h.1, h1, by rw [h2]; exact k.at am (.bl _) h.2.2⟩
  case dk a ks kvs e n ke q =>
    have h : ∃ o, dGet M (.dk kvs) wx o ∧ R (.bl (!o.isSome)) M := by cases wx <;> exact h
    obtain ⟨o, g, r⟩ := h
    exact dict ry (.dk e n ke q) o g r
  case dt a ks kvs e n ke q =>
    have h : ∃ o, dGet M (.dt kvs) wx o ∧ R (.bl (!o.isSome)) M := by cases wx <;> exact h
    obtain ⟨o, g, r⟩ := h
    exact dict ry (.dt e n ke q) o g r
  case ref a =>
    have h : (∃ ws, M a = some (.lst ws) ∧ flatW wx = true ∧ ws.all flatW = true ∧ R (.bl (!inW wx ws)) M) ∨ ∃ o, dGet M (.ref a) wx o ∧ R (.bl (!o.isSome)) M := by cases wx <;> exact h
    rcases h with ⟨ws, e, h⟩ | ⟨o, g, r⟩
    · obtain ⟨vs, f, q⟩ := am.lst e
      obtain ⟨h1, h2⟩ := AVs.inn ax h.1 q h.2.1
      exact op_notIn_seq pins s σ H _ _ v u Q I rx ry ⟨a, vs, rfl, .inl (SqL.of f), ax.flat h.1, h1, by rw [h2]; exact k.at am (.bl _) h.2.2⟩
    · exact dict ry (.ref a) o g r
def rLen : List W → Mm → K3 → Prop
  | [.tup ws], M, R => R (.int ws.length) M
  | [.rl ws], M, R => R (.int ws.length) M
  | [.sc ws], M, R => R (.int ws.length) M
  | [.dk kvs], M, R => R (.int kvs.length) M
  | [.str z], M, R => z.length ≤ sizeLine ∧ R (.int z.length) M
  | [.ref a], M, R => (∃ ws, M a = some (.lst ws) ∧ R (.int ws.length) M) ∨ ∃ kvs, M a = some (.dK kvs) ∧ R (.int kvs.length) M
  | _, _, _ => False
theorem AVs.one {K : PySem.W.Frag} {H : Hp} {M : Mm} {vs : List V} {w : W} (h : AVs K H M vs [w]) : ∃ v, vs = [v] ∧ AV K H M v w := by
  cases h with
  | cons x r => cases r; exact ⟨_, rfl, x⟩
theorem AVs.two {K : PySem.W.Frag} {H : Hp} {M : Mm} {vs : List V} {w z : W} (h : AVs K H M vs [w, z]) : ∃ v u, vs = [v, u] ∧ AV K H M v w ∧ AV K H M u z := by
  cases h with
  | cons x r => obtain ⟨u, rfl, y⟩ := r.one; exact ⟨_, _, rfl, x, y⟩
theorem c_len : CallR X (.builtin "len") (upC X.K rLen) := by
  rintro pins s σ H xs us Q I rs ⟨ws, M, R, am, axs, h, k⟩
  match ws, h with
  | [.tup ws], h =>
    obtain ⟨v, rfl, av⟩ := axs.one
    cases av with
    | tup e q => exact call_len_seq pins s σ H _ us Q I rs ⟨_, _, rfl, .inr (SqT.of e), by rw [q.length]; exact k.at am (.int _) h⟩
  | [.rl ws], h =>
    obtain ⟨v, rfl, av⟩ := axs.one
    cases av with
    | rl e _ q => exact call_len_seq pins s σ H _ us Q I rs ⟨_, _, rfl, .inl (SqL.of e), by rw [q.length]; exact k.at am (.int _) h⟩
  | [.sc ws], h =>
    obtain ⟨v, rfl, av⟩ := axs.one
    cases av with
    | sc e q => exact call_len_seq pins s σ H _ us Q I rs ⟨_, _, rfl, .inl e.sq, by rw [q.length]; exact k.at am (.int _) h⟩
  | [.dk kvs], h =>
    obtain ⟨v, rfl, av⟩ := axs.one
    cases av with
    | dk e n ke q => exact call_lenD pins s σ H _ us Q I rs ⟨_, _, rfl, e, by rw [Paired.length (pkv_of ke q)]; exact k.at am (.int _) h⟩
  | [.str z], h =>
    obtain ⟨v, rfl, av⟩ := axs.one
    cases av
    exact call_len_str pins s σ H _ us Q I rs ⟨z, rfl, h.1, k.at am (.int _) h.2⟩
  | [.ref a], h =>
    obtain ⟨v, rfl, av⟩ := axs.one
    cases av
    rcases h with ⟨ws, e, r⟩ | ⟨kvs, e, r⟩
    · obtain ⟨vs, f, q⟩ := am.lst e
      exact call_len_seq pins s σ H _ us Q I rs ⟨_, _, rfl, .inl (SqL.of f), by rw [q.length]; exact k.at am (.int _) r⟩
    · obtain ⟨ks, f, q⟩ := am _ _ e
      exact call_lenD pins s σ H _ us Q I rs ⟨a, ks, rfl, f, by rw [Paired.length q]; exact k.at am (.int _) r⟩
def rList : List W → Mm → K3 → Prop
  | [.tup ws], M, R => New ws M R
  | [.rl ws], M, R => New ws M R
  | [.sc ws], M, R => New ws M R
  | [.dk kvs], M, R => New (kvs.map fun kv => wK kv.1) M R
  | [.ref a], M, R => (∃ ws, M a = some (.lst ws) ∧ New ws M R) ∨ ∃ kvs, M a = some (.dK kvs) ∧ New (kvs.map fun kv => wK kv.1) M R
  | _, _, _ => False
theorem pkv_keys {K : PySem.W.Frag} {H : Hp} {M : Mm} {ks : List (Key × V)} {kvs : List (Key × W)} (h : PKV K H M Key ks kvs) : AVs K H M (ks.map fun kv => kV kv.1) (kvs.map fun kv => wK kv.1) := by
  induction h with
  | nil => exact .nil
  | @cons p q ps qs r t ih =>
    refine .cons ?_ ih
    show AV K H M (kV p.1) (wK q.1)
    rw [r.1]
    cases q.1 with
    | inl i => exact .int i
    | inr x => exact .str x
theorem c_list (hc : X.calm = true) : CallR X (.type "list") (upC X.K rList) := by
  rintro pins s σ H xs us Q I rs ⟨ws, M, R, am, axs, h, k⟩
  match ws, h with
  | [.tup ws], h =>
    obtain ⟨v, rfl, av⟩ := axs.one
    cases av with
    | tup e q => exact call_list_of pins s σ H _ us Q I rs ⟨_, _, rfl, .inr (SqT.of e), fun p hp => laidL am k hp q h⟩
  | [.rl ws], h =>
    obtain ⟨v, rfl, av⟩ := axs.one
    cases av with
    | rl e _ q => exact call_list_of pins s σ H _ us Q I rs ⟨_, _, rfl, .inl (SqL.of e), fun p hp => laidL am k hp q h⟩
  | [.sc ws], h =>
    obtain ⟨v, rfl, av⟩ := axs.one
    cases av with
    | sc e q => exact call_list_of pins s σ H _ us Q I rs ⟨_, _, rfl, .inl e.sq, fun p hp => laidL am k hp q h⟩
  | [.dk kvs], h =>
    obtain ⟨v, rfl, av⟩ := axs.one
    cases av with
    | dk e n ke q => exact call_list_dict hc pins s σ H _ us Q I rs ⟨_, _, rfl, e, fun p hp => laidL am k hp (pkv_keys (pkv_of ke q)) h⟩
  | [.ref a], h =>
    obtain ⟨v, rfl, av⟩ := axs.one
    cases av
    rcases h with ⟨ws, e, r⟩ | ⟨kvs, e, r⟩
    · obtain ⟨vs, f, q⟩ := am.lst e
      exact call_list_of pins s σ H _ us Q I rs ⟨_, _, rfl, .inl (SqL.of f), fun p hp => laidL am k hp q r⟩
    · obtain ⟨ks, f, q⟩ := am _ _ e
      exact call_list_dict hc pins s σ H _ us Q I rs ⟨a, ks, rfl, f, fun p hp => laidL am k hp (pkv_keys q) r⟩
def rTuple : List W → Mm → K3 → Prop
  | [.tup ws], M, R => R (.tup ws) M
  | [.rl ws], M, R => R (.tup ws) M
  | [.ref a], M, R => ∃ ws, M a = some (.lst ws) ∧ R (.tup ws) M
  | _, _, _ => False
theorem c_tuple : CallR X (.type "tuple") (upC X.K rTuple) := by
  rintro pins s σ H xs us Q I rs ⟨ws, M, R, am, axs, h, k⟩
  match ws, h with
  | [.tup ws], h =>
    obtain ⟨v, rfl, av⟩ := axs.one
    cases av with
    | tup e q => exact call_tuple_of pins s σ H _ us Q I rs ⟨_, _, rfl, .inr ⟨SqT.of e, k.at am (.tup e q) h⟩⟩
  | [.rl ws], h =>
    obtain ⟨v, rfl, av⟩ := axs.one
    cases av with
    | rl e _ q => exact call_tuple_of pins s σ H _ us Q I rs ⟨_, _, rfl, .inl ⟨SqL.of e, fun p hp => laidT am k hp q h⟩⟩
  | [.ref a], h =>
    obtain ⟨v, rfl, av⟩ := axs.one
    cases av
    obtain ⟨ws, e, r⟩ := h
    obtain ⟨vs, f, q⟩ := am.lst e
    exact call_tuple_of pins s σ H _ us Q I rs ⟨_, _, rfl, .inl ⟨SqL.of f, fun p hp => laidT am k hp q r⟩⟩
def rStr : List W → Mm → K3 → Prop
  | [.int i], M, R => i.natAbs.log2 < 1920 ∧ R (.str (toString i)) M
  | _, _, _ => False
theorem c_str : CallR X (.type "str") (upC X.K rStr) := by
  rintro pins s σ H xs us Q I rs ⟨ws, M, R, am, axs, h, k⟩
  match ws, h with
  | [.int i], h =>
    obtain ⟨v, rfl, av⟩ := axs.one
    cases av
    exact call_str_int pins s σ H _ us Q I rs ⟨i, rfl, h.1, k.at am (.str _) h.2⟩
def bools (bs : List Bool) : List W := bs.map W.bl
theorem AVs.bools {K : PySem.W.Frag} {H : Hp} {M : Mm} : ∀ {bs : List Bool} {vs : List V}, AVs K H M vs (L3.bools bs) → vs = bs.map V.bl
  | [], _, h => by cases h; rfl
  | b :: r, _, h => by
    cases h with
    | cons x y => cases x; rw [AVs.bools y]; rfl
theorem AVs.ints {K : PySem.W.Frag} {H : Hp} {M : Mm} : ∀ {bs : List Int} {vs : List V}, AVs K H M vs (bs.map W.int) → vs = bs.map V.int
  | [], _, h => by cases h; rfl
  | b :: r, _, h => by
    cases h with
    | cons x y => cases x; rw [AVs.ints y]; rfl
def rAll : List W → Mm → K3 → Prop
  | [.ref a], M, R => ∃ bs, M a = some (.lst (bools bs)) ∧ R (.bl (bs.all id)) M
  | [.rl ws], M, R => ∃ bs, ws = bools bs ∧ R (.bl (bs.all id)) M
  | _, _, _ => False
theorem c_all (hc : X.calm = true) : CallR X (.builtin "all") (upC X.K rAll) := by
  rintro pins s σ H xs us Q I rs ⟨ws, M, R, am, axs, h, k⟩
  match ws, h with
  | [.ref a], h =>
    obtain ⟨v, rfl, av⟩ := axs.one
    cases av
    obtain ⟨bs, e, r⟩ := h
    obtain ⟨vs, f, q⟩ := am.lst e
    rw [q.bools] at f
    exact call_all hc pins s σ H _ us Q I rs ⟨a, bs, rfl, SqL.of f, k.at am (.bl _) r⟩
  | [.rl ws], h =>
    obtain ⟨v, rfl, av⟩ := axs.one
    obtain ⟨bs, rfl, r⟩ := h
    cases av with
    | rl f _ q =>
      rw [q.bools] at f
      exact call_all hc pins s σ H _ us Q I rs ⟨_, bs, rfl, SqL.of f, k.at am (.bl _) r⟩
def rApp : W → List W → Mm → K3 → Prop
  | .ref l, [y], M, R => ∃ ws, M l = some (.lst ws) ∧ ws.length < sizeLine ∧ R .non (put M l (.lst (ws ++ [y])))
  | _, _, _, _ => False
theorem m_append : MtR X "list.append" (upM X.K rApp) := by
  rintro pins s σ H x xs v us Q I rx rs ⟨wx, ws, M, R, am, ax, axs, h, k⟩
  match wx, ws, h with
  | .ref l, [y], h =>
    obtain ⟨z, rfl, az⟩ := axs.one
    cases ax
    obtain ⟨ws, e, hl, r⟩ := h
    obtain ⟨vs, f, q⟩ := am.lst e
    exact mt_append pins s σ H _ _ v us Q I rx rs ⟨l, vs, z, rfl, rfl, f, by rw [q.length]; exact hl, wroteL am k e (q.append (.cons az .nil)) .non r⟩
def rExt : W → List W → Mm → K3 → Prop
  | .ref l, [.ref b], M, R => ∃ ws zs, M l = some (.lst ws) ∧ M b = some (.lst zs) ∧ ws.length + zs.length ≤ sizeLine ∧ R .non (put M l (.lst (ws ++ zs)))
  | .ref l, [.rl zs], M, R => ∃ ws, M l = some (.lst ws) ∧ ws.length + zs.length ≤ sizeLine ∧ R .non (put M l (.lst (ws ++ zs)))
  | _, _, _, _ => False
theorem m_extend : MtR X "list.extend" (upM X.K rExt) := by
  rintro pins s σ H x xs v us Q I rx rs ⟨wx, ws, M, R, am, ax, axs, h, k⟩
  match wx, ws, h with
  | .ref l, [.ref b], h =>
    obtain ⟨z, rfl, az⟩ := axs.one
    cases ax
    cases az
    obtain ⟨ws, zs, e, e2, hl, r⟩ := h
    obtain ⟨vs, f, q⟩ := am.lst e
    obtain ⟨vz, f2, q2⟩ := am.lst e2
    exact mt_extend pins s σ H _ _ v us Q I rx rs ⟨l, b, vs, vz, rfl, rfl, f, f2, by rw [q.length, q2.length]; exact hl, wroteL am k e (q.append q2) .non r⟩
  | .ref l, [.rl zs], h =>
    obtain ⟨z, rfl, az⟩ := axs.one
    cases ax
    cases az with
    | rl f2 _ q2 =>
      obtain ⟨ws, e, hl, r⟩ := h
      obtain ⟨vs, f, q⟩ := am.lst e
      exact mt_extend pins s σ H _ _ v us Q I rx rs ⟨l, _, vs, _, rfl, rfl, f, f2, by rw [q.length, q2.length]; exact hl, wroteL am k e (q.append q2) .non r⟩
def rPop : W → List W → Mm → K3 → Prop
  | .ref l, [], M, R => ∃ ws w, M l = some (.lst (ws ++ [w])) ∧ R w (put M l (.lst ws))
  | _, _, _, _ => False
def vNewK : TE3 := fun _ M R => NewK [] M R
def vNewT : TE3 := fun _ M R => NewT [] M R
theorem v_dnewK : E3 X (.Dict [] [] pos) vNewK := pe_dnewK.weak fun σ H Q ⟨τ, M, R, as, am, h, k⟩ p hp => by
  obtain ⟨am2, k2⟩ := am.laid (o := .dK []) (u := .dK []) hp ⟨[], upd_same, .nil⟩
  exact k _ _ _ _ k2 am2 (.ref p) (h p (am.nonM hp))
end
end L3
set_option Elab.async false
set_option linter.all false
set_option maxRecDepth 100000
set_option maxHeartbeats 4000000
namespace L3
open PySem PySem.Spec PyProof.Rows L2
abbrev P3 (X : Cx) (st : Stmt) (t : TS3) : Prop := PS X st (upS X.K t)
abbrev Ps3 (X : Cx) (st : List Stmt) (t : TS3) : Prop := PSs X st (upS X.K t)
abbrev TG3 := W → S3 → Mm → (S3 → Mm → Prop) → Prop
abbrev TGs3 := List W → S3 → Mm → (S3 → Mm → Prop) → Prop
def upG (K : PySem.W.Frag) (g : TG3) : TG := fun v σ H Q => ∃ w τ M R, AV K H M v w ∧ AS K H M σ τ ∧ AM K H M ∧ g w τ M R ∧ UpS K H M R Q
def upGs (K : PySem.W.Frag) (g : TGs3) : TGs := fun vs σ H Q => ∃ ws τ M R, AVs K H M vs ws ∧ AS K H M σ τ ∧ AM K H M ∧ g ws τ M R ∧ UpS K H M R Q
section
variable {X : Cx} {pos : Pos}
theorem _root_.L2.PG.weak {e : Expr} {t t' : TG} (h : PG X e t) (k : ∀ v σ H Q, t' v σ H Q → t v σ H Q) : PG X e t' := fun pins s σ H v u Q I r q => h pins s σ H v u Q I r (k v σ H Q q)
theorem _root_.L2.PGs.weak {e : List Expr} {t t' : TGs} (h : PGs X e t) (k : ∀ v σ H Q, t' v σ H Q → t v σ H Q) : PGs X e t' := fun pins s σ H v u Q I r q => h pins s σ H v u Q I r (k v σ H Q q)
theorem UpS.at {K : PySem.W.Frag} {H : Hp} {M : Mm} {R : S3 → Mm → Prop} {Q : SV → Hp → Prop} (h : UpS K H M R Q) (am : AM K H M) {σ : SV} {τ : S3} (as : AS K H M σ τ) (r : R τ M) : Q σ H := h σ H τ M (Kp.refl am) am as r
def wName (i : Nat) : TG3 := fun w τ M R => R (τ.set i (some w)) M
theorem w_name {i : Nat} {x : Str} (hN : X.N.Nodup) (hi : X.N[i]? = some x) (hx : Loc X.env.scope x) (hf : X.fn x = true ∨ X.env.scope.names.lookup x = some .local := by first | exact .inl rfl | exact .inr rfl | assumption) : PG X (.Name x pos) (upG X.K (wName i)) :=
  (pg_name hN hi hx hf).weak fun v σ H Q ⟨w, τ, M, R, av, as, am, h, k⟩ => k.at am (as.set av i) h
def wNil : TGs3 := fun ws τ M R => ws = [] ∧ R τ M
def wCons (t : TG3) (u : TGs3) : TGs3 := fun ws τ M R => match ws with
  | w :: r => t w τ M fun τ' M' => u r τ' M' R
  | [] => False
theorem w_nil : PGs X [] (upGs X.K wNil) := pgs_nil.weak fun vs σ H Q ⟨ws, τ, M, R, av, as, am, ⟨e, h⟩, k⟩ => by
  subst e; cases av; exact ⟨rfl, k.at am as h⟩
theorem w_cons {e : Expr} {es : List Expr} {t : TG3} {u : TGs3} (h1 : PG X e (upG X.K t)) (h2 : PGs X es (upGs X.K u))
    (hs : (assignEach (e :: es) X.env).map (·.2) = assign e X.env :: (assignEach es X.env).map (·.2) := by rfl) : PGs X (e :: es) (upGs X.K (wCons t u)) :=
  (pgs_cons h1 h2 hs).weak fun vs σ H Q ⟨ws, τ, M, R, av, as, am, h, k⟩ => by
    cases av with
    | nil => exact (show False from h).elim
    | cons x r => exact ⟨_, _, rfl, _, τ, M, _, x, as, am, h, fun σ' H' τ' M' k' am' as' h' => ⟨_, τ', M', R, r.kp am k', as', am', h', k.kp k'⟩⟩
def wTup (n : Nat) (g : TGs3) : TG3 := fun w τ M R => match w with
  | .tup ws => ws.length = n ∧ g ws τ M R
  | .rl ws => ws.length = n ∧ g ws τ M R
  | .ref a => ∃ ws, M a = some (.lst ws) ∧ ws.length = n ∧ g ws τ M R
  | _ => False
theorem w_tup {es : List Expr} {k : Nat} {t : TGs3} {n : Nat} (hc : X.calm = true) (h : PGs X es (upGs X.K t))
    (hn : (assignEach es X.env).length = n := by rfl) (hst : (assignEach es X.env).findIdx? (·.1) = none := by rfl) : PG X (.Tuple es k pos) (upG X.K (wTup n t)) := by
  rintro pins s σ H v u Q I r ⟨w, τ, M, R, av, as, am, hw, kk⟩
  cases av <;> first | exact (show False from hw).elim | skip
  case tup a xs ws e q =>
    exact pg_tup hc h hn hst pins s σ H _ u Q I r ⟨a, xs, rfl, SqT.of e, by rw [q.length]; exact hw.1, _, τ, M, R, q, as, am, hw.2, kk⟩
  case rl a vs ws f _ q =>
    exact pg_lst hc h hn hst pins s σ H _ u Q I r ⟨a, vs, rfl, SqL.of f, by rw [q.length]; exact hw.1, _, τ, M, R, q, as, am, hw.2, kk⟩
  case ref a =>
    obtain ⟨ws, e, hl, hw⟩ := hw
    obtain ⟨vs, f, q⟩ := am.lst e
    exact pg_lst hc h hn hst pins s σ H _ u Q I r ⟨a, vs, rfl, SqL.of f, by rw [q.length]; exact hl, _, τ, M, R, q, as, am, hw, kk⟩
def vAsg (te : TE3) (g : TG3) : TS3 := fun D τ M => te τ M fun x M1 => g x τ M1 D.nx
theorem vAsg_up {K : PySem.W.Frag} {te : TE3} {g : TG3} {D : Ends} {σ : SV} {H : Hp} (h : upS K (vAsg te g) D σ H) : tAsg (up K te) (upG K g) D σ H := by
  obtain ⟨τ, M, D', as, am, h, k⟩ := h
  exact ⟨τ, M, _, as, am, h, fun x H1 wx M1 k1 am1 ax h1 => ⟨wx, τ, M1, D'.nx, ax, as.kp am k1, am1, h1, k.nx.kp k1⟩⟩
theorem s_asg {tg e : Expr} {te : TE3} {g : TG3} (he : E3 X e te) (hg : PG X tg (upG X.K g)) (hs : swapsWithSole [tg] e pos.line X.env = pure false := by rfl) (hw : swappedStores [tg] e X.env = pure none := by rfl)
    (h1 : (assignEach [tg] X.env).map (·.2) = [assign tg X.env] := by rfl) : P3 X (.Assign [tg] e pos) (vAsg te g) := (ps_asg he hg hs hw h1).weak fun _ _ _ h => vAsg_up h
def vSet (i : Nat) (te : TE3) : TS3 := fun D τ M => te τ M fun x M1 => D.nx (τ.set i (some x)) M1
theorem s_set {i : Nat} {x : Str} {e : Expr} {te : TE3} {pos' : Pos} (hN : X.N.Nodup) (hi : X.N[i]? = some x) (hx : Loc X.env.scope x) (he : E3 X e te) (hs : swapsWith e (some (.Name x pos')) pos.line X.env = pure false := by rfl) (hf : X.fn x = true ∨ X.env.scope.names.lookup x = some .local := by first | exact .inl rfl | exact .inr rfl | assumption) :
    P3 X (.Assign [.Name x pos'] e pos) (vSet i te) := (ps_set hN hi hx he hs hf).weak fun D σ H ⟨τ, M, D', as, am, h, k⟩ => ⟨τ, M, _, as, am, h, fun y H1 wy M1 k1 am1 ay h1 => k.nx _ _ _ _ k1 am1 ((as.kp am k1).set ay i) h1⟩
def rSetI (o i v : W) (M : Mm) (Q : Mm → Prop) : Prop := match o with
  | .ref a => (∃ ws k j, i = .int k ∧ M a = some (.lst ws) ∧ ixN ws.length k = some j ∧ Q (put M a (.lst (ws.set j v)))) ∨
      (∃ kvs k, i = wK k ∧ M a = some (.dK kvs) ∧ kvs.length < sizeLine ∧ Q (put M a (.dK (putW kvs k v)))) ∨
      ∃ kvs k, i = .tup (k.map wK) ∧ M a = some (.dT kvs) ∧ kvs.length < sizeLine ∧ Q (put M a (.dT (putW kvs k v)))
  | _ => False
def upSet (K : PySem.W.Frag) : TSet := fun o i v H Q => ∃ wo wi wv M R, AV K H M o wo ∧ AV K H M i wi ∧ AV K H M v wv ∧ AM K H M ∧ rSetI wo wi wv M R ∧ ∀ H' M', Kp H M H' M' → AM K H' M' → R M' → Q H'
theorem set_dict (hu : X.A.units + 1 < cLine) : PSet X (fun o i v H Q => ∃ a H', o = .ref a ∧ DPut H a i v H' ∧ Q H') := by
  intro pins s σ H o i v ov iv u Q I ro ri rv h
  obtain ⟨a, H', rfl, d, q⟩ := h
  cases ro
  exact d_setItem hu I d ri rv fun s4 I4 => ⟨H', I4, q⟩
theorem set_up (hu : X.A.units + 1 < cLine) : PSet X (upSet X.K) := by
  rintro pins s σ H o i v ov iv u Q I ro ri rv ⟨wo, wi, wv, M, R, ao, ai, av, am, h, k⟩
  cases ao <;> first | exact (show False from h).elim | skip
  case ref a =>
    rcases h with ⟨ws, n, j, rfl, e, hj, r⟩ | ⟨kvs, n, rfl, e, hl, r⟩ | ⟨kvs, n, rfl, e, hl, r⟩
    · cases ai
      obtain ⟨vs, f, q⟩ := am.lst e
      obtain ⟨am2, k2⟩ := am.write (o := .lst (ws.set j wv)) (u := .lst (vs.set j v)) e ⟨_, upd_same, (AVs.set av j q).wr am e⟩
      exact set_list pins s σ H _ _ v ov iv u Q I ro ri rv ⟨a, vs, n, j, rfl, rfl, f, by rw [q.length]; exact hj, k _ _ k2 am2 r⟩
    · obtain ⟨ks, f, q⟩ := am _ _ e
      rw [ai.key] at ri
      have z : AO X.K (upd H a (.dK (putK ks n v))) (put M a (.dK (putW kvs n wv))) a (.dK (putW kvs n wv)) := ⟨_, upd_same, Paired.mapP (pkv_put q n av) fun p q z => ⟨z.1, z.2.wr am e⟩⟩
      obtain ⟨am2, k2⟩ := am.write e z
      exact set_dict hu pins s σ H _ _ v ov iv u Q I ro ri rv ⟨a, _, rfl, DPut.k f (by rw [Paired.length q]; exact hl), k _ _ k2 am2 r⟩
    · obtain ⟨ks, f, q⟩ := am _ _ e
      cases ai with
      | tup eb qb =>
        have eb' := eb
        rw [qb.keys] at eb'
        have z : AO X.K (upd H a (.dT (putK ks n v))) (put M a (.dT (putW kvs n wv))) a (.dT (putW kvs n wv)) := ⟨_, upd_same, Paired.mapP (pkv_put q n av) fun p q z => ⟨z.1, z.2.wr am e⟩⟩
        obtain ⟨am2, k2⟩ := am.write e z
        exact set_dict hu pins s σ H _ _ v ov iv u Q I ro ri rv ⟨a, _, rfl, DPut.t f eb' (by rw [Paired.length q]; exact hl), k _ _ k2 am2 r⟩
def wSub (to ti : TE3) : TG3 := fun w τ M R => to τ M fun o M1 => ti τ M1 fun i M2 => rSetI o i w M2 fun M3 => R τ M3
theorem w_sub {o i : Expr} {to ti : TE3} (hu : X.A.units + 1 < cLine) (ho : E3 X o to) (hi : E3 X i ti)
    (ha : ∀ v, assign (.Subscript o i pos) X.env v = (do
      let ov ← holding [v] (eval o X.env)
      let iv ← holding [v, ov] (eval i X.env)
      standAt pos
      holding [v, ov, iv] (setItem ov iv v)
      release [v, ov, iv] []) := by intro _; rfl) : PG X (.Subscript o i pos) (upG X.K (wSub to ti)) :=
  (pg_sub ho hi (set_up hu) ha).weak fun v σ H Q ⟨w, τ, M, R, av, as, am, h, k⟩ => ⟨τ, M, _, as, am, h, fun o H1 wo M1 k1 am1 ao h1 => ⟨τ, M1, _, as.kp am k1, am1, h1, fun i H2 wi M2 k2 am2 ai h2 =>
    ⟨wo, wi, w, M2, _, ao.kp am1 k2, ai, (av.kp am k1).kp am1 k2, am2, h2, fun H' M' k' am' r => k _ _ _ _ ((k1.trans k2).trans k') am' (((as.kp am k1).kp am1 k2).kp am2 k') r⟩⟩⟩
def vNext : TS3 := fun D τ M => D.nx τ M
def vSeq (t u : TS3) : TS3 := fun D τ M => t { D with nx := u D } τ M
variable {st : Stmt} {rest : List Stmt} {t u : TS3} {e : Expr} {te : TE3}
theorem ss_nil : Ps3 X [] vNext := pss_nil.weak fun D σ H ⟨τ, M, D', as, am, h, k⟩ => k.nx.at am as h
theorem ss_cons (h1 : P3 X st t) (h2 : Ps3 X rest u) : Ps3 X (st :: rest) (vSeq t u) := (pss_cons h1 h2).weak fun D σ H ⟨τ, M, D', as, am, h, k⟩ =>
  ⟨τ, M, _, as, am, h, ⟨fun σ' H' τ' M' k' am' as' h' => ⟨τ', M', D', as', am', h', k.kp k'⟩, k.rt, k.bk, k.ct⟩⟩
theorem ss_one (h1 : P3 X st t) : Ps3 X [st] t := pss_one h1
def vDrop (te : TE3) : TS3 := fun D τ M => te τ M fun _ M1 => D.nx τ M1
theorem s_expr (he : E3 X e te) (hs : swapsWith e none pos.line X.env = pure false := by rfl) : P3 X (.Expr e pos) (vDrop te) := (ps_expr he hs).weak fun D σ H ⟨τ, M, D', as, am, h, k⟩ =>
  ⟨τ, M, _, as, am, h, fun v H' w M' k' am' av r => k.nx _ _ _ _ k' am' (as.kp am k') r⟩
def vRet (te : TE3) : TS3 := fun D τ M => te τ M D.rt
theorem s_ret (he : E3 X e te) : P3 X (.Return (some e) pos) (vRet te) := (ps_ret he).weak fun D σ H ⟨τ, M, D', as, am, h, k⟩ => ⟨τ, M, _, as, am, h, k.rt⟩
def vIfS (c : TT3) (t u : TS3) : TS3 := fun D τ M => c τ M fun b M1 => if b = true then t D τ M1 else u D τ M1
theorem s_if {c : Expr} {a b : List Stmt} {tc : TT3} (hc : T3 X c tc) (ha : Ps3 X a t) (hb : Ps3 X b u) : P3 X (.If c a b pos) (vIfS tc t u) := (ps_if hc ha hb).weak fun D σ H ⟨τ, M, D', as, am, h, k⟩ =>
  ⟨τ, M, _, as, am, h, fun b H1 M1 k1 am1 h1 => by
    cases b with
    | true => exact ⟨τ, M1, D', as.kp am k1, am1, h1, k.kp k1⟩
    | false => exact ⟨τ, M1, D', as.kp am k1, am1, h1, k.kp k1⟩⟩
theorem s_never : P3 X st (fun _ _ _ => False) := ps_never.weak fun D σ H ⟨τ, M, D', as, am, h, k⟩ => h.elim
def vWhile (c : TT3) (tb : TS3) : TS3 := fun D τ M => ∃ Pv : Nat → S3 → Mm → Prop, (∃ m, Pv m τ M) ∧ ∀ m τ M, Pv m τ M →
  c τ M fun b M1 => if b = true then tb { D with nx := fun τ' M' => ∃ m' M'', m' < m ∧ Sub M'' M' ∧ Pv m' τ' M'', ct := fun τ' M' => ∃ m' M'', m' < m ∧ Sub M'' M' ∧ Pv m' τ' M'', bk := D.nx } τ M1 else D.nx τ M1
theorem s_while {c : Expr} {body : List Stmt} {tc : TT3} {tb : TS3} (hp : PassesOwn (model X.prog X.w) X.A X.env X.xe) (hc : T3 X c tc) (hb : Ps3 X body tb) : P3 X (.While c body [] pos) (vWhile tc tb) :=
  (ps_while hp hc hb).weak fun D σ H ⟨τ, M, D', as, am, ⟨Pv, ⟨m, h0⟩, h⟩, k⟩ => by
    refine ⟨fun m σ' H' => ∃ τ' M', Kp H M H' M' ∧ AM X.K H' M' ∧ AS X.K H' M' σ' τ' ∧ Pv m τ' M', ⟨m, τ, M, Kp.refl am, am, as, h0⟩, ?_⟩
    rintro m σ1 H1 ⟨τ1, M1, k1, am1, as1, p1⟩
    refine ⟨τ1, M1, _, as1, am1, h m τ1 M1 p1, fun b H2 M2 k2 am2 h2 => ?_⟩
    cases b with
    | false => exact k.nx _ _ _ _ (k1.trans k2) am2 (as1.kp am1 k2) h2
    | true =>
      have h2 : tb { D' with nx := fun τ' M' => ∃ m' M'', m' < m ∧ Sub M'' M' ∧ Pv m' τ' M'', ct := fun τ' M' => ∃ m' M'', m' < m ∧ Sub M'' M' ∧ Pv m' τ' M'', bk := D'.nx } τ1 M2 := h2
      refine ⟨fun σ' H' => ∃ m' τ' M', m' < m ∧ Kp H M H' M' ∧ AM X.K H' M' ∧ AS X.K H' M' σ' τ' ∧ Pv m' τ' M', fun σ' H' ⟨m', τ', M', q1, q2, q3, q4, q5⟩ => ⟨m', q1, τ', M', q2, q3, q4, q5⟩, τ1, M2, _, as1.kp am1 k2, am2, h2, ?_⟩
      have again : UpS X.K H2 M2 (fun τ' M' => ∃ m' M'', m' < m ∧ Sub M'' M' ∧ Pv m' τ' M'') (fun σ' H' => ∃ m' τ' M', m' < m ∧ Kp H M H' M' ∧ AM X.K H' M' ∧ AS X.K H' M' σ' τ' ∧ Pv m' τ' M') :=
        fun σ' H' τ' M' k' am' as' ⟨m', M'', q1, q2, q3⟩ => ⟨m', τ', M'', q1, ((k1.trans k2).trans k').sub q2, am'.sub q2, as'.sub q2, q3⟩
      exact ⟨again, (k.rt.kp k1).kp k2, (k.nx.kp k1).kp k2, again⟩
abbrev TI3 := S3 → Mm → (List W → (Mm → Prop) → Mm → Prop) → Prop
structure ItOk (K : PySem.W.Frag) (H0 : Hp) (M0 : Mm) (J : It) (ws : List W) (keep : Mm → Prop) : Prop where
  go : ∀ i H M, Kp H0 M0 H M → AM K H M → keep M → i < ws.length → J.go i H
  stop : ∀ H M, Kp H0 M0 H M → AM K H M → keep M → J.stop ws.length H
  yld : ∀ i H M x H', Kp H0 M0 H M → AM K H M → keep M → i < ws.length → J.yld i H x H' → ∃ w, ws[i]? = some w ∧ Kp H M H' M ∧ AM K H' M ∧ AV K H' M x w
def upI (K : PySem.W.Frag) (wi : TI3) : TI := fun σ H R' => ∃ (τ : S3) (M : Mm) (R : List W → (Mm → Prop) → Mm → Prop), AS K H M σ τ ∧ AM K H M ∧ wi τ M R ∧ ∀ J H' ws keep M', Kp H M H' M' → AM K H' M' → ItOk K H' M' J ws keep → R ws keep M' → R' J H'
theorem _root_.L2.PI.weak {tg iter : Expr} {t t' : TI} (h : PI X tg iter t) (k : ∀ σ H R, t' σ H R → t σ H R) : PI X tg iter t' := fun pins s σ H R I q => h pins s σ H R I (k σ H R q)
def vForW (ws : List W) (keep : Mm → Prop) (g : TG3) (tb : TS3) (D : D3) (τ : S3) (M : Mm) : Prop :=
  ∃ Pv : Nat → S3 → Mm → Prop, Pv 0 τ M ∧ (∀ i τ M, i ≤ ws.length → Pv i τ M → keep M) ∧
    (∀ i w τ M, ws[i]? = some w → Pv i τ M → g w τ M fun τ2 M2 => tb { D with nx := fun τ' M' => ∃ M'', Sub M'' M' ∧ Pv (i + 1) τ' M'', ct := fun τ' M' => ∃ M'', Sub M'' M' ∧ Pv (i + 1) τ' M'', bk := D.nx } τ2 M2) ∧
    ∀ τ M, Pv ws.length τ M → D.nx τ M
def vFor (wi : TI3) (g : TG3) (tb : TS3) : TS3 := fun D τ M => wi τ M fun ws keep M1 => vForW ws keep g tb D τ M1
theorem s_for {tg iter : Expr} {body : List Stmt} {wi : TI3} {g : TG3} {tb : TS3} {pos : Pos} (hp : PassesOwn (model X.prog X.w) X.A X.env X.xe) (hc : X.calm = true) (hi : PI X tg iter (upI X.K wi)) (hg : PG X tg (upG X.K g)) (hb : Ps3 X body tb)
    (hs : ∀ x, foldedSetIterable iter X.env x = pure x := by intro _; rfl) : P3 X (.For tg iter body [] pos) (vFor wi g tb) :=
  (ps_for hp hc hi hg hb hs).weak fun D σ H ⟨τ, M, D', as, am, h, k⟩ => by
    refine ⟨τ, M, _, as, am, h, fun J H1 ws keep M1 k1 am1 it ⟨Pv, h0, hk, hs, hd⟩ => ?_⟩
    refine ⟨fun i m σ' H' => m = ws.length - i ∧ i ≤ ws.length ∧ ∃ τ' M', Kp H1 M1 H' M' ∧ AM X.K H' M' ∧ AS X.K H' M' σ' τ' ∧ Pv i τ' M', ⟨_, rfl, Nat.zero_le _, τ, M1, Kp.refl am1, am1, as.kp am k1, h0⟩, ?_⟩
    rintro i m σ2 H2 ⟨rfl, hi, τ2, M2, k2, am2, as2, p2⟩
    by_cases hlt : i < ws.length
    · refine .inr ⟨it.go i H2 M2 k2 am2 (hk i τ2 M2 hi p2) hlt, fun σ' H' => ∃ τ' M', Kp H1 M1 H' M' ∧ AM X.K H' M' ∧ AS X.K H' M' σ' τ' ∧ Pv (i + 1) τ' M', fun σ' H' q => ⟨ws.length - (i + 1), by omega, rfl, hlt, q⟩, fun x H3 y => ?_⟩
      obtain ⟨w, hw, k3, am3, ax⟩ := it.yld i H2 M2 x H3 k2 am2 (hk i τ2 M2 hi p2) hlt y
      refine ⟨w, τ2, M2, _, ax, as2.kp am2 k3, am3, hs i w τ2 M2 hw p2, fun σ4 H4 τ4 M4 k4 am4 as4 h4 => ⟨τ4, M4, _, as4, am4, h4, ?_⟩⟩
      have kk := ((k2.trans k3).trans k4)
      have again : UpS X.K H4 M4 (fun τ' M' => ∃ M'', Sub M'' M' ∧ Pv (i + 1) τ' M'') (fun σ' H' => ∃ τ' M', Kp H1 M1 H' M' ∧ AM X.K H' M' ∧ AS X.K H' M' σ' τ' ∧ Pv (i + 1) τ' M') :=
        fun σ' H' τ' M' k' am' as' ⟨M'', q2, q3⟩ => ⟨τ', M'', (kk.trans k').sub q2, am'.sub q2, as'.sub q2, q3⟩
      exact ⟨again, k.rt.kp (k1.trans kk), k.nx.kp (k1.trans kk), again⟩
    · have e : i = ws.length := by omega
      subst e
      exact .inl ⟨it.stop H2 M2 k2 am2 (hk _ τ2 M2 hi p2), k.nx _ _ _ _ (k1.trans k2) am2 as2 (hd τ2 M2 p2)⟩
theorem for3 {ws : List W} {keep : Mm → Prop} {g : TG3} {tb : TS3} {D : D3} {τ : S3} {M : Mm} (Pv : Nat → S3 → Mm → Prop) (h0 : Pv 0 τ M) (hk : ∀ i τ M, i ≤ ws.length → Pv i τ M → keep M)
    (hs : ∀ i w τ M, ws[i]? = some w → Pv i τ M → g w τ M fun τ2 M2 => tb { D with nx := fun τ' M' => ∃ M'', Sub M'' M' ∧ Pv (i + 1) τ' M'', ct := fun τ' M' => ∃ M'', Sub M'' M' ∧ Pv (i + 1) τ' M'', bk := D.nx } τ2 M2)
    (hd : ∀ τ M, Pv ws.length τ M → D.nx τ M) : vForW ws keep g tb D τ M := ⟨Pv, h0, hk, hs, hd⟩
variable {tg l a b : Expr} {tl ta tb' : TE3}
theorem it_list {K : PySem.W.Frag} {H0 : Hp} {M0 : Mm} {p : Addr} {ws : List W} : ItOk K H0 M0 (Itl K p) ws fun M => M p = some (.lst ws) where
  go := fun i H M _ am e hi => by
    obtain ⟨vs, f, q⟩ := am.lst e
    exact ⟨vs, vs[i]'(by rw [q.length]; exact hi), SqL.of f, by simp⟩
  stop := fun H M _ am e => by
    obtain ⟨vs, f, q⟩ := am.lst e
    exact ⟨vs, SqL.of f, by rw [q.length]; exact Nat.le_refl _⟩
  yld := fun i H M x H' _ am e hi y => by
    obtain ⟨rfl, y⟩ := y
    obtain ⟨vs, f, q⟩ := am.lst e
    obtain ⟨w, hw, av⟩ := q.getV (y vs (SqL.of f))
    exact ⟨w, hw, Kp.refl am, am, av⟩
theorem it_st {K : PySem.W.Frag} {H0 : Hp} {M0 : Mm} {p : Addr} {vs : List V} {ws : List W} (am0 : AM K H0 M0) (st : ∀ H M, Kp H0 M0 H M → SqL K H p vs) (q0 : AVs K H0 M0 vs ws) : ItOk K H0 M0 (Itl K p) ws fun _ => True := by
  refine ⟨fun i H M k am _ hi => ⟨vs, vs[i]'(by rw [q0.length]; exact hi), st H M k, by simp⟩, fun H M k am _ => ⟨vs, st H M k, by rw [q0.length]; exact Nat.le_refl _⟩, fun i H M x H' k am _ hi y => ?_⟩
  obtain ⟨rfl, y⟩ := y
  obtain ⟨w, hw, av⟩ := (q0.kp am0 k).getV (y vs (st _ M k))
  exact ⟨w, hw, Kp.refl am, am, av⟩
theorem it_sc {K : PySem.W.Frag} {H0 : Hp} {M0 : Mm} {p : Addr} {vs : List V} {ws : List W} (am0 : AM K H0 M0) (e : SqR K H0 p vs) (q0 : AVs K H0 M0 vs ws) : ItOk K H0 M0 (Itl K p) ws fun _ => True :=
  it_st am0 (fun H M k => by
    refine SqR.sq ?_
    rcases e with ⟨o, e⟩ | e
    · exact .inl ⟨o, (k.fr _ _ (am0.noFrz e) e).1⟩
    · exact .inr e) q0
theorem it_rl {K : PySem.W.Frag} {H0 : Hp} {M0 : Mm} {p : Addr} {vs : List V} {ws : List W} (am0 : AM K H0 M0) (e : H0 p = some (.lst vs)) (n : M0 p = none) (q0 : AVs K H0 M0 vs ws) : ItOk K H0 M0 (Itl K p) ws fun _ => True :=
  it_st am0 (fun H M k => SqL.of (k.fr _ _ n e).1) q0
theorem it_tup {K : PySem.W.Frag} {H0 : Hp} {M0 : Mm} {p : Addr} {vs : List V} {ws : List W} (am0 : AM K H0 M0) (e : H0 p = some (.tup vs)) (q0 : AVs K H0 M0 vs ws) : ItOk K H0 M0 (Itt K p) ws fun _ => True := by
  have st : ∀ H M, Kp H0 M0 H M → SqT K H p vs := fun H M k => SqT.of (k.fr _ _ (am0.noTup e) e).1
  refine ⟨fun i H M k am _ hi => ⟨vs, vs[i]'(by rw [q0.length]; exact hi), st H M k, by simp⟩, fun H M k am _ => ⟨vs, st H M k, by rw [q0.length]; exact Nat.le_refl _⟩, fun i H M x H' k am _ hi y => ?_⟩
  obtain ⟨rfl, y⟩ := y
  obtain ⟨w, hw, av⟩ := (q0.kp am0 k).getV (y vs (st _ M k))
  exact ⟨w, hw, Kp.refl am, am, av⟩
theorem it_rng {K : PySem.W.Frag} {H0 : Hp} {M0 : Mm} {lo : Int} {n : Nat} : ItOk K H0 M0 (Itr lo n) ((List.range n).map fun i => W.int (lo + (i : Nat))) fun _ => True where
  go := fun i H M _ am _ hi => by show i < n; simpa using hi
  stop := fun H M _ am _ => by show n ≤ _; simp
  yld := fun i H M x H' _ am _ hi y => by
    obtain ⟨rfl, rfl⟩ := y
    have hi : i < n := by simpa using hi
    exact ⟨.int (lo + i), by simp [hi], Kp.refl am, am, .int _⟩
theorem it_str {K : PySem.W.Frag} {H0 : Hp} {M0 : Mm} {z : Str} : ItOk K H0 M0 (Its z) (z.cps.toList.map fun c => W.str ⟨#[c]⟩) fun _ => True where
  go := fun i H M _ am _ hi => by show i < z.cps.size; simpa using hi
  stop := fun H M _ am _ => by show z.cps.size ≤ _; simp
  yld := fun i H M x H' _ am _ hi y => by
    obtain ⟨rfl, c, hc, rfl⟩ := y
    exact ⟨.str ⟨#[c]⟩, by rw [List.getElem?_map, hc]; rfl, Kp.refl am, am, .str _⟩
def ItR (X : Cx) (tg : Expr) (r : V → Hp → (It → Hp → Prop) → Prop) : Prop :=
  ∀ (pins : List (Addr × Obj)) (s : Shared) (σ : SV) (H : Hp) (x : V) (u : Value) (R : It → Hp → Prop), Inv X pins σ H s → RelV x u → r x H R → wpAny (model X.prog X.w) X.A (pyIter u) (PIE X pins σ tg R) X.xe s
theorem ir_list : ItR X tg (fun x H R => ∃ a, x = .ref a ∧ (∃ xs, SqL X.K H a xs) ∧ R (Itl X.K a) H) := by
  rintro pins s1 σ H1 x u R I1 r1 ⟨a, rfl, ⟨xs, hq⟩, q⟩
  cases r1
  obtain ⟨its, rv, p, hz⟩ := I1.list hq
  refine wpAny_pyIter_list p.isList ?_
  refine ⟨s1.heap.objs.size, [s1.heap.objs.size], _, _, H1, rfl, I1.kept (t' := s1.toks) fun b o e => Heap.get?_push_of_some _ e, turn_list a _, ⟨_, Heap.get?_push_size _ rfl, rfl, rfl⟩, fun b hb => ?_, q⟩
  have e : b = s1.heap.objs.size := by simpa using hb
  subst e
  exact I1.fpOk (Nat.le_refl _) (I1.hok.fresh (Nat.le_refl _))
theorem ir_tup : ItR X tg (fun x H R => ∃ a, x = .ref a ∧ (∃ xs, SqT X.K H a xs) ∧ R (Itt X.K a) H) := by
  rintro pins s1 σ H1 x u R I1 r1 ⟨a, rfl, ⟨xs, hq⟩, q⟩
  cases r1
  obtain ⟨its, rv, p, hz⟩ := I1.tuple hq
  refine wpAny_pyIter_tuple (show s1.heap.IsTuple a its.toArray from p) ?_
  refine ⟨s1.heap.objs.size, [s1.heap.objs.size], _, _, H1, rfl, I1.kept (t' := s1.toks) fun b o e => Heap.get?_push_of_some _ e, turn_tuple a _, ⟨_, Heap.get?_push_size _ rfl, rfl, rfl⟩, fun b hb => ?_, q⟩
  have e : b = s1.heap.objs.size := by simpa using hb
  subst e
  exact I1.fpOk (Nat.le_refl _) (I1.hok.fresh (Nat.le_refl _))
theorem ir_str {x : Str} {px : Pos} : ItR X (.Name x px) (fun x H R => ∃ z, x = .str z ∧ R (Its z) H) := by
  rintro pins s1 σ H1 x u R I1 r1 ⟨z, rfl, q⟩
  obtain ⟨t, rfl⟩ := r1
  have fp : ∀ b ∈ [s1.heap.objs.size], FpOk X pins H1 b := fun b hb => by
    have e : b = s1.heap.objs.size := by simpa using hb
    subst e
    exact I1.fpOk (Nat.le_refl _) (I1.hok.fresh (Nat.le_refl _))
  cases ha : z.cps.all (· < 128)
  · refine wpAny_pyIter_wide ha ?_
    exact ⟨s1.heap.objs.size, [s1.heap.objs.size], _, _, H1, rfl, I1.kept (t' := s1.toks) fun b o e => Heap.get?_push_of_some _ e,
      turn_str z _ "str_iterator" t (fun A s i c Q E a b d => wpAny_pyNext_wide_item a b d) (fun A s i Q E a b c d => wpAny_pyNext_wide_end a b c d) (fun A i s Q E a b => wpAny_pyIter_striter_wide a b), ⟨_, Heap.get?_push_size _ rfl, rfl, rfl⟩, fp, q⟩
  · refine wpAny_pyIter_ascii ha ?_
    exact ⟨s1.heap.objs.size, [s1.heap.objs.size], _, _, H1, rfl, I1.kept (t' := s1.toks) fun b o e => Heap.get?_push_of_some _ e,
      turn_str z _ "str_ascii_iterator" t (fun A s i c Q E a b d => wpAny_pyNext_ascii_item a b d) (fun A s i Q E a b c d => wpAny_pyNext_ascii_end a b c d) (fun A i s Q E a b => wpAny_pyIter_striter_ascii a b), ⟨_, Heap.get?_push_size _ rfl, rfl, rfl⟩, fp, q⟩
theorem _root_.L2.PI.of {r : V → Hp → (It → Hp → Prop) → Prop} {tl : TE} (hl : PE X l tl) (hr : ItR X tg r) : PI X tg l (fun σ H R => tl σ H fun x H1 => r x H1 R) := fun pins s σ H R I h =>
  thn (hl pins s σ H _ I h) fun u s1 ⟨x, H1, I1, r1, q1⟩ => hr pins s1 σ H1 x u R I1 r1 q1
def upIr (K : PySem.W.Frag) (r : W → Mm → (List W → (Mm → Prop) → Mm → Prop) → Prop) : V → Hp → (It → Hp → Prop) → Prop := fun x H R' => ∃ (wx : W) (M : Mm) (R : List W → (Mm → Prop) → Mm → Prop), AV K H M x wx ∧ AM K H M ∧ r wx M R ∧
  ∀ J H' ws keep M', Kp H M H' M' → AM K H' M' → ItOk K H' M' J ws keep → R ws keep M' → R' J H'
def rIt : W → Mm → (List W → (Mm → Prop) → Mm → Prop) → Prop
  | .tup ws, M1, R => R ws (fun _ => True) M1
  | .rl ws, M1, R => R ws (fun _ => True) M1
  | .sc ws, M1, R => R ws (fun _ => True) M1
  | .ref a, M1, R => ∃ ws, M1 a = some (.lst ws) ∧ R ws (fun M => M a = some (.lst ws)) M1
  | _, _, _ => False
def rItN : W → Mm → (List W → (Mm → Prop) → Mm → Prop) → Prop
  | .tup ws, M1, R => R ws (fun _ => True) M1
  | .rl ws, M1, R => R ws (fun _ => True) M1
  | .sc ws, M1, R => R ws (fun _ => True) M1
  | .str z, M1, R => R (z.cps.toList.map fun c => W.str ⟨#[c]⟩) (fun _ => True) M1
  | .ref a, M1, R => ∃ ws, M1 a = some (.lst ws) ∧ R ws (fun M => M a = some (.lst ws)) M1
  | _, _, _ => False
theorem ir_seq : ItR X tg (upIr X.K rIt) := by
  rintro pins s σ H x u R' I r1 ⟨wx, M, R, ax, am, h, k⟩
  cases ax <;> first | exact (show False from h).elim | skip
  case tup a xs ws e q => exact ir_tup pins s σ H _ u R' I r1 ⟨a, rfl, ⟨xs, SqT.of e⟩, k _ _ _ _ _ (Kp.refl am) am (it_tup am e q) h⟩
  case rl a xs ws e n q => exact ir_list pins s σ H _ u R' I r1 ⟨a, rfl, ⟨xs, SqL.of e⟩, k _ _ _ _ _ (Kp.refl am) am (it_rl am e n q) h⟩
  case sc a xs ws e q => exact ir_list pins s σ H _ u R' I r1 ⟨a, rfl, ⟨xs, e.sq⟩, k _ _ _ _ _ (Kp.refl am) am (it_sc am e q) h⟩
  case ref a =>
    obtain ⟨ws, e, r⟩ := h
    obtain ⟨vs, f, q⟩ := am.lst e
    exact ir_list pins s σ H _ u R' I r1 ⟨a, rfl, ⟨vs, SqL.of f⟩, k _ _ _ _ _ (Kp.refl am) am it_list r⟩
theorem ir_seqN {y : Str} {py : Pos} : ItR X (.Name y py) (upIr X.K rItN) := by
  rintro pins s σ H x u R' I r1 ⟨wx, M, R, ax, am, h, k⟩
  cases ax <;> first | exact (show False from h).elim | skip
  case str z => exact ir_str pins s σ H _ u R' I r1 ⟨z, rfl, k _ _ _ _ _ (Kp.refl am) am it_str h⟩
  case tup a xs ws e q => exact ir_tup pins s σ H _ u R' I r1 ⟨a, rfl, ⟨xs, SqT.of e⟩, k _ _ _ _ _ (Kp.refl am) am (it_tup am e q) h⟩
  case rl a xs ws e n q => exact ir_list pins s σ H _ u R' I r1 ⟨a, rfl, ⟨xs, SqL.of e⟩, k _ _ _ _ _ (Kp.refl am) am (it_rl am e n q) h⟩
  case sc a xs ws e q => exact ir_list pins s σ H _ u R' I r1 ⟨a, rfl, ⟨xs, e.sq⟩, k _ _ _ _ _ (Kp.refl am) am (it_sc am e q) h⟩
  case ref a =>
    obtain ⟨ws, e, r⟩ := h
    obtain ⟨vs, f, q⟩ := am.lst e
    exact ir_list pins s σ H _ u R' I r1 ⟨a, rfl, ⟨vs, SqL.of f⟩, k _ _ _ _ _ (Kp.refl am) am it_list r⟩
def iIt (r : W → Mm → (List W → (Mm → Prop) → Mm → Prop) → Prop) (tl : TE3) : TI3 := fun τ M R => tl τ M fun w M1 => r w M1 R
theorem iIt_up {r : W → Mm → (List W → (Mm → Prop) → Mm → Prop) → Prop} (hl : E3 X l tl) (hr : ItR X tg (upIr X.K r)) : PI X tg l (upI X.K (iIt r tl)) := (PI.of hl hr).weak fun σ H R' ⟨τ, M, R, as, am, h, k⟩ =>
  ⟨τ, M, _, as, am, h, fun x H1 wx M1 k1 am1 ax h1 => ⟨wx, M1, R, ax, am1, h1, fun J H' ws keep M' k' am' it r => k J H' ws keep M' (k1.trans k') am' it r⟩⟩
theorem i_seq (hl : E3 X l tl) : PI X tg l (upI X.K (iIt rIt tl)) := iIt_up hl ir_seq
theorem i_seqN {y : Str} {py : Pos} (hl : E3 X l tl) : PI X (.Name y py) l (upI X.K (iIt rItN tl)) := iIt_up hl ir_seqN
def rangeW (lo : Int) (n : Nat) : List W := (List.range n).map fun i => W.int (lo + (i : Nat))
def iR1 (ta : TA3) : TI3 := fun τ M R => ta τ M fun ws M1 => ∃ j : Int, ws = [.int j] ∧ -(2 ^ 62) ≤ j ∧ j < 2 ^ 62 ∧ R (rangeW 0 j.toNat) (fun _ => True) M1
def iR2 (ta : TA3) : TI3 := fun τ M R => ta τ M fun ws M1 => ∃ i j : Int, ws = [.int i, .int j] ∧ (-(2 ^ 62) ≤ i ∧ i < 2 ^ 62 ∧ -(2 ^ 62) ≤ j ∧ j < 2 ^ 62) ∧ R (rangeW i (j - i).toNat) (fun _ => True) M1
theorem i_range1 {tA : TA3} {p pos : Pos} (hg : Gl X "range") (hm : X.mg "range" = none) (ha : A3 X [a] tA) (hs : starEach [a] X.env = [(false, eval a X.env)] := by rfl) : PI X tg (.Call (.Name "range" p) [a] [] pos) (upI X.K (iR1 tA)) :=
  (pi_range1 hg hm ha hs).weak fun σ H R' ⟨τ, M, R, as, am, h, k⟩ => ⟨τ, M, _, as, am, h, fun vs H1 ws M1 k1 am1 ax ⟨j, e, h1, h2, r⟩ => by
    subst e
    obtain ⟨v, rfl, av⟩ := ax.one
    cases av
    exact ⟨j, rfl, h1, h2, k _ _ _ _ _ k1 am1 it_rng r⟩⟩
def vCompW (ws : List W) (keep : Mm → Prop) (g : TG3) (tt : TT3) (te : TE3) (τ₀ : S3) (M1 : Mm) (R : K3) : Prop :=
  ∀ p, M1 p = none → ∃ Pv : Nat → S3 → List W → Mm → Prop, Pv 0 τ₀ [] M1 ∧ (∀ vs i τ acc M, i ≤ ws.length → M p = none → Pv i τ acc M → keep (put M p (.fix vs))) ∧
    (∀ vs i w τ acc M, ws[i]? = some w → M p = none → Pv i τ acc M → g w τ (put M p (.fix vs)) fun τ2 M2 => tt τ2 M2 fun b M3 =>
      if b = true then te τ2 M3 fun y M4 => M4 p = some (.fix vs) ∧ acc.length < sizeLine ∧ ∃ M5, Sub M5 (del M4 p) ∧ Pv (i + 1) τ2 (acc ++ [y]) M5
      else M3 p = some (.fix vs) ∧ ∃ M5, Sub M5 (del M3 p) ∧ Pv (i + 1) τ2 acc M5) ∧
    ∀ τ acc M, M p = none → Pv ws.length τ acc M → R (.ref p) (put M p (.lst acc))
def cmap3 (js : List (Option Nat)) (τ : S3) : S3 := js.map fun o => o.bind fun j => (τ[j]?).join
theorem AS.cmap {K : PySem.W.Frag} {H : Hp} {M : Mm} {σ : SV} {τ : S3} (h : AS K H M σ τ) : ∀ js : List (Option Nat), AS K H M (cmap js σ) (cmap3 js τ)
  | [] => .nil
  | none :: r => .cons (fun _ e => nomatch e) (AS.cmap h r)
  | some j :: r => .cons (fun w e => by
      have e : (τ[j]?).join = some w := e
      cases q : τ[j]? with
      | none => rw [q] at e; cases e
      | some z =>
        rw [q] at e
        have e : z = some w := e
        subst e
        obtain ⟨v, h1, h2⟩ := h.get q
        exact ⟨v, by show (σ[j]?).join = some v; rw [h1]; rfl, h2⟩) (AS.cmap h r)
def vComp (wi : TI3) (g : TG3) (tt : TT3) (te : TE3) (js : List (Option Nat)) : TE3 := fun τ M R => wi τ M fun ws keep M1 => vCompW ws keep g tt te (cmap3 js τ) M1 R
theorem vComp_up {wi : TI3} {g : TG3} {tt : TT3} {te : TE3} {js : List (Option Nat)} {σ : SV} {H : Hp} {Q : VK} (h : up X.K (vComp wi g tt te js) σ H Q) : tComp (upI X.K wi) (fun _ => upG X.K g) (fun _ => upT X.K tt) (fun _ => up X.K te) js σ H Q := by
  obtain ⟨τ, M, R, as, am, h, k⟩ := h
  refine ⟨τ, M, _, as, am, h, fun J H1 ws keep M1 k1 am1 it hall p hp B => ?_⟩
  obtain ⟨Pv, h0, hk, hs, hd⟩ := hall p (am1.nonM hp)
  obtain ⟨amp, kp⟩ := am1.laid (o := .fix []) (u := .lst []) hp upd_same
  have hMp := am1.nonM hp
  refine comp_by ws.length (fun i σ' acc' H' => ∃ τ' acc M', M' p = none ∧ Kp H1 M1 H' (put M' p (.fix acc')) ∧ AM X.K H' (put M' p (.fix acc')) ∧ AS X.K H' (put M' p (.fix acc')) σ' τ' ∧ AVs X.K H' (put M' p (.fix acc')) acc' acc ∧ Pv i τ' acc M') ?_ ?_ ?_
  · exact ⟨cmap3 js τ, [], M1, hMp, kp, amp, ((as.kp am k1).kp am1 kp).cmap js, .nil, h0⟩
  · rintro σ' acc' H' ⟨τ', acc, M', mp, k', am', as', av, pv⟩
    refine ⟨it.stop H' _ k' am' (hk _ _ _ _ _ (Nat.le_refl _) mp pv), ?_⟩
    have hp' : H' p = some (.lst acc') := am' p _ put_same
    refine k _ H' _ (put M' p (.lst acc)) (k1.trans ⟨fun a o n e => ?_, k'.dom⟩) (fun a o e => ?_) (.ref p) (hd τ' acc M' mp pv)
    · obtain ⟨x, y⟩ := k'.fr a o n e
      exact ⟨x, by rw [put_ne (ne_of_none e hp)] at y ⊢; exact y⟩
    · by_cases ha : a = p
      · subst ha; rw [put_same] at e; cases e; exact ⟨acc', hp', av.go go_re⟩
      · rw [put_ne ha] at e; exact (am' a o (by rw [put_ne ha]; exact e)).go go_re rfl
  · rintro i σ' acc' H' hi ⟨τ', acc, M', mp, k', am', as', av, pv⟩
    have hkp := hk acc' i τ' acc M' (Nat.le_of_lt hi) mp pv
    refine ⟨it.go i H' _ k' am' hkp hi, fun x H3 y => ?_⟩
    obtain ⟨w, hw, k3, am3, ax⟩ := it.yld i H' _ x H3 k' am' hkp hi y
    refine ⟨w, τ', _, _, ax, as'.kp am' k3, am3, hs acc' i w τ' acc M' hw mp pv, fun σ4 H4 τ4 M4 k4 am4 as4 h4 => ⟨τ4, M4, _, as4, am4, h4, fun b H5 M5 k5 am5 h5 => ?_⟩⟩
    have kk : Kp H' (put M' p (.fix acc')) H5 M5 := (k3.trans k4).trans k5
    cases b with
    | false =>
      obtain ⟨m5, M6, sb, pv6⟩ : M5 p = some (.fix acc') ∧ ∃ M6, Sub M6 (del M5 p) ∧ Pv (i + 1) τ4 acc M6 := h5
      have sb' : Sub (put M6 p (.fix acc')) M5 := by
        have := (sb.trans Sub.del).put (a := p) (o := .fix acc')
        rwa [put_self m5] at this
      exact iteF ⟨τ4, acc, M6, sb.non del_same, (k'.trans kk).sub sb', am5.sub sb', (as4.kp am4 k5).sub sb', (av.kp am' kk).sub sb', pv6⟩
    | true =>
      have h5 : te τ4 M5 fun y M4 => M4 p = some (.fix acc') ∧ acc.length < sizeLine ∧ ∃ M5, Sub M5 (del M4 p) ∧ Pv (i + 1) τ4 (acc ++ [y]) M5 := h5
      refine iteT ⟨τ4, M5, _, as4.kp am4 k5, am5, h5, fun y H6 wy M6 k6 am6 ay ⟨m6, hl, M7, sb, pv7⟩ => ?_⟩
      have kk6 := kk.trans k6
      have hp6 : H6 p = some (.lst acc') := am6 p _ m6
      obtain ⟨am8, k8⟩ := am6.write (o := .fix (acc' ++ [y])) (u := .lst (acc' ++ [y])) m6 upd_same
      have sb' : Sub (put M7 p (.fix (acc' ++ [y]))) (put M6 p (.fix (acc' ++ [y]))) := (sb.trans Sub.del).put
      refine ⟨hp6, by rw [av.length]; exact hl, τ4, acc ++ [wy], M7, sb.non del_same, ((k'.trans kk6).trans k8).sub sb', am8.sub sb', (((as4.kp am4 k5).kp am5 k6).kp am6 k8).sub sb', ?_, pv7⟩
      exact (((av.kp am' kk6).append (.cons ay .nil)).kp am6 k8).sub sb'
variable {sc : Scope} {N' : List Str} {js : List (Option Nat)} {iter elt : Expr} {ifs : List Expr} {wi : TI3} {g : TG3} {tt : TT3}
def vTrue : TT3 := fun _ M Q => Q true M
theorem if_nil : PIfs X [] (upT X.K vTrue) := pifs_nil.weak fun σ H Q ⟨τ, M, R, as, am, h, k⟩ => k true H M (Kp.refl am) am h
theorem v_comp (N' : List Str) (js : List (Option Nat)) (hi : PI X tg iter (upI X.K wi))
    (hg : ∀ B, PG (cxB X sc N' B) tg (upG X.K g)) (ht : ∀ B, PIfs (cxB X sc N' B) ifs (upT X.K tt)) (he : ∀ B, PE (cxB X sc N' B) elt (up X.K te))
    (S0 : cscopeB N' sc X.env.scope = true := by kernel_rfl) (hj : jsOk N' X.N sc js N' = true := by kernel_rfl) (hc : X.calm = true := by rfl) (hs : ∀ x, foldedSetIterable iter X.env x = pure x := by intro _; rfl) :
    E3 X (.ListComp elt [⟨tg, iter, ifs, 0⟩] sc pos) (vComp wi g tt te js) := (pe_comp N' js hi hg ht he S0 hj hc hs).weak fun _ _ _ h => vComp_up h
end
def start3 (N : List Str) (ws : List W) : S3 := ws.map some ++ List.replicate (N.length - ws.length) none
def ends3 (R : K3) : D3 := { nx := fun _ M' => ∃ M'', Sub M'' M' ∧ R .non M'', rt := fun w M' => ∃ M'', Sub M'' M' ∧ R w M'' }
section
variable {P : Program} {w : World} {K : PySem.W.Frag} {mg : Str → Option Value} {base : Heap}
theorem ok3 {x qual : Str} {st : Stmt} {f : Addr} {fd : FuncData} {N ps : List Str} {k : Nat} {sp : Sp3} (F : Fun K x qual st f fd) (S : FnScope N ps (defScope st)) (len : ∀ ws M R, sp ws M R → ws.length = ps.length)
    (hbody : ∀ (cdv : Value) (A : Around) (outer : List Env) (s : Shared) (H : Hp) (E : XK) (ws : List W) (M : Mm) (R : K3), Room k (A.deeper (envOfC qual (defScope st) s.heap.objs.size f cdv)) → sp ws M R →
      ∃ t, Ps3 (cxOf CX0 P w K mg base N qual (defScope st) f cdv A outer s H E).nox (defBody st) t ∧ t (ends3 R) (start3 N ws) M) : FnOk P w K mg base CX0 (k + 1) f fd ps (upSp K sp) := by
  refine F.ok S (fun vs H Q E ⟨ws, M, R, am, av, h, _⟩ => by rw [av.length]; exact len ws M R h) fun cdv A outer s H vs Q E hr ⟨ws, M, R, am, av, h, kk⟩ => ?_
  obtain ⟨t, ht, h'⟩ := hbody cdv A outer s H E ws M R hr h
  refine ⟨_, ht, start3 N ws, M, ends3 R, ?_, am, h', ⟨fun σ' H' τ' M' k' am' as' ⟨M'', sb, r⟩ => kk _ H' _ M'' (k'.sub sb) (am'.sub sb) .non r, fun v H' w M' k' am' av' ⟨M'', sb, r⟩ => kk v H' w M'' (k'.sub sb) (am'.sub sb) (av'.sub sb) r, fun _ _ _ _ _ _ _ z => z.elim, fun _ _ _ _ _ _ _ z => z.elim⟩⟩
  unfold L2.start start3
  rw [av.length]
  exact AS.start av _
def spLaw3 : Sp3 := fun ws M R => ∃ ns : List Int, ws = [.sc (ns.map W.int)] ∧ ns.length ≤ 63 ∧ (M = fun _ => none) ∧ ∀ M', R (.bl true) M'
theorem law_sp {H : Hp} {a : Addr} {ns : List Int} (hl : ns.length ≤ 63) (ho : Only H) (hs : SqL K H a (ns.map V.int)) : upSp K spLaw3 [.ref a] H (fun v _ => v = .bl true) fun _ _ _ => False := by
  have hr : SqR K H a (ns.map V.int) := by
    rcases hs with (e | ⟨o, e⟩) | e
    · rcases ho a with z | ⟨o, xs, z⟩
      · rw [z] at e; cases e
      · rw [z] at e; cases e
    · exact .inl ⟨o, e⟩
    · exact .inr e
  exact ⟨[.sc (ns.map W.int)], fun _ => none, fun w _ => w = .bl true, fun a o e => (nomatch e), .cons (.sc hr (AVs.int ns)) .nil, ⟨ns, rfl, hl, rfl, fun _ => rfl⟩, fun v H' w M' _ _ av r => by subst r; exact av.bl_inv⟩
end
end L3
set_option Elab.async false
set_option linter.all false
set_option maxRecDepth 100000
set_option maxHeartbeats 4000000
namespace L3
open PySem PySem.Spec PyProof.Rows L2
section
variable {X : Cx} {a b c : Expr} {ta tb tc : TE3} {pos : Pos}
def vNever : TS3 := fun _ _ _ => False
def nameW (M : Mm) : W → String → Prop
  | .non, T => T = "NoneType"
  | .bl _, T => T = "bool"
  | .int _, T => T = "int"
  | .str _, T => T = "str"
  | .tup _, T => T = "tuple"
  | .rl _, T => T = "list"
  | .dk _, T => T = "dict"
  | .ref a, T => (T = "list" ∧ ∃ ws, M a = some (.lst ws)) ∨ (T = "dict" ∧ ((∃ kvs, M a = some (.dK kvs)) ∨ ∃ kvs, M a = some (.dT kvs)))
  | _, _ => False
def subL : List (String × String × Bool) := [("int", "int", true), ("int", "bool", false), ("int", "str", false), ("int", "tuple", false), ("int", "list", false), ("bool", "bool", true), ("bool", "int", true), ("bool", "str", false), ("bool", "list", false), ("bool", "tuple", false), ("str", "str", true), ("str", "int", false), ("str", "tuple", false), ("str", "list", false), ("str", "bool", false), ("tuple", "tuple", true), ("tuple", "list", false), ("tuple", "str", false), ("tuple", "int", false), ("tuple", "bool", false), ("list", "list", true), ("list", "tuple", false), ("list", "str", false), ("list", "int", false), ("list", "bool", false), ("NoneType", "list", false), ("NoneType", "tuple", false), ("NoneType", "int", false), ("NoneType", "str", false), ("NoneType", "bool", false), ("dict", "dict", true), ("dict", "list", false)]
def subT (n T : String) : Option Bool := (subL.find? fun p => p.1 == n && p.2.1 == T).map fun p => p.2.2
def AllSub (K : PySem.W.Frag) : List (String × String × Bool) → Prop
  | [] => True
  | p :: l => PySem.W.kitOne K (.type p.1) (.type p.2.1) = some p.2.2 ∧ AllSub K l
theorem all_sub {K : PySem.W.Frag} : ∀ {l : List (String × String × Bool)}, AllSub K l → ∀ p ∈ l, PySem.W.kitOne K (.type p.1) (.type p.2.1) = some p.2.2
  | _ :: _, h, _, m => by
    cases m with
    | head => exact h.1
    | tail _ m => exact all_sub h.2 _ m
theorem sub_all (K : PySem.W.Frag) : ∀ p ∈ subL, PySem.W.kitOne K (.type p.1) (.type p.2.1) = some p.2.2 := by
  refine all_sub ?_
  refine ⟨by kernel_rfl, by kernel_rfl, by kernel_rfl, by kernel_rfl, by kernel_rfl, by kernel_rfl, by kernel_rfl, by kernel_rfl, by kernel_rfl, by kernel_rfl, by kernel_rfl, by kernel_rfl, by kernel_rfl, by kernel_rfl, by kernel_rfl, by kernel_rfl, by kernel_rfl, by kernel_rfl, by kernel_rfl, by kernel_rfl, by kernel_rfl, by kernel_rfl, by kernel_rfl, by kernel_rfl, by kernel_rfl, by kernel_rfl, by kernel_rfl, by kernel_rfl, by kernel_rfl, by kernel_rfl, by kernel_rfl, by kernel_rfl, trivial⟩
theorem kit_sub (K : PySem.W.Frag) {n T : String} {b : Bool} (h : subT n T = some b) : PySem.W.kitOne K (.type n) (.type T) = some b := by
  obtain ⟨p, hp, e⟩ := Option.map_eq_some_iff.mp h
  have h1 := List.find?_some hp
  have h2 := sub_all K p (List.mem_of_find?_eq_some hp)
  rw [Bool.and_eq_true, beq_iff_eq, beq_iff_eq] at h1
  rw [← h1.1, ← h1.2, h2, e]
def rIsi : List W → Mm → K3 → Prop
  | [w, .ty T], M, R => ∃ n b, nameW M w n ∧ subT n T = some b ∧ R (.bl b) M
  | _, _, _ => False
theorem c_isi : CallR X (.builtin "isinstance") (upC X.K rIsi) := by
  rintro pins s σ H xs us Q I rs ⟨ws, M, R, am, axs, h, k⟩
  match ws, h with
  | [w, .ty T], h =>
    obtain ⟨v, u, rfl, av, au⟩ := axs.two
    cases au
    obtain ⟨n, b, hn, hs, r⟩ := h
    have ty : TyOf X.K H v (.type n) := by
      cases av <;> first | exact (show False from hn).elim | skip
      case non => cases (show n = _ from hn); exact .non
      case bl b => cases (show n = _ from hn); exact .bl b
      case int i => cases (show n = _ from hn); exact .int i
      case str x => cases (show n = _ from hn); exact .str x
      case tup e q => cases (show n = _ from hn); exact .tup e
      case rl e _ q => cases (show n = _ from hn); exact .lst e
      case dk e _ _ q => cases (show n = _ from hn); exact .dK e
      case ref a =>
        rcases hn with ⟨e, ws, h⟩ | ⟨e, h⟩
        · subst e
          obtain ⟨vs, f, _⟩ := am.lst h
          exact .lst f
        · subst e
          rcases h with ⟨kvs, h⟩ | ⟨kvs, h⟩
          · obtain ⟨ks, f, _⟩ := am _ _ h; exact .dK f
          · obtain ⟨ks, f, _⟩ := am _ _ h; exact .dT f
    exact call_isinst pins s σ H _ us Q I rs ⟨v, T, _, b, rfl, ty, kit_sub X.K hs, k.at am (.bl b) r⟩
def rUpper : W → List W → Mm → K3 → Prop
  | .str z, [], M, R => z.length ≤ 5592405 ∧ R (.str (Txt.upper z)) M
  | _, _, _, _ => False
def rPart : W → List W → Mm → K3 → Prop
  | .str z, [.str y], M, R => (y.length == 0) = false ∧ z.length ≤ sizeLine ∧ R (.tup [.str (Txt.partition z y).1, .str (Txt.partition z y).2.1, .str (Txt.partition z y).2.2]) M
  | _, _, _, _ => False
theorem m_partition : MtR X "str.partition" (upM X.K rPart) := by
  rintro pins s σ H x xs v us Q I rx rs ⟨wx, ws, M, R, am, ax, axs, h, k⟩
  match wx, ws, h with
  | .str z, [.str y], h =>
    obtain ⟨u, rfl, au⟩ := axs.one
    cases ax; cases au
    exact mt_partition pins s σ H _ _ v us Q I rx rs ⟨z, y, rfl, rfl, h.1, h.2.1, fun p hp => laidT am k hp (.cons (.str _) (.cons (.str _) (.cons (.str _) .nil))) h.2.2⟩
end
end L3
set_option Elab.async false
set_option linter.all false
set_option maxRecDepth 100000
set_option maxHeartbeats 4000000
namespace L3
open PySem PySem.Spec PyProof.Rows L2
section
variable {X : Cx} {a b : Expr} {ta tb : TE3} {pos : Pos} {es : List Expr} {t : TA3}
theorem laidF {K : PySem.W.Frag} {H : Hp} {M : Mm} {R : K3} {Q : VK} {p : Addr} {xs : List V} {ws : List W} (am : AM K H M) (k : Up K H M R Q) (hp : H p = none) (ax : AVs K H M xs ws) (r : R (.rl ws) M) : Q (.ref p) (upd H p (.lst xs)) := by
  obtain ⟨am2, k2⟩ := am.tup (u := .lst xs) hp
  exact k _ _ _ _ k2 am2 (.rl upd_same (am.nonM hp) (ax.newT hp)) r
def vLstF (t : TA3) : TE3 := fun τ M R => t τ M fun ws M1 => ws.length ≤ sizeLine ∧ R (.rl ws) M1
theorem v_lstF (h : A3 X es t) : E3 X (.List es pos) (vLstF t) :=
  (pe_lst h).weak fun σ H Q ⟨τ, M, R, as, am, h, k⟩ => ⟨τ, M, _, as, am, h, fun xs H1 ws M1 k1 am1 axs ⟨hl, r⟩ => ⟨by rw [axs.length]; exact hl, fun p hp => laidF am1 (k.kp k1) hp axs r⟩⟩
theorem opw {f : Value → Value → Sem Value} {r r' : R3} (h : OpR X f (upO X.K r)) (k : ∀ x y M R, r' x y M R → r x y M fun w M' => frz w M' R) : OpR X f (upO X.K r') := fun pins s σ H x y v u Q I rx ry ⟨wx, wy, M, R, am, ax, ay, h', kk⟩ =>
  h pins s σ H x y v u Q I rx ry ⟨wx, wy, M, _, am, ax, ay, k _ _ _ _ h', kk.frz⟩
theorem clw {f : Value} {r r' : List W → Mm → K3 → Prop} (h : CallR X f (upC X.K r)) (k : ∀ x M R, r' x M R → r x M fun w M' => frz w M' R) : CallR X f (upC X.K r') := fun pins s σ H xs us Q I rs ⟨ws, M, R, am, ax, h', kk⟩ =>
  h pins s σ H xs us Q I rs ⟨ws, M, _, am, ax, k _ _ _ h', kk.frz⟩
def rAddF : R3
  | .int i, .int j, M, R => R (.int (i + j)) M
  | .str i, .str j, M, R => i.length + j.length ≤ sizeLine ∧ R (.str (i ++ j)) M
  | .tup xs, .tup ys, M, R => xs ≠ [] ∧ xs.length + ys.length ≤ sizeLine ∧ R (.tup (xs ++ ys)) M
  | .ref a, .ref b, M, R => ∃ xs ys, M a = some (.lst xs) ∧ M b = some (.lst ys) ∧ xs.length + ys.length ≤ sizeLine ∧ R (.rl (xs ++ ys)) M
  | .rl xs, .ref b, M, R => ∃ ys, M b = some (.lst ys) ∧ xs.length + ys.length ≤ sizeLine ∧ R (.rl (xs ++ ys)) M
  | .ref a, .rl ys, M, R => ∃ xs, M a = some (.lst xs) ∧ xs.length + ys.length ≤ sizeLine ∧ R (.rl (xs ++ ys)) M
  | .rl xs, .rl ys, M, R => xs.length + ys.length ≤ sizeLine ∧ R (.rl (xs ++ ys)) M
  | _, _, _, _ => False
theorem o_addF : OpR X (binaryOp .Add) (upO X.K rAddF) := opw o_add fun x y M R h => by
  cases x <;> cases y <;> first | exact (show False from h).elim | skip
  case int.int i j => exact h
  case str.str i j => exact h
  case tup.tup i j => exact h
  case ref.ref i j => obtain ⟨xs, ys, h1, h2, h3, r⟩ := h; exact ⟨xs, ys, h1, h2, h3, New.frz r⟩
  case rl.ref i j => obtain ⟨ys, h2, h3, r⟩ := h; exact ⟨ys, h2, h3, New.frz r⟩
  case ref.rl i j => obtain ⟨ys, h2, h3, r⟩ := h; exact ⟨ys, h2, h3, New.frz r⟩
  case rl.rl i j => exact ⟨h.1, New.frz h.2⟩
def rMulF : R3
  | .int i, .int j, M, R => (CMul i j ∨ CBig i j) ∧ R (.int (i * j)) M
  | .str z, .int n, M, R => z.length ≤ 16 ∧ -(2 ^ 63) ≤ n ∧ n ≤ 1048576 ∧ R (.str (Txt.mul z n)) M
  | .ref a, .int n, M, R => ∃ xs, M a = some (.lst xs) ∧ -(2 ^ 63) ≤ n ∧ n < 2 ^ 63 ∧ xs.length * n.toNat ≤ sizeLine ∧ R (.rl (List.replicate n.toNat xs).flatten) M
  | .rl xs, .int n, M, R => -(2 ^ 63) ≤ n ∧ n < 2 ^ 63 ∧ xs.length * n.toNat ≤ sizeLine ∧ R (.rl (List.replicate n.toNat xs).flatten) M
  | _, _, _, _ => False
theorem o_mulF : OpR X (binaryOp .Mult) (upO X.K rMulF) := opw o_mul fun x y M R h => by
  cases x <;> cases y <;> first | exact (show False from h).elim | skip
  case int.int i j => exact h
  case str.int i j => exact h
  case ref.int i j => obtain ⟨xs, h1, h2, h3, h4, r⟩ := h; exact ⟨xs, h1, h2, h3, h4, New.frz r⟩
  case rl.int i j => obtain ⟨h2, h3, h4, r⟩ := h; exact ⟨h2, h3, h4, New.frz r⟩
def rListF : List W → Mm → K3 → Prop
  | [.tup ws], M, R => R (.rl ws) M
  | [.rl ws], M, R => R (.rl ws) M
  | [.sc ws], M, R => R (.rl ws) M
  | [.dk kvs], M, R => R (.rl (kvs.map fun kv => wK kv.1)) M
  | [.ref a], M, R => (∃ ws, M a = some (.lst ws) ∧ R (.rl ws) M) ∨ ∃ kvs, M a = some (.dK kvs) ∧ R (.rl (kvs.map fun kv => wK kv.1)) M
  | _, _, _ => False
theorem c_listF (hc : X.calm = true) : CallR X (.type "list") (upC X.K rListF) := clw (c_list hc) fun x M R h => by
  match x, h with
  | [.tup ws], h => exact New.frz h
  | [.rl ws], h => exact New.frz h
  | [.sc ws], h => exact New.frz h
  | [.dk kvs], h => exact New.frz h
  | [.ref a], h =>
    rcases h with ⟨ws, e, r⟩ | ⟨kvs, e, r⟩
    · exact .inl ⟨ws, e, New.frz r⟩
    · exact .inr ⟨kvs, e, New.frz r⟩
def rSlF : W → Option Int → Option Int → Mm → K3 → Prop
  | .rl ws, lo, hi, M, R => R (.rl (cutW ws lo hi)) M
  | .sc ws, lo, hi, M, R => R (.rl (cutW ws lo hi)) M
  | .ref a, lo, hi, M, R => ∃ ws, M a = some (.lst ws) ∧ R (.rl (cutW ws lo hi)) M
  | .tup ws, lo, hi, M, R => ¬ (HT.sIx ws.length 0 lo = 0 ∧ HT.sIx ws.length ws.length hi = ws.length) ∧ R (.tup (cutW ws lo hi)) M
  | _, _, _, _, _ => False
theorem rSlF_rSl {x : W} {l u : Option Int} {M : Mm} {R : K3} (h : rSlF x l u M R) : rSl x l u M fun w M' => frz w M' R := by
  cases x <;> first | exact (show False from h).elim | skip
  case tup ws => exact h
  case rl ws => exact New.frz h
  case sc ws => exact New.frz h
  case ref a => obtain ⟨ws, e, r⟩ := h; exact ⟨ws, e, New.frz r⟩
def vSlF (ta : TE3) (tl th : TO3) : TE3 := fun τ M R => ta τ M fun x M1 => tl τ M1 fun l M2 => th τ M2 fun u M3 => rSlF x l u M3 R
theorem v_sliceF {lo hi : Option Expr} {tl th : TO3} {p2 : Pos} (he : E3 X a ta) (hl : PO X lo (upOp X.K tl)) (hu : PO X hi (upOp X.K th)) : E3 X (.Subscript a (.Slice lo hi none p2) pos) (vSlF ta tl th) :=
  (pe_slice sl_up he hl hu).weak fun σ H Q ⟨τ, M, R, as, am, h, k⟩ => ⟨τ, M, _, as, am, h, fun x H1 wx M1 k1 am1 ax h1 => ⟨τ, M1, _, as.kp am k1, am1, h1, fun l H2 M2 k2 am2 h2 => ⟨τ, M2, _, (as.kp am k1).kp am1 k2, am2, h2, fun u H3 M3 k3 am3 h3 =>
    ⟨wx, M3, _, am3, (ax.kp am1 k2).kp am2 k3, rSlF_rSl h3, (((k.kp k1).kp k2).kp k3).frz⟩⟩⟩⟩
variable {sc : Scope} {N' : List Str} {js : List (Option Nat)} {tg iter elt : Expr} {ifs : List Expr} {wi : TI3} {g : TG3} {tt : TT3} {te : TE3}
end
def Pl : Nat → W → Prop
  | _, .non => True
  | _, .int _ => True
  | _, .str x => PyData.strOk x = true
  | n + 1, .tup ws => ∀ w ∈ ws, Pl n w
  | n + 1, .rl ws => ∀ w ∈ ws, Pl n w
  | _, _ => False
def der (M : Mm) : W → W
  | .ref a => match M a with
    | some (.lst ws) => .rl ws
    | _ => .ref a
  | w => w
section
variable {M : Mm}
theorem snaps_pl {n : Nat} (ih : ∀ {w : W}, Pl n w → ∃ d, Snap M w d ∧ d.canLay0 = true ∧ d.depth ≤ n) : ∀ {ws : List W}, (∀ w ∈ ws, Pl n w) → ∃ ds, Snaps M ws ds ∧ PyData.canLayAll0 ds = true ∧ PyData.depthAll ds ≤ n
  | [], _ => ⟨[], .nil, rfl, by simp [PyData.depthAll]⟩
  | w :: ws, h => by
    obtain ⟨d, s, c, e⟩ := ih (h w List.mem_cons_self)
    obtain ⟨ds, ss, cc, ee⟩ := snaps_pl ih fun z hz => h z (List.mem_cons_of_mem _ hz)
    exact ⟨d :: ds, .cons s ss, by simp [PyData.canLayAll0, c, cc], by simp only [PyData.depthAll]; omega⟩
theorem snap_pl : ∀ {n : Nat} {w : W}, Pl n w → ∃ d, Snap M w d ∧ d.canLay0 = true ∧ d.depth ≤ n := by
  intro n
  induction n with
  | zero =>
    intro w h
    cases w <;> first | exact (show False from h).elim | skip
    case non => exact ⟨_, .non, rfl, by simp [PyData.depth]⟩
    case int i => exact ⟨_, .int i, rfl, by simp [PyData.depth]⟩
    case str x => exact ⟨_, .str x, h, by simp [PyData.depth]⟩
  | succ n ih =>
    intro w h
    cases w <;> first | exact (show False from h).elim | skip
    case non => exact ⟨_, .non, rfl, by simp [PyData.depth]⟩
    case int i => exact ⟨_, .int i, rfl, by simp [PyData.depth]⟩
    case str x => exact ⟨_, .str x, h, by simp [PyData.depth]⟩
    case tup ws =>
      obtain ⟨ds, s, c, e⟩ := snaps_pl ih h
      exact ⟨_, .tup s, by simpa [PyData.canLay0] using c, by simp only [PyData.depth]; omega⟩
    case rl ws =>
      obtain ⟨ds, s, c, e⟩ := snaps_pl ih h
      exact ⟨_, .rl s, by simpa [PyData.canLay0] using c, by simp only [PyData.depth]; omega⟩
theorem snap_der {n : Nat} {w : W} (h : Pl n (der M w)) : ∃ d, Snap M w d ∧ Snap M (der M w) d ∧ d.canLay0 = true ∧ d.depth ≤ n := by
  obtain ⟨d, s, c, e⟩ := snap_pl (M := M) h
  refine ⟨d, ?_, s, c, e⟩
  cases w <;> first | exact s | skip
  case ref a =>
    cases q : M a with
    | none =>
      have e : der M (.ref a) = .ref a := by simp [der, q]
      rw [e] at s; exact s
    | some o =>
      cases o with
      | lst ws =>
        have e : der M (.ref a) = .rl ws := by simp [der, q]
        rw [e] at s
        cases s with
        | rl r => exact .ref q r
      | dK _ =>
        have e : der M (.ref a) = .ref a := by simp [der, q]
        rw [e] at s; exact s
      | dT _ =>
        have e : der M (.ref a) = .ref a := by simp [der, q]
        rw [e] at s; exact s
      | fix _ =>
        have e : der M (.ref a) = .ref a := by simp [der, q]
        rw [e] at s; exact s
      | exc _ =>
        have e : der M (.ref a) = .ref a := by simp [der, q]
        rw [e] at s; exact s
theorem eqvs_pl {n : Nat} (ih : ∀ {x y : W} {dx dy : PyData}, Pl n x → Pl n y → Snap M x dx → Snap M y dy → (PyData.eqv dx dy = true ↔ x = y)) : ∀ {xs ys : List W} {dx dy : List PyData}, (∀ w ∈ xs, Pl n w) → (∀ w ∈ ys, Pl n w) → Snaps M xs dx → Snaps M ys dy → (PyData.eqvAll dx dy = true ↔ xs = ys)
  | [], [], _, _, _, _, .nil, .nil => by simp [PyData.eqvAll]
  | [], _ :: _, _, _, _, _, .nil, .cons _ _ => by simp [PyData.eqvAll]
  | _ :: _, [], _, _, _, _, .cons _ _, .nil => by simp [PyData.eqvAll]
  | x :: xs, y :: ys, _, _, hx, hy, .cons s1 r1, .cons s2 r2 => by
    rw [PyData.eqvAll, Bool.and_eq_true, ih (hx x List.mem_cons_self) (hy y List.mem_cons_self) s1 s2, eqvs_pl ih (fun z hz => hx z (List.mem_cons_of_mem _ hz)) (fun z hz => hy z (List.mem_cons_of_mem _ hz)) r1 r2]
    simp
theorem eqv_pl : ∀ {n : Nat} {x y : W} {dx dy : PyData}, Pl n x → Pl n y → Snap M x dx → Snap M y dy → (PyData.eqv dx dy = true ↔ x = y) := by
  intro n
  induction n with
  | zero =>
    intro x y dx dy hx hy sx sy
    cases sx <;> first | exact (show False from hx).elim | skip
    all_goals cases sy <;> first | exact (show False from hy).elim | simp [PyData.eqv]
  | succ n ih =>
    intro x y dx dy hx hy sx sy
    cases sx <;> first | exact (show False from hx).elim | skip
    all_goals cases sy <;> first | exact (show False from hy).elim | skip
    all_goals first | (simp [PyData.eqv]; done) | skip
    case tup.tup r1 _ _ r2 => rw [PyData.eqv, eqvs_pl ih hx hy r1 r2]; simp
    case rl.rl r1 _ _ r2 => rw [PyData.eqv, eqvs_pl ih hx hy r1 r2]; simp
theorem rEqD_pl {neg : Bool} {x y : W} {R : K3} (n : Nat) (hn : n ≤ 60) (hx : Pl n (der M x)) (hy : Pl n (der M y)) (h : ∀ b : Bool, (b = true ↔ der M x = der M y) → R (.bl (if neg then !b else b)) M) : rEqD neg x y M R := by
  obtain ⟨dx, s1, s1', c1, e1⟩ := snap_der hx
  obtain ⟨dy, s2, s2', c2, e2⟩ := snap_der hy
  exact ⟨dx, dy, s1, s2, ⟨c1, by omega⟩, ⟨c2, by omega⟩, h _ (eqv_pl hx hy s1' s2')⟩
theorem rEq_pl {neg : Bool} {x y : W} {R : K3} (n : Nat) (hn : n ≤ 60) (hx : Pl n (der M x)) (hy : Pl n (der M y)) (h : ∀ b : Bool, (b = true ↔ der M x = der M y) → R (.bl (if neg then !b else b)) M) : rEq neg x y M R := by
  have d := rEqD_pl n hn hx hy h
  cases x <;> first | exact d | skip
  case int i =>
    cases y <;> first | exact d | skip
    case int j => exact h (decide (i = j)) (by simp [der])
  case str i =>
    cases y <;> first | exact d | skip
    case str j => exact h (decide (i = j)) (by simp [der])
  case bl i =>
    cases y <;> first | exact d | skip
    case bl j => exact (show False by cases n <;> exact hx).elim
end
theorem rEq_same {M : Mm} {neg : Bool} {x y : W} {R : K3} (n : Nat) (hn : n ≤ 60) (hx : Pl n (der M x)) (e : der M y = der M x) (h : R (.bl (!neg)) M) : rEq neg x y M R := by
  refine rEq_pl n hn hx (by rw [e]; exact hx) fun b hb => ?_
  have : b = true := hb.mpr e.symm
  subst this
  cases neg <;> exact h
theorem der_put {M : Mm} {p : Addr} {ws : List W} : der (put M p (.lst ws)) (.ref p) = .rl ws := by simp [der, put_same]
theorem compR {ws : List W} {keep : Mm → Prop} {g : TG3} {tt : TT3} {te : TE3} {τ₀ : S3} {M1 : Mm} {R : K3} (St : S3 → Prop) (tgt : W → S3) (Rel : W → Option W → Prop) (hl : ws.length ≤ sizeLine) (hk : ∀ M, Sub M1 M → keep M)
    (h0 : St τ₀) (ht : ∀ w ∈ ws, St (tgt w)) (hg : ∀ w ∈ ws, ∀ τ M (C : S3 → Mm → Prop), St τ → C (tgt w) M → g w τ M C)
    (hs : ∀ w ∈ ws, ∀ M (C : K3) (D : Mm → Prop), Sub M1 M → (∀ y, Rel w (some y) → C y M) → (Rel w none → D M) → tt (tgt w) M fun b M3 => if b = true then te (tgt w) M3 C else D M3)
    (r : ∀ os, Paired Rel ws os → New (os.filterMap id) M1 R) : vCompW ws keep g tt te τ₀ M1 R := by
  intro p hp
  refine ⟨fun i τ acc M => St τ ∧ (∃ os, Paired Rel (ws.take i) os ∧ acc = os.filterMap id) ∧ M = M1, ⟨h0, ⟨[], by simp; exact .nil, rfl⟩, rfl⟩, ?_, ?_, ?_⟩
  · rintro vs i τ acc M _ mp ⟨_, _, rfl⟩; exact hk _ (Sub.new hp)
  · rintro vs i w τ acc M hw mp ⟨st, ⟨os, po, rfl⟩, rfl⟩
    have hm : w ∈ ws := List.mem_of_getElem? hw
    have hi : i < ws.length := (List.getElem?_eq_some_iff.mp hw).1
    have htk : ws.take (i + 1) = ws.take i ++ [w] := by rw [List.take_add_one, hw]; rfl
    have snoc : ∀ o, Rel w o → Paired Rel (ws.take (i + 1)) (os ++ [o]) := fun o ro => by
      rw [htk]
      clear hw mp st htk
      revert os
      generalize ws.take i = l
      intro os po
      induction po with
      | nil => exact .cons ro .nil
      | cons a b ih => exact .cons a ih
    have hlen : (os.filterMap id).length < sizeLine := by
      have h1 := List.length_filterMap_le id os
      have h2 := Paired.length po
      rw [List.length_take] at h2
      omega
    refine hg w hm τ _ _ st (hs w hm _ _ _ (Sub.new hp) (fun y hy => ⟨put_same, hlen, M, ?_, ht w hm, ⟨_, snoc _ hy, ?_⟩, rfl⟩) fun hn => ⟨put_same, M, ?_, ht w hm, ⟨_, snoc _ hn, ?_⟩, rfl⟩)
    · rw [del_put hp]; exact Sub.refl _
    · simp
    · rw [del_put hp]; exact Sub.refl _
    · simp
  · rintro τ acc M mp ⟨_, ⟨os, po, rfl⟩, rfl⟩
    rw [List.take_length] at po
    exact r os po p hp
def hdSt (rest : S3) : S3 → Prop := fun τ => ∃ o, τ = o :: rest
theorem map1 {ws : List W} {keep : Mm → Prop} {te : TE3} {o : Option W} {rest : S3} {M1 : Mm} {R : K3} (f : W → W) (hl : ws.length ≤ sizeLine) (hk : ∀ M, Sub M1 M → keep M)
    (hs : ∀ w ∈ ws, ∀ M (C : K3), Sub M1 M → C (f w) M → te (some w :: rest) M C) (r : New (ws.map f) M1 R) : vCompW ws keep (wName 0) vTrue te (o :: rest) M1 R := by
  refine compR (hdSt rest) (fun w => some w :: rest) (fun w o => o = some (f w)) hl hk ⟨_, rfl⟩ (fun w _ => ⟨_, rfl⟩) ?_ ?_ ?_
  · rintro w _ τ M C ⟨o, rfl⟩ h; exact h
  · intro w hw M C D sb h1 _
    show (if true = true then te (some w :: rest) M C else D M)
    rw [if_pos rfl]
    exact hs w hw M C sb (h1 _ rfl)
  · intro os po
    have : os.filterMap id = ws.map f := by
      clear r hs hl hk
      induction po with
      | nil => rfl
      | cons a b ih => subst a; simp [ih]
    rw [this]; exact r
theorem map1R {ws : List W} {keep : Mm → Prop} {te : TE3} {o : Option W} {rest : S3} {M1 : Mm} {R : K3} (P : W → W → Prop) (hl : ws.length ≤ sizeLine) (hk : ∀ M, Sub M1 M → keep M)
    (hs : ∀ w ∈ ws, ∀ M (C : K3), Sub M1 M → (∀ y, P w y → C y M) → te (some w :: rest) M C) (r : ∀ ys, Paired P ws ys → New ys M1 R) : vCompW ws keep (wName 0) vTrue te (o :: rest) M1 R := by
  refine compR (hdSt rest) (fun w => some w :: rest) (fun w o => ∃ y, o = some y ∧ P w y) hl hk ⟨_, rfl⟩ (fun w _ => ⟨_, rfl⟩) ?_ ?_ ?_
  · rintro w _ τ M C ⟨o, rfl⟩ h; exact h
  · intro w hw M C D sb h1 _
    show (if true = true then te (some w :: rest) M C else D M)
    rw [if_pos rfl]
    exact hs w hw M C sb fun y py => h1 y ⟨y, rfl, py⟩
  · intro os po
    have : ∃ ys, os = ys.map some ∧ Paired P ws ys := by
      clear r hs hl hk
      induction po with
      | nil => exact ⟨[], rfl, .nil⟩
      | cons a b ih =>
        obtain ⟨y, rfl, py⟩ := a
        obtain ⟨ys, rfl, h⟩ := ih
        exact ⟨y :: ys, rfl, .cons py h⟩
    obtain ⟨ys, rfl, py⟩ := this
    rw [List.filterMap_map]
    have : (ys.filterMap (id ∘ some)) = ys := by simp
    rw [this]
    exact r ys py
theorem Paired.all {P : W → W → Prop} {Q : W → Prop} {xs ys : List W} (h : Paired P xs ys) (k : ∀ x y, P x y → Q y) : ∀ y ∈ ys, Q y := by
  induction h with
  | nil => intro y hy; cases hy
  | cons a b ih =>
    intro y hy
    rcases List.mem_cons.mp hy with rfl | hy
    · exact k _ _ a
    · exact ih y hy
end L3
set_option Elab.async false
set_option linter.all false
set_option maxRecDepth 100000
set_option maxHeartbeats 4000000
namespace L3
open PySem PySem.Spec PyProof.Rows L2
structure Df (K : PySem.W.Frag) (mg : Str → Option Value) (x : Str) (st : Stmt) (ps : List Str) (f : Addr) (fd : FuncData) : Prop where
  fn : Fun K x x st f fd
  at_ : mg x = some (.ref f)
  bi : Binds K fd ps []
theorem binds_of {K : PySem.W.Frag} {x : Str} {st : Stmt} {f : Addr} {fd : FuncData} {ps : List Str} {mg : Str → Option Value} (F : Fun K x x st f fd) (hm : mg x = some (.ref f))
    (h : ∀ (kV doc pm : Value) (an : Option Addr) (cdv ct : Value) (us : List Value), us.length = ps.length → bindArgs (PySem.W.fnOf x x (defArgs st) (defBody st) (defScope st) .none kV doc pm an cdv ct) ⟨us, []⟩ = pure (ps.zip us)) : Df K mg x st ps f fd := ⟨F, hm, F.binds h⟩
theorem bt_len : bootBuiltins "len" = some (.builtin "len") := PySem.boot_len
theorem bt_list : bootBuiltins "list" = some (.type "list") := by decide +kernel
theorem bt_tuple : bootBuiltins "tuple" = some (.type "tuple") := by decide +kernel
theorem bt_str : bootBuiltins "str" = some (.type "str") := by decide +kernel
theorem bt_int : bootBuiltins "int" = some (.type "int") := by decide +kernel
theorem bt_bool : bootBuiltins "bool" = some (.type "bool") := by decide +kernel
theorem bt_isinstance : bootBuiltins "isinstance" = some (.builtin "isinstance") := by decide +kernel
theorem bt_all : bootBuiltins "all" = some (.builtin "all") := by decide +kernel
theorem atI0 {α : Type} (x : α) (xs : List α) : atI (x :: xs) 0 = some x := by simp [atI, ixN]
theorem atI1 {α : Type} (x y : α) (xs : List α) : atI (x :: y :: xs) 1 = some y := atI_nat (j := 1) rfl
theorem atI2 {α : Type} (x y z : α) (xs : List α) : atI (x :: y :: z :: xs) 2 = some z := atI_nat (j := 2) rfl
theorem atI_of {α : Type} {xs : List α} {i : Int} (h0 : 0 ≤ i) (h1 : i < xs.length) : ∃ x, atI xs i = some x ∧ xs[i.toNat]? = some x ∧ x ∈ xs := by
  have hlt : i.toNat < xs.length := by omega
  refine ⟨xs[i.toNat], ?_, List.getElem?_eq_getElem hlt, List.getElem_mem hlt⟩
  simp [atI, ixN, h0, h1, hlt]
theorem atI_sel {α : Type} {xs : List α} {i n : Int} (hn : n = xs.length) (hp : 0 < n) : ∃ x, atI xs (i % n) = some x ∧ x ∈ xs := by
  have h0 : 0 ≤ i % n := Int.emod_nonneg _ (by omega)
  have h1 : i % n < n := Int.emod_lt_of_pos _ hp
  obtain ⟨x, e, _, m⟩ := atI_of (xs := xs) h0 (by omega)
  exact ⟨x, e, m⟩
theorem cutW_mem {ws : List W} {lo hi : Option Int} {w : W} (h : w ∈ cutW ws lo hi) : w ∈ ws := List.mem_of_mem_drop (List.mem_of_mem_take h)
end L3
namespace L3
open PySem PySem.Spec PyProof.Rows L2
theorem cdiv {i j : Int} (h0 : 0 < j) (h1 : j ≤ 1000000000) : CDivB i j := ⟨h0, Int.lt_of_le_of_lt h1 (by decide +kernel)⟩
theorem cdivT {i j : Int} (h0 : 0 < j) (h1 : j ≤ 1000000000) : CDivB i j ↔ True := iff_true_intro (cdiv h0 h1)
def sOk (x : Str) : Prop := PyData.strOk x = true
def Words (ws : List W) : Prop := ∀ w ∈ ws, ∃ x, sOk x ∧ w = W.str x
def Ints (ws : List W) : Prop := ∀ w ∈ ws, ∃ i, w = W.int i
theorem ints_map (ns : List Int) : Ints (ns.map W.int) := fun w h => by
  obtain ⟨i, _, e⟩ := List.mem_map.mp h
  exact ⟨i, e.symm⟩
theorem Ints.cut {ws : List W} (h : Ints ws) (lo hi : Option Int) : Ints (cutW ws lo hi) := fun w m => h w (cutW_mem m)
theorem Words.cut {ws : List W} (h : Words ws) (lo hi : Option Int) : Words (cutW ws lo hi) := fun w m => h w (cutW_mem m)
theorem small {n : Nat} (h : n ≤ 10000000) : n ≤ sizeLine := Nat.le_trans h (by decide)
theorem smallT {n : Nat} (h : n < 10000000) : n < sizeLine := Nat.lt_of_lt_of_le h (by decide)
theorem cut_suf {S : List W} {i : Int} (h0 : 0 ≤ i) : cutW S (some i) none = S.drop i.toNat := by
  unfold cutW HT.sIx
  simp only []
  rw [if_neg (by omega)]
  by_cases h : i.toNat ≤ S.length
  · rw [Nat.min_eq_left h, List.take_of_length_le (by rw [List.length_drop]; exact Nat.le_refl _)]
  · rw [Nat.min_eq_right (by omega)]
    rw [List.drop_of_length_le (Nat.le_refl _), List.drop_of_length_le (by omega)]; simp
theorem cut_mid {S : List W} {i j : Int} (h0 : 0 ≤ i) (h1 : 0 ≤ j) : (cutW S (some i) (some j)).length ≤ (j - i).toNat := by
  unfold cutW HT.sIx
  simp only []
  rw [if_neg (by omega), if_neg (by omega), List.length_take, List.length_drop]
  omega
end L3
namespace L3
open PySem PySem.Spec PyProof.Rows L2
theorem isi_of {w : W} {T n : String} {b : Bool} {M : Mm} {R : K3} (hn : ∀ m, nameW M w m ↔ m = n) (hs : subT n T = some b) : rIsi [w, .ty T] M R ↔ R (.bl b) M :=
  ⟨fun ⟨_, _, h1, h2, h3⟩ => by cases (hn _).mp h1; cases hs.symm.trans h2; exact h3, fun h => ⟨n, b, (hn n).mpr rfl, hs, h⟩⟩
theorem isi_non_list {M : Mm} {R : K3} : rIsi [W.non, .ty "list"] M R ↔ R (.bl false) M := isi_of (fun _ => Iff.rfl) (by decide)
theorem isi_non_tuple {M : Mm} {R : K3} : rIsi [W.non, .ty "tuple"] M R ↔ R (.bl false) M := isi_of (fun _ => Iff.rfl) (by decide)
theorem isi_non_int {M : Mm} {R : K3} : rIsi [W.non, .ty "int"] M R ↔ R (.bl false) M := isi_of (fun _ => Iff.rfl) (by decide)
theorem isi_non_str {M : Mm} {R : K3} : rIsi [W.non, .ty "str"] M R ↔ R (.bl false) M := isi_of (fun _ => Iff.rfl) (by decide)
theorem isi_non_bool {M : Mm} {R : K3} : rIsi [W.non, .ty "bool"] M R ↔ R (.bl false) M := isi_of (fun _ => Iff.rfl) (by decide)
theorem isi_bl_bool {b : Bool} {M : Mm} {R : K3} : rIsi [W.bl b, .ty "bool"] M R ↔ R (.bl true) M := isi_of (fun _ => Iff.rfl) (by decide)
theorem isi_bl_int {b : Bool} {M : Mm} {R : K3} : rIsi [W.bl b, .ty "int"] M R ↔ R (.bl true) M := isi_of (fun _ => Iff.rfl) (by decide)
theorem isi_bl_str {b : Bool} {M : Mm} {R : K3} : rIsi [W.bl b, .ty "str"] M R ↔ R (.bl false) M := isi_of (fun _ => Iff.rfl) (by decide)
theorem isi_bl_list {b : Bool} {M : Mm} {R : K3} : rIsi [W.bl b, .ty "list"] M R ↔ R (.bl false) M := isi_of (fun _ => Iff.rfl) (by decide)
theorem isi_bl_tuple {b : Bool} {M : Mm} {R : K3} : rIsi [W.bl b, .ty "tuple"] M R ↔ R (.bl false) M := isi_of (fun _ => Iff.rfl) (by decide)
theorem isi_int_int {i : Int} {M : Mm} {R : K3} : rIsi [W.int i, .ty "int"] M R ↔ R (.bl true) M := isi_of (fun _ => Iff.rfl) (by decide)
theorem isi_int_bool {i : Int} {M : Mm} {R : K3} : rIsi [W.int i, .ty "bool"] M R ↔ R (.bl false) M := isi_of (fun _ => Iff.rfl) (by decide)
theorem isi_int_str {i : Int} {M : Mm} {R : K3} : rIsi [W.int i, .ty "str"] M R ↔ R (.bl false) M := isi_of (fun _ => Iff.rfl) (by decide)
theorem isi_int_tuple {i : Int} {M : Mm} {R : K3} : rIsi [W.int i, .ty "tuple"] M R ↔ R (.bl false) M := isi_of (fun _ => Iff.rfl) (by decide)
theorem isi_int_list {i : Int} {M : Mm} {R : K3} : rIsi [W.int i, .ty "list"] M R ↔ R (.bl false) M := isi_of (fun _ => Iff.rfl) (by decide)
theorem isi_str_str {x : Str} {M : Mm} {R : K3} : rIsi [W.str x, .ty "str"] M R ↔ R (.bl true) M := isi_of (fun _ => Iff.rfl) (by decide)
theorem isi_str_int {x : Str} {M : Mm} {R : K3} : rIsi [W.str x, .ty "int"] M R ↔ R (.bl false) M := isi_of (fun _ => Iff.rfl) (by decide)
theorem isi_str_tuple {x : Str} {M : Mm} {R : K3} : rIsi [W.str x, .ty "tuple"] M R ↔ R (.bl false) M := isi_of (fun _ => Iff.rfl) (by decide)
theorem isi_str_list {x : Str} {M : Mm} {R : K3} : rIsi [W.str x, .ty "list"] M R ↔ R (.bl false) M := isi_of (fun _ => Iff.rfl) (by decide)
theorem isi_str_bool {x : Str} {M : Mm} {R : K3} : rIsi [W.str x, .ty "bool"] M R ↔ R (.bl false) M := isi_of (fun _ => Iff.rfl) (by decide)
theorem isi_tup_tuple {ws : List W} {M : Mm} {R : K3} : rIsi [W.tup ws, .ty "tuple"] M R ↔ R (.bl true) M := isi_of (fun _ => Iff.rfl) (by decide)
theorem isi_tup_list {ws : List W} {M : Mm} {R : K3} : rIsi [W.tup ws, .ty "list"] M R ↔ R (.bl false) M := isi_of (fun _ => Iff.rfl) (by decide)
theorem isi_tup_str {ws : List W} {M : Mm} {R : K3} : rIsi [W.tup ws, .ty "str"] M R ↔ R (.bl false) M := isi_of (fun _ => Iff.rfl) (by decide)
theorem isi_tup_int {ws : List W} {M : Mm} {R : K3} : rIsi [W.tup ws, .ty "int"] M R ↔ R (.bl false) M := isi_of (fun _ => Iff.rfl) (by decide)
theorem isi_tup_bool {ws : List W} {M : Mm} {R : K3} : rIsi [W.tup ws, .ty "bool"] M R ↔ R (.bl false) M := isi_of (fun _ => Iff.rfl) (by decide)
theorem isi_rl_list {ws : List W} {M : Mm} {R : K3} : rIsi [W.rl ws, .ty "list"] M R ↔ R (.bl true) M := isi_of (fun _ => Iff.rfl) (by decide)
theorem isi_rl_tuple {ws : List W} {M : Mm} {R : K3} : rIsi [W.rl ws, .ty "tuple"] M R ↔ R (.bl false) M := isi_of (fun _ => Iff.rfl) (by decide)
theorem isi_rl_str {ws : List W} {M : Mm} {R : K3} : rIsi [W.rl ws, .ty "str"] M R ↔ R (.bl false) M := isi_of (fun _ => Iff.rfl) (by decide)
theorem isi_rl_int {ws : List W} {M : Mm} {R : K3} : rIsi [W.rl ws, .ty "int"] M R ↔ R (.bl false) M := isi_of (fun _ => Iff.rfl) (by decide)
theorem isi_rl_bool {ws : List W} {M : Mm} {R : K3} : rIsi [W.rl ws, .ty "bool"] M R ↔ R (.bl false) M := isi_of (fun _ => Iff.rfl) (by decide)
theorem isi_put {p : Addr} {ws : List W} {M : Mm} {R : K3} : rIsi [.ref p, .ty "list"] (put M p (.lst ws)) R ↔ R (.bl true) (put M p (.lst ws)) :=
  isi_of (n := "list") (fun m => Iff.intro (fun h => h.elim And.left (fun h => h.2.elim (fun ⟨_, e⟩ => nomatch put_same.symm.trans e) (fun ⟨_, e⟩ => nomatch put_same.symm.trans e))) (fun e => Or.inl ⟨e, ws, put_same⟩)) (by decide)
theorem rEq_ii {neg : Bool} {i j : Int} {M : Mm} {R : K3} : L3.rEq neg (.int i) (.int j) M R = R (.bl (if neg then !decide (i = j) else decide (i = j))) M := rfl
theorem rEq_ss {neg : Bool} {i j : Str} {M : Mm} {R : K3} : L3.rEq neg (.str i) (.str j) M R = R (.bl (if neg then !decide (i = j) else decide (i = j))) M := rfl
theorem rEq_bb {neg : Bool} {i j : Bool} {M : Mm} {R : K3} : L3.rEq neg (.bl i) (.bl j) M R = R (.bl (if neg then !decide (i = j) else decide (i = j))) M := rfl
theorem setK_str {M : Mm} {a : Addr} {k : Str} {v : W} {kvs : List (Key × W)} {Q : Mm → Prop} (h : M a = some (.dK kvs)) (hl : kvs.length < sizeLine) (q : Q (put M a (.dK (putW kvs (Sum.inr k) v)))) : rSetI (.ref a) (.str k) v M Q := .inr (.inl ⟨kvs, .inr k, rfl, h, hl, q⟩)
end L3
set_option Elab.async false
set_option linter.all false
set_option maxRecDepth 100000
set_option maxHeartbeats 4000000
namespace L3
open PySem PySem.Spec PyProof.Rows L2
section
variable {X : Cx} {a b c : Expr} {ta tb tc : TE3} {pos : Pos}
def rAbs : List W → Mm → K3 → Prop
  | [.int i], M, R => R (.int (if i < 0 then -i else i)) M
  | _, _, _ => False
def rRev : W → List W → Mm → K3 → Prop
  | .ref l, [], M, R => ∃ ws, M l = some (.lst ws) ∧ R .non (put M l (.lst ws.reverse))
  | _, _, _, _ => False
def rClr : W → List W → Mm → K3 → Prop
  | .ref l, [], M, R => ∃ ws, M l = some (.lst ws) ∧ R .non (put M l (.lst []))
  | _, _, _, _ => False
theorem m_clear : MtR X "list.clear" (upM X.K rClr) := by
  rintro pins s σ H x xs v us Q I rx rs ⟨wx, ws, M, R, am, ax, axs, h, k⟩
  match wx, ws, h with
  | .ref l, [], h =>
    cases axs
    cases ax
    obtain ⟨ws, e, r⟩ := h
    obtain ⟨vs, f, q⟩ := am.lst e
    exact mt_clear pins s σ H _ _ v us Q I rx rs ⟨l, vs, rfl, rfl, f, wroteL am k e .nil .non r⟩
end
end L3
namespace L3
open PySem PySem.Spec PyProof.Rows L2
section
variable {X : Cx} {a b c : Expr} {ta tb tc : TE3} {pos : Pos}
end
end L3
set_option Elab.async false
set_option linter.all false
set_option maxRecDepth 100000
set_option maxHeartbeats 4000000
namespace L3
open PySem PySem.Spec PyProof.Rows L2
theorem vTru_q1 : ∀ (z0 : Mm) (z1 : Bool → Mm → Prop), vTru W.non z0 z1 = z1 Bool.false z0 := by intros; rfl
theorem vTru_q2 : ∀ (z0 : Mm) (z1 : Bool → Mm → Prop) (b : Bool), vTru (W.bl b) z0 z1 = z1 b z0 := by intros; rfl
theorem vTru_q3 : ∀ (z0 : Mm) (z1 : Bool → Mm → Prop) (i : Int), vTru (W.int i) z0 z1 = z1 (i != 0) z0 := by intros; rfl
theorem vTru_q4 : ∀ (z0 : Mm) (z1 : Bool → Mm → Prop) (y : PySem.Str), vTru (W.str y) z0 z1 = (Str.length y ≤ PySem.sizeLine ∧ z1 ((↑(Str.length y) : Int) != 0) z0) := by intros; rfl
theorem vTru_q5 : ∀ (z0 : Mm) (z1 : Bool → Mm → Prop) (ws : List W), vTru (W.tup ws) z0 z1 = z1 (!List.isEmpty ws) z0 := by intros; rfl
theorem vTru_q6 : ∀ (z0 : Mm) (z1 : Bool → Mm → Prop) (ws : List W), vTru (W.rl ws) z0 z1 = z1 (!List.isEmpty ws) z0 := by intros; rfl
theorem vTru_q7 : ∀ (z0 : Mm) (z1 : Bool → Mm → Prop) (ws : List W), vTru (W.sc ws) z0 z1 = z1 (!List.isEmpty ws) z0 := by intros; rfl
theorem vTru_q8 : ∀ (z0 : Mm) (z1 : Bool → Mm → Prop) (kvs : List (L2.Key × W)), vTru (W.dk kvs) z0 z1 = z1 (!List.isEmpty kvs) z0 := by intros; rfl
theorem vTru_q9 : ∀ (z0 : Mm) (z1 : Bool → Mm → Prop) (p : PySem.Addr), vTru (W.ref p) z0 z1 = ((∃ (ws : List W), z0 p = Option.some (MO.lst ws) ∧ z1 (!List.isEmpty ws) z0) ∨ ∃ (kvs : List (L2.Key × W)), z0 p = Option.some (MO.dK kvs) ∧ z1 (!List.isEmpty kvs) z0) := by intros; rfl
theorem rItN_q1 : ∀ (z0 : Mm) (z1 : List W → (Mm → Prop) → Mm → Prop) (ws : List W), rItN (W.tup ws) z0 z1 = z1 ws (fun (x : Mm) => True) z0 := by intros; rfl
theorem rItN_q2 : ∀ (z0 : Mm) (z1 : List W → (Mm → Prop) → Mm → Prop) (ws : List W), rItN (W.rl ws) z0 z1 = z1 ws (fun (x : Mm) => True) z0 := by intros; rfl
theorem rItN_q3 : ∀ (z0 : Mm) (z1 : List W → (Mm → Prop) → Mm → Prop) (ws : List W), rItN (W.sc ws) z0 z1 = z1 ws (fun (x : Mm) => True) z0 := by intros; rfl
theorem rItN_q4 : ∀ (z0 : Mm) (z1 : List W → (Mm → Prop) → Mm → Prop) (z : PySem.Str), rItN (W.str z) z0 z1 = z1 (List.map (fun (c : Nat) => W.str { cps := #[c] }) (Array.toList (PySem.Str.cps z))) (fun (x : Mm) => True) z0 := by intros; rfl
theorem rItN_q5 : ∀ (z0 : Mm) (z1 : List W → (Mm → Prop) → Mm → Prop) (a : PySem.Addr), rItN (W.ref a) z0 z1 = ∃ (ws : List W), z0 a = Option.some (MO.lst ws) ∧ z1 ws (fun (M : Mm) => M a = Option.some (MO.lst ws)) z0 := by intros; rfl
theorem rIt_q1 : ∀ (z0 : Mm) (z1 : List W → (Mm → Prop) → Mm → Prop) (ws : List W), rIt (W.tup ws) z0 z1 = z1 ws (fun (x : Mm) => True) z0 := by intros; rfl
theorem rIt_q2 : ∀ (z0 : Mm) (z1 : List W → (Mm → Prop) → Mm → Prop) (ws : List W), rIt (W.rl ws) z0 z1 = z1 ws (fun (x : Mm) => True) z0 := by intros; rfl
theorem rIt_q3 : ∀ (z0 : Mm) (z1 : List W → (Mm → Prop) → Mm → Prop) (ws : List W), rIt (W.sc ws) z0 z1 = z1 ws (fun (x : Mm) => True) z0 := by intros; rfl
theorem rIt_q4 : ∀ (z0 : Mm) (z1 : List W → (Mm → Prop) → Mm → Prop) (a : PySem.Addr), rIt (W.ref a) z0 z1 = ∃ (ws : List W), z0 a = Option.some (MO.lst ws) ∧ z1 ws (fun (M : Mm) => M a = Option.some (MO.lst ws)) z0 := by intros; rfl
theorem rAdd_q1 : ∀ (z0 : Mm) (z1 : K3) (i j : Int), rAdd (W.int i) (W.int j) z0 z1 = z1 (W.int (i + j)) z0 := by intros; rfl
theorem rAdd_q2 : ∀ (z0 : Mm) (z1 : K3) (i j : PySem.Str), rAdd (W.str i) (W.str j) z0 z1 = (Str.length i + Str.length j ≤ PySem.sizeLine ∧ z1 (W.str (i ++ j)) z0) := by intros; rfl
theorem rAdd_q3 : ∀ (z0 : Mm) (z1 : K3) (xs ys : List W), rAdd (W.tup xs) (W.tup ys) z0 z1 = (xs ≠ [] ∧ List.length xs + List.length ys ≤ PySem.sizeLine ∧ z1 (W.tup (xs ++ ys)) z0) := by intros; rfl
theorem rAdd_q4 : ∀ (z0 : Mm) (z1 : K3) (a b : PySem.Addr), rAdd (W.ref a) (W.ref b) z0 z1 = ∃ (xs : List W), ∃ (ys : List W), z0 a = Option.some (MO.lst xs) ∧ z0 b = Option.some (MO.lst ys) ∧ List.length xs + List.length ys ≤ PySem.sizeLine ∧ New (xs ++ ys) z0 z1 := by intros; rfl
theorem rAdd_q5 : ∀ (z0 : Mm) (z1 : K3) (xs : List W) (b : PySem.Addr), rAdd (W.rl xs) (W.ref b) z0 z1 = ∃ (ys : List W), z0 b = Option.some (MO.lst ys) ∧ List.length xs + List.length ys ≤ PySem.sizeLine ∧ New (xs ++ ys) z0 z1 := by intros; rfl
theorem rAdd_q6 : ∀ (z0 : Mm) (z1 : K3) (a : PySem.Addr) (ys : List W), rAdd (W.ref a) (W.rl ys) z0 z1 = ∃ (xs : List W), z0 a = Option.some (MO.lst xs) ∧ List.length xs + List.length ys ≤ PySem.sizeLine ∧ New (xs ++ ys) z0 z1 := by intros; rfl
theorem rAdd_q7 : ∀ (z0 : Mm) (z1 : K3) (xs ys : List W), rAdd (W.rl xs) (W.rl ys) z0 z1 = (List.length xs + List.length ys ≤ PySem.sizeLine ∧ New (xs ++ ys) z0 z1) := by intros; rfl
theorem rAddF_q1 : ∀ (z0 : Mm) (z1 : K3) (i j : Int), rAddF (W.int i) (W.int j) z0 z1 = z1 (W.int (i + j)) z0 := by intros; rfl
theorem rAddF_q2 : ∀ (z0 : Mm) (z1 : K3) (i j : PySem.Str), rAddF (W.str i) (W.str j) z0 z1 = (Str.length i + Str.length j ≤ PySem.sizeLine ∧ z1 (W.str (i ++ j)) z0) := by intros; rfl
theorem rAddF_q3 : ∀ (z0 : Mm) (z1 : K3) (xs ys : List W), rAddF (W.tup xs) (W.tup ys) z0 z1 = (xs ≠ [] ∧ List.length xs + List.length ys ≤ PySem.sizeLine ∧ z1 (W.tup (xs ++ ys)) z0) := by intros; rfl
theorem rAddF_q4 : ∀ (z0 : Mm) (z1 : K3) (a b : PySem.Addr), rAddF (W.ref a) (W.ref b) z0 z1 = ∃ (xs : List W), ∃ (ys : List W), z0 a = Option.some (MO.lst xs) ∧ z0 b = Option.some (MO.lst ys) ∧ List.length xs + List.length ys ≤ PySem.sizeLine ∧ z1 (W.rl (xs ++ ys)) z0 := by intros; rfl
theorem rAddF_q5 : ∀ (z0 : Mm) (z1 : K3) (xs : List W) (b : PySem.Addr), rAddF (W.rl xs) (W.ref b) z0 z1 = ∃ (ys : List W), z0 b = Option.some (MO.lst ys) ∧ List.length xs + List.length ys ≤ PySem.sizeLine ∧ z1 (W.rl (xs ++ ys)) z0 := by intros; rfl
theorem rAddF_q6 : ∀ (z0 : Mm) (z1 : K3) (a : PySem.Addr) (ys : List W), rAddF (W.ref a) (W.rl ys) z0 z1 = ∃ (xs : List W), z0 a = Option.some (MO.lst xs) ∧ List.length xs + List.length ys ≤ PySem.sizeLine ∧ z1 (W.rl (xs ++ ys)) z0 := by intros; rfl
theorem rAddF_q7 : ∀ (z0 : Mm) (z1 : K3) (xs ys : List W), rAddF (W.rl xs) (W.rl ys) z0 z1 = (List.length xs + List.length ys ≤ PySem.sizeLine ∧ z1 (W.rl (xs ++ ys)) z0) := by intros; rfl
theorem rII0_q1 : ∀ (g : Int → Int → W) (z1 : Mm) (z2 : K3) (i j : Int), rII0 g (W.int i) (W.int j) z1 z2 = z2 (g i j) z1 := by intros; rfl
theorem rII_q1 : ∀ (C : Int → Int → Prop) (g : Int → Int → W) (z2 : Mm) (z3 : K3) (i j : Int), rII C g (W.int i) (W.int j) z2 z3 = (C i j ∧ z3 (g i j) z2) := by intros; rfl
theorem rLt_q1 : ∀ (z0 : Mm) (z1 : K3) (i j : Int), rLt (W.int i) (W.int j) z0 z1 = z1 (W.bl (Decidable.decide (i < j))) z0 := by intros; rfl
theorem rLt_q2 : ∀ (z0 : Mm) (z1 : K3) (i j : PySem.Str), rLt (W.str i) (W.str j) z0 z1 = z1 (W.bl (strLt i j)) z0 := by intros; rfl
theorem rNeg_q1 : ∀ (z0 : Mm) (z1 : K3) (i : Int), rNeg (W.int i) z0 z1 = z1 (W.int (-i)) z0 := by intros; rfl
theorem rIx_q1 : ∀ (z0 : Mm) (z1 : K3) (ws : List W) (i : Int), rIx (W.tup ws) (W.int i) z0 z1 = ∃ (w : W), L2.atI ws i = Option.some w ∧ z1 w z0 := by intros; rfl
theorem rIx_q2 : ∀ (z0 : Mm) (z1 : K3) (ws : List W) (i : Int), rIx (W.rl ws) (W.int i) z0 z1 = ∃ (w : W), L2.atI ws i = Option.some w ∧ z1 w z0 := by intros; rfl
theorem rIx_q3 : ∀ (z0 : Mm) (z1 : K3) (ws : List W) (i : Int), rIx (W.sc ws) (W.int i) z0 z1 = ∃ (w : W), L2.atI ws i = Option.some w ∧ z1 w z0 := by intros; rfl
theorem rIx_q4 : ∀ (z0 : W) (z1 : Mm) (z2 : K3) (kvs : List (L2.Key × W)), rIx (W.dk kvs) z0 z1 z2 = ∃ (w : W), dGet z1 (W.dk kvs) z0 (Option.some w) ∧ z2 w z1 := by intros; rfl
theorem rIx_q5 : ∀ (z0 : W) (z1 : Mm) (z2 : K3) (kvs : List (List L2.Key × W)), rIx (W.dt kvs) z0 z1 z2 = ∃ (w : W), dGet z1 (W.dt kvs) z0 (Option.some w) ∧ z2 w z1 := by intros; rfl
theorem rIx_q6 : ∀ (z0 : Mm) (z1 : K3) (z : PySem.Str) (i : Int), rIx (W.str z) (W.int i) z0 z1 = (Str.length z ≤ PySem.sizeLine ∧ ∃ (c : Nat), L2.atI (Array.toList (PySem.Str.cps z)) i = Option.some c ∧ z1 (W.str { cps := #[c] }) z0) := by intros; rfl
theorem rIx_q7 : ∀ (z0 : Mm) (z1 : K3) (a : PySem.Addr) (i : Int), rIx (W.ref a) (W.int i) z0 z1 = ((∃ (ws : List W), ∃ (w : W), z0 a = Option.some (MO.lst ws) ∧ L2.atI ws i = Option.some w ∧ z1 w z0) ∨ ∃ (w : W), dGet z0 (W.ref a) (W.int i) (Option.some w) ∧ z1 w z0) := by intros; rfl
theorem rIx_q8 : ∀ (z0 : W) (z1 : Mm) (z2 : K3) (a : PySem.Addr), (∀ (i : Int), z0 = W.int i → False) → rIx (W.ref a) z0 z1 z2 = ∃ (w : W), dGet z1 (W.ref a) z0 (Option.some w) ∧ z2 w z1 := by
  intro x M R a h; cases x <;> first | rfl | exact (h _ rfl).elim
theorem rLen_q1 : ∀ (z0 : Mm) (z1 : K3) (ws : List W), rLen [W.tup ws] z0 z1 = z1 (W.int (↑(List.length ws) : Int)) z0 := by intros; rfl
theorem rLen_q2 : ∀ (z0 : Mm) (z1 : K3) (ws : List W), rLen [W.rl ws] z0 z1 = z1 (W.int (↑(List.length ws) : Int)) z0 := by intros; rfl
theorem rLen_q3 : ∀ (z0 : Mm) (z1 : K3) (ws : List W), rLen [W.sc ws] z0 z1 = z1 (W.int (↑(List.length ws) : Int)) z0 := by intros; rfl
theorem rLen_q4 : ∀ (z0 : Mm) (z1 : K3) (kvs : List (L2.Key × W)), rLen [W.dk kvs] z0 z1 = z1 (W.int (↑(List.length kvs) : Int)) z0 := by intros; rfl
theorem rLen_q5 : ∀ (z0 : Mm) (z1 : K3) (z : PySem.Str), rLen [W.str z] z0 z1 = (Str.length z ≤ PySem.sizeLine ∧ z1 (W.int (↑(Str.length z) : Int)) z0) := by intros; rfl
theorem rLen_q6 : ∀ (z0 : Mm) (z1 : K3) (a : PySem.Addr), rLen [W.ref a] z0 z1 = ((∃ (ws : List W), z0 a = Option.some (MO.lst ws) ∧ z1 (W.int (↑(List.length ws) : Int)) z0) ∨ ∃ (kvs : List (L2.Key × W)), z0 a = Option.some (MO.dK kvs) ∧ z1 (W.int (↑(List.length kvs) : Int)) z0) := by intros; rfl
theorem rList_q1 : ∀ (z0 : Mm) (z1 : K3) (ws : List W), rList [W.tup ws] z0 z1 = New ws z0 z1 := by intros; rfl
theorem rList_q2 : ∀ (z0 : Mm) (z1 : K3) (ws : List W), rList [W.rl ws] z0 z1 = New ws z0 z1 := by intros; rfl
theorem rList_q3 : ∀ (z0 : Mm) (z1 : K3) (ws : List W), rList [W.sc ws] z0 z1 = New ws z0 z1 := by intros; rfl
theorem rList_q4 : ∀ (z0 : Mm) (z1 : K3) (kvs : List (L2.Key × W)), rList [W.dk kvs] z0 z1 = New (List.map (fun (kv : L2.Key × W) => wK (Prod.fst kv)) kvs) z0 z1 := by intros; rfl
theorem rList_q5 : ∀ (z0 : Mm) (z1 : K3) (a : PySem.Addr), rList [W.ref a] z0 z1 = ((∃ (ws : List W), z0 a = Option.some (MO.lst ws) ∧ New ws z0 z1) ∨ ∃ (kvs : List (L2.Key × W)), z0 a = Option.some (MO.dK kvs) ∧ New (List.map (fun (kv : L2.Key × W) => wK (Prod.fst kv)) kvs) z0 z1) := by intros; rfl
theorem rListF_q1 : ∀ (z0 : Mm) (z1 : K3) (ws : List W), rListF [W.tup ws] z0 z1 = z1 (W.rl ws) z0 := by intros; rfl
theorem rListF_q2 : ∀ (z0 : Mm) (z1 : K3) (ws : List W), rListF [W.rl ws] z0 z1 = z1 (W.rl ws) z0 := by intros; rfl
theorem rListF_q3 : ∀ (z0 : Mm) (z1 : K3) (ws : List W), rListF [W.sc ws] z0 z1 = z1 (W.rl ws) z0 := by intros; rfl
theorem rListF_q4 : ∀ (z0 : Mm) (z1 : K3) (kvs : List (L2.Key × W)), rListF [W.dk kvs] z0 z1 = z1 (W.rl (List.map (fun (kv : L2.Key × W) => wK (Prod.fst kv)) kvs)) z0 := by intros; rfl
theorem rListF_q5 : ∀ (z0 : Mm) (z1 : K3) (a : PySem.Addr), rListF [W.ref a] z0 z1 = ((∃ (ws : List W), z0 a = Option.some (MO.lst ws) ∧ z1 (W.rl ws) z0) ∨ ∃ (kvs : List (L2.Key × W)), z0 a = Option.some (MO.dK kvs) ∧ z1 (W.rl (List.map (fun (kv : L2.Key × W) => wK (Prod.fst kv)) kvs)) z0) := by intros; rfl
theorem rTuple_q1 : ∀ (z0 : Mm) (z1 : K3) (ws : List W), rTuple [W.tup ws] z0 z1 = z1 (W.tup ws) z0 := by intros; rfl
theorem rTuple_q2 : ∀ (z0 : Mm) (z1 : K3) (ws : List W), rTuple [W.rl ws] z0 z1 = z1 (W.tup ws) z0 := by intros; rfl
theorem rTuple_q3 : ∀ (z0 : Mm) (z1 : K3) (a : PySem.Addr), rTuple [W.ref a] z0 z1 = ∃ (ws : List W), z0 a = Option.some (MO.lst ws) ∧ z1 (W.tup ws) z0 := by intros; rfl
theorem rStr_q1 : ∀ (z0 : Mm) (z1 : K3) (i : Int), rStr [W.int i] z0 z1 = (Nat.log2 (Int.natAbs i) < 1920 ∧ z1 (W.str (PySem.Str.ofString (ToString.toString i))) z0) := by intros; rfl
theorem rSlF_q1 : ∀ (z0 z1 : Option Int) (z2 : Mm) (z3 : K3) (ws : List W), rSlF (W.rl ws) z0 z1 z2 z3 = z3 (W.rl (cutW ws z0 z1)) z2 := by intros; rfl
theorem rSlF_q2 : ∀ (z0 z1 : Option Int) (z2 : Mm) (z3 : K3) (ws : List W), rSlF (W.sc ws) z0 z1 z2 z3 = z3 (W.rl (cutW ws z0 z1)) z2 := by intros; rfl
theorem rSlF_q3 : ∀ (z0 z1 : Option Int) (z2 : Mm) (z3 : K3) (a : PySem.Addr), rSlF (W.ref a) z0 z1 z2 z3 = ∃ (ws : List W), z2 a = Option.some (MO.lst ws) ∧ z3 (W.rl (cutW ws z0 z1)) z2 := by intros; rfl
theorem rSlF_q4 : ∀ (z0 z1 : Option Int) (z2 : Mm) (z3 : K3) (ws : List W), rSlF (W.tup ws) z0 z1 z2 z3 = (¬(HT.sIx (List.length ws) 0 z0 = 0 ∧ HT.sIx (List.length ws) (List.length ws) z1 = List.length ws) ∧ z3 (W.tup (cutW ws z0 z1)) z2) := by intros; rfl
theorem rSl_q1 : ∀ (z0 z1 : Option Int) (z2 : Mm) (z3 : K3) (ws : List W), rSl (W.rl ws) z0 z1 z2 z3 = New (cutW ws z0 z1) z2 z3 := by intros; rfl
theorem rSl_q2 : ∀ (z0 z1 : Option Int) (z2 : Mm) (z3 : K3) (ws : List W), rSl (W.sc ws) z0 z1 z2 z3 = New (cutW ws z0 z1) z2 z3 := by intros; rfl
theorem rSl_q3 : ∀ (z0 z1 : Option Int) (z2 : Mm) (z3 : K3) (a : PySem.Addr), rSl (W.ref a) z0 z1 z2 z3 = ∃ (ws : List W), z2 a = Option.some (MO.lst ws) ∧ New (cutW ws z0 z1) z2 z3 := by intros; rfl
theorem rSl_q4 : ∀ (z0 z1 : Option Int) (z2 : Mm) (z3 : K3) (ws : List W), rSl (W.tup ws) z0 z1 z2 z3 = (¬(HT.sIx (List.length ws) 0 z0 = 0 ∧ HT.sIx (List.length ws) (List.length ws) z1 = List.length ws) ∧ z3 (W.tup (cutW ws z0 z1)) z2) := by intros; rfl
theorem rApp_q1 : ∀ (z0 : Mm) (z1 : K3) (l : PySem.Addr) (y : W), rApp (W.ref l) [y] z0 z1 = ∃ (ws : List W), z0 l = Option.some (MO.lst ws) ∧ List.length ws < PySem.sizeLine ∧ z1 W.non (put z0 l (MO.lst (ws ++ [y]))) := by intros; rfl
theorem rExt_q1 : ∀ (z0 : Mm) (z1 : K3) (l b : PySem.Addr), rExt (W.ref l) [W.ref b] z0 z1 = ∃ (ws : List W), ∃ (zs : List W), z0 l = Option.some (MO.lst ws) ∧ z0 b = Option.some (MO.lst zs) ∧ List.length ws + List.length zs ≤ PySem.sizeLine ∧ z1 W.non (put z0 l (MO.lst (ws ++ zs))) := by intros; rfl
theorem rExt_q2 : ∀ (z0 : Mm) (z1 : K3) (l : PySem.Addr) (zs : List W), rExt (W.ref l) [W.rl zs] z0 z1 = ∃ (ws : List W), z0 l = Option.some (MO.lst ws) ∧ List.length ws + List.length zs ≤ PySem.sizeLine ∧ z1 W.non (put z0 l (MO.lst (ws ++ zs))) := by intros; rfl
theorem rPop_q1 : ∀ (z0 : Mm) (z1 : K3) (l : PySem.Addr), rPop (W.ref l) [] z0 z1 = ∃ (ws : List W), ∃ (w : W), z0 l = Option.some (MO.lst (ws ++ [w])) ∧ z1 w (put z0 l (MO.lst ws)) := by intros; rfl
theorem tyW_q1 : ∀ (T : String) (z1 : Mm) (x_2 : PySem.Str), tyW T (W.str x_2) z1 = (T = "str") := by intros; rfl
theorem tyW_q2 : ∀ (T : String) (z1 : Mm) (i : Int), tyW T (W.int i) z1 = (T = "int") := by intros; rfl
theorem tyW_q3 : ∀ (T : String) (z1 : Mm) (ws : List W), tyW T (W.rl ws) z1 = (T = "list") := by intros; rfl
theorem tyW_q4 : ∀ (T : String) (z1 : Mm) (ws : List W), tyW T (W.sc ws) z1 = (T = "list") := by intros; rfl
theorem tyW_q5 : ∀ (T : String) (z1 : Mm) (kvs : List (L2.Key × W)), tyW T (W.dk kvs) z1 = (T = "dict") := by intros; rfl
theorem tyW_q6 : ∀ (T : String) (z1 : Mm) (kvs : List (List L2.Key × W)), tyW T (W.dt kvs) z1 = (T = "dict") := by intros; rfl
theorem tyW_q7 : ∀ (T : String) (z1 : Mm) (p : PySem.Addr), tyW T (W.ref p) z1 = ((T = "list" ∧ ∃ (ws : List W), z1 p = Option.some (MO.lst ws)) ∨ T = "dict" ∧ ((∃ (kvs : List (L2.Key × W)), z1 p = Option.some (MO.dK kvs)) ∨ ∃ (kvs : List (List L2.Key × W)), z1 p = Option.some (MO.dT kvs))) := by intros; rfl
theorem rMul_q1 : ∀ (z0 : Mm) (z1 : K3) (i j : Int), rMul (W.int i) (W.int j) z0 z1 = ((L2.CMul i j ∨ L2.CBig i j) ∧ z1 (W.int (i * j)) z0) := by intros; rfl
theorem rMul_q2 : ∀ (z0 : Mm) (z1 : K3) (z : PySem.Str) (n : Int), rMul (W.str z) (W.int n) z0 z1 = (Str.length z ≤ 16 ∧ -2 ^ 63 ≤ n ∧ n ≤ 1048576 ∧ z1 (W.str (PySem.Txt.mul z n)) z0) := by intros; rfl
theorem rMul_q3 : ∀ (z0 : Mm) (z1 : K3) (a : PySem.Addr) (n : Int), rMul (W.ref a) (W.int n) z0 z1 = ∃ (xs : List W), z0 a = Option.some (MO.lst xs) ∧ -2 ^ 63 ≤ n ∧ n < 2 ^ 63 ∧ List.length xs * Int.toNat n ≤ PySem.sizeLine ∧ New (List.flatten (List.replicate (Int.toNat n) xs)) z0 z1 := by intros; rfl
theorem rMul_q4 : ∀ (z0 : Mm) (z1 : K3) (xs : List W) (n : Int), rMul (W.rl xs) (W.int n) z0 z1 = (-2 ^ 63 ≤ n ∧ n < 2 ^ 63 ∧ List.length xs * Int.toNat n ≤ PySem.sizeLine ∧ New (List.flatten (List.replicate (Int.toNat n) xs)) z0 z1) := by intros; rfl
theorem rMulF_q1 : ∀ (z0 : Mm) (z1 : K3) (i j : Int), rMulF (W.int i) (W.int j) z0 z1 = ((L2.CMul i j ∨ L2.CBig i j) ∧ z1 (W.int (i * j)) z0) := by intros; rfl
theorem rMulF_q2 : ∀ (z0 : Mm) (z1 : K3) (z : PySem.Str) (n : Int), rMulF (W.str z) (W.int n) z0 z1 = (Str.length z ≤ 16 ∧ -2 ^ 63 ≤ n ∧ n ≤ 1048576 ∧ z1 (W.str (PySem.Txt.mul z n)) z0) := by intros; rfl
theorem rMulF_q3 : ∀ (z0 : Mm) (z1 : K3) (a : PySem.Addr) (n : Int), rMulF (W.ref a) (W.int n) z0 z1 = ∃ (xs : List W), z0 a = Option.some (MO.lst xs) ∧ -2 ^ 63 ≤ n ∧ n < 2 ^ 63 ∧ List.length xs * Int.toNat n ≤ PySem.sizeLine ∧ z1 (W.rl (List.flatten (List.replicate (Int.toNat n) xs))) z0 := by intros; rfl
theorem rMulF_q4 : ∀ (z0 : Mm) (z1 : K3) (xs : List W) (n : Int), rMulF (W.rl xs) (W.int n) z0 z1 = (-2 ^ 63 ≤ n ∧ n < 2 ^ 63 ∧ List.length xs * Int.toNat n ≤ PySem.sizeLine ∧ z1 (W.rl (List.flatten (List.replicate (Int.toNat n) xs))) z0) := by intros; rfl
end L3
set_option Elab.async false
set_option linter.all false
set_option maxRecDepth 100000
set_option maxHeartbeats 4000000
namespace L3
open PySem PySem.Spec PyProof.Rows L2
section
variable {X : Cx} {a b c : Expr} {ta tb tc : TE3} {pos : Pos}
end
end L3
namespace L3
open PySem PySem.Spec PyProof.Rows L2
section
variable {X : Cx}
theorem avs_strs {K : PySem.W.Frag} {H : Hp} {M : Mm} (ss : List Str) : AVs K H M (ss.map V.str) (ss.map W.str) := by
  induction ss with
  | nil => exact .nil
  | cons s r ih => exact .cons (.str s) ih
end
end L3
set_option Elab.async false
set_option linter.all false
set_option maxRecDepth 100000
set_option maxHeartbeats 4000000
namespace Rg
open PySem PySem.Spec PyProof.Rows L2 L3
structure Rule where
  name : Str
  parts : List Str
  cost : Int
def Asc (t : Str) : Prop := ∀ c ∈ cs t, c < 128
structure HeadT (t : Str) : Prop where
  len : t.length ≤ 20
  nm : isNameB t = true
  hd : ∃ c r, cs t = c :: r ∧ c ∈ cs GREAT
  asc : Asc t
structure WordT (t : Str) : Prop where
  len : t.length ≤ 20
  ne : cs t ≠ []
  sm : ∀ c ∈ cs t, c ∈ cs SMALL
theorem small_asc : ∀ c ∈ cs SMALL, c < 128 := by decide +kernel
theorem great_asc : ∀ c ∈ cs GREAT, c < 128 := by decide +kernel
theorem figs_asc : ∀ c ∈ cs FIGS, c < 128 := by decide +kernel
theorem WordT.asc {t : Str} (h : WordT t) : Asc t := fun c hc => small_asc c (h.sm c hc)
theorem WordT.nm {t : Str} (h : WordT t) : isNameB t = false := name_not h.ne h.sm
structure RuleOf (hs ws : List Str) (r : Rule) : Prop where
  name : r.name ∈ hs
  parts : ∀ t ∈ r.parts, t ∈ ws ∨ t ∈ hs
  few : r.parts.length ≤ 4
  lo : 0 ≤ r.cost
  hi : r.cost < 10 ^ 60
structure GoodRules (rs : List Rule) : Prop where
  ne : rs ≠ []
  few : rs.length ≤ 60
  ex : ∃ hs ws : List Str, hs.length ≤ 12 ∧ (∀ t ∈ hs, HeadT t) ∧ (∀ t ∈ ws, WordT t) ∧ (∀ r ∈ rs, RuleOf hs ws r) ∧ ∀ t ∈ hs, ∃ r ∈ rs, r.name = t
def addN (acc : List Str) (t : Str) : List Str := if t ∈ acc then acc else acc ++ [t]
def namesFrom (acc : List Str) (rs : List Rule) : List Str := (rs.map Rule.name).foldl addN acc
def namesOf (rs : List Rule) : List Str := namesFrom [] rs
theorem addN_mem {acc : List Str} {t u : Str} : u ∈ addN acc t ↔ u ∈ acc ∨ u = t := by
  unfold addN
  split
  · rename_i h
    constructor
    · exact .inl
    · rintro (q | q)
      · exact q
      · rw [q]; exact h
  · rw [List.mem_append, List.mem_singleton]
theorem addN_len {acc : List Str} {t : Str} : (addN acc t).length ≤ acc.length + 1 := by
  unfold addN
  split
  · omega
  · rw [List.length_append]; exact Nat.le_refl _
theorem names_mem : ∀ {ts acc : List Str} {u : Str}, u ∈ ts.foldl addN acc ↔ u ∈ acc ∨ u ∈ ts
  | [], acc, u => by simp
  | t :: r, acc, u => by
    rw [List.foldl_cons, names_mem, addN_mem, List.mem_cons]
    constructor
    · rintro ((h | h) | h)
      · exact .inl h
      · exact .inr (.inl h)
      · exact .inr (.inr h)
    · rintro (h | h | h)
      · exact .inl (.inl h)
      · exact .inl (.inr h)
      · exact .inr h
theorem namesOf_mem {rs : List Rule} {u : Str} : u ∈ namesOf rs ↔ ∃ r ∈ rs, r.name = u := by
  unfold namesOf namesFrom
  rw [names_mem]
  simp
theorem strOk_asc {t : Str} (h : Asc t) : PyData.strOk t = true := by
  unfold PyData.strOk
  rw [Array.all_eq_true']
  intro c hc
  have := h c (by unfold cs; exact Array.mem_toList_iff.mpr hc)
  exact decide_eq_true (by omega)
theorem GoodRules.asc {rs : List Rule} (g : GoodRules rs) {r : Rule} (hr : r ∈ rs) : Asc r.name ∧ ∀ t ∈ r.parts, Asc t := by
  obtain ⟨hs, ws, _, hh, hw, hr', _⟩ := g.ex
  refine ⟨(hh _ (hr' r hr).name).asc, fun t ht => ?_⟩
  rcases (hr' r hr).parts t ht with q | q
  · exact (hw t q).asc
  · exact (hh t q).asc
theorem namesFrom_len : ∀ (ts acc : List Str), (ts.foldl addN acc).length ≤ acc.length + ts.length
  | [], acc => by simp
  | t :: r, acc => by
    rw [List.foldl_cons, List.length_cons]
    have := namesFrom_len r (addN acc t)
    have := addN_len (acc := acc) (t := t)
    omega
theorem good_parts {rs : List Rule} (g : GoodRules rs) {r : Rule} (hr : r ∈ rs) : 0 ≤ r.cost ∧ ∀ t ∈ r.parts, t.length ≤ 1000 ∧ (isNameB t = true → t ∈ namesOf rs) := by
  obtain ⟨hs, ws, _, hh, hw, hrs, hall⟩ := g.ex
  refine ⟨(hrs r hr).lo, fun t ht => ?_⟩
  rcases (hrs r hr).parts t ht with q | q
  · have := hw t q
    exact ⟨by have := this.len; omega, fun n => by rw [this.nm] at n; cases n⟩
  · have := hh t q
    exact ⟨by have := this.len; omega, fun _ => namesOf_mem.mpr (hall t q)⟩
def ruleW (r : Rule) : W := .tup [.str r.name, .tup (r.parts.map W.str), .int r.cost]
end Rg
set_option Elab.async false
set_option linter.all false
set_option maxRecDepth 100000
set_option maxHeartbeats 4000000
namespace Rg
open PySem PySem.Spec PyProof.Rows L2 L3
def sp_made_of : Sp3 := fun ws M R => ∃ z g : Str, ws = [.str z, .str g] ∧ z.length ≤ 1000 ∧ R (.bl (madeB z g)) M
def sp_is_name : Sp3 := fun ws M R => ∃ z : Str, ws = [.str z] ∧ z.length ≤ 1000 ∧ R (.bl (isNameB z)) M
def sp_names : Sp3 := fun ws M R => ∃ rs : List Rule, ws = [.rl (rs.map ruleW)] ∧ rs.length ≤ 100 ∧ New ((namesOf rs).map W.str) M R
def sp_check_rule : Sp3 := fun ws M R => ∃ (r : Rule) (ns : List Str), ws = [ruleW r, .rl (ns.map W.str)] ∧ 0 ≤ r.cost ∧ (∀ t ∈ r.parts, t.length ≤ 1000 ∧ (isNameB t = true → t ∈ ns)) ∧ R .non M
def sp_grammar_of : Sp3 := fun ws M R => ∃ rs : List Rule, ws = [.rl (rs.map ruleW)] ∧ GoodRules rs ∧ New (rs.map ruleW) M R
def sp_l_cell_at : Sp3 := fun ws M R => ∃ (zs : List W) (k : Int), (ws = [.sc zs, .int k] ∨ ws = [.rl zs, .int k]) ∧ Ints zs ∧ 0 ≤ k ∧ ∀ i, R (.int i) M
abbrev N_made_of : List Str := ["text", "signs"]
def rd_made_of : TS3 :=
      (vRet (vAndV (vOp (rEq true) (vVar 0) (vC (.str ""))) (vCB rAll (aCons (vFrz (vComp (iIt rItN (vVar 0)) (wName 0) vTrue (vOp (rIn false) (vVar 0) (vVar 1)) [none, some 1])) aNil))))
abbrev N_is_name : List Str := ["part", "pieces", "right_end"]
def rd_is_name_0 : TS3 :=
      (vSet 1 (vBM "str" rPart (vVar 0) (aCons (vC (.str "_")) aNil)))
def rd_is_name_1 : TS3 :=
      (vSet 2 (vOrV (vOp (rEq false) (vOp rIx (vVar 1) (vC (.int 1))) (vC (.str ""))) (vCall sp_made_of (aCons (vOp rIx (vVar 1) (vC (.int 2))) (aCons (vC (.str "0123456789")) aNil)))))
def rd_is_name_2 : TS3 :=
      (vRet (vAndV (vVar 2) (vCall sp_made_of (aCons (vOp rIx (vVar 1) (vC (.int 0))) (aCons (vC (.str "ABCDEFGHIJKLMNOPQRSTUVWXYZ")) aNil)))))
def rd_is_name : TS3 := (vSeq rd_is_name_0 (vSeq rd_is_name_1 rd_is_name_2))
abbrev N_names : List Str := ["grammar", "found", "rule"]
def rd_names_0 : TS3 :=
      (vSet 1 vNewK)
def rd_names_b1 : TS3 :=
      (vAsg (vC (.bl true)) (wSub (vVar 1) (vOp rIx (vVar 2) (vC (.int 0)))))
def rd_names_1 : TS3 :=
      (vFor (iIt rItN (vVar 0)) (wName 2) rd_names_b1)
def rd_names_2 : TS3 :=
      (vRet (vCB rList (aCons (vVar 1) aNil)))
def rd_names : TS3 := (vSeq rd_names_0 (vSeq rd_names_1 rd_names_2))
abbrev N_check_rule : List Str := ["rule", "known", "part"]
def rd_check_rule : TS3 :=
      (vSeq (vIfS (vTest (vOp rLt (vOp rIx (vVar 0) (vC (.int 2))) (vC (.int 0))))
        vNever
        vNext)
      (vFor (iIt rItN (vOp rIx (vVar 0) (vC (.int 1)))) (wName 2)
        (vIfS (vAnd (vTruth (vCall sp_is_name (aCons (vVar 2) aNil))) (vTest (vOp (rIn true) (vVar 2) (vVar 1))))
        vNever
        vNext)))
abbrev N_grammar_of : List Str := ["rules", "known", "rule"]
def rd_grammar_of_0 : TS3 :=
      (vIfS (vTest (vOp (rEq false) (vCB rLen (aCons (vVar 0) aNil)) (vC (.int 0))))
        vNever
        vNext)
def rd_grammar_of_1 : TS3 :=
      (vSet 1 (vFrz (vCall sp_names (aCons (vVar 0) aNil))))
def rd_grammar_of_b2 : TS3 :=
      (vDrop (vCall sp_check_rule (aCons (vVar 2) (aCons (vVar 1) aNil))))
def rd_grammar_of_2 : TS3 :=
      (vFor (iIt rItN (vVar 0)) (wName 2) rd_grammar_of_b2)
def rd_grammar_of_3 : TS3 :=
      (vRet (vCB rList (aCons (vVar 0) aNil)))
def rd_grammar_of : TS3 := (vSeq rd_grammar_of_0 (vSeq rd_grammar_of_1 (vSeq rd_grammar_of_2 rd_grammar_of_3)))
abbrev N_l_cell_at : List Str := ["script", "k"]
def rd_l_cell_at : TS3 :=
      (vSeq (vIfS (vTest (vOp rLt (vVar 1) (vCB rLen (aCons (vVar 0) aNil))))
        (vRet (vOp rIx (vVar 0) (vVar 1)))
        vNext)
      (vRet (vC (.int 0))))
end Rg
set_option hygiene false in
local macro_rules | `(tactic| simp? only [$xs,*] $[$l:location]?) => `(tactic| simp only [L3.vAsg, L3.wSub, L3.wTup, L3.wCons, L3.wNil, L3.vNewK, L3.vNewT, L3.vNever, L3.vSeq, L3.vSet, L3.vVar, L3.vC, L3.vOp, L3.vTest, L3.vUn, L3.vCB, L3.vCall, L3.aNil, L3.aCons, L3.vTup, L3.vLst, L3.vLstF, L3.vIf, L3.vIfS, L3.vAnd, L3.vOr, L3.vNot, L3.vAndV, L3.vOrV, L3.vNotV, L3.vTruth, L3.vTru_q1, L3.vTru_q2, L3.vTru_q3, L3.vTru_q4, L3.vTru_q5, L3.vTru_q6, L3.vTru_q7, L3.vTru_q8, L3.vTru_q9, L3.vRet, L3.vDrop, L3.vNext, L3.vBM, L3.vBM0, L3.vSl, L3.vSlF, L3.sNo, L3.sPt, L3.vFor, L3.iIt, L3.iR1, L3.iR2, L3.wName, L3.vComp, L3.vFrz, L3.vTrue, L3.rItN_q1, L3.rItN_q2, L3.rItN_q3, L3.rItN_q4, L3.rItN_q5, L3.rIt_q1, L3.rIt_q2, L3.rIt_q3, L3.rIt_q4, L3.rAdd_q1, L3.rAdd_q2, L3.rAdd_q3, L3.rAdd_q4, L3.rAdd_q5, L3.rAdd_q6, L3.rAdd_q7, L3.rAddF_q1, L3.rAddF_q2, L3.rAddF_q3, L3.rAddF_q4, L3.rAddF_q5, L3.rAddF_q6, L3.rAddF_q7, L3.rII0_q1, L3.rII_q1, L3.rEq_ii, L3.rEq_ss, L3.rEq_bb, isi_non_list, isi_non_tuple, isi_non_int, isi_non_str, isi_non_bool, isi_bl_bool, isi_bl_int, isi_bl_str, isi_bl_list, isi_bl_tuple, isi_int_int, isi_int_bool, isi_int_str, isi_int_tuple, isi_int_list, isi_str_str, isi_str_int, isi_str_tuple, isi_str_list, isi_str_bool, isi_tup_tuple, isi_tup_list, isi_tup_str, isi_tup_int, isi_tup_bool, isi_rl_list, isi_rl_tuple, isi_rl_str, isi_rl_int, isi_rl_bool, isi_put, L3.rLt_q1, L3.rLt_q2, L3.rNeg_q1, L3.rIx_q1, L3.rIx_q2, L3.rIx_q3, L3.rIx_q4, L3.rIx_q5, L3.rIx_q6, L3.rIx_q7, L3.rIx_q8, L3.rLen_q1, L3.rLen_q2, L3.rLen_q3, L3.rLen_q4, L3.rLen_q5, L3.rLen_q6, L3.rList_q1, L3.rList_q2, L3.rList_q3, L3.rList_q4, L3.rList_q5, L3.rListF_q1, L3.rListF_q2, L3.rListF_q3, L3.rListF_q4, L3.rListF_q5, L3.rTuple_q1, L3.rTuple_q2, L3.rTuple_q3, L3.rStr_q1, L3.rSlF_q1, L3.rSlF_q2, L3.rSlF_q3, L3.rSlF_q4, L3.rSl_q1, L3.rSl_q2, L3.rSl_q3, L3.rSl_q4, L3.rApp_q1, L3.rExt_q1, L3.rExt_q2, L3.rPop_q1, L3.tyW_q1, L3.tyW_q2, L3.tyW_q3, L3.tyW_q4, L3.tyW_q5, L3.tyW_q6, L3.tyW_q7, L3.rMul_q1, L3.rMul_q2, L3.rMul_q3, L3.rMul_q4, L3.rMulF_q1, L3.rMulF_q2, L3.rMulF_q3, L3.rMulF_q4, L3.ends3, L3.cmap3, atI0, atI1, atI2, List.map_cons, List.map_nil, Option.bind_some, Option.bind_none, Option.join_some, List.getElem?_cons_zero, List.getElem?_cons_succ, List.set_cons_zero, List.set_cons_succ, Option.some.injEq, exists_eq_left', exists_eq_left, W.bl.injEq, W.int.injEq, W.str.injEq, Bool.false_eq_true, if_true, if_false, ↓reduceIte, true_and, and_true, sizeLine, put_same, put_put, MO.lst.injEq, MO.dK.injEq, MO.dT.injEq, exists_eq', exists_eq, true_or, or_true, false_and, and_false, or_false, false_or, reduceCtorEq, String.reduceEq, exists_false, cdivT, decide_eq_true_eq, Bool.not_eq_true', Bool.not_true, Bool.not_false, Classical.not_not, decide_eq_false_iff_not, Int.reduceLT, Int.reduceLE, Nat.reduceLT, Nat.reduceLeDiff, Nat.reducePow, List.length_cons, List.length_nil, Nat.reduceAdd, Nat.zero_add, Nat.zero_le, $xs,*] $[$l:location]?)
set_option Elab.async false
set_option linter.all false
set_option maxRecDepth 100000
set_option maxHeartbeats 4000000
namespace Rg
open PySem PySem.Spec PyProof.Rows L2 L3
theorem len_made_of : ∀ ws M R, sp_made_of ws M R → ws.length = 2 := by rintro ws M R ⟨_, _, rfl, _⟩; rfl
theorem len_is_name : ∀ ws M R, sp_is_name ws M R → ws.length = 1 := by rintro ws M R ⟨_, rfl, _⟩; rfl
theorem len_names : ∀ ws M R, sp_names ws M R → ws.length = 1 := by rintro ws M R ⟨_, rfl, _⟩; rfl
theorem len_check_rule : ∀ ws M R, sp_check_rule ws M R → ws.length = 2 := by rintro ws M R ⟨_, _, rfl, _⟩; rfl
theorem len_grammar_of : ∀ ws M R, sp_grammar_of ws M R → ws.length = 1 := by rintro ws M R ⟨_, rfl, _⟩; rfl
theorem len_l_cell_at : ∀ ws M R, sp_l_cell_at ws M R → ws.length = 2 := by rintro ws M R ⟨_, _, rfl | rfl, _⟩ <;> rfl
theorem occ_one (c : Nat) (g : Str) : occ ⟨#[c]⟩ g = decide (c ∈ cs g) := StrLaws.found_one g c
theorem good_made_of {ws : List W} {M : Mm} {R : K3} (h : sp_made_of ws M R) : rd_made_of (ends3 R) (start3 N_made_of ws) M := by
  obtain ⟨z, g, rfl, hz, r⟩ := h
  show rd_made_of (ends3 R) [some (.str z), some (.str g)] M
  have em : madeB z g = (!decide (V.str z = V.str "") && (cs z).all fun c => decide (c ∈ cs g)) := rfl
  rw [dStr] at em
  simp? only [rd_made_of]
  by_cases hc : z = ""
  · rw [decide_eq_true hc] at em
    simp? only [hc]
    rw [if_neg (by simp)]
    simp at em; rw [em] at r
    exact ⟨_, Sub.refl _, r⟩
  · rw [decide_eq_false hc] at em
    rw [if_pos hc]
    refine map1 (rest := [some (.str g)]) (fun w => match w with | .str x => .bl (occ x g) | _ => .non) (small (by simp; have := cs_len z; unfold cs at this; simp at this; omega)) (fun _ _ => trivial) (fun w hw M' C sb h1 => ?_) (New.frz ?_)
    · obtain ⟨c, _, rfl⟩ := List.mem_map.mp hw
      simp? only [L3.rIn]
      exact h1
    · simp? only [L3.rAll]
      refine ⟨(cs z).map fun c => decide (c ∈ cs g), ?_, _, Sub.refl _, ?_⟩
      · unfold bools
        rw [List.map_map, List.map_map]
        refine List.map_congr_left fun c _ => ?_
        show W.bl (occ ⟨#[c]⟩ g) = _
        rw [occ_one]; rfl
      · rw [List.all_map]
        simp at em
        have e2 : (cs z).all (id ∘ fun c => decide (c ∈ cs g)) = madeB z g := by rw [Bool.eq_iff_iff]; simp [em]
        rw [e2]; exact r
theorem part_len (z : Str) : (Txt.partition z "_").1.length ≤ z.length ∧ (Txt.partition z "_").2.2.length ≤ z.length := by
  have := fact_partition z "_"
  exact ⟨this.1, this.2.2⟩
theorem isName_eq (z : Str) : isNameB z = ((decide ((Txt.partition z "_").2.1 = "") || madeB (Txt.partition z "_").2.2 FIGS) && madeB (Txt.partition z "_").1 GREAT) := by
  unfold isNameB; rw [dStr]
theorem good_is_name {ws : List W} {M : Mm} {R : K3} (h : sp_is_name ws M R) : rd_is_name (ends3 R) (start3 N_is_name ws) M := by
  obtain ⟨z, rfl, hz, r⟩ := h
  show rd_is_name (ends3 R) [some (.str z), none, none] M
  obtain ⟨h1, h3⟩ := part_len z
  have e := isName_eq z
  simp? only [rd_is_name, rd_is_name_0, rd_is_name_1, rd_is_name_2, L3.rPart]
  refine ⟨by decide +kernel, by omega, ?_⟩
  by_cases hc : (Txt.partition z "_").2.1 = ""
  · rw [if_pos hc]
    refine ⟨_, _, rfl, by omega, _, Sub.refl _, ?_⟩
    rw [decide_eq_true hc, Bool.true_or, Bool.true_and] at e
    rw [← e]; exact r
  · rw [if_neg hc]
    rw [decide_eq_false hc, Bool.false_or] at e
    refine ⟨_, _, rfl, by omega, _, rfl, ?_⟩
    split
    · rename_i hb
      rw [show madeB (Txt.partition z "_").2.2 FIGS = true from hb, Bool.true_and] at e
      refine ⟨_, _, rfl, by omega, _, Sub.refl _, ?_⟩
      rw [← e]; exact r
    · rename_i hb
      rw [show madeB (Txt.partition z "_").2.2 FIGS = false by simpa using hb, Bool.false_and] at e
      rw [← e]; exact ⟨_, Sub.refl _, r⟩
def nkw (t : Str) : Key × W := (Sum.inr t, .bl true)
theorem putW_names (acc : List Str) (t : Str) : putW (acc.map nkw) (Sum.inr t : Key) (.bl true) = (addN acc t).map nkw := by
  unfold putW addN
  have e : ((acc.map nkw).any fun kv => decide (kv.1 = Sum.inr t)) = decide (t ∈ acc) := by
    rw [List.any_map, Bool.eq_iff_iff]
    simp [nkw, Function.comp]
  rw [e]
  by_cases h : t ∈ acc
  · rw [if_pos (decide_eq_true h), if_pos h, List.map_map]
    refine List.map_congr_left fun u hu => ?_
    simp [nkw, Function.comp]
  · rw [if_neg (by simpa using h), if_neg h, List.map_append]; rfl
theorem good_names {ws : List W} {M : Mm} {R : K3} (h : sp_names ws M R) : rd_names (ends3 R) (start3 N_names ws) M := by
  obtain ⟨rs, rfl, hl, r⟩ := h
  show rd_names (ends3 R) [some (.rl (rs.map ruleW)), none, none] M
  simp? only [rd_names, rd_names_0, rd_names_1]
  intro p hp
  refine for3 (fun i τ M' => ∃ o, τ = [some (.rl (rs.map ruleW)), some (.ref p), o] ∧ M' = put M p (.dK ((namesOf (rs.take i)).map nkw))) ⟨_, rfl, rfl⟩ (fun _ _ _ _ _ => trivial) ?_ ?_
  · rintro i w τ M' hw ⟨o, rfl, rfl⟩
    rw [List.getElem?_map] at hw
    obtain ⟨q, hq, rfl⟩ := Option.map_eq_some_iff.mp hw
    have hi : i < rs.length := (List.getElem?_eq_some_iff.mp hq).1
    simp? only [rd_names_b1, ruleW]
    have e : namesOf (rs.take (i + 1)) = addN (namesOf (rs.take i)) q.name := by
      rw [List.take_add_one, hq]
      unfold namesOf namesFrom
      simp
    have hlen : (namesOf (rs.take i)).length ≤ i := by
      have := namesFrom_len ((rs.take i).map Rule.name) []
      unfold namesOf namesFrom
      simp at this
      simp; omega
    refine setK_str put_same (by rw [List.length_map]; exact smallT (by omega)) ⟨_, Sub.refl _, _, rfl, ?_⟩
    rw [put_put, putW_names, e]
  · rintro τ M' ⟨o, rfl, rfl⟩
    rw [List.length_map, List.take_length]
    simp? only [rd_names_2]
    intro q hq
    have hpq : q ≠ p := fun e => by subst e; rw [put_same] at hq; cases hq
    rw [put_ne hpq] at hq
    refine ⟨_, ?_, r q hq⟩
    rw [List.map_map]
    exact Sub.put (Sub.new hp)
theorem inW_strs {t : Str} {ts : List Str} : inW (.str t) (ts.map W.str) = decide (t ∈ ts) := by
  unfold inW
  rw [List.any_map, Bool.eq_iff_iff]
  simp [Function.comp, eqW]
theorem flat_strsW (ts : List Str) : (ts.map W.str).all flatW = true := by
  rw [List.all_map, List.all_eq_true]; intro t _; rfl
theorem good_check_rule {ws : List W} {M : Mm} {R : K3} (h : sp_check_rule ws M R) : rd_check_rule (ends3 R) (start3 N_check_rule ws) M := by
  obtain ⟨q, ns, rfl, hc, hp, r⟩ := h
  show rd_check_rule (ends3 R) [some (ruleW q), some (.rl (ns.map W.str)), none] M
  simp? only [rd_check_rule, ruleW]
  rw [if_neg (by omega)]
  refine for3 (fun i τ M' => ∃ o, τ = [some (ruleW q), some (.rl (ns.map W.str)), o] ∧ M' = M) ⟨_, rfl, rfl⟩ (fun _ _ _ _ _ => trivial) ?_ ?_
  · rintro i w τ M' hw ⟨o, rfl, rfl⟩
    obtain ⟨t, ht, rfl⟩ := List.mem_map.mp (List.mem_of_getElem? hw)
    obtain ⟨h1, h2⟩ := hp t ht
    simp? only [L3.rIn, inW_strs, flat_strsW, flatW]
    refine ⟨t, rfl, h1, ?_⟩
    simp? only []
    split
    · rename_i hb
      rw [if_neg (by simpa using h2 hb)]
      exact ⟨_, Sub.refl _, _, rfl, rfl⟩
    · exact ⟨_, Sub.refl _, _, rfl, rfl⟩
  · rintro τ M' ⟨o, rfl, rfl⟩
    exact ⟨_, Sub.refl _, r⟩
theorem good_grammar_of {ws : List W} {M : Mm} {R : K3} (h : sp_grammar_of ws M R) : rd_grammar_of (ends3 R) (start3 N_grammar_of ws) M := by
  obtain ⟨rs, rfl, g, r⟩ := h
  show rd_grammar_of (ends3 R) [some (.rl (rs.map ruleW)), none, none] M
  simp? only [rd_grammar_of, rd_grammar_of_0, rd_grammar_of_1]
  rw [if_neg (by rw [List.length_map]; have := g.ne; cases rs; exact absurd rfl this; simp; omega)]
  refine ⟨rs, rfl, by have := g.few; omega, New.frz ?_⟩
  simp? only [rd_grammar_of_2]
  refine for3 (fun i τ M' => ∃ o, τ = [some (.rl (rs.map ruleW)), some (.rl ((namesOf rs).map W.str)), o] ∧ M' = M) ⟨_, rfl, rfl⟩ (fun _ _ _ _ _ => trivial) ?_ ?_
  · rintro i w τ M' hw ⟨o, rfl, rfl⟩
    obtain ⟨t, ht, rfl⟩ := List.mem_map.mp (List.mem_of_getElem? hw)
    obtain ⟨h1, h2⟩ := good_parts g ht
    simp? only [rd_grammar_of_b2]
    exact ⟨t, _, rfl, h1, h2, _, Sub.refl _, _, rfl, rfl⟩
  · rintro τ M' ⟨o, rfl, rfl⟩
    simp? only [rd_grammar_of_3]
    exact fun q hq => ⟨_, Sub.refl _, r q hq⟩
theorem good_l_cell_at {ws : List W} {M : Mm} {R : K3} (h : sp_l_cell_at ws M R) : rd_l_cell_at (ends3 R) (start3 N_l_cell_at ws) M := by
  obtain ⟨zs, k, e, hi, hk, r⟩ := h
  rcases e with rfl | rfl
  · show rd_l_cell_at (ends3 R) [some (.sc zs), some (.int k)] M
    simp? only [rd_l_cell_at]
    by_cases hd : k < zs.length
    · obtain ⟨x, e, _, m⟩ := atI_of hk hd
      obtain ⟨i, rfl⟩ := hi x m
      rw [if_pos hd]
      exact ⟨_, e, _, Sub.refl _, r i⟩
    · rw [if_neg hd]
      exact ⟨_, Sub.refl _, r 0⟩
  · show rd_l_cell_at (ends3 R) [some (.rl zs), some (.int k)] M
    simp? only [rd_l_cell_at]
    by_cases hd : k < zs.length
    · obtain ⟨x, e, _, m⟩ := atI_of hk hd
      obtain ⟨i, rfl⟩ := hi x m
      rw [if_pos hd]
      exact ⟨_, e, _, Sub.refl _, r i⟩
    · rw [if_neg hd]
      exact ⟨_, Sub.refl _, r 0⟩
end Rg
set_option Elab.async false
set_option linter.all false
set_option maxRecDepth 100000
set_option maxHeartbeats 4000000
namespace PySem
namespace Rl
open PyProof.Rows L2 PySem.Spec
section
variable {prog : Program} {w : World} {A : Around} {E : Value → Shared → Prop} {s : Shared}
theorem sub_self : isSubtype (.type "list_reverseiterator") (.type "list_reverseiterator") = pure true := by rw [isSubtype_type]; kernel_rfl
end
end Rl
end PySem
namespace L2
open PySem PySem.Spec PyProof.Rows
section
variable {X : Cx} {a : Expr} {ta : TA} {p p2 pos pos2 : Pos}
end
end L2
namespace L3
open PySem PySem.Spec PyProof.Rows L2
section
variable {X : Cx} {a : Expr} {ta : TE3} {pos : Pos}
end
end L3
set_option Elab.async false
set_option linter.all false
set_option maxRecDepth 100000
set_option maxHeartbeats 4000000
namespace PySem
namespace Dp
open PyProof.Rows L2 PySem.Spec
section
variable {prog : Program} {w : World} {A : Around} {E : Value → Shared → Prop} {s : Shared}
theorem entry_loop : entryFor table "dict.update.loop" = some Builtin.«dict.update.loop» := entryFor_of_tree (by kernel_rfl)
theorem plain_loop : plainId "dict.update.loop" = true := by decide +kernel
variable {K : Type} [DecidableEq K] {knd : KeyKind prog w K}
theorem stored_len (kvs : List (K × Value)) (k : K) (v : Value) : (stored kvs k v).length ≤ kvs.length + 1 := by
  unfold stored
  split
  · rw [List.length_map]; omega
  · rw [List.length_append, List.length_singleton]; exact Nat.le_refl _
def all (kvs : List (K × Value)) (ps : List (K × Value)) : List (K × Value) := ps.foldl (fun kvs p => stored kvs p.1 p.2) kvs
theorem loop {d I l : Addr} {items : Array Value} {ps : List (K × Value)} {R : Result → Shared → Prop} (hh : A.handled = none) (hdI : d ≠ I) (hdl : d ≠ l) (hlI : l ≠ I) (hn : ps.length = items.size) (hz : items.size ≤ sizeLine) :
    ∀ (k i : Nat) (s : Shared) (kvs : List (K × Value)), items.size - i = k → i ≤ items.size → kvs.length ≤ i → s.heap.IsListIter I l i → s.heap.IsList l items → s.heap.DictOf knd d kvs →
    (∀ (j : Nat) (p : K × Value), ps[j]? = some p → ∃ (a : Addr) (key : Value), items[j]? = some (.ref a) ∧ a ≠ d ∧ a ≠ I ∧ s.heap.IsTuple a #[key, p.2] ∧ knd.is p.1 key = true) →
    (∀ h' tk, (∀ b o, b ≠ d → b ≠ I → s.heap.get? b = some o → h'.get? b = some o) → h'.DictOf knd d (all kvs (ps.drop i)) → R (.ok (.ret .none)) { s with heap := h', toks := tk }) →
    codeAny (model prog w) A (.builtin "dict.update.loop" ⟨[.ref d, .ref I, rawInt (i : Int), .none], []⟩) R s := by
  intro k
  induction k with
  | zero =>
    intro i s kvs hk hi hl hit hls hd hp hR
    have hin : i = items.size := by omega
    refine codeAny_builtin entry_loop ?_
    rw [Around.under_plainId plain_loop _]
    show wpAny _ A.in1 (pyNext (.ref I) >>= _) _ _ s
    have W := Walks.list (prog := prog) (w := w) (A := A.in1) hh I l hlI items
    refine wpAny_bind (W.done s _ _ (by rw [← hin]; exact ⟨hit, hls⟩) fun h' tk hm => ?_)
    show wpAny _ A.in1 (Builtin.Dict.addKeywords d [] >>= _) _ _ _
    have hd' : h'.DictOf knd d kvs := by
      obtain ⟨o, es, ep, ho, rest⟩ := hd
      exact ⟨o, es, ep, hm d o (by simp [hdI]) ho, rest⟩
    refine wpAny_bind (wpAny_pure (wpAny_pure (hR h' tk (fun b o _ hb e => hm b o (by simp [hb]) e) ?_)))
    rw [List.drop_of_length_le (by omega)]
    exact hd'
  | succ k ih =>
    intro i s kvs hk hi hl hit hls hd hp hR
    have hlt : i < items.size := by omega
    refine codeAny_builtin entry_loop ?_
    rw [Around.under_plainId plain_loop _]
    show wpAny _ A.in1 (pyNext (.ref I) >>= _) _ _ s
    have W := Walks.list (prog := prog) (w := w) (A := A.in1) hh I l hlI items
    refine wpAny_bind (W.item i s _ _ hlt ⟨hit, hls⟩ fun v h' tk hv hst hm => ?_)
    obtain ⟨p, hpi⟩ : ∃ p, ps[i]? = some p := ⟨_, List.getElem?_eq_getElem (by omega)⟩
    obtain ⟨a, key, ha, had, haI, hat, hkey⟩ := hp i p hpi
    rw [ha] at hv
    cases hv
    have hd' : h'.DictOf knd d kvs := by
      obtain ⟨o, es, ep, ho, rest⟩ := hd
      exact ⟨o, es, ep, hm d o (by simp [hdI]) ho, rest⟩
    have hat' : h'.IsTuple a #[key, p.2] := by
      obtain ⟨o, ho, rest⟩ := hat
      exact ⟨o, hm a o (by simp [haI]) ho, rest⟩
    show wpAny _ A.in1 (holding [Value.ref a] _ >>= _) _ _ _
    refine wpAny_bind (wpAny_holding (wpAny_bind (wpAny_tryCatch ?_)))
    unfold Builtin.Dict.pairItems
    obtain ⟨o, ho, hc, n, hd2⟩ := hat'
    refine wpAny_bind (wpAny_typeOf (T := "tuple") ⟨o, ho, hc⟩ ?_)
    rw [if_pos (by decide)]
    refine wpAny_bind (wpAny_seqItems ho hd2 (wpAny_pure ?_))
    show wpAny _ _ (holding [key, p.2] (dictSet d key p.2)) _ _ _
    refine wpAny_holding (wpAny_dictSet_pairs hkey hd' (hsz := by omega) fun h2 hd3 hs2 => ?_)
    have e1 : ps.drop i = p :: ps.drop (i + 1) := by rw [List.drop_eq_getElem_cons (by omega)]; congr 1; exact (List.getElem?_eq_some_iff.mp hpi).2
    refine wpAny_pure ⟨plainId_quiet plain_loop _, ?_⟩
    refine ih (i + 1) _ (stored kvs p.1 p.2) (by omega) hlt (by have := stored_len kvs p.1 p.2; omega) (hst.1.at fun o e => (hs2.2 I (Ne.symm hdI)).trans e) (hst.2.at fun o e => (hs2.2 l (Ne.symm hdl)).trans e) hd3 (fun j q hq => ?_) fun h3 tk3 hk3 hd4 => ?_
    · obtain ⟨a, key, g1, g2, g3, ⟨o, g4, g5⟩, g6⟩ := hp j q hq
      exact ⟨a, key, g1, g2, g3, ⟨o, (hs2.2 a g2).trans (hm a o (by simp [g3]) g4), g5⟩, g6⟩
    · refine hR h3 tk3 (fun b o h1 h2 e => hk3 b o h1 h2 ((hs2.2 b h1).trans (hm b o (by simp [h2]) e))) ?_
      rw [e1]; exact hd4
end
end Dp
end PySem
set_option Elab.async false
set_option linter.all false
set_option maxRecDepth 100000
set_option maxHeartbeats 4000000
namespace L3
open PySem PySem.Spec PyProof.Rows L2
section
variable {X : Cx}
end
end L3
namespace L3
open PySem PySem.Spec PyProof.Rows L2
section
variable {X : Cx}
end
end L3
namespace L3
open PySem PySem.Spec PyProof.Rows L2
end L3
set_option Elab.async false
set_option linter.all false
set_option maxRecDepth 100000
set_option maxHeartbeats 4000000
namespace Rg
open PySem PySem.Spec PyProof.Rows
def jn (c : Nat) : List (List Nat) → List Nat
  | [] => []
  | [p] => p
  | p :: q :: r => p ++ c :: jn c (q :: r)
def sp (c : Nat) : List Nat → List (List Nat)
  | [] => [[]]
  | a :: r => if a = c then [] :: sp c r else match sp c r with
    | [] => [[a]]
    | p :: ps => (a :: p) :: ps
theorem sp_ne (c : Nat) : ∀ l, ∃ p ps, sp c l = p :: ps
  | [] => ⟨_, _, rfl⟩
  | a :: r => by
    obtain ⟨p, ps, e⟩ := sp_ne c r
    rw [sp]
    split
    · exact ⟨_, _, rfl⟩
    · rw [e]; exact ⟨_, _, rfl⟩
theorem sp_plain {c : Nat} : ∀ {p : List Nat}, c ∉ p → sp c p = [p]
  | [], _ => rfl
  | a :: p, h => by
    rw [sp, if_neg (fun e => h (by rw [e]; exact List.mem_cons_self)), sp_plain (fun z => h (List.mem_cons_of_mem _ z))]
theorem sp_app {c : Nat} {l : List Nat} : ∀ {p : List Nat}, c ∉ p → sp c (p ++ c :: l) = p :: sp c l
  | [], _ => by rw [List.nil_append, sp, if_pos rfl]
  | a :: p, h => by
    rw [List.cons_append, sp, if_neg (fun e => h (by rw [e]; exact List.mem_cons_self)), sp_app (fun z => h (List.mem_cons_of_mem _ z))]
theorem sp_jn {c : Nat} : ∀ {ps : List (List Nat)}, ps ≠ [] → (∀ p ∈ ps, c ∉ p) → sp c (jn c ps) = ps
  | [], h, _ => absurd rfl h
  | [p], _, h => sp_plain (h p (by simp))
  | p :: q :: r, _, h => by
    rw [jn, sp_app (h p (by simp)), sp_jn (by simp) fun x hx => h x (List.mem_cons_of_mem _ hx)]
def toS (l : List Nat) : Str := ⟨l.toArray⟩
theorem cs_toS (l : List Nat) : cs (toS l) = l := by unfold cs toS; simp
theorem toS_cs (x : Str) : toS (cs x) = x := cs_inj (cs_toS _)
theorem cs_join {sep : Str} {c : Nat} (hs : cs sep = [c]) : ∀ xs : List Str, cs (Str.join sep xs) = jn c (xs.map cs)
  | [] => rfl
  | [x] => rfl
  | x :: y :: r => by
    show cs (x ++ sep ++ Str.join sep (y :: r)) = _
    rw [cs_app, cs_app, cs_join hs (y :: r), hs, List.append_assoc]; rfl
def pos (c : Nat) : Nat → List Nat → List Nat
  | _, [] => []
  | i, b :: r => if b = c then i :: pos c (i + 1) r else pos c (i + 1) r
open PySem.Builtin.Str PySem.StrLaws in
theorem occ_pos (x : Str) (c : Nat) (limit : Nat) : ∀ (n a : Nat) (st : Array Nat × Nat), n = x.length - a → a + n ≤ limit → st.2 ≤ a → st.1.size ≤ a →
    (forIn (List.range' a (n + 1)) st (occBody x ⟨#[c]⟩ x.length limit)).run.fst.toList = st.1.toList ++ pos c a ((cs x).drop a) := by
  intro n
  induction n with
  | zero =>
    intro a st hn hl h1 h2
    have hd : (cs x).drop a = [] := List.drop_of_length_le (by rw [cs_len]; omega)
    rw [hd, pos, List.append_nil, List.range'_succ, List.forIn_cons]
    unfold occBody
    rw [if_neg (by intro ⟨⟨_, h⟩, _⟩; have : a + 1 ≤ x.length := h; omega)]
    rfl
  | succ n ih =>
    intro a st hn hl h1 h2
    have ha : a < (cs x).length := by rw [cs_len]; omega
    have hd : (cs x).drop a = (cs x)[a] :: (cs x).drop (a + 1) := List.drop_eq_getElem_cons ha
    have hs : subAt x ⟨#[c]⟩ a = decide ((cs x)[a] = c) := by
      rw [subAt_eq]
      show (((cs x).drop a).take 1 == [c]) = _
      rw [hd, List.take_succ_cons, List.take_zero, Bool.eq_iff_iff, beq_iff_eq, decide_eq_true_eq]
      exact ⟨fun h => (List.cons.inj h).1, fun h => by rw [h]⟩
    rw [List.range'_succ, List.forIn_cons]
    unfold occBody
    rw [hd, pos]
    by_cases hc : (cs x)[a] = c
    · rw [if_pos ⟨⟨⟨by omega, h1⟩, by show a + 1 ≤ x.length; rw [cs_len] at ha; omega⟩, by rw [hs]; simp [hc]⟩, if_pos hc]
      have := ih (a + 1) (st.1.push a, a + 1) (by omega) (by omega) (Nat.le_refl _) (by simp; omega)
      refine Eq.trans this ?_
      simp
    · rw [if_neg (by rw [hs]; simp [hc]), if_neg hc]
      exact ih (a + 1) st (by omega) (by omega) (by omega) (by omega)
open PySem.Builtin.Str PySem.StrLaws in
theorem occ_at1 (x : Str) (c : Nat) : occurrences x ⟨#[c]⟩ 0 x.length (x.length + 1) = pos c 0 (cs x) := by
  rw [occ_eq]
  have := occ_pos x c (x.length + 1) x.length 0 (#[], 0) (by omega) (by omega) (Nat.le_refl _) (by simp)
  simpa using this
open PySem.Builtin.Str PySem.StrLaws in
theorem parts_sp (x : Str) (c : Nat) : ∀ (l : List Nat) (a i : Nat), a ≤ i → (cs x).drop i = l → partsFrom x 1 a (pos c i l) = (match sp c l with | [] => [] | p :: ps => (((cs x).drop a).take (i - a) ++ p) :: ps).map toS := by
  intro l
  induction l with
  | nil =>
    intro a i h e
    have hi : (cs x).length ≤ i := by
      by_cases hh : (cs x).length ≤ i
      · exact hh
      · have := congrArg List.length e; rw [List.length_drop] at this; simp at this; omega
    show [strSub x a x.length] = [toS (((cs x).drop a).take (i - a) ++ [])]
    congr 1
    apply cs_inj
    rw [cs_toS, cs_sub, List.append_nil, List.take_of_length_le (by rw [List.length_drop, cs_len]; exact Nat.le_refl _), List.take_of_length_le (by rw [List.length_drop]; omega)]
  | cons b r ih =>
    intro a i h e
    have hi : i < (cs x).length := by
      by_cases hh : (cs x).length ≤ i
      · rw [List.drop_of_length_le hh] at e; cases e
      · omega
    have e2 : (cs x).drop (i + 1) = r := by rw [← List.drop_drop, e]; rfl
    have hb : (cs x)[i] = b := by rw [List.drop_eq_getElem_cons hi] at e; exact (List.cons.inj e).1
    rw [pos, sp]
    by_cases hc : b = c
    · rw [if_pos hc, if_pos hc, partsFrom, ih (i + 1) (i + 1) (Nat.le_refl _) e2]
      obtain ⟨p, ps, eq⟩ := sp_ne c r
      rw [eq]
      show strSub x a i :: _ = toS (((cs x).drop a).take (i - a) ++ []) :: List.map toS (p :: ps)
      congr 1
      · apply cs_inj; rw [cs_toS, cs_sub, List.append_nil]
      · rw [Nat.sub_self, List.take_zero]; rfl
    · rw [if_neg hc, if_neg hc, ih a (i + 1) (by omega) e2]
      obtain ⟨p, ps, eq⟩ := sp_ne c r
      rw [eq]
      show toS (((cs x).drop a).take (i + 1 - a) ++ p) :: _ = toS (((cs x).drop a).take (i - a) ++ (b :: p)) :: _
      congr 2
      have h3 : ((cs x).drop a).take (i + 1 - a) = ((cs x).drop a).take (i - a) ++ [b] := by
        rw [show i + 1 - a = (i - a) + 1 by omega, List.take_add_one, List.getElem?_drop, show a + (i - a) = i by omega, List.getElem?_eq_getElem hi, hb]; rfl
      rw [h3, List.append_assoc]; rfl
open PySem.Builtin.Str PySem.StrLaws in
theorem parts_one (x : Str) (c : Nat) : partsBetween x (occurrences x ⟨#[c]⟩ 0 x.length (x.length + 1)) 1 = (sp c (cs x)).map toS := by
  rw [partsBetween_eq, occ_at1, parts_sp x c (cs x) 0 0 (Nat.le_refl _) rfl]
  obtain ⟨p, ps, e⟩ := sp_ne c (cs x)
  rw [e]; rfl
end Rg
set_option Elab.async false
set_option linter.all false
set_option maxRecDepth 100000
set_option maxHeartbeats 4000000
namespace L3
open PySem PySem.Spec PyProof.Rows L2
section
variable {X : Cx}
def Joins (sep : Str) (xs : List Str) : Prop := ∃ B : Nat, (∀ y ∈ xs, y.length ≤ B) ∧ xs.length * B + xs.length * sep.length ≤ 16777216
def rJoin : W → List W → Mm → K3 → Prop
  | .str sep, [.rl ws], M, R => ∃ xs : List Str, ws = xs.map W.str ∧ Joins sep xs ∧ R (.str (Str.join sep xs)) M
  | .str sep, [.ref a], M, R => ∃ xs : List Str, M a = some (.lst (xs.map W.str)) ∧ Joins sep xs ∧ R (.str (Str.join sep xs)) M
  | _, _, _, _ => False
theorem strs_up {K : PySem.W.Frag} {H : Hp} {M : Mm} : ∀ {xs : List Str} {vs : List V} {us : List Value}, AVs K H M vs (xs.map W.str) → Vals vs us → ∃ l : List (Str × Tok), strValues l = us ∧ l.map (·.1) = xs
  | [], _, _, .nil, .nil => ⟨[], rfl, rfl⟩
  | x :: xs, _, _, .cons av avs, .cons rv rvs => by
    obtain ⟨l, e1, e2⟩ := strs_up avs rvs
    cases av
    obtain ⟨t, rfl⟩ := rv
    exact ⟨(x, t) :: l, by rw [← e1]; rfl, by rw [← e2]; rfl⟩
theorem join_call {pins : List (Addr × Obj)} {σ : L2.St} {H : Hp} {M : Mm} {s : Shared} {Q : VK} {R : K3} {sep : Str} {ts : List Str} {vs : List V} {l : Addr} {t : Tok} (I : L2.Inv X pins σ H s) (am : AM X.K H M) (k : Up X.K H M R Q) (f : H l = some (.lst vs)) (q : AVs X.K H M vs (ts.map W.str)) (hj : Joins sep ts) (r : R (.str (Str.join sep ts)) M) :
    wpAny (model X.prog X.w) X.A (call (.builtin "str.join") [.str sep t, .ref l]) (EP X pins σ Q) X.xe s := by
  obtain ⟨B, hB, hl⟩ := hj
  obtain ⟨its, rv, pl, _⟩ := I.list (SqL.of f)
  obtain ⟨l, e1, e2⟩ := strs_up q rv
  refine call_meets F.slot_str_join (typeIs_str _ _ _) F.entry_str_join (F.args_str_join_2 _ _) (meets_str_join_list sep t _ l (by rw [e2]; exact StrLaws.joinFits hB hl)) ⟨by rw [e1]; exact pl.isList, ?_⟩
  have fin : ∀ (y : Str) (tk tk' : Nat), y = Str.join sep ts → EP X pins σ Q (.str y tk) { s with toks := tk' } := fun y tk tk' e => by
    subst e
    exact ⟨.str _, H, I.tok _, ⟨_, rfl⟩, k.at am (.str _) r⟩
  have hz : (Builtin.Str.glued sep ts).length ≤ sizeLine := by
    have h1 := StrLaws.sumLen_le ts hB
    rw [size_glued, sizeLine_eq]
    have h2 : (ts.length - 1) * sep.length ≤ ts.length * sep.length := Nat.mul_le_mul_right _ (Nat.sub_le _ _)
    omega
  have ge := StrLaws.glued_eq_join sep ts
  match l, e2 with
  | [], e2 => subst e2; exact ⟨hz, fin _ _ _ ge⟩
  | [p], e2 => subst e2; exact fin _ _ s.toks rfl
  | p :: p2 :: r2, e2 =>
    rw [← e2] at hz ge
    exact ⟨hz, fin _ _ _ (by rw [← e2]; exact ge)⟩
theorem m_join : MtR X "str.join" (upM X.K rJoin) := by
  rintro pins s σ H x xs v us Q I rx rs ⟨wx, ws, M, R, am, ax, axs, h, k⟩
  match wx, ws, h with
  | .str sep, [.rl ws], h =>
    obtain ⟨u, rfl, au⟩ := axs.one
    obtain ⟨ts, rfl, hj, r⟩ := h
    cases ax
    obtain ⟨t, rfl⟩ := rx
    obtain ⟨u', rfl, ru⟩ := rs.one
    cases au with
    | rl f n q => cases ru; exact join_call I am k f q hj r
  | .str sep, [.ref a], h =>
    obtain ⟨u, rfl, au⟩ := axs.one
    obtain ⟨ts, e, hj, r⟩ := h
    cases ax
    obtain ⟨t, rfl⟩ := rx
    obtain ⟨u', rfl, ru⟩ := rs.one
    cases au
    cases ru
    obtain ⟨vs, f, q⟩ := am.lst e
    exact join_call I am k f q hj r
def Cuts (x : Str) (c : Nat) : Prop := 0 < x.length ∧ x.length ≤ 1000000 ∧ (∀ a ∈ Rg.cs x, a < 256) ∧ c < 256
def rSplit : W → List W → Mm → K3 → Prop
  | .str x, [.str y], M, R => ∃ c : Nat, y = ⟨#[c]⟩ ∧ Cuts x c ∧ New ((Rg.sp c (Rg.cs x)).map fun p => W.str (Rg.toS p)) M R
  | _, _, _, _ => False
theorem sp_len (c : Nat) : ∀ l : List Nat, (Rg.sp c l).length ≤ l.length + 1
  | [] => Nat.le_refl _
  | a :: r => by
    have ih := sp_len c r
    rw [Rg.sp]
    split
    · simp; omega
    · obtain ⟨p, ps, e⟩ := Rg.sp_ne c r
      rw [e] at ih ⊢
      simp at ih ⊢; omega
theorem vals_from : ∀ (tk : Nat) (ps : List Str), Vals (ps.map V.str) (strsFrom tk ps)
  | _, [] => .nil
  | tk, p :: ps => .cons ⟨tk, rfl⟩ (vals_from (tk + 1) ps)
theorem kind_one {x : Str} (h : ∀ a ∈ Rg.cs x, a < 256) : Builtin.Str.strKind x = 1 := by
  unfold Builtin.Str.strKind
  rw [if_pos]
  rw [Array.all_eq_true']
  intro a ha
  simpa using h a (by unfold Rg.cs; simpa using ha)
theorem m_split : MtR X "str.split" (upM X.K rSplit) := by
  rintro pins s σ H x xs v us Q I rx rs ⟨wx, ws, M, R, am, ax, axs, h, k⟩
  match wx, ws, h with
  | .str x, [.str y], h =>
    obtain ⟨u, rfl, au⟩ := axs.one
    obtain ⟨c, rfl, ⟨h0, h1, h2, h3⟩, r⟩ := h
    cases ax; cases au
    obtain ⟨t, rfl⟩ := rx
    obtain ⟨u', rfl, ru⟩ := rs.one
    obtain ⟨t', rfl⟩ := ru
    have k1 : (decide (x.length < (⟨#[c]⟩ : Str).length) || decide (Builtin.Str.strKind x < Builtin.Str.strKind ⟨#[c]⟩)) = false := by
      rw [kind_one h2, kind_one (x := ⟨#[c]⟩) (by unfold Rg.cs; simp; exact h3)]
      have : (⟨#[c]⟩ : Str).length = 1 := rfl
      rw [this]
      simp
      omega
    have hp := Rg.parts_one x c
    have hlen : ((Rg.sp c (Rg.cs x)).map Rg.toS).length ≤ sizeLine := by
      rw [List.length_map, sizeLine_eq]
      have := sp_len c (Rg.cs x)
      rw [Rg.cs_len] at this
      omega
    have hfr := I.hok.fresh (Nat.le_refl s.heap.objs.size)
    have fin : ∀ (its : List Value) (tk : Nat), Vals (((Rg.sp c (Rg.cs x)).map Rg.toS).map V.str) its → EP X pins σ Q (.ref s.heap.objs.size) { s with toks := tk, heap := s.heap.push { cls := .type "list", data := .seq its.toArray } } := fun its tk hv =>
      ⟨.ref s.heap.objs.size, _, I.lnew (t' := tk) hv (by rw [List.length_map]; exact hlen), rfl, laidL am k hfr (avs_strs _) (by
        have r' := r
        rw [show (Rg.sp c (Rg.cs x)).map (fun p => W.str (Rg.toS p)) = ((Rg.sp c (Rg.cs x)).map Rg.toS).map W.str by rw [List.map_map]; rfl] at r'
        exact r')⟩
    cases hf : (Builtin.Str.occurrences x ⟨#[c]⟩ 0 x.length (x.length + 1)).isEmpty with
    | false =>
      refine call_meets F.slot_str_split (typeIs_str _ _ _) F.entry_str_split (F.args_str_split_2 _ _) (meets_str_split_sep x ⟨#[c]⟩ t t' k1 rfl hf (by rw [sizeLine_eq]; omega) (by show (Builtin.Str.partsBetween x _ 1).length ≤ _; rw [hp]; exact hlen)) ?_
      show EP X pins σ Q _ _
      have hv := vals_from s.toks ((Rg.sp c (Rg.cs x)).map Rg.toS)
      have := fin _ (s.toks + ((Rg.sp c (Rg.cs x)).map Rg.toS).length) hv
      show EP X pins σ Q (.ref s.heap.objs.size) { s with toks := s.toks + (Builtin.Str.partsBetween x (Builtin.Str.occurrences x ⟨#[c]⟩ 0 x.length (x.length + 1)) 1).length, heap := s.heap.push { cls := .type "list", data := .seq (strsFrom s.toks (Builtin.Str.partsBetween x (Builtin.Str.occurrences x ⟨#[c]⟩ 0 x.length (x.length + 1)) 1)).toArray } }
      rw [hp]
      exact this
    | true =>
      obtain ⟨raising, htree⟩ := split_sep_tree x ⟨#[c]⟩ t t'
      refine call_meets F.slot_str_split (typeIs_str _ _ _) F.entry_str_split (F.args_str_split_2 _ _) (S := fun _ R s => R (.ok (.ret (.ref s.heap.objs.size))) { s with heap := s.heap.push { cls := .type "list", data := .seq [Value.str x t].toArray } }) (.of_wp fun prog w A R s h => ?_) ?_
      · rw [htree, k1, hf]
        show wpAny _ _ (do rule "str.split.same-object"; ret (← newList [.str x t])) _ _ s
        exact wpAny_bind (wpAny_rule (wpAny_bind (wpAny_newList (wpAny_pure ⟨_, rfl, h⟩) (by show 1 ≤ sizeLine; decide))))
      · have hpos : Rg.sp c (Rg.cs x) = [Rg.cs x] := by
          have h5 : Builtin.Str.occurrences x ⟨#[c]⟩ 0 x.length (x.length + 1) = [] := List.isEmpty_iff.mp hf
          rw [h5] at hp
          have h6 : [Builtin.Str.strSub x 0 x.length] = (Rg.sp c (Rg.cs x)).map Rg.toS := hp
          obtain ⟨p, ps, e⟩ := Rg.sp_ne c (Rg.cs x)
          rw [e] at h6 ⊢
          simp at h6
          obtain ⟨h7, rfl⟩ := h6
          congr 1
          have := congrArg Rg.cs h7
          rw [Rg.cs_toS, Rg.cs_sub, Nat.sub_zero, List.drop_zero, List.take_of_length_le (by rw [Rg.cs_len]; exact Nat.le_refl _)] at this
          exact this.symm
        have := fin [.str x t] s.toks (by rw [hpos, List.map_cons, List.map_nil, Rg.toS_cs]; exact .cons ⟨t, rfl⟩ .nil)
        exact this
def rIntT : List W → Mm → K3 → Prop
  | [.str x], M, R => ∃ n : Int, x.length ≤ 640 ∧ PySem.intText? x = some n ∧ R (.int n) M
  | _, _, _ => False
theorem c_intT : CallR X (.type "int") (upC X.K rIntT) := by
  rintro pins s σ H xs us Q I rs ⟨ws, M, R, am, axs, h, k⟩
  match ws, h with
  | [.str x], h =>
    obtain ⟨v, rfl, av⟩ := axs.one
    obtain ⟨n, h1, h2, r⟩ := h
    obtain ⟨u, rfl, ru⟩ := vals1 rs
    cases av
    obtain ⟨t, rfl⟩ := ru
    exact call_int_1 (PySem.W.KIN.gives_text h1 h2).meets (show (Made.int n).post _ s from ⟨rfl, .int n, H, I.tok _, ⟨_, rfl⟩, k.at am (.int n) r⟩)
end
end L3
set_option Elab.async false
set_option linter.all false
set_option maxRecDepth 100000
set_option maxHeartbeats 4000000
namespace Rg
open PySem PySem.Spec PyProof.Rows L2 L3
theorem dig_nat : ∀ d, d < 10 → (Nat.digitChar d).toNat = 48 + d := by decide
theorem digits_step {m : Nat} (h : 10 ≤ m) : Nat.toDigits 10 m = Nat.toDigits 10 (m / 10) ++ [Nat.digitChar (m % 10)] := Nat.toDigits_of_base_le (by decide) h
theorem digits_head : ∀ (m : Nat), 0 < m → ∃ d r, Nat.toDigits 10 m = Nat.digitChar d :: r ∧ 1 ≤ d ∧ d ≤ 9 := by
  intro m
  induction m using Nat.strongRecOn with
  | ind m ih =>
    intro h0
    by_cases h : m < 10
    · exact ⟨m, [], Nat.toDigits_of_lt_base h, h0, by omega⟩
    · obtain ⟨d, r, e, h1, h2⟩ := ih (m / 10) (by omega) (by omega)
      exact ⟨d, r ++ [Nat.digitChar (m % 10)], by rw [digits_step (by omega), e]; rfl, h1, h2⟩
theorem digits_val : ∀ m : Nat, PySem.NumText.digitsVal ((Nat.toDigits 10 m).map Char.toNat) = m := by
  intro m
  induction m using Nat.strongRecOn with
  | ind m ih =>
    by_cases h : m < 10
    · rw [Nat.toDigits_of_lt_base h]
      show 0 * 10 + ((Nat.digitChar m).toNat - 48) = m
      rw [dig_nat m h]; omega
    · rw [digits_step (by omega), List.map_append, List.map_cons, List.map_nil, PySem.NumText.digitsVal_snoc, ih (m / 10) (by omega), dig_nat _ (Nat.mod_lt _ (by decide))]
      omega
def numT (m : Nat) : Str := Str.ofString (toString ((m : Nat) : Int))
theorem cs_num (m : Nat) : cs (numT m) = (Nat.toDigits 10 m).map Char.toNat := PySem.W.KIN.signs_num m
theorem num_len {m : Nat} (h : m < 10 ^ 60) : (numT m).length ≤ 60 := by
  rw [← cs_len, cs_num, List.length_map]
  exact (Nat.length_toDigits_le_iff (by decide) (by decide)).mpr h
theorem fig_range {c : Nat} (h : c ∈ cs FIGS) : 48 ≤ c ∧ c ≤ 57 := by
  have key : ∀ c ∈ cs FIGS, 48 ≤ c ∧ c ≤ 57 := by decide +kernel
  exact key c h
theorem num_int {m : Nat} (h : m < 10 ^ 60) : PySem.intText? (numT m) = some (m : Int) := by
  obtain ⟨h1, h2⟩ := figs_of (m := m)
  have := PySem.intText_digits (x := numT m) (fun c hc => fig_range (h1 c hc)) h2 (by have := num_len h; omega)
  rw [this]
  congr 2
  have e := digits_val m
  rw [← cs_num] at e
  exact e
theorem num_first {m : Nat} (h : 0 < m) : ∃ c r, cs (numT m) = c :: r ∧ c ≠ 48 := by
  obtain ⟨d, r, e, h1, h2⟩ := digits_head m h
  refine ⟨48 + d, r.map Char.toNat, ?_, by omega⟩
  rw [cs_num, e, List.map_cons, dig_nat d (by omega)]
theorem cs_zero : cs ("0" : Str) = [48] := by decide +kernel
theorem num_ne {m : Nat} (h : 0 < m) : numT m ≠ "0" := by
  intro e
  obtain ⟨c, r, e1, e2⟩ := num_first h
  rw [e, cs_zero] at e1
  cases e1; exact e2 rfl
def wwB (z : Str) : Bool := decide (z.length ≤ 8) && madeB z SMALL
def wnB (z : Str) : Bool := isNameB z && (decide ((Txt.partition z "_").1.length ≤ 8) && decide ((Txt.partition z "_").2.2.length ≤ 4))
structure TW (z : Str) : Prop where
  wd : WordT z
  len : z.length ≤ 8
structure TN (z : Str) : Prop where
  hd : HeadT z
  wn : wnB z = true
  ch : ∀ c ∈ cs z, c ∈ cs GREAT ∨ c = 95 ∨ c ∈ cs FIGS
theorem TW.ww {z : Str} (h : TW z) : wwB z = true := by
  unfold wwB
  rw [madeB_eq, decide_eq_true h.len, decide_eq_false h.wd.ne]
  simp
  exact h.wd.sm
theorem TW.ch {z : Str} (h : TW z) : ∀ c ∈ cs z, 97 ≤ c ∧ c ≤ 122 := fun c hc => by
  have key : ∀ c ∈ cs SMALL, 97 ≤ c ∧ c ≤ 122 := by decide +kernel
  exact key c (h.wd.sm c hc)
theorem TN.rng {z : Str} (h : TN z) : ∀ c ∈ cs z, 48 ≤ c ∧ c ≠ 58 ∧ c < 128 := fun c hc => by
  have key : ∀ c ∈ cs GREAT, 65 ≤ c ∧ c ≤ 90 := by decide +kernel
  rcases h.ch c hc with h | h | h
  · have := key c h; omega
  · omega
  · have := fig_range h; omega
theorem TN.ne {z : Str} (h : TN z) : cs z ≠ [] := by
  obtain ⟨c, r, e, _⟩ := h.hd.hd
  rw [e]; simp
def TP (z : Str) : Prop := TW z ∨ TN z
theorem TP.rng {z : Str} (h : TP z) : ∀ c ∈ cs z, 48 ≤ c ∧ c ≠ 58 ∧ c < 128 := fun c hc => by
  rcases h with h | h
  · have := h.ch c hc; omega
  · exact h.rng c hc
theorem TP.ne {z : Str} (h : TP z) : cs z ≠ [] := h.elim (fun h => h.wd.ne) TN.ne
theorem TP.len {z : Str} (h : TP z) : z.length ≤ 20 := h.elim (fun h => h.wd.len) fun h => h.hd.len
theorem cs_colon : cs (":" : Str) = [58] := by decide +kernel
theorem cs_eq : cs ("=" : Str) = [61] := by decide +kernel
theorem cs_blank : cs (" " : Str) = [32] := by decide +kernel
theorem cs_row : cs ("\n" : Str) = [10] := by decide +kernel
theorem TP.ncol {z : Str} (h : TP z) : z ≠ ":" := by
  intro e
  exact (h.rng 58 (by rw [e, cs_colon]; simp)).2.1 rfl
structure TRule (r : Rule) : Prop where
  nm : TN r.name
  pt : ∀ p ∈ r.parts, TP p
  few : r.parts.length ≤ 4
  lo : 0 ≤ r.cost
  hi : r.cost < 10 ^ 60
def costP (r : Rule) : List Str := if r.cost = 0 then [] else [":", numT r.cost.toNat]
def piecesOf (r : Rule) : List Str := [r.name, "="] ++ r.parts ++ costP r
def rowOf (r : Rule) : Str := Str.join " " (piecesOf r)
def shownT (rs : List Rule) : Str := Str.join "\n" (rs.map rowOf)
theorem TRule.nat {r : Rule} (h : TRule r) : r.cost.toNat < 10 ^ 60 := by
  have := h.hi; have := h.lo; omega
theorem num_rng {m : Nat} : ∀ c ∈ cs (numT m), 48 ≤ c ∧ c ≤ 57 := fun c hc => fig_range ((figs_of (m := m)).1 c hc)
theorem pieces_ok {r : Rule} (h : TRule r) : ∀ p ∈ piecesOf r, (∀ c ∈ cs p, 33 ≤ c ∧ c < 128) ∧ p.length ≤ 60 ∧ cs p ≠ [] := by
  intro p hp
  unfold piecesOf at hp
  rcases List.mem_append.mp hp with hp | hp
  · rcases List.mem_append.mp hp with hp | hp
    · simp at hp
      rcases hp with rfl | rfl
      · exact ⟨fun c hc => by have := h.nm.rng c hc; omega, by have := h.nm.hd.len; omega, h.nm.ne⟩
      · rw [cs_eq]; exact ⟨by simp, by decide +kernel, by simp⟩
    · exact ⟨fun c hc => by have := (h.pt p hp).rng c hc; omega, by have := (h.pt p hp).len; omega, (h.pt p hp).ne⟩
  · unfold costP at hp
    split at hp
    · cases hp
    · simp at hp
      rcases hp with rfl | rfl
      · rw [cs_colon]; exact ⟨by simp, by decide +kernel, by simp⟩
      · exact ⟨fun c hc => by have := num_rng c hc; omega, num_len h.nat, (figs_of (m := r.cost.toNat)).2⟩
theorem pieces_len {r : Rule} (h : TRule r) : (piecesOf r).length ≤ 8 := by
  unfold piecesOf costP
  have := h.few
  split <;> simp <;> omega
end Rg
set_option Elab.async false
set_option linter.all false
set_option maxRecDepth 100000
set_option maxHeartbeats 4000000
namespace L2
open PySem PySem.Spec PyProof.Rows
section
variable {X : Cx}
def Itrl (K : PySem.W.Frag) (a : Addr) (xs : List V) : It :=
  ⟨fun i H => SqL K H a xs ∧ i < xs.length, fun i H x H' => H' = H ∧ xs.reverse[i]? = some x, fun i H => SqL K H a xs ∧ i = xs.length⟩
theorem turn_rl {P : Program} {w : World} {K : PySem.W.Frag} {tg : Expr} (a it : Addr) (xs : List V) : Turn P w K tg (Itrl K a xs) [it] it (fun i h => h.IsRevIter it a ((xs.length : Int) - 1 - (i : Int))) where
  mem := by simp
  obj := fun i h st b hb => by
    cases (by simpa using hb : b = it)
    obtain ⟨o, e, _, d⟩ := st
    exact ⟨o, e, fun v z => by rw [d] at z; cases z⟩
  keep := fun i h h' st k => st.at fun o e => k it (by simp) o e
  item := by
    intro X hP hw hK hc i pins s σ H E I hf st hg
    subst hP hw hK
    obtain ⟨hq, hi⟩ := hg
    obtain ⟨its, rv, p, hz⟩ := I.list hq
    have hl := rv.length
    have hx : xs.reverse[i]? = some xs[xs.length - 1 - i] := by rw [List.getElem?_reverse hi]; exact List.getElem?_eq_getElem (by lia)
    obtain ⟨u, hu, ru⟩ := rv.get (List.getElem?_eq_getElem (l := xs) (i := xs.length - 1 - i) (by lia))
    obtain ⟨f0, f1, f2, f3, f4, f5⟩ := hf it (by simp)
    rw [show (xs.length : Int) - 1 - (i : Int) = ((xs.length - 1 - i : Nat) : Int) by lia] at st
    refine wpAny_pyNext_rev_item st p.isList (x := u) (by simpa using hu) fun h' st' sb => ?_
    have I1 : Inv X pins σ H { s with heap := h' } := I.turned (t' := s.toks) (fun b o hb e => (sb.2 b hb).trans e) f0 f1 f3 f4 f5
    obtain ⟨o', e, c, d⟩ := id st'
    refine ⟨u, rfl, go_of (s := { s with heap := h' }) e c d (by decide) ⟨_, H, I1, ru, ⟨rfl, hx⟩, ?_, fun b hb => (hf b hb).1⟩⟩
    rw [show (xs.length : Int) - 1 - ((i + 1 : Nat) : Int) = ((xs.length - 1 - i : Nat) : Int) - 1 by lia]
    exact st'
  done := by
    intro X hP hw hK hc i pins s σ H E I hf st hg
    subst hP hw hK
    obtain ⟨hq, rfl⟩ := hg
    rw [show (xs.length : Int) - 1 - (xs.length : Int) = -1 by lia] at st
    refine wpAny_pyNext_rev_end (I.ok.hd hc) st fun h' hk => ⟨rfl, ?_⟩
    exact I.turnedT (tk := s.toks) hf fun q o hq eq => hk q o (fun z => hq (by simp [z])) eq
  self := fun _ _ _ _ _ st h => wpAny_pyIter_revIter st h
theorem pi_rl {a : Expr} {ta : TA} {tg : Expr} {p pos : Pos} (hg : Gl X "reversed") (hm : X.mg "reversed" = none) (ha : PA X [a] ta) (hs : starEach [a] X.env = [(false, eval a X.env)] := by rfl) :
    PI X tg (.Call (.Name "reversed" p) [a] [] pos) (fun σ H R => ta σ H fun vs H1 => ∃ a xs, vs = [.ref a] ∧ SqL X.K H1 a xs ∧ R (Itrl X.K a xs) H1) := by
  intro pins s σ H R I h
  refine Call_ (ld_blt I hg hm bt_reversed (PyProof.Rows.callWith_type1 (thn (ha pos pins s σ H _ I h) fun us s1 ⟨vs, H1, I1, r1, q1⟩ => ?_) hs rfl))
  obtain ⟨a, xs, rfl, hqa, q⟩ := q1
  obtain ⟨u, rfl, ru⟩ := vals1 r1
  cases ru
  obtain ⟨its, rv1, pl, hz⟩ := I1.list hqa
  have hl := rv1.length
  refine call_reversed_list pl.isList ?_
  have st : (s1.heap.push (revObj a ((its.toArray.size : Int) - 1))).IsRevIter s1.heap.objs.size a ((its.toArray.size : Int) - 1) := ⟨_, Heap.get?_push_size _ rfl, rfl, rfl⟩
  refine wpAny_pyIter_revIter st ⟨s1.heap.objs.size, [s1.heap.objs.size], _, _, H1, rfl, I1.kept (t' := s1.toks) (fun b o e => Heap.get?_push_of_some _ e), turn_rl a _ xs, ?_, fun b hb => ?_, q⟩
  · rw [List.size_toArray, ← hl] at st
    show Heap.IsRevIter _ _ _ ((xs.length : Int) - 1 - ((0 : Nat) : Int))
    rw [show (xs.length : Int) - 1 - ((0 : Nat) : Int) = (xs.length : Int) - 1 by lia, show (its.toArray.size : Int) = (xs.length : Int) by rw [List.size_toArray, hl]]
    exact st
  · cases (by simpa using hb : b = s1.heap.objs.size)
    exact I1.fpOk (Nat.le_refl _) (I1.hok.fresh (Nat.le_refl _))
end
end L2
namespace L3
open PySem PySem.Spec PyProof.Rows L2
section
variable {X : Cx} {a : Expr}
def iRevL (ta : TA3) : TI3 := fun τ M R => ta τ M fun ws M1 => ∃ zs, ws = [.rl zs] ∧ R zs.reverse (fun _ => True) M1
theorem i_revL {tA : TA3} {tg : Expr} {p pos : Pos} (hg : Gl X "reversed") (hm : X.mg "reversed" = none) (ha : A3 X [a] tA) (hs : starEach [a] X.env = [(false, eval a X.env)] := by rfl) : PI X tg (.Call (.Name "reversed" p) [a] [] pos) (upI X.K (iRevL tA)) :=
  (pi_rl hg hm ha hs).weak fun σ H R' ⟨τ, M, R, as, am, h, k⟩ => ⟨τ, M, _, as, am, h, fun vs H1 ws M1 k1 am1 ax ⟨zs, ew, r⟩ => by
    subst ew
    obtain ⟨v, rfl, av⟩ := ax.one
    obtain ⟨b, xs, eb, fb, nb, qb⟩ : ∃ b xs, v = .ref b ∧ H1 b = some (.lst xs) ∧ M1 b = none ∧ AVs X.K H1 M1 xs zs := by
      cases av with
      | rl f n q => exact ⟨_, _, rfl, f, n, q⟩
    refine ⟨b, xs, by rw [eb], SqL.of fb, k _ _ _ _ _ k1 am1 ?_ r⟩
    have st : ∀ H M, Kp H1 M1 H M → SqL X.K H b xs := fun H M k => SqL.of (k.fr _ _ nb fb).1
    refine ⟨fun i H M k am kp hi => ⟨st H M k, by rw [List.length_reverse] at hi; rw [qb.length]; exact hi⟩, fun H M k am kp => ⟨st H M k, by rw [List.length_reverse, qb.length]⟩, fun i H M x H' k am kp hi y => ?_⟩
    obtain ⟨rfl, y⟩ := y
    obtain ⟨w, hw, av⟩ := ((qb.kp am1 k).reverse).getV y
    exact ⟨w, hw, Kp.refl am, am, av⟩⟩
end
end L3
set_option Elab.async false
set_option linter.all false
set_option maxRecDepth 100000
set_option maxHeartbeats 4000000
namespace L2
open PySem PySem.Spec PyProof.Rows
section
variable {X : Cx}
theorem ext_tupO (l : Addr) (ys : Array Value) (n : Nat) (b : Addr) (zs : Array Value) (n2 : Nat) (d2 : Option Addr) (sl2 : Array (Option Value)) (h0 : ¬(!ys.isEmpty && Builtin.List.listTooLong (ys.size + zs.size)) = true) (h1 : ys.size ≤ sizeLine) (h2 : ys.size + zs.size ≤ sizeLine + 1) :
    Meets (Builtin.«list.extend» ⟨[.ref l, .ref b], []⟩) (fun _ R s => s.heap.get? l = some { cls := .type "list", dict := none, data := .seq ys n, slots := #[] } ∧
      s.heap.get? b = some { cls := .type "tuple", dict := d2, data := .seq zs n2, slots := sl2 } ∧ R (.ok (.ret Value.none)) { s with heap := s.heap.update l (Obj.mapSeq fun x => x ++ zs), toks := s.toks }) := .of_wp fun _ _ _ R s h => by
    obtain ⟨hp, g, d, tk, os⟩ := s
    obtain ⟨hl, hb, h⟩ := h
    have f3 := sub_list_list; have f5 := sub_list_tuple; have f4 := sub_tuple_list; have f2 := sub_tuple_tuple
    have hz' : (ys ++ zs).size ≤ sizeLine + 1 := by rw [Array.size_append]; exact h2
    wp_walk using (wpAny_updateSeq hl rfl (hz := h1) (_hz' := hz')), wpAny_loadPart' hl, wpAny_loadPart' hb
    exact ⟨_, rfl, h⟩
theorem mt_extT : MtR X "list.extend" (fun x vs H Q => ∃ l b xs zs, x = .ref l ∧ vs = [.ref b] ∧ H l = some (.lst xs) ∧ SqT X.K H b zs ∧ xs.length + zs.length ≤ sizeLine ∧ Q .non (upd H l (.lst (xs ++ zs)))) := by
  intro pins s σ H x vs v us Q I rx rv h
  obtain ⟨l, b, xs, zs, rfl, rfl, hH, hB, hz, q⟩ := h
  cases rx
  obtain ⟨u, rfl, ru⟩ := rv.one
  cases ru
  obtain ⟨z, its, n, r, hl, e⟩ := I.lstM hH
  obtain ⟨its2, r2, ⟨⟨c2, d2, t2, s2⟩, e2, rfl, n2, rfl⟩, hl2⟩ := I.tuple hB
  have h2 := r2.length
  have hsz : its.toArray.size + its2.toArray.size ≤ sizeLine := by rw [List.size_toArray, List.size_toArray]; omega
  have hlong : ¬ (!its.toArray.isEmpty && Builtin.List.listTooLong (its.toArray.size + its2.toArray.size)) = true := by
    rw [notLongL hsz, Bool.and_false]
    exact Bool.false_ne_true
  refine call_meets F.slot_list_extend ⟨_, e, rfl⟩ F.entry_list_extend (F.args_list_extend_2 _ _)
    (ext_tupO l its.toArray n b its2.toArray n2 d2 s2 hlong (by rw [List.size_toArray]; omega) (by omega)) ⟨e, e2, ?_⟩
  refine ⟨.non, _, I.lset (its' := its ++ its2) hH e (by simp) (r.append r2) ?_, rfl, q⟩
  rw [List.length_append]
  omega
theorem call_divmodG : CallR X (.builtin "divmod") (fun xs H Q => ∃ i j : Int, xs = [.int i, .int j] ∧ (0 < j ∧ j.natAbs.log2 < 9000) ∧ ∀ p, H p = none → Q (.ref p) (upd H p (.tup [.int (i / j), .int (i % j)]))) := by
  intro pins s σ H xs us Q I r h
  obtain ⟨i, j, rfl, ⟨h1, h2⟩, q⟩ := h
  obtain ⟨u, w', rfl, ⟨t, rfl⟩, ⟨t', rfl⟩⟩ := vals2 r
  refine divmod_int (by omega) ?_ (.inl (PyProof.noPylong_of_log2 h2))
  rw [Int.fdiv_eq_ediv_of_nonneg i (by omega), Int.fmod_eq_emod_of_nonneg i (by omega)]
  have hn : H s.heap.objs.size = none := I.hok.fresh (Nat.le_refl _)
  refine ⟨.ref s.heap.objs.size, _, ?_, rfl, q _ hn⟩
  refine I.laid (fun b o e => Heap.get?_push_of_some _ e) (Nat.le_refl _) ⟨by simp only [List.length_cons, List.length_nil]; rw [sizeLine_eq]; decide, [.int (i / j) s.toks, .int (i % j) (s.toks + 1)], .cons ⟨_, rfl⟩ (.cons ⟨_, rfl⟩ .nil), ?_⟩
  exact ⟨_, Heap.get?_push_size s.heap rfl, rfl, 0, rfl⟩
theorem bt_divmod : bootBuiltins "divmod" = some (.builtin "divmod") := by decide +kernel
def tOrS (ta : TE) : TE := fun σ H Q => ta σ H fun x H1 => ∃ z : Str, x = .str z ∧ z.length ≤ sizeLine ∧ z.length ≠ 0 ∧ Q x H1
theorem pe_orS {a : PySem.Expr} {ta : TE} {b : PySem.Expr} {rest : List PySem.Expr} {pos : Pos} (ha : PE X a ta) : PE X (.BoolOp .Or (a :: b :: rest) pos) (tOrS ta) := by
  intro pins s σ H Q I h
  refine BoolOp_or (thn (ha pins s σ H _ I h) fun v s1 ⟨x, H1, I1, r1, q1⟩ => ?_)
  obtain ⟨z, rfl, hz, h0, q1⟩ := q1
  obtain ⟨t, rfl⟩ := r1
  have hl := line63
  refine PySem.P.truthy_str (by omega) ?_
  have e : ((z.length : Int) != 0) = true := by simp [bne_iff_ne]; omega
  rw [e]
  exact ⟨.str z, H1, I1.tok _, ⟨t, rfl⟩, q1⟩
end
end L2
namespace L3
open PySem PySem.Spec PyProof.Rows L2
section
variable {X : Cx}
def rDivmod : List W → Mm → K3 → Prop
  | [.int i, .int j], M, R => (0 < j ∧ j.natAbs.log2 < 9000) ∧ R (.tup [.int (i / j), .int (i % j)]) M
  | _, _, _ => False
theorem c_divmod : CallR X (.builtin "divmod") (upC X.K rDivmod) := by
  rintro pins s σ H xs us Q I rs ⟨ws, M, R, am, axs, h, k⟩
  match ws, h with
  | [.int i, .int j], h =>
    cases axs with
    | cons a1 axs =>
      obtain ⟨v, rfl, a2⟩ := axs.one
      cases a1; cases a2
      exact call_divmodG pins s σ H _ us Q I rs ⟨i, j, rfl, h.1, fun p hp => laidT am k hp (.cons (.int _) (.cons (.int _) .nil)) h.2⟩
def rBits : W → List W → Mm → K3 → Prop
  | .int i, [], M, R => R (.int ((Builtin.Int.intBits i : Nat) : Int)) M
  | _, _, _, _ => False
theorem m_bits : MtR X "int.bit_length" (upM X.K rBits) := by
  rintro pins s σ H x xs v us Q I rx rs ⟨wx, ws, M, R, am, ax, axs, h, k⟩
  match wx, ws, h with
  | .int i, [], h =>
    cases ax; cases axs
    obtain ⟨t, rfl⟩ := rx
    have := rs.zero
    subst this
    exact call_gives PySem.F.slot_int_bit_length (typeIs_int _ _ _) PySem.F.entry_int_bit_length (PySem.F.args_int_bit_length_1 _) (AutoIntG2.int_bit_length_int_0 i t) ⟨.int _, H, I.tok _, ⟨_, rfl⟩, k.at am (.int _) h⟩
def rZfill : W → List W → Mm → K3 → Prop
  | .str z, [.int i], M, R => PadOk i = true ∧ R (.str (Txt.zfill z i)) M
  | _, _, _, _ => False
theorem m_zfill : MtR X "str.zfill" (upM X.K rZfill) := by
  rintro pins s σ H x xs v us Q I rx rs ⟨wx, ws, M, R, am, ax, axs, h, k⟩
  match wx, ws, h with
  | .str z, [.int i], h =>
    obtain ⟨u, rfl, au⟩ := axs.one
    cases ax; cases au
    obtain ⟨t, rfl⟩ := rx
    obtain ⟨u, rfl, ⟨t', rfl⟩⟩ := rs.one
    exact SC.zfill h.1 fun t' k' => ⟨.str _, H, I.tok _, ⟨_, rfl⟩, k.at am (.str _) h.2⟩
def rLstrip : W → List W → Mm → K3 → Prop
  | .str z, [.str y], M, R => z.length ≤ sizeLine ∧ R (.str (Txt.lstripChars z y)) M
  | _, _, _, _ => False
theorem m_lstrip : MtR X "str.lstrip" (upM X.K rLstrip) := by
  rintro pins s σ H x xs v us Q I rx rs ⟨wx, ws, M, R, am, ax, axs, h, k⟩
  match wx, ws, h with
  | .str z, [.str y], h =>
    obtain ⟨u, rfl, au⟩ := axs.one
    cases ax; cases au
    obtain ⟨t, rfl⟩ := rx
    obtain ⟨u, rfl, ⟨t', rfl⟩⟩ := rs.one
    exact SC.lstripChars (fun t' k' => ⟨.str _, H, I.tok _, ⟨_, rfl⟩, k.at am (.str _) h.2⟩) h.1
def rExtT : W → List W → Mm → K3 → Prop
  | .ref l, [.tup zs], M, R => ∃ ws, M l = some (.lst ws) ∧ ws.length + zs.length ≤ sizeLine ∧ R .non (put M l (.lst (ws ++ zs)))
  | _, _, _, _ => False
theorem m_extT : MtR X "list.extend" (upM X.K rExtT) := by
  rintro pins s σ H x xs v us Q I rx rs ⟨wx, ws, M, R, am, ax, axs, h, k⟩
  match wx, ws, h with
  | .ref l, [.tup zs], h =>
    obtain ⟨z, rfl, az⟩ := axs.one
    cases ax
    cases az with
    | tup f2 q2 =>
      obtain ⟨ws, e, hl, r⟩ := h
      obtain ⟨vs, f, q⟩ := am.lst e
      exact mt_extT pins s σ H _ _ v us Q I rx rs ⟨l, _, vs, _, rfl, rfl, f, SqT.of f2, by rw [q.length, q2.length]; exact hl, wroteL am k e (q.append q2) .non r⟩
def vOrS (ta : TE3) : TE3 := fun τ M R => ta τ M fun x M1 => ∃ z : Str, x = .str z ∧ z.length ≤ sizeLine ∧ z.length ≠ 0 ∧ R x M1
theorem v_orS {a : PySem.Expr} {ta : TE3} {b : PySem.Expr} {rest : List PySem.Expr} {pos : Pos} (ha : E3 X a ta) : E3 X (.BoolOp .Or (a :: b :: rest) pos) (vOrS ta) :=
  (pe_orS ha).weak fun σ H Q ⟨τ, M, R, as, am, h, k⟩ => ⟨τ, M, _, as, am, h, fun x H1 wx M1 k1 am1 ax ⟨z, e, hz, h0, h1⟩ => by
    subst e
    cases ax
    exact ⟨z, rfl, hz, h0, (k.kp k1).at am1 (.str _) h1⟩⟩
theorem ss_never {sts : List Stmt} : Ps3 X sts vNever := pss_never.weak fun D σ H ⟨τ, M, D', as, am, h, k⟩ => h.elim
end
end L3
set_option Elab.async false
set_option linter.all false
set_option maxRecDepth 100000
set_option maxHeartbeats 4000000
namespace Rg
open PySem PySem.Spec PyProof.Rows L2 L3
abbrev P64 : Int := 10 ^ (64 : Int).toNat
def sp_divided : Sp3 := fun ws M R => ∃ n : Int, ws = [.int n, .int P64] ∧ 0 ≤ n ∧ n < 10 ^ 60 ∧ R (.tup [.int 0, .int n]) M
def sp_squared_powers : Sp3 := fun ws M R => ∃ n : Int, ws = [.int n] ∧ 0 ≤ n ∧ n < 10 ^ 60 ∧ New [.int P64] M R
def sp_figures_of : Sp3 := fun ws M R => ∃ n : Int, ws = [.int n] ∧ 0 < n ∧ n < 10 ^ 60 ∧ R (.str (numT n.toNat)) M
abbrev N_divided : List Str := ["number", "divisor", "bits", "size", "shift", "shifted", "quotient", "rest", "k", "block", "told"]
def rd_divided_0 : TS3 :=
      (vSet 2 (vBM0 "int" rBits (vVar 1)))
def rd_divided_1 : TS3 :=
      (vIfS (vOr (vTest (vOp rLe (vVar 2) (vC (.int 4000)))) (vTest (vOp rLt (vVar 0) (vVar 1))))
        (vRet (vCB rDivmod (aCons (vVar 0) (aCons (vVar 1) aNil))))
        vNext)
def rd_divided : TS3 := (vSeq rd_divided_0 (vSeq rd_divided_1 vNever))
abbrev N_squared_powers : List Str := ["number", "powers"]
def rd_squared_powers_0 : TS3 :=
      (vSet 1 (vLst (aCons (vOp rPow (vC (.int 10)) (vC (.int 64))) aNil)))
def rd_squared_powers_b1 : TS3 :=
      vNever
def rd_squared_powers_1 : TS3 :=
      (vWhile (vTest (vOp rLt (vOp rMulF (vC (.int 2)) (vOp rSub (vBM0 "int" rBits (vOp rIx (vVar 1) (vUn rNeg (vC (.int 1))))) (vC (.int 1)))) (vBM0 "int" rBits (vVar 0)))) rd_squared_powers_b1)
def rd_squared_powers_2 : TS3 :=
      (vRet (vVar 1))
def rd_squared_powers : TS3 := (vSeq rd_squared_powers_0 (vSeq rd_squared_powers_1 rd_squared_powers_2))
abbrev N_figures_of : List Str := ["number", "pieces", "power", "halves", "piece", "written"]
def rd_figures_of_0 : TS3 :=
      (vSet 1 (vLstF (aCons (vVar 0) aNil)))
def rd_figures_of_b1 : TS3 :=
      (vSeq (vSet 3 (vLst aNil))
      (vSeq (vFor (iIt rItN (vVar 1)) (wName 4)
        (vDrop (vBM "list" rExtT (vVar 3) (aCons (vCall sp_divided (aCons (vVar 4) (aCons (vVar 2) aNil))) aNil))))
      (vSet 1 (vFrz (vVar 3)))))
def rd_figures_of_1 : TS3 :=
      (vFor (iRevL (aCons (vFrz (vCall sp_squared_powers (aCons (vVar 0) aNil))) aNil)) (wName 2) rd_figures_of_b1)
def rd_figures_of_2 : TS3 :=
      (vSet 5 (vBM "str" rJoin (vC (.str "")) (aCons (vFrz (vComp (iIt rItN (vVar 1)) (wName 0) vTrue (vBM "str" rZfill (vCB rStr (aCons (vVar 0) aNil)) (aCons (vC (.int 64)) aNil)) [none])) aNil)))
def rd_figures_of_3 : TS3 :=
      (vRet (vOrS (vBM "str" rLstrip (vVar 5) (aCons (vC (.str "0")) aNil))))
def rd_figures_of : TS3 := (vSeq rd_figures_of_0 (vSeq rd_figures_of_1 (vSeq rd_figures_of_2 rd_figures_of_3)))
theorem len_divided : ∀ ws M R, sp_divided ws M R → ws.length = 2 := by rintro ws M R ⟨_, rfl, _⟩; rfl
theorem len_squared_powers : ∀ ws M R, sp_squared_powers ws M R → ws.length = 1 := by rintro ws M R ⟨_, rfl, _⟩; rfl
theorem len_figures_of : ∀ ws M R, sp_figures_of ws M R → ws.length = 1 := by rintro ws M R ⟨_, rfl, _⟩; rfl
theorem bits64 : Builtin.Int.intBits P64 = 213 := by decide +kernel
theorem good_divided {ws : List W} {M : Mm} {R : K3} (h : sp_divided ws M R) : rd_divided (ends3 R) (start3 N_divided ws) M := by
  obtain ⟨n, rfl, h0, h1, r⟩ := h
  show rd_divided (ends3 R) [some (.int n), some (.int P64), none, none, none, none, none, none, none, none, none] M
  have e1 : n / P64 = 0 := Int.ediv_eq_zero_of_lt h0 (Int.lt_trans h1 (by decide +kernel))
  have e2 : n % P64 = n := Int.emod_eq_of_lt h0 (Int.lt_trans h1 (by decide +kernel))
  simp? only [rd_divided, rd_divided_0, rd_divided_1, rBits.eq_1]
  rw [bits64, if_pos (by decide)]
  simp? only [rDivmod.eq_1]
  refine ⟨⟨by decide +kernel, by decide +kernel⟩, ?_⟩
  rw [e1, e2]
  exact ⟨_, Sub.refl _, r⟩
theorem log_few {n : Int} (h0 : 0 < n) (h1 : n < 10 ^ 60) : n.natAbs.log2 < 200 := by
  rw [Nat.log2_lt (by omega)]
  have : n.natAbs < 10 ^ 60 := by omega
  exact Nat.lt_of_lt_of_le this (by decide +kernel)
theorem bits_few {n : Int} (h0 : 0 ≤ n) (h1 : n < 10 ^ 60) : Builtin.Int.intBits n ≤ 200 := by
  unfold Builtin.Int.intBits
  by_cases hz : n.natAbs = 0
  · simp [show n = 0 by omega]
  · have := log_few (show 0 < n by omega) h1
    split <;> omega
theorem good_squared_powers {ws : List W} {M : Mm} {R : K3} (h : sp_squared_powers ws M R) : rd_squared_powers (ends3 R) (start3 N_squared_powers ws) M := by
  obtain ⟨n, rfl, h0, h1, r⟩ := h
  show rd_squared_powers (ends3 R) [some (.int n), none] M
  simp? only [rd_squared_powers, rd_squared_powers_0]
  refine ⟨⟨by decide, by decide, by decide⟩, fun a ha => ?_⟩
  simp? only [rd_squared_powers_1, vWhile]
  refine ⟨fun _ τ M' => τ = [some (.int n), some (.ref a)] ∧ M' = put M a (.lst [.int P64]), ⟨0, rfl, rfl⟩, ?_⟩
  rintro _ _ _ ⟨rfl, rfl⟩
  have hb := bits_few h0 h1
  simp? only []
  refine .inl ⟨_, _, rfl, rfl, rfl, ?_⟩
  simp? only [rBits.eq_1]
  rw [bits64]
  refine ⟨.inl (.inl ⟨by decide, by decide⟩), ?_⟩
  rw [if_neg (by omega)]
  simp? only [rd_squared_powers_2]
  exact ⟨_, Sub.refl _, r a ha⟩
theorem tos_num {i : Int} (h : 0 ≤ i) : (Str.ofString (toString i)) = numT i.toNat := by unfold numT; rw [Int.toNat_of_nonneg h]
theorem cs_zfill {m : Nat} (h : m < 10 ^ 60) : ∃ k, cs (Txt.zfill (numT m) 64) = List.replicate k 48 ++ cs (numT m) ∧ k ≤ 64 := by
  have hl := num_len h
  refine ⟨64 - (numT m).length, ?_, by omega⟩
  unfold Txt.zfill
  rw [if_neg (by omega)]
  obtain ⟨h1, h2⟩ := figs_of (m := m)
  unfold zfilled
  have e : (numT m).cps[0]? = (cs (numT m))[0]? := by unfold cs; simp
  obtain ⟨c, q, hc⟩ : ∃ c q, cs (numT m) = c :: q := by
    cases hh : cs (numT m) with
    | nil => exact absurd hh h2
    | cons c q => exact ⟨c, q, rfl⟩
  have hr := fig_range (h1 c (by rw [show cs (Str.ofString (toString ((m : Nat) : Int))) = c :: q from hc]; simp))
  rw [e, hc]
  have pd : cs (Builtin.Str.padded (numT m) ((64 : Int).toNat - (numT m).length) 0 48) = List.replicate (64 - (numT m).length) 48 ++ (c :: q) := by
    unfold cs at hc ⊢
    rw [padded_list, hc]
    simp
  rw [← pd]
  show cs (match some c with | some 43 | some 45 => _ | _ => _) = _
  split
  · rename_i z; cases z; omega
  · rename_i z; cases z; omega
  · rfl
theorem take_nought {c : Nat} {q : List Nat} (h : c ≠ 48) : ∀ k, ((List.replicate k 48 ++ c :: q).takeWhile fun x => x == 48).length = k
  | 0 => by simp [h]
  | k + 1 => by rw [List.replicate_succ, List.cons_append, List.takeWhile_cons, if_pos (by decide), List.length_cons, take_nought h k]
theorem strip_num {z : Str} {m k : Nat} (h : cs z = List.replicate k 48 ++ cs (numT m)) (h0 : 0 < m) : Txt.lstripChars z "0" = numT m := by
  obtain ⟨c, q, e1, e2⟩ := num_first h0
  apply cs_inj
  unfold Txt.lstripChars
  rw [PyProof.Rows.stripBy_eq, cs_sub]
  have hlo : stripLo (Str.ofString "0").cps.contains true z = k := by
    unfold stripLo
    rw [if_pos rfl]
    have e : (Str.ofString "0").cps.contains = fun x => x == 48 := by
      funext x
      show (#[48] : Array Nat).contains x = _
      by_cases hx : x = 48
      · subst hx; rw [Array.contains_eq_mem, decide_eq_true (by simp)]; rfl
      · have h1 : ¬ x ∈ (#[48] : Array Nat) := by simp [hx]
        rw [Array.contains_eq_mem, decide_eq_false h1]
        simp [hx]
    rw [e]
    show ((cs z).takeWhile _).length = k
    rw [h, e1]
    exact take_nought e2 k
  rw [hlo, h]
  have hz : z.length = k + (cs (numT m)).length := by rw [← cs_len, h, List.length_append, List.length_replicate]
  show List.take ((if false = true then _ else z.length) - k) _ = _
  rw [if_neg (by decide), List.drop_left' (by simp), hz]
  apply List.take_of_length_le
  omega
def fillW : W → W
  | .int i => .str (Txt.zfill (Str.ofString (toString i)) 64)
  | w => w
theorem good_figures_of {ws : List W} {M : Mm} {R : K3} (h : sp_figures_of ws M R) : rd_figures_of (ends3 R) (start3 N_figures_of ws) M := by
  obtain ⟨n, rfl, h0, h1, r⟩ := h
  show rd_figures_of (ends3 R) [some (.int n), none, none, none, none, none] M
  simp? only [rd_figures_of, rd_figures_of_0, rd_figures_of_1, iRevL]
  refine ⟨n, rfl, by omega, h1, New.frz ⟨_, rfl, ?_⟩⟩
  refine for3 (fun i τ M' => ∃ o2 o3 o4 : Option W, τ = [some (.int n), some (.rl (if i = 0 then [.int n] else [.int 0, .int n])), o2, o3, o4, none] ∧ M' = M) ⟨_, _, _, rfl, rfl⟩ (fun _ _ _ _ _ => trivial) ?_ ?_
  · rintro i w τ M' hw ⟨o2, o3, o4, rfl, rfl⟩
    have hi : i = 0 := by have := (List.getElem?_eq_some_iff.mp hw).1; simp at this; exact this
    subst hi
    cases hw
    simp? only [rd_figures_of_b1]
    intro a ha
    refine for3 (fun i τ M2 => ∃ o4 : Option W, τ = [some (.int n), some (.rl [.int n]), some (.int P64), some (.ref a), o4, none] ∧ M2 = put M' a (.lst (if i = 0 then [] else [.int 0, .int n]))) ⟨_, rfl, rfl⟩ (fun _ _ _ _ _ => trivial) ?_ ?_
    · rintro i w τ M2 hw ⟨o4, rfl, rfl⟩
      have hi : i = 0 := by have := (List.getElem?_eq_some_iff.mp hw).1; simp at this; exact this
      subst hi
      cases hw
      simp? only [rExtT.eq_1]
      refine ⟨n, rfl, by omega, h1, ?_⟩
      simp? only [rExtT.eq_1]
      exact ⟨_, Sub.refl _, _, rfl, by simp⟩
    · rintro τ M2 ⟨o4, rfl, rfl⟩
      simp? only []
      exact frz_new ha ⟨_, Sub.refl _, _, _, _, rfl, rfl⟩
  · rintro τ M' ⟨o2, o3, o4, rfl, rfl⟩
    simp? only [rd_figures_of_2, rd_figures_of_3, vOrS]
    rw [if_neg (by decide)]
    refine map1 (rest := []) fillW (small (by simp)) (fun _ _ => trivial) (fun w hw M2 C sb h2 => ?_) (New.frz ?_)
    · have key : ∀ i : Int, i.natAbs.log2 < 1920 → w = .int i → vBM "str" rZfill (vCB rStr (aCons (vVar 0) aNil)) (aCons (vC (W.int 64)) aNil) [some w] M2 C := fun i hb e => by
        subst e
        simp? only [rZfill.eq_1]
        exact ⟨hb, by decide, h2⟩
      simp at hw
      rcases hw with e | e
      · exact key 0 (by decide) e
      · exact key n (Nat.lt_of_lt_of_le (log_few h0 h1) (by decide)) e
    · obtain ⟨k0, e0, hk0⟩ := cs_zfill (m := 0) (by decide)
      obtain ⟨k1, e1, hk1⟩ := cs_zfill (m := n.toNat) (by omega)
      simp? only [rJoin.eq_1, rLstrip.eq_1]
      have hn := num_len (m := n.toNat) (by omega)
      have h0' : cs (numT 0) = [48] := by decide +kernel
      have ej : cs (Str.join (Str.ofString "") [Txt.zfill (numT 0) 64, Txt.zfill (numT n.toNat) 64]) = List.replicate (k0 + 1 + k1) 48 ++ cs (numT n.toNat) := by
        show cs (Txt.zfill (numT 0) 64 ++ "" ++ Txt.zfill (numT n.toNat) 64) = _
        rw [cs_app, cs_app, e0, e1, h0', show cs ("" : Str) = [] from by decide +kernel, show List.replicate (k0 + 1 + k1) 48 = List.replicate k0 48 ++ [48] ++ List.replicate k1 48 from ?_]
        · simp
        · rw [show ([48] : List Nat) = List.replicate 1 48 from rfl, List.replicate_append_replicate, List.replicate_append_replicate]
      have es := strip_num ej (by omega)
      refine ⟨[Txt.zfill (numT 0) 64, Txt.zfill (numT n.toNat) 64], ?_, ⟨200, ?_, by rw [show (Str.ofString "").length = 0 from by decide +kernel]; simp⟩, ?_⟩
      · show [W.str (Txt.zfill (Str.ofString (toString (0 : Int))) 64), W.str (Txt.zfill (Str.ofString (toString n)) 64)] = _
        rw [tos_num (by omega), tos_num (by omega)]; rfl
      · intro y hy
        simp at hy
        rcases hy with e | e <;> rw [e, ← cs_len]
        · rw [e0, h0', List.length_append, List.length_replicate]; simp; omega
        · rw [e1, List.length_append, List.length_replicate, cs_len]; omega
      · rw [es]
        obtain ⟨c, q, f1, f2⟩ := num_first (m := n.toNat) (by omega)
        have hq := congrArg List.length f1
        rw [cs_len, List.length_cons] at hq
        exact ⟨by rw [← cs_len, ej, List.length_append, List.length_replicate, cs_len]; omega, by omega, by omega, _, Sub.refl _, r⟩
end Rg
set_option Elab.async false
set_option linter.all false
set_option maxRecDepth 100000
set_option maxHeartbeats 4000000
namespace Rg
open PySem PySem.Spec PyProof.Rows L2 L3
def sp_writes_word : Sp3 := fun ws M R => ∃ z : Str, ws = [.str z] ∧ z.length ≤ 1000 ∧ R (.bl (wwB z)) M
def sp_writes_name : Sp3 := fun ws M R => ∃ z : Str, ws = [.str z] ∧ z.length ≤ 1000 ∧ R (.bl (wnB z)) M
def sp_writes_number : Sp3 := fun ws M R => ∃ m : Nat, ws = [.str (numT m)] ∧ 0 < m ∧ m < 10 ^ 60 ∧ R (.bl true) M
def sp_shown_rule : Sp3 := fun ws M R => ∃ r : Rule, ws = [ruleW r] ∧ TRule r ∧ R (.str (rowOf r)) M
def sp_shown_grammar : Sp3 := fun ws M R => ∃ rs : List Rule, ws = [.rl (rs.map ruleW)] ∧ (∀ r ∈ rs, TRule r) ∧ rs.length ≤ 60 ∧ R (.str (shownT rs)) M
def sp_written_cost : Sp3 := fun ws M R => ∃ r : Rule, ws = [.rl ((r.parts ++ costP r).map W.str)] ∧ TRule r ∧ R (.int r.cost) M
def sp_read_rule : Sp3 := fun ws M R => ∃ r : Rule, ws = [.str (rowOf r)] ∧ TRule r ∧ R (ruleW r) M
def sp_read_grammar : Sp3 := fun ws M R => ∃ rs : List Rule, ws = [.str (shownT rs)] ∧ GoodRules rs ∧ (∀ r ∈ rs, TRule r) ∧ New (rs.map ruleW) M R
def sp_m_heads : Sp3 := fun ws M R => ∃ zs : List W, ws = [.rl zs] ∧ Ints zs ∧ 0 < zs.length ∧ zs.length ≤ 10 ∧ ∀ hs : List Str, (∀ h ∈ hs, TN h) → 0 < hs.length → hs.length ≤ 10 → R (.rl (hs.map W.str)) M
def sp_m_word : Sp3 := fun ws M R => ∃ n : Int, ws = [.int n] ∧ ∀ w, TW w → R (.str w) M
def sp_m_rule : Sp3 := fun ws M R => ∃ (c k : Int) (hs : List Str), ws = [.int c, .int k, .rl (hs.map W.str)] ∧ 0 ≤ k ∧ 0 < hs.length ∧ hs.length ≤ 10 ∧ (∀ h ∈ hs, TN h) ∧ ∀ r : Rule, TRule r → r.name ∈ hs → (∀ p ∈ r.parts, TW p ∨ p ∈ hs) → (∀ h, hs[k.toNat]? = some h → r.name = h) → R (ruleW r) M
def sp_m_rules : Sp3 := fun ws M R => ∃ ns : List Int, ws = [.sc (ns.map W.int)] ∧ ∀ rs : List Rule, GoodRules rs → (∀ r ∈ rs, TRule r) → New (rs.map ruleW) M R
def sp_m_shown : Sp3 := fun ws M R => ∃ rs : List Rule, ws = [.rl (rs.map ruleW)] ∧ (∀ r ∈ rs, TRule r) ∧ rs.length ≤ 60 ∧ R (.str (shownT rs)) M
abbrev sp_law : Sp3 := spLaw3
abbrev N_writes_word : List Str := ["text"]
def rd_writes_word : TS3 :=
      (vRet (vAndV (vOp rLe (vCB rLen (aCons (vVar 0) aNil)) (vC (.int 8))) (vCall sp_made_of (aCons (vVar 0) (aCons (vC (.str "abcdefghijklmnopqrstuvwxyz")) aNil)))))
abbrev N_writes_name : List Str := ["text", "pieces"]
def rd_writes_name : TS3 :=
      (vSeq (vSet 1 (vBM "str" rPart (vVar 0) (aCons (vC (.str "_")) aNil)))
      (vRet (vAndV (vCall sp_is_name (aCons (vVar 0) aNil)) (vAndV (vOp rLe (vCB rLen (aCons (vOp rIx (vVar 1) (vC (.int 0))) aNil)) (vC (.int 8))) (vOp rLe (vCB rLen (aCons (vOp rIx (vVar 1) (vC (.int 2))) aNil)) (vC (.int 4)))))))
abbrev N_writes_number : List Str := ["text"]
def rd_writes_number : TS3 :=
      (vRet (vAndV (vCall sp_made_of (aCons (vVar 0) (aCons (vC (.str "0123456789")) aNil))) (vAndV (vOp rLe (vCB rLen (aCons (vVar 0) aNil)) (vC (.int 60))) (vOrV (vOp (rEq false) (vVar 0) (vC (.str "0"))) (vOp (rEq true) (vOp rIx (vVar 0) (vC (.int 0))) (vC (.str "0")))))))
abbrev N_shown_rule : List Str := ["rule", "pieces"]
def rd_shown_rule_0 : TS3 :=
      (vSet 1 (vOp rAdd (vLstF (aCons (vOp rIx (vVar 0) (vC (.int 0))) (aCons (vC (.str "=")) aNil))) (vCB rListF (aCons (vOp rIx (vVar 0) (vC (.int 1))) aNil))))
def rd_shown_rule_1 : TS3 :=
      (vIfS (vTest (vOp (rEq true) (vOp rIx (vVar 0) (vC (.int 2))) (vC (.int 0))))
        (vDrop (vBM "list" rExt (vVar 1) (aCons (vLstF (aCons (vC (.str ":")) (aCons (vCall sp_figures_of (aCons (vOp rIx (vVar 0) (vC (.int 2))) aNil)) aNil))) aNil)))
        vNext)
def rd_shown_rule_2 : TS3 :=
      (vRet (vBM "str" rJoin (vC (.str " ")) (aCons (vVar 1) aNil)))
def rd_shown_rule : TS3 := (vSeq rd_shown_rule_0 (vSeq rd_shown_rule_1 rd_shown_rule_2))
abbrev N_shown_grammar : List Str := ["grammar"]
def rd_shown_grammar : TS3 :=
      (vRet (vBM "str" rJoin (vC (.str "\n")) (aCons (vFrz (vComp (iIt rItN (vVar 0)) (wName 0) vTrue (vCall sp_shown_rule (aCons (vVar 0) aNil)) [none])) aNil)))
abbrev N_written_cost : List Str := ["pieces"]
def rd_written_cost_0 : TS3 :=
      (vIfS (vOr (vTest (vOp rLt (vCB rLen (aCons (vVar 0) aNil)) (vC (.int 2)))) (vTest (vOp (rEq true) (vOp rIx (vVar 0) (vUn rNeg (vC (.int 2)))) (vC (.str ":")))))
        (vRet (vC (.int 0)))
        vNext)
def rd_written_cost_1 : TS3 :=
      (vIfS (vOr (vNot (vTruth (vCall sp_writes_number (aCons (vOp rIx (vVar 0) (vUn rNeg (vC (.int 1)))) aNil)))) (vTest (vOp (rEq false) (vOp rIx (vVar 0) (vUn rNeg (vC (.int 1)))) (vC (.str "0")))))
        vNever
        vNext)
def rd_written_cost_2 : TS3 :=
      (vRet (vCB rIntT (aCons (vOp rIx (vVar 0) (vUn rNeg (vC (.int 1)))) aNil)))
def rd_written_cost : TS3 := (vSeq rd_written_cost_0 (vSeq rd_written_cost_1 rd_written_cost_2))
abbrev N_read_rule : List Str := ["text", "pieces", "cost", "parts"]
def rd_read_rule_0 : TS3 :=
      (vSet 1 (vFrz (vBM "str" rSplit (vVar 0) (aCons (vC (.str " ")) aNil))))
def rd_read_rule_1 : TS3 :=
      (vIfS (vOr (vTest (vOp rLt (vCB rLen (aCons (vVar 1) aNil)) (vC (.int 2)))) (vOr (vNot (vTruth (vCall sp_writes_name (aCons (vOp rIx (vVar 1) (vC (.int 0))) aNil)))) (vTest (vOp (rEq true) (vOp rIx (vVar 1) (vC (.int 1))) (vC (.str "="))))))
        vNever
        vNext)
def rd_read_rule_2 : TS3 :=
      (vSet 2 (vCall sp_written_cost (aCons (vSlF (vVar 1) (sPt (vC (.int 2))) sNo) aNil)))
def rd_read_rule_3 : TS3 :=
      (vSet 3 (vIf (vTest (vOp (rEq false) (vVar 2) (vC (.int 0)))) (vSlF (vVar 1) (sPt (vC (.int 2))) sNo) (vSlF (vVar 1) (sPt (vC (.int 2))) (sPt (vUn rNeg (vC (.int 2)))))))
def rd_read_rule_4 : TS3 :=
      (vIfS (vNot (vTruth (vCB rAll (aCons (vFrz (vComp (iIt rItN (vVar 3)) (wName 0) vTrue (vOrV (vCall sp_writes_word (aCons (vVar 0) aNil)) (vCall sp_writes_name (aCons (vVar 0) aNil))) [none])) aNil))))
        vNever
        vNext)
def rd_read_rule_5 : TS3 :=
      (vRet (vTup (aCons (vOp rIx (vVar 1) (vC (.int 0))) (aCons (vCB rTuple (aCons (vVar 3) aNil)) (aCons (vVar 2) aNil)))))
def rd_read_rule : TS3 := (vSeq rd_read_rule_0 (vSeq rd_read_rule_1 (vSeq rd_read_rule_2 (vSeq rd_read_rule_3 (vSeq rd_read_rule_4 rd_read_rule_5)))))
abbrev N_read_grammar : List Str := ["text"]
def rd_read_grammar : TS3 :=
      (vRet (vCall sp_grammar_of (aCons (vFrz (vComp (iIt rItN (vFrz (vBM "str" rSplit (vVar 0) (aCons (vC (.str "\n")) aNil)))) (wName 0) vTrue (vCall sp_read_rule (aCons (vVar 0) aNil)) [none])) aNil)))
abbrev N_m_heads : List Str := ["cells", "found", "cell", "name"]
def rd_m_heads_0 : TS3 :=
      (vSet 1 (vLst aNil))
def rd_m_heads_b1 : TS3 :=
      (vSeq (vSet 2 (vOp rMod (vVar 2) (vOp rPow (vC (.int 10)) (vC (.int 40)))))
      (vSeq (vSet 3 (vBM "str" rJoin (vC (.str "")) (aCons (vFrz (vComp (iR1 (aCons (vOp rAddF (vC (.int 1)) (vOp rMod (vOp rFdiv (vVar 2) (vC (.int 9))) (vC (.int 8)))) aNil)) (wName 0) vTrue (vOp rIx (vC (.str "QXYZABMN")) (vOp rMod (vOp rAddF (vOp rFdiv (vVar 1) (vOp rAddF (vVar 0) (vC (.int 1)))) (vOp rMulF (vVar 0) (vVar 0))) (vC (.int 8)))) [none, some 2])) aNil)))
      (vSeq (vIfS (vTest (vOp (rEq false) (vOp rMod (vVar 2) (vC (.int 3))) (vC (.int 0))))
        (vSet 3 (vOp rAddF (vOp rAddF (vVar 3) (vC (.str "_"))) (vCB rStr (aCons (vOp rMod (vOp rFdiv (vVar 2) (vC (.int 3))) (vOp rIx (vLstF (aCons (vC (.int 10)) (aCons (vC (.int 10000)) aNil))) (vOp rMod (vOp rFdiv (vVar 2) (vC (.int 70))) (vC (.int 2))))) aNil))))
        vNext)
      (vIfS (vTest (vOp (rIn true) (vVar 3) (vVar 1)))
        (vDrop (vBM "list" rApp (vVar 1) (aCons (vVar 3) aNil)))
        vNext))))
def rd_m_heads_1 : TS3 :=
      (vFor (iIt rItN (vVar 0)) (wName 2) rd_m_heads_b1)
def rd_m_heads_2 : TS3 :=
      (vRet (vFrz (vVar 1)))
def rd_m_heads : TS3 := (vSeq rd_m_heads_0 (vSeq rd_m_heads_1 rd_m_heads_2))
abbrev N_m_word : List Str := ["number"]
def rd_m_word : TS3 :=
      (vRet (vBM "str" rJoin (vC (.str "")) (aCons (vFrz (vComp (iR1 (aCons (vOp rAddF (vC (.int 1)) (vOp rMod (vOp rFdiv (vVar 0) (vC (.int 5))) (vC (.int 8)))) aNil)) (wName 0) vTrue (vOp rIx (vC (.str "eatonihsr")) (vOp rMod (vOp rAddF (vOp rFdiv (vVar 1) (vOp rAddF (vVar 0) (vC (.int 1)))) (vVar 0)) (vC (.int 9)))) [none, some 0])) aNil)))
abbrev N_m_rule : List Str := ["cell", "k", "heads", "name", "parts", "j", "one"]
def rd_m_rule_0 : TS3 :=
      (vSet 0 (vOp rMod (vVar 0) (vOp rPow (vC (.int 10)) (vC (.int 40)))))
def rd_m_rule_1 : TS3 :=
      (vSet 3 (vOp rIx (vVar 2) (vOp rMod (vOp rFdiv (vVar 0) (vC (.int 7))) (vCB rLen (aCons (vVar 2) aNil)))))
def rd_m_rule_2 : TS3 :=
      (vIfS (vTest (vOp rLt (vVar 1) (vCB rLen (aCons (vVar 2) aNil))))
        (vSet 3 (vOp rIx (vVar 2) (vVar 1)))
        vNext)
def rd_m_rule_3 : TS3 :=
      (vSet 4 (vLst aNil))
def rd_m_rule_b4 : TS3 :=
      (vSeq (vSet 6 (vOp rMod (vOp rFdiv (vOp rAddF (vVar 0) (vOp rMulF (vVar 5) (vC (.int 7919)))) (vOp rAddF (vC (.int 11)) (vVar 5))) (vOp rPow (vC (.int 10)) (vC (.int 20)))))
      (vDrop (vBM "list" rApp (vVar 4) (aCons (vOp rIx (vLstF (aCons (vCall sp_m_word (aCons (vOp rFdiv (vVar 6) (vC (.int 2))) aNil)) (aCons (vOp rIx (vVar 2) (vOp rMod (vOp rFdiv (vVar 6) (vC (.int 2))) (vCB rLen (aCons (vVar 2) aNil)))) aNil))) (vOp rMod (vVar 6) (vC (.int 2)))) aNil))))
def rd_m_rule_4 : TS3 :=
      (vFor (iR1 (aCons (vOp rMod (vVar 0) (vC (.int 5))) aNil)) (wName 5) rd_m_rule_b4)
def rd_m_rule_5 : TS3 :=
      (vRet (vTup (aCons (vVar 3) (aCons (vCB rTuple (aCons (vVar 4) aNil)) (aCons (vOp rIx (vLstF (aCons (vC (.int 0)) (aCons (vC (.int 0)) (aCons (vOp rMod (vOp rFdiv (vVar 0) (vC (.int 50))) (vC (.int 12))) (aCons (vOp rMod (vOp rMulF (vOp rAddF (vVar 0) (vC (.int 1))) (vOp rAddF (vVar 0) (vC (.int 3)))) (vOp rPow (vC (.int 10)) (vC (.int 60)))) aNil))))) (vOp rMod (vOp rFdiv (vVar 0) (vC (.int 5))) (vC (.int 4)))) aNil)))))
def rd_m_rule : TS3 := (vSeq rd_m_rule_0 (vSeq rd_m_rule_1 (vSeq rd_m_rule_2 (vSeq rd_m_rule_3 (vSeq rd_m_rule_4 rd_m_rule_5)))))
abbrev N_m_rules : List Str := ["script", "heads", "rules", "k"]
def rd_m_rules_0 : TS3 :=
      (vSet 1 (vCall sp_m_heads (aCons (vOp rAddF (vSlF (vVar 0) (sPt (vC (.int 1))) (sPt (vC (.int 4)))) (vLstF (aCons (vCall sp_l_cell_at (aCons (vVar 0) (aCons (vC (.int 0)) aNil))) aNil))) aNil)))
def rd_m_rules_1 : TS3 :=
      (vSet 2 (vLst aNil))
def rd_m_rules_b2 : TS3 :=
      (vDrop (vBM "list" rApp (vVar 2) (aCons (vCall sp_m_rule (aCons (vCall sp_l_cell_at (aCons (vVar 0) (aCons (vOp rAddF (vC (.int 4)) (vVar 3)) aNil))) (aCons (vVar 3) (aCons (vVar 1) aNil)))) aNil)))
def rd_m_rules_2 : TS3 :=
      (vFor (iR1 (aCons (vOp rAddF (vCB rLen (aCons (vVar 1) aNil)) (vOp rMod (vOp rFdiv (vCall sp_l_cell_at (aCons (vVar 0) (aCons (vC (.int 0)) aNil))) (vC (.int 8))) (vC (.int 6)))) aNil)) (wName 3) rd_m_rules_b2)
def rd_m_rules_3 : TS3 :=
      (vRet (vVar 2))
def rd_m_rules : TS3 := (vSeq rd_m_rules_0 (vSeq rd_m_rules_1 (vSeq rd_m_rules_2 rd_m_rules_3)))
abbrev N_m_shown : List Str := ["rules", "rows", "name", "parts", "cost", "row"]
def rd_m_shown_0 : TS3 :=
      (vSet 1 (vLst aNil))
def rd_m_shown_b1 : TS3 :=
      (vSeq (vSet 5 (vBM "str" rJoin (vC (.str " ")) (aCons (vOp rAddF (vLstF (aCons (vVar 2) (aCons (vC (.str "=")) aNil))) (vCB rListF (aCons (vVar 3) aNil))) aNil)))
      (vSeq (vIfS (vTest (vOp rGt (vVar 4) (vC (.int 0))))
        (vSet 5 (vOp rAddF (vOp rAddF (vVar 5) (vC (.str " : "))) (vCB rStr (aCons (vVar 4) aNil))))
        vNext)
      (vDrop (vBM "list" rApp (vVar 1) (aCons (vVar 5) aNil)))))
def rd_m_shown_1 : TS3 :=
      (vFor (iIt rIt (vVar 0)) (wTup 3 (wCons (wName 2) (wCons (wName 3) (wCons (wName 4) wNil)))) rd_m_shown_b1)
def rd_m_shown_2 : TS3 :=
      (vRet (vBM "str" rJoin (vC (.str "\n")) (aCons (vVar 1) aNil)))
def rd_m_shown : TS3 := (vSeq rd_m_shown_0 (vSeq rd_m_shown_1 rd_m_shown_2))
abbrev N_law : List Str := ["script", "rules", "handed", "due", "text", "found", "name", "parts", "cost"]
def rd_law_0 : TS3 :=
      (vSet 1 (vFrz (vCall sp_m_rules (aCons (vVar 0) aNil))))
def rd_law_1 : TS3 :=
      (vSet 2 (vCB rListF (aCons (vVar 1) aNil)))
def rd_law_2 : TS3 :=
      (vSet 3 (vCall sp_m_shown (aCons (vVar 1) aNil)))
def rd_law_3 : TS3 :=
      (vSet 4 (vCall sp_shown_grammar (aCons (vVar 2) aNil)))
def rd_law_4 : TS3 :=
      (vIfS (vOr (vNot (vTruth (vCB rIsi (aCons (vVar 4) (aCons (vC (.ty "str")) aNil))))) (vOr (vTest (vOp (rEq true) (vVar 4) (vVar 3))) (vTest (vOp (rEq true) (vVar 2) (vVar 1)))))
        (vRet (vC (.bl false)))
        vNext)
def rd_law_5 : TS3 :=
      (vSet 5 (vCall sp_read_grammar (aCons (vVar 3) aNil)))
def rd_law_6 : TS3 :=
      (vIfS (vOr (vNot (vTruth (vCB rIsi (aCons (vVar 5) (aCons (vC (.ty "list")) aNil))))) (vTest (vOp (rEq true) (vVar 5) (vVar 1))))
        (vRet (vC (.bl false)))
        vNext)
def rd_law_b7 : TS3 :=
      (vIfS (vOr (vNot (vTruth (vCB rIsi (aCons (vVar 7) (aCons (vC (.ty "tuple")) aNil))))) (vOr (vNot (vTruth (vCB rIsi (aCons (vVar 8) (aCons (vC (.ty "int")) aNil))))) (vTruth (vCB rIsi (aCons (vVar 8) (aCons (vC (.ty "bool")) aNil))))))
        (vRet (vC (.bl false)))
        vNext)
def rd_law_7 : TS3 :=
      (vFor (iIt rIt (vVar 5)) (wTup 3 (wCons (wName 6) (wCons (wName 7) (wCons (wName 8) wNil)))) rd_law_b7)
def rd_law_8 : TS3 :=
      (vDrop (vBM0 "list" rClr (vVar 5)))
def rd_law_9 : TS3 :=
      (vRet (vOp (rEq false) (vFrz (vCall sp_read_grammar (aCons (vVar 3) aNil))) (vVar 1)))
def rd_law : TS3 := (vSeq rd_law_0 (vSeq rd_law_1 (vSeq rd_law_2 (vSeq rd_law_3 (vSeq rd_law_4 (vSeq rd_law_5 (vSeq rd_law_6 (vSeq rd_law_7 (vSeq rd_law_8 rd_law_9)))))))))
theorem len_writes_word : ∀ ws M R, sp_writes_word ws M R → ws.length = 1 := by rintro ws M R ⟨_, rfl, _⟩; rfl
theorem len_writes_name : ∀ ws M R, sp_writes_name ws M R → ws.length = 1 := by rintro ws M R ⟨_, rfl, _⟩; rfl
theorem len_writes_number : ∀ ws M R, sp_writes_number ws M R → ws.length = 1 := by rintro ws M R ⟨_, rfl, _⟩; rfl
theorem len_shown_rule : ∀ ws M R, sp_shown_rule ws M R → ws.length = 1 := by rintro ws M R ⟨_, rfl, _⟩; rfl
theorem len_shown_grammar : ∀ ws M R, sp_shown_grammar ws M R → ws.length = 1 := by rintro ws M R ⟨_, rfl, _⟩; rfl
theorem len_written_cost : ∀ ws M R, sp_written_cost ws M R → ws.length = 1 := by rintro ws M R ⟨_, rfl, _⟩; rfl
theorem len_read_rule : ∀ ws M R, sp_read_rule ws M R → ws.length = 1 := by rintro ws M R ⟨_, rfl, _⟩; rfl
theorem len_read_grammar : ∀ ws M R, sp_read_grammar ws M R → ws.length = 1 := by rintro ws M R ⟨_, rfl, _⟩; rfl
theorem len_m_heads : ∀ ws M R, sp_m_heads ws M R → ws.length = 1 := by rintro ws M R ⟨_, rfl, _⟩; rfl
theorem len_m_word : ∀ ws M R, sp_m_word ws M R → ws.length = 1 := by rintro ws M R ⟨_, rfl, _⟩; rfl
theorem len_m_rule : ∀ ws M R, sp_m_rule ws M R → ws.length = 3 := by rintro ws M R ⟨_, _, _, rfl, _⟩; rfl
theorem len_m_rules : ∀ ws M R, sp_m_rules ws M R → ws.length = 1 := by rintro ws M R ⟨_, rfl, _⟩; rfl
theorem len_m_shown : ∀ ws M R, sp_m_shown ws M R → ws.length = 1 := by rintro ws M R ⟨_, rfl, _⟩; rfl
theorem len_law : ∀ ws M R, sp_law ws M R → ws.length = 1 := by rintro ws M R ⟨_, rfl, _⟩; rfl
theorem good_writes_word {ws : List W} {M : Mm} {R : K3} (h : sp_writes_word ws M R) : rd_writes_word (ends3 R) (start3 N_writes_word ws) M := by
  obtain ⟨z, rfl, hz, r⟩ := h
  show rd_writes_word (ends3 R) [some (.str z)] M
  unfold wwB at r
  simp? only [rd_writes_word, L3.rLe]
  refine ⟨by omega, ?_⟩
  by_cases h : z.length ≤ 8
  · rw [decide_eq_true h, Bool.true_and] at r
    rw [if_pos (by omega)]
    exact ⟨z, _, rfl, hz, _, Sub.refl _, r⟩
  · rw [decide_eq_false h, Bool.false_and] at r
    rw [if_neg (by omega)]
    exact ⟨_, Sub.refl _, r⟩
end Rg
set_option Elab.async false
set_option linter.all false
set_option maxRecDepth 100000
set_option maxHeartbeats 4000000
namespace Rg
open PySem PySem.Spec PyProof.Rows L2 L3
theorem good_writes_name {ws : List W} {M : Mm} {R : K3} (h : sp_writes_name ws M R) : rd_writes_name (ends3 R) (start3 N_writes_name ws) M := by
  obtain ⟨z, rfl, hz, r⟩ := h
  show rd_writes_name (ends3 R) [some (.str z), none] M
  obtain ⟨h1, h3⟩ := part_len z
  unfold wnB at r
  simp? only [rd_writes_name, L3.rPart, L3.rLe]
  refine ⟨by decide +kernel, by omega, z, rfl, hz, ?_⟩
  simp? only []
  cases hn : isNameB z with
  | false =>
    rw [hn, Bool.false_and] at r
    rw [if_neg (by simp)]
    exact ⟨_, Sub.refl _, r⟩
  | true =>
    rw [hn, Bool.true_and] at r
    rw [if_pos rfl]
    refine ⟨by omega, ?_⟩
    by_cases h8 : (Txt.partition z "_").1.length ≤ 8
    · rw [if_pos (by omega)]
      rw [decide_eq_true h8, Bool.true_and] at r
      refine ⟨by omega, _, Sub.refl _, ?_⟩
      have e : decide (((Txt.partition z "_").2.2.length : Int) ≤ 4) = decide ((Txt.partition z "_").2.2.length ≤ 4) := by
        rw [Bool.eq_iff_iff, decide_eq_true_eq, decide_eq_true_eq]; omega
      rw [e]; exact r
    · rw [if_neg (by omega)]
      rw [decide_eq_false h8, Bool.false_and] at r
      exact ⟨_, Sub.refl _, r⟩
theorem num_made {m : Nat} : madeB (numT m) FIGS = true := by
  obtain ⟨h1, h2⟩ := figs_of (m := m)
  rw [madeB_eq, decide_eq_false (show ¬ cs (numT m) = [] from h2)]
  simp
  exact h1
theorem good_writes_number {ws : List W} {M : Mm} {R : K3} (h : sp_writes_number ws M R) : rd_writes_number (ends3 R) (start3 N_writes_number ws) M := by
  obtain ⟨m, rfl, h0, h1, r⟩ := h
  show rd_writes_number (ends3 R) [some (.str (numT m))] M
  have hl := num_len h1
  obtain ⟨c, q, e1, e2⟩ := num_first h0
  simp? only [rd_writes_number, L3.rLe]
  refine ⟨_, _, rfl, by omega, ?_⟩
  rw [num_made]
  simp? only []
  refine ⟨by omega, ?_⟩
  rw [if_pos (by omega), if_neg (num_ne h0)]
  refine ⟨by omega, c, ?_, _, Sub.refl _, ?_⟩
  · show atI (cs (numT m)) 0 = some c
    rw [e1]; exact atI0 _ _
  · rw [decide_eq_false]
    · exact r
    · intro z
      have := congrArg cs z
      rw [show cs (Str.ofString "0") = [48] from cs_zero] at this
      have : [c] = [48] := this
      cases this; exact e2 rfl
theorem joins_row {r : Rule} (h : TRule r) : Joins " " (piecesOf r) := ⟨60, fun p hp => (pieces_ok h p hp).2.1, by
  have := pieces_len h
  have e : (" " : Str).length = 1 := by decide +kernel
  rw [e]; omega⟩
theorem jn_len {c : Nat} {B : Nat} : ∀ {ps : List (List Nat)}, (∀ p ∈ ps, p.length ≤ B) → (jn c ps).length ≤ ps.length * (B + 1)
  | [], _ => Nat.zero_le _
  | [p], h => by have := h p (by simp); show p.length ≤ 1 * (B + 1); omega
  | p :: q :: r, h => by
    have h1 := h p (by simp)
    have h2 := jn_len (c := c) (ps := q :: r) fun x hx => h x (List.mem_cons_of_mem _ hx)
    rw [jn, List.length_append, List.length_cons]
    have : (p :: q :: r).length * (B + 1) = (q :: r).length * (B + 1) + (B + 1) := by simp [Nat.succ_mul]
    omega
theorem row_cs {r : Rule} : cs (rowOf r) = jn 32 ((piecesOf r).map cs) := cs_join cs_blank _
theorem row_len {r : Rule} (h : TRule r) : (rowOf r).length ≤ 488 := by
  rw [← cs_len, row_cs]
  have h1 := jn_len (c := 32) (B := 60) (ps := (piecesOf r).map cs) fun p hp => by
    obtain ⟨q, hq, rfl⟩ := List.mem_map.mp hp
    rw [cs_len]; exact (pieces_ok h q hq).2.1
  have h2 := pieces_len h
  rw [List.length_map] at h1
  omega
theorem jn_mem {c d : Nat} : ∀ {ps : List (List Nat)}, d ∈ jn c ps → d = c ∨ ∃ p ∈ ps, d ∈ p
  | [], h => by cases h
  | [p], h => .inr ⟨p, by simp, h⟩
  | p :: q :: r, h => by
    rw [jn] at h
    rcases List.mem_append.mp h with h | h
    · exact .inr ⟨p, by simp, h⟩
    · rcases List.mem_cons.mp h with h | h
      · exact .inl h
      · rcases jn_mem h with h | ⟨x, hx, h⟩
        · exact .inl h
        · exact .inr ⟨x, List.mem_cons_of_mem _ hx, h⟩
theorem row_ch {r : Rule} (h : TRule r) : ∀ c ∈ cs (rowOf r), 32 ≤ c ∧ c < 128 := fun c hc => by
  rw [row_cs] at hc
  rcases jn_mem hc with rfl | ⟨p, hp, hm⟩
  · exact ⟨by decide, by decide⟩
  · obtain ⟨q, hq, rfl⟩ := List.mem_map.mp hp
    have := (pieces_ok h q hq).1 c hm
    omega
theorem row_ne {r : Rule} (h : TRule r) : 0 < (rowOf r).length := by
  rw [← cs_len, row_cs]
  have e : (piecesOf r).map cs = cs r.name :: cs "=" :: (r.parts ++ costP r).map cs := by unfold piecesOf; simp
  rw [e, jn, List.length_append, List.length_cons]
  omega
theorem joins_all {rs : List Rule} (h : ∀ r ∈ rs, TRule r) (hl : rs.length ≤ 60) : Joins "\n" (rs.map rowOf) := ⟨488, fun p hp => by
  obtain ⟨r, hr, rfl⟩ := List.mem_map.mp hp
  exact row_len (h r hr), by
  have e : ("\n" : Str).length = 1 := by decide +kernel
  rw [e, List.length_map]; omega⟩
theorem big_log {i : Int} (h0 : 0 ≤ i) (h1 : i < 10 ^ 60) : i.natAbs.log2 < 1920 := by
  by_cases hz : i.natAbs = 0
  · rw [hz]; decide
  · rw [Nat.log2_lt hz]
    have : i.natAbs < 10 ^ 60 := by omega
    exact Nat.lt_of_lt_of_le this (by decide +kernel)
theorem num_str {i : Int} (h : 0 ≤ i) : (Str.ofString (toString i)) = numT i.toNat := by unfold numT; rw [Int.toNat_of_nonneg h]
theorem good_shown_rule {ws : List W} {M : Mm} {R : K3} (h : sp_shown_rule ws M R) : rd_shown_rule (ends3 R) (start3 N_shown_rule ws) M := by
  obtain ⟨q, rfl, t, r⟩ := h
  show rd_shown_rule (ends3 R) [some (ruleW q), none] M
  have hf := t.few
  have hj := joins_row t
  simp? only [rd_shown_rule, rd_shown_rule_0, ruleW]
  refine ⟨by rw [List.length_map]; omega, ?_⟩
  intro a ha
  have e0 : [W.str q.name, W.str "="] ++ q.parts.map W.str = ([q.name, "="] ++ q.parts).map W.str := by simp
  rw [e0]
  simp? only [rd_shown_rule_1]
  by_cases hc : q.cost = 0
  · rw [if_neg (by simp [hc])]
    simp? only [rd_shown_rule_2, rJoin.eq_2]
    have ep : piecesOf q = [q.name, "="] ++ q.parts := by unfold piecesOf costP; rw [if_pos hc, List.append_nil]
    rw [← ep]
    exact ⟨piecesOf q, rfl, hj, _, Sub.new ha, r⟩
  · rw [if_pos hc]
    have hlo := t.lo
    refine ⟨_, rfl, by omega, t.hi, ?_⟩
    simp? only []
    refine ⟨by rw [List.length_map]; simp; omega, ?_⟩
    have ep : piecesOf q = [q.name, "="] ++ q.parts ++ [(":" : Str), numT q.cost.toNat] := by unfold piecesOf costP; rw [if_neg hc]
    have e1 : ([q.name, "="] ++ q.parts).map W.str ++ [W.str ":", W.str (numT q.cost.toNat)] = (piecesOf q).map W.str := by rw [ep]; simp
    simp? only [rd_shown_rule_2, rJoin.eq_2]
    rw [e1]
    exact ⟨piecesOf q, rfl, hj, _, Sub.new ha, r⟩
theorem good_shown_grammar {ws : List W} {M : Mm} {R : K3} (h : sp_shown_grammar ws M R) : rd_shown_grammar (ends3 R) (start3 N_shown_grammar ws) M := by
  obtain ⟨rs, rfl, t, hl, r⟩ := h
  show rd_shown_grammar (ends3 R) [some (.rl (rs.map ruleW))] M
  simp? only [rd_shown_grammar]
  refine map1R (rest := []) (fun w y => ∃ q ∈ rs, w = ruleW q ∧ y = .str (rowOf q)) (small (by rw [List.length_map]; omega)) (fun _ _ => trivial) (fun w hw M' C sb h1 => ?_) fun ys hys => New.frz ?_
  · obtain ⟨q, hq, rfl⟩ := List.mem_map.mp hw
    simp? only []
    exact ⟨q, rfl, t q hq, h1 _ ⟨q, hq, rfl, rfl⟩⟩
  · have e := rows_of hys
    subst e
    simp? only [rJoin.eq_1]
    exact ⟨rs.map rowOf, by rw [List.map_map]; rfl, joins_all t hl, _, Sub.refl _, r⟩
where
  rows_of : ∀ {rs rs' : List Rule} {ys : List W}, Paired (fun w y => ∃ q ∈ rs', w = ruleW q ∧ y = .str (rowOf q)) (rs.map ruleW) ys → ys = rs.map fun q => W.str (rowOf q)
    | [], _, _, .nil => rfl
    | q :: rs, _, _, .cons ⟨q2, _, e1, e2⟩ t => by
      rw [rows_of t, e2]
      have : q = q2 := rule_inj e1
      rw [this]; rfl
  rule_inj : ∀ {a b : Rule}, ruleW a = ruleW b → a = b := by
    intro a b h
    unfold ruleW at h
    simp at h
    obtain ⟨h1, h2, h3⟩ := h
    cases a; cases b
    simp at h1 h2 h3
    simp [h1, h3]
    exact (List.map_inj_right (fun x y e => by cases e; rfl)).mp h2
end Rg
set_option Elab.async false
set_option linter.all false
set_option maxRecDepth 100000
set_option maxHeartbeats 4000000
namespace Rg
open PySem PySem.Spec PyProof.Rows L2 L3
theorem jn_two {c : Nat} {a b : List Nat} : ∀ {xs : List (List Nat)}, xs ≠ [] → jn c (xs ++ [a, b]) = jn c xs ++ (c :: a ++ c :: b)
  | [], h => absurd rfl h
  | [p], _ => by simp [jn]
  | p :: q :: r, _ => by
    have ih := jn_two (c := c) (a := a) (b := b) (xs := q :: r) (by simp)
    show p ++ c :: jn c ((q :: r) ++ [a, b]) = (p ++ c :: jn c (q :: r)) ++ _
    rw [ih]; simp
theorem cs_mid : cs (" : " : Str) = [32, 58, 32] := by decide +kernel
theorem row_two {r : Rule} (h : r.cost ≠ 0) : Str.join " " ([r.name, "="] ++ r.parts) ++ " : " ++ numT r.cost.toNat = rowOf r := by
  apply cs_inj
  rw [row_cs, cs_app, cs_app, cs_join cs_blank, cs_mid]
  have e : (piecesOf r).map cs = ([r.name, "="] ++ r.parts).map cs ++ [cs (":" : Str), cs (numT r.cost.toNat)] := by unfold piecesOf costP; rw [if_neg h]; simp
  rw [e, jn_two (by simp), cs_colon]; simp
theorem row_zero {r : Rule} (h : r.cost = 0) : Str.join " " ([r.name, "="] ++ r.parts) = rowOf r := by unfold rowOf piecesOf costP; rw [if_pos h, List.append_nil]
theorem good_m_shown {ws : List W} {M : Mm} {R : K3} (h : sp_m_shown ws M R) : rd_m_shown (ends3 R) (start3 N_m_shown ws) M := by
  obtain ⟨rs, rfl, t, hl, r⟩ := h
  show rd_m_shown (ends3 R) [some (.rl (rs.map ruleW)), none, none, none, none, none] M
  simp? only [rd_m_shown, rd_m_shown_0, rd_m_shown_1]
  intro a ha
  refine for3 (fun i τ M' => ∃ o2 o3 o4 o5 : Option W, τ = [some (.rl (rs.map ruleW)), some (.ref a), o2, o3, o4, o5] ∧ M' = put M a (.lst (((rs.take i).map rowOf).map W.str))) ⟨_, _, _, _, rfl, rfl⟩ (fun _ _ _ _ _ => trivial) ?_ ?_
  · rintro i w τ M' hw ⟨o2, o3, o4, o5, rfl, rfl⟩
    rw [List.getElem?_map] at hw
    obtain ⟨q, hq, rfl⟩ := Option.map_eq_some_iff.mp hw
    have tq := t q (List.mem_of_getElem? hq)
    have hf := tq.few
    have htk : rs.take (i + 1) = rs.take i ++ [q] := by rw [List.take_add_one, hq]; rfl
    have htl : (rs.take i).length ≤ 60 := by rw [List.length_take]; omega
    have hj : Joins " " ([q.name, "="] ++ q.parts) := by
      obtain ⟨B, h1, h2⟩ := joins_row tq
      refine ⟨B, fun y hy => h1 y (by unfold piecesOf; exact List.mem_append_left _ hy), Nat.le_trans ?_ h2⟩
      have : ([q.name, "="] ++ q.parts).length ≤ (piecesOf q).length := by unfold piecesOf; rw [List.length_append (bs := costP q)]; omega
      exact Nat.add_le_add (Nat.mul_le_mul_right _ this) (Nat.mul_le_mul_right _ this)
    simp? only [rd_m_shown_b1, ruleW]
    refine ⟨by rw [List.length_map]; omega, ?_⟩
    simp? only [rJoin.eq_1]
    refine ⟨[q.name, "="] ++ q.parts, by simp, hj, ?_⟩
    have fin : ∀ o, (((rs.take i).map rowOf).map W.str).length < 16777216 ∧ ∃ M'', L3.Sub M'' (put M a (.lst (((rs.take i).map rowOf).map W.str ++ [.str (rowOf q)]))) ∧ ∃ o2 o3 o4 o5 : Option W, [some (.rl (rs.map ruleW)), some (.ref a), some (.str q.name), some (.tup (q.parts.map W.str)), some (.int q.cost), o] = [some (.rl (rs.map ruleW)), some (.ref a), o2, o3, o4, o5] ∧ M'' = put M a (.lst (((rs.take (i + 1)).map rowOf).map W.str)) := fun o =>
      ⟨by rw [List.length_map, List.length_map]; omega, _, Sub.refl _, _, _, _, _, rfl, by rw [htk]; simp⟩
    by_cases hc : q.cost = 0
    · rw [if_neg (by omega), row_zero hc]
      exact fin _
    · have hlo := tq.lo
      rw [if_pos (by omega)]
      have hrl := row_len tq
      rw [← row_two hc] at hrl
      have l1 : ∀ x y : Str, (x ++ y).length = x.length + y.length := fun x y => by rw [← cs_len, cs_app, List.length_append, cs_len, cs_len]
      rw [l1, l1] at hrl
      refine ⟨by omega, big_log tq.lo tq.hi, ?_⟩
      rw [num_str tq.lo]
      refine ⟨by rw [l1]; omega, ?_⟩
      rw [row_two hc]
      exact fin _
  · rintro τ M' ⟨o2, o3, o4, o5, rfl, rfl⟩
    rw [List.length_map, List.take_length]
    simp? only [rd_m_shown_2, rJoin.eq_2]
    exact ⟨rs.map rowOf, rfl, joins_all t hl, _, Sub.new ha, r⟩
theorem at_last2 {xs : List W} {a b : W} : atI (xs ++ [a, b]) (-2) = some a ∧ atI (xs ++ [a, b]) (-1) = some b := by
  have hl : (xs ++ [a, b]).length = xs.length + 2 := by simp
  have e2 : ixN (xs ++ [a, b]).length (-2) = some xs.length := by
    unfold ixN; rw [if_neg (by decide), hl, if_pos (by omega)]; congr 1; omega
  have e1 : ixN (xs ++ [a, b]).length (-1) = some (xs.length + 1) := by
    unfold ixN; rw [if_neg (by decide), hl, if_pos (by omega)]; congr 1; omega
  unfold atI
  rw [e2, e1]
  constructor
  · show (xs ++ [a, b])[xs.length]? = _; simp
  · show (xs ++ [a, b])[xs.length + 1]? = _; simp
theorem good_written_cost {ws : List W} {M : Mm} {R : K3} (h : sp_written_cost ws M R) : rd_written_cost (ends3 R) (start3 N_written_cost ws) M := by
  obtain ⟨q, rfl, t, r⟩ := h
  show rd_written_cost (ends3 R) [some (.rl ((q.parts ++ costP q).map W.str))] M
  simp? only [rd_written_cost, rd_written_cost_0]
  by_cases hc : q.cost = 0
  · have e0 : q.parts ++ costP q = q.parts := by unfold costP; rw [if_pos hc, List.append_nil]
    rw [e0]
    rw [hc] at r
    by_cases hl : ((q.parts.map W.str).length : Int) < 2
    · rw [if_pos hl]; exact ⟨_, Sub.refl _, r⟩
    · rw [if_neg hl]
      rw [List.length_map] at hl
      obtain ⟨xs, a, b, e⟩ : ∃ xs a b, q.parts = xs ++ [a, b] := by
        rcases List.eq_nil_or_concat q.parts with e | ⟨l1, b, e⟩
        · rw [e] at hl; simp at hl
        · rcases List.eq_nil_or_concat l1 with e2 | ⟨l2, a, e2⟩
          · rw [e, e2] at hl; simp at hl
          · exact ⟨l2, a, b, by rw [e, e2]; simp⟩
      have ha : TP a := t.pt a (by rw [e]; simp)
      rw [e, List.map_append]
      simp? only [List.map_cons, List.map_nil, (at_last2 (xs := xs.map W.str) (a := .str a) (b := .str b)).1]
      rw [if_pos ha.ncol]
      exact ⟨_, Sub.refl _, r⟩
  · have e0 : q.parts ++ costP q = q.parts ++ [(":" : Str), numT q.cost.toNat] := by unfold costP; rw [if_neg hc]
    have hlo := t.lo
    have hpos : 0 < q.cost.toNat := by omega
    have hnat := t.nat
    obtain ⟨l2, l1⟩ := at_last2 (xs := q.parts.map W.str) (a := .str ":") (b := .str (numT q.cost.toNat))
    have e1 : (q.parts ++ costP q).map W.str = q.parts.map W.str ++ [.str ":", .str (numT q.cost.toNat)] := by rw [e0]; simp
    rw [e1, if_neg (by simp; omega)]
    simp? only [l2]
    simp? only [rd_written_cost_1, l1]
    refine ⟨_, rfl, hpos, hnat, ?_⟩
    simp? only []
    rw [if_neg (num_ne hpos)]
    simp? only [rd_written_cost_2, l1, rIntT.eq_1]
    refine ⟨q.cost, by have := num_len hnat; omega, ?_, _, Sub.refl _, r⟩
    rw [num_int hnat, Int.toNat_of_nonneg hlo]
end Rg
set_option Elab.async false
set_option linter.all false
set_option maxRecDepth 100000
set_option maxHeartbeats 4000000
namespace Rg
open PySem PySem.Spec PyProof.Rows L2 L3
theorem row_pieces {r : Rule} (h : TRule r) : (sp 32 (cs (rowOf r))).map (fun p => W.str (toS p)) = (piecesOf r).map W.str := by
  rw [row_cs, sp_jn]
  · rw [List.map_map]
    apply List.map_congr_left
    intro p _
    show W.str (toS (cs p)) = _
    rw [toS_cs]
  · unfold piecesOf; simp
  · intro p hp hm
    obtain ⟨q, hq, rfl⟩ := List.mem_map.mp hp
    have := (pieces_ok h q hq).1 32 hm
    omega
theorem row_cuts {r : Rule} (h : TRule r) : Cuts (rowOf r) 32 := ⟨row_ne h, by have := row_len h; omega, fun c hc => by have := row_ch h c hc; omega, by decide⟩
theorem blank_mk : (" " : Str) = ⟨#[32]⟩ := by decide +kernel
theorem line_mk : ("\n" : Str) = ⟨#[10]⟩ := by decide +kernel
theorem part_good {p : Str} (h : TP p) : (wwB p || wnB p) = true := by
  rcases h with h | h
  · rw [h.ww]; rfl
  · rw [h.wn, Bool.or_true]
theorem good_read_rule {ws : List W} {M : Mm} {R : K3} (h : sp_read_rule ws M R) : rd_read_rule (ends3 R) (start3 N_read_rule ws) M := by
  obtain ⟨q, rfl, t, r⟩ := h
  show rd_read_rule (ends3 R) [some (.str (rowOf q)), none, none, none] M
  have hf := t.few
  have hlo := t.lo
  simp? only [rd_read_rule, rd_read_rule_0, rSplit.eq_1]
  refine ⟨32, blank_mk, row_cuts t, New.frz ?_⟩
  rw [row_pieces t]
  have ep : (piecesOf q).map W.str = .str q.name :: .str "=" :: (q.parts ++ costP q).map W.str := by unfold piecesOf; simp
  rw [ep]
  simp? only [rd_read_rule_1]
  rw [if_neg (by simp; omega)]
  refine ⟨q.name, rfl, by have := t.nm.hd.len; omega, ?_⟩
  rw [t.nm.wn]
  simp? only []
  have tail : ∀ ps : List W, ps = q.parts.map W.str → (vSeq rd_read_rule_4 rd_read_rule_5) (ends3 R) [some (.str (rowOf q)), some (.rl (.str q.name :: .str "=" :: (q.parts ++ costP q).map W.str)), some (.int q.cost), some (.rl ps)] M := by
    rintro ps rfl
    simp? only [rd_read_rule_4]
    refine map1 (rest := []) (fun w => .bl true) (small (by rw [List.length_map]; omega)) (fun _ _ => trivial) (fun w hw M' C sb h1 => ?_) (New.frz ?_)
    · obtain ⟨p, hp, rfl⟩ := List.mem_map.mp hw
      have hg := part_good (t.pt p hp)
      have hl := (t.pt p hp).len
      simp? only []
      refine ⟨p, rfl, by omega, ?_⟩
      simp? only []
      cases hw : wwB p with
      | true => rw [if_pos rfl]; exact h1
      | false =>
        rw [if_neg (by simp)]
        rw [hw, Bool.false_or] at hg
        exact ⟨p, rfl, by omega, by rw [hg]; exact h1⟩
    · have eb : (q.parts.map W.str).map (fun _ => W.bl true) = bools (q.parts.map fun _ => true) := by unfold bools; rw [List.map_map, List.map_map]; rfl
      rw [eb]
      simp? only [rAll.eq_2]
      refine ⟨_, rfl, ?_⟩
      have ea : (q.parts.map fun _ => true).all id = true := by simp
      rw [ea]
      simp? only []
      simp? only [rd_read_rule_5]
      exact ⟨_, Sub.refl _, r⟩
  obtain ⟨tl, htl⟩ : ∃ x, x = (vSeq rd_read_rule_4 rd_read_rule_5) := ⟨_, rfl⟩
  rw [← htl] at tail ⊢
  simp? only [rd_read_rule_2]
  have ec : cutW (.str q.name :: .str "=" :: (q.parts ++ costP q).map W.str) (some 2) none = (q.parts ++ costP q).map W.str := by rw [cut_suf (by decide)]; rfl
  rw [ec]
  refine ⟨q, rfl, t, ?_⟩
  simp? only [rd_read_rule_3]
  by_cases hc : q.cost = 0
  · rw [if_pos hc]
    exact tail _ (by rw [ec]; unfold costP; rw [if_pos hc, List.append_nil])
  · rw [if_neg hc]
    refine tail _ ?_
    have e0 : q.parts ++ costP q = q.parts ++ [(":" : Str), numT q.cost.toNat] := by unfold costP; rw [if_neg hc]
    rw [e0]
    unfold cutW
    have hlen : (W.str q.name :: W.str "=" :: (q.parts ++ [(":" : Str), numT q.cost.toNat]).map W.str).length = q.parts.length + 4 := by simp
    have s1 : HT.sIx (q.parts.length + 4) 0 (some 2) = 2 := by rw [show (2 : Int) = ((2 : Nat) : Int) from rfl, HT.sIx_nat]; omega
    have s2 : HT.sIx (q.parts.length + 4) (q.parts.length + 4) (some (-2)) = q.parts.length + 2 := by
      show (if (-2 : Int) < 0 then ((-2 : Int) + ((q.parts.length + 4 : Nat) : Int)).toNat else min (-2 : Int).toNat (q.parts.length + 4)) = _
      rw [if_pos (by decide)]; omega
    rw [hlen, s1, s2]
    show List.take _ ((q.parts ++ [(":" : Str), numT q.cost.toNat]).map W.str) = _
    rw [List.map_append, show q.parts.length + 2 - 2 = (q.parts.map W.str).length by simp, List.take_left]
theorem row_inj {q p : Rule} (hq : TRule q) (hp : TRule p) (e : rowOf q = rowOf p) : q = p := by
  have e1 := row_pieces hq
  rw [e, row_pieces hp] at e1
  have e2 : piecesOf p = piecesOf q := (List.map_inj_right (fun x y z => by cases z; rfl)).mp e1
  unfold piecesOf at e2
  simp only [List.cons_append, List.nil_append, List.cons.injEq, true_and] at e2
  obtain ⟨en, e3⟩ := e2
  have key : ∀ {a b : Rule}, TRule a → TRule b → a.parts ++ costP a = b.parts ++ costP b → a.parts = b.parts ∧ a.cost = b.cost := by
    intro a b ha hb e
    have no : ∀ {a b : Rule}, TRule a → b.cost ≠ 0 → a.cost = 0 → a.parts ++ costP a = b.parts ++ costP b → False := by
      intro a b ha h1 h2 e
      unfold costP at e
      rw [if_pos h2, if_neg h1, List.append_nil] at e
      exact (ha.pt ":" (by rw [e]; simp)).ncol rfl
    by_cases h1 : a.cost = 0
    · by_cases h2 : b.cost = 0
      · unfold costP at e
        rw [if_pos h1, if_pos h2, List.append_nil, List.append_nil] at e
        exact ⟨e, by rw [h1, h2]⟩
      · exact (no ha h2 h1 e).elim
    · by_cases h2 : b.cost = 0
      · exact (no hb h1 h2 e.symm).elim
      · unfold costP at e
        rw [if_neg h1, if_neg h2] at e
        have hl : a.parts.length = b.parts.length := by have := congrArg List.length e; simp at this; exact this
        obtain ⟨g1, g2⟩ := List.append_inj e hl
        simp only [List.cons.injEq, true_and, and_true] at g2
        refine ⟨g1, ?_⟩
        have n1 := num_int ha.nat
        have n2 := num_int hb.nat
        rw [g2, n2, Int.toNat_of_nonneg ha.lo, Int.toNat_of_nonneg hb.lo] at n1
        exact (Option.some.inj n1).symm
  obtain ⟨k1, k2⟩ := key hp hq e3
  cases q; cases p
  simp at en k1 k2
  simp [en, k1, k2]
theorem good_read_grammar {ws : List W} {M : Mm} {R : K3} (h : sp_read_grammar ws M R) : rd_read_grammar (ends3 R) (start3 N_read_grammar ws) M := by
  obtain ⟨rs, rfl, g, t, r⟩ := h
  show rd_read_grammar (ends3 R) [some (.str (shownT rs))] M
  have hl := g.few
  have hcs : cs (shownT rs) = jn 10 (rs.map fun q => cs (rowOf q)) := by unfold shownT; rw [cs_join cs_row, List.map_map]; rfl
  have hps : (sp 10 (cs (shownT rs))).map (fun p => W.str (toS p)) = rs.map fun q => W.str (rowOf q) := by
    rw [hcs, sp_jn]
    · rw [List.map_map]
      apply List.map_congr_left
      intro p _
      show W.str (toS (cs (rowOf p))) = _
      rw [toS_cs]
    · have := g.ne
      cases rs with
      | nil => exact absurd rfl this
      | cons a b => simp
    · intro p hp hm
      obtain ⟨q, hq, rfl⟩ := List.mem_map.mp hp
      have := row_ch (t q hq) 10 hm
      omega
  have hcut : Cuts (shownT rs) 10 := by
    refine ⟨?_, ?_, fun c hc => ?_, by decide⟩
    · rw [← cs_len, hcs]
      obtain ⟨a, b, e⟩ : ∃ a b, rs = a :: b := by cases rs with | nil => exact absurd rfl g.ne | cons a b => exact ⟨a, b, rfl⟩
      have ha := row_ne (t a (by rw [e]; simp))
      rw [← cs_len] at ha
      rw [e]
      cases b with
      | nil => exact ha
      | cons b c => rw [List.map_cons, List.map_cons, jn, List.length_append]; omega
    · rw [← cs_len, hcs]
      have h1 := jn_len (c := 10) (B := 488) (ps := rs.map fun q => cs (rowOf q)) fun p hp => by
        obtain ⟨q, hq, rfl⟩ := List.mem_map.mp hp
        rw [cs_len]; exact row_len (t q hq)
      rw [List.length_map] at h1
      omega
    · rw [hcs] at hc
      rcases jn_mem hc with rfl | ⟨p, hp, hm⟩
      · decide
      · obtain ⟨q, hq, rfl⟩ := List.mem_map.mp hp
        have := row_ch (t q hq) c hm
        omega
  simp? only [rd_read_grammar, rSplit.eq_1]
  refine ⟨10, line_mk, hcut, New.frz ?_⟩
  rw [hps]
  refine map1R (rest := []) (fun w y => ∃ q ∈ rs, w = .str (rowOf q) ∧ y = ruleW q) (small (by rw [List.length_map]; omega)) (fun _ _ => trivial) (fun w hw M' C sb h1 => ?_) fun ys hys => New.frz ?_
  · obtain ⟨q, hq, rfl⟩ := List.mem_map.mp hw
    simp? only []
    exact ⟨q, rfl, t q hq, h1 _ ⟨q, hq, rfl, rfl⟩⟩
  · have e := back hys t t
    subst e
    exact ⟨rs, rfl, g, fun p hp => ⟨_, Sub.refl _, r p hp⟩⟩
where
  back : ∀ {rs rs' : List Rule} {ys : List W}, Paired (fun w y => ∃ q ∈ rs', w = W.str (rowOf q) ∧ y = ruleW q) (rs.map fun q => W.str (rowOf q)) ys → (∀ r ∈ rs, TRule r) → (∀ r ∈ rs', TRule r) → ys = rs.map ruleW
    | [], _, _, .nil, _, _ => rfl
    | q :: rs, rs', _, .cons ⟨q2, h2, e1, e2⟩ p, t, t' => by
      have e3 := back p (fun r hr => t r (List.mem_cons_of_mem _ hr)) t'
      have e4 : q = q2 := row_inj (t q (by simp)) (t' q2 h2) (W.str.inj e1)
      rw [e3, e2, e4]; rfl
end Rg
set_option Elab.async false
set_option linter.all false
set_option maxRecDepth 100000
set_option maxHeartbeats 4000000
namespace Rg
open PySem PySem.Spec PyProof.Rows L2 L3
theorem cs_join0 : ∀ xs : List Str, cs (Str.join "" xs) = (xs.map cs).flatten
  | [] => rfl
  | [x] => by simp [Str.join]
  | x :: y :: r => by
    show cs (x ++ "" ++ Str.join "" (y :: r)) = _
    rw [cs_app, cs_app, cs_join0 (y :: r), show cs ("" : Str) = [] from cs_empty]; simp
def chS (c : Nat) : Str := ⟨#[c]⟩
theorem signs_of {L : List Nat} : ∀ {ws ys : List W}, Paired (fun _ y => ∃ c ∈ L, y = W.str (chS c)) ws ys → ∃ ds : List Nat, ys = (ds.map chS).map W.str ∧ ds.length = ws.length ∧ ∀ c ∈ ds, c ∈ L
  | _, _, .nil => ⟨[], rfl, rfl, by simp⟩
  | _, _, .cons ⟨c, hc, e⟩ t => by
    obtain ⟨ds, e2, e3, h⟩ := signs_of t
    subst e e2
    exact ⟨c :: ds, rfl, by simp [e3], fun x hx => by rcases List.mem_cons.mp hx with rfl | hx; exact hc; exact h x hx⟩
theorem cs_glue (ds : List Nat) : cs (Str.join "" (ds.map chS)) = ds := by
  rw [cs_join0, List.map_map]
  induction ds with
  | nil => rfl
  | cons d ds ih => rw [List.map_cons, List.flatten_cons, ih]; rfl
theorem joins0 {ds : List Nat} (h : ds.length ≤ 1000) : Joins "" (ds.map chS) := ⟨1, fun y hy => by
  obtain ⟨c, _, rfl⟩ := List.mem_map.mp hy; exact Nat.le_refl _, by
  have e : ("" : Str).length = 0 := by decide +kernel
  rw [e, List.length_map]; omega⟩
theorem sign_at {z : Str} {i n : Int} (hn : n = (cs z).length) (h0 : 0 < n) (hz : z.length ≤ 1000) {M : Mm} {R : K3} (r : ∀ c ∈ cs z, R (.str (chS c)) M) : rIx (.str z) (.int (i % n)) M R := by
  rw [rIx_q6]
  refine ⟨small (by omega), ?_⟩
  obtain ⟨c, e, m⟩ := atI_sel (xs := cs z) (i := i) (n := n) hn h0
  exact ⟨c, e, r c m⟩
theorem range_mem {n : Nat} {w : W} (h : w ∈ rangeW 0 n) : ∃ j : Nat, j < n ∧ w = .int ((0 : Int) + (j : Int)) := by
  unfold rangeW at h
  obtain ⟨j, hj, rfl⟩ := List.mem_map.mp h
  exact ⟨j, List.mem_range.mp hj, rfl⟩
theorem range_len {lo : Int} {n : Nat} : (rangeW lo n).length = n := by unfold rangeW; simp
theorem nine : cs ("eatonihsr" : Str) = [101, 97, 116, 111, 110, 105, 104, 115, 114] := by decide +kernel
theorem eight : cs ("QXYZABMN" : Str) = [81, 88, 89, 90, 65, 66, 77, 78] := by decide +kernel
theorem good_m_word {ws : List W} {M : Mm} {R : K3} (h : sp_m_word ws M R) : rd_m_word (ends3 R) (start3 N_m_word ws) M := by
  obtain ⟨n, rfl, r⟩ := h
  show rd_m_word (ends3 R) [some (.int n)] M
  simp? only [rd_m_word]
  have b1 := Int.emod_nonneg (n / 5) (show (8 : Int) ≠ 0 by decide)
  have b2 := Int.emod_lt_of_pos (n / 5) (show (0 : Int) < 8 by decide)
  refine ⟨_, rfl, by omega, by omega, ?_⟩
  refine map1R (rest := [some (.int n)]) (fun _ y => ∃ c ∈ cs ("eatonihsr" : Str), y = .str (chS c)) (small (by rw [range_len]; omega)) (fun _ _ => trivial) (fun w hw M' C sb h1 => ?_) fun ys hys => New.frz ?_
  · obtain ⟨j, hj, rfl⟩ := range_mem hw
    simp? only []
    refine ⟨cdiv (by omega) (by omega), ?_⟩
    exact sign_at (by rw [nine]; rfl) (by decide) (by decide +kernel) fun c hc => h1 _ ⟨c, hc, rfl⟩
  · obtain ⟨ds, rfl, hl, hd⟩ := signs_of hys
    rw [range_len] at hl
    simp? only [rJoin.eq_1]
    refine ⟨ds.map chS, rfl, joins0 (by omega), _, Sub.refl _, r _ ⟨⟨?_, ?_, ?_⟩, ?_⟩⟩
    · rw [← cs_len, cs_glue]; omega
    · rw [cs_glue]; intro z; rw [z] at hl; simp at hl; omega
    · rw [cs_glue]; intro c hc
      have key : ∀ c ∈ cs ("eatonihsr" : Str), c ∈ cs SMALL := by decide +kernel
      exact key c (hd c hc)
    · rw [← cs_len, cs_glue]; omega
theorem name_plain {ds : List Nat} (h0 : ds ≠ []) (hl : ds.length ≤ 8) (hd : ∀ c ∈ ds, c ∈ cs ("QXYZABMN" : Str)) : TN (toS ds) := by
  have key : ∀ c ∈ cs ("QXYZABMN" : Str), c ∈ cs GREAT := by decide +kernel
  have hg : ∀ c ∈ cs (toS ds), c ∈ cs GREAT := fun c hc => by rw [cs_toS] at hc; exact key c (hd c hc)
  have hne : cs (toS ds) ≠ [] := by rw [cs_toS]; exact h0
  have hnm := name_letters hne hg
  have h95 : 95 ∉ cs (toS ds) := fun z => by
    have k2 : 95 ∉ cs GREAT := by decide +kernel
    exact k2 (hg 95 z)
  have hlen : (toS ds).length = ds.length := by rw [← cs_len, cs_toS]
  refine ⟨⟨by omega, hnm, ?_, fun c hc => great_asc c (hg c hc)⟩, ?_, fun c hc => .inl (hg c hc)⟩
  · rw [cs_toS]
    cases ds with
    | nil => exact absurd rfl h0
    | cons c r => exact ⟨c, r, rfl, key c (hd c (by simp))⟩
  · unfold wnB
    rw [hnm, part_none h95]
    have : Str.empty.length = 0 := by decide +kernel
    simp [this]; omega
theorem name_figs {ds : List Nat} {m : Nat} (h0 : ds ≠ []) (hl : ds.length ≤ 8) (hd : ∀ c ∈ ds, c ∈ cs ("QXYZABMN" : Str)) (hm : m < 10000) : TN (toS ds ++ "_" ++ numT m) := by
  have key : ∀ c ∈ cs ("QXYZABMN" : Str), c ∈ cs GREAT := by decide +kernel
  have hg : ∀ c ∈ cs (toS ds), c ∈ cs GREAT := fun c hc => by rw [cs_toS] at hc; exact key c (hd c hc)
  have hne : cs (toS ds) ≠ [] := by rw [cs_toS]; exact h0
  obtain ⟨f1, f2⟩ := figs_of (m := m)
  have ez : cs (toS ds ++ "_" ++ numT m) = cs (toS ds) ++ 95 :: cs (numT m) := by rw [cs_app, cs_app, cs_under]; simp
  have hnm := name_figures ez hne hg f2 f1
  have h95 : 95 ∉ cs (toS ds) := fun z => by
    have k2 : 95 ∉ cs GREAT := by decide +kernel
    exact k2 (hg 95 z)
  have hlen : (toS ds).length = ds.length := by rw [← cs_len, cs_toS]
  have hml : (numT m).length ≤ 4 := by
    rw [← cs_len, cs_num, List.length_map]
    exact (Nat.length_toDigits_le_iff (by decide) (by decide)).mpr hm
  have hch : ∀ c ∈ cs (toS ds ++ "_" ++ numT m), c ∈ cs GREAT ∨ c = 95 ∨ c ∈ cs FIGS := fun c hc => by
    rw [ez] at hc
    rcases List.mem_append.mp hc with hc | hc
    · exact .inl (hg c hc)
    · rcases List.mem_cons.mp hc with hc | hc
      · exact .inr (.inl hc)
      · exact .inr (.inr (f1 c hc))
  refine ⟨⟨?_, hnm, ?_, fun c hc => ?_⟩, ?_, hch⟩
  · rw [← cs_len, ez, List.length_append, List.length_cons, cs_len, cs_len]; omega
  · rw [ez, cs_toS]
    cases ds with
    | nil => exact absurd rfl h0
    | cons c r => exact ⟨c, _, rfl, key c (hd c (by simp))⟩
  · rcases hch c hc with h | h | h
    · exact great_asc c h
    · omega
    · exact figs_asc c h
  · unfold wnB
    rw [hnm, part_one ez h95]
    simp [hml]; omega
end Rg
set_option Elab.async false
set_option linter.all false
set_option maxRecDepth 100000
set_option maxHeartbeats 4000000
namespace Rg
open PySem PySem.Spec PyProof.Rows L2 L3
theorem flat_strs : ∀ {xs : List Str}, (xs.map W.str).all flatW = true
  | [] => rfl
  | x :: xs => by rw [List.map_cons, List.all_cons, flat_strs]; rfl
theorem glue_toS (ds : List Nat) : Str.join "" (ds.map chS) = toS ds := cs_inj (by rw [cs_glue, cs_toS])
def rd_ht : TS3 :=
      (vIfS (vTest (vOp (rIn true) (vVar 3) (vVar 1)))
        (vDrop (vBM "list" rApp (vVar 1) (aCons (vVar 3) aNil)))
        vNext)
theorem hb_eq : rd_m_heads_b1 = vSeq (vSet 2 (vOp rMod (vVar 2) (vOp rPow (vC (.int 10)) (vC (.int 40))))) (vSeq (vSet 3 (vBM "str" rJoin (vC (.str "")) (aCons (vFrz (vComp (iR1 (aCons (vOp rAddF (vC (.int 1)) (vOp rMod (vOp rFdiv (vVar 2) (vC (.int 9))) (vC (.int 8)))) aNil)) (wName 0) vTrue (vOp rIx (vC (.str "QXYZABMN")) (vOp rMod (vOp rAddF (vOp rFdiv (vVar 1) (vOp rAddF (vVar 0) (vC (.int 1)))) (vOp rMulF (vVar 0) (vVar 0))) (vC (.int 8)))) [none, some 2])) aNil))) (vSeq (vIfS (vTest (vOp (rEq false) (vOp rMod (vVar 2) (vC (.int 3))) (vC (.int 0))))
        (vSet 3 (vOp rAddF (vOp rAddF (vVar 3) (vC (.str "_"))) (vCB rStr (aCons (vOp rMod (vOp rFdiv (vVar 2) (vC (.int 3))) (vOp rIx (vLstF (aCons (vC (.int 10)) (aCons (vC (.int 10000)) aNil))) (vOp rMod (vOp rFdiv (vVar 2) (vC (.int 70))) (vC (.int 2))))) aNil))))
        vNext) rd_ht)) := rfl
theorem good_m_heads {ws : List W} {M : Mm} {R : K3} (h : sp_m_heads ws M R) : rd_m_heads (ends3 R) (start3 N_m_heads ws) M := by
  obtain ⟨zs, rfl, hi, z0, z1, r⟩ := h
  show rd_m_heads (ends3 R) [some (.rl zs), none, none, none] M
  simp? only [rd_m_heads, rd_m_heads_0, rd_m_heads_1]
  intro a ha
  refine for3 (fun i τ M' => ∃ (hs : List Str) (o2 o3 : Option W), τ = [some (.rl zs), some (.ref a), o2, o3] ∧ M' = put M a (.lst (hs.map W.str)) ∧ (∀ h ∈ hs, TN h) ∧ hs.length ≤ i ∧ (0 < i → 0 < hs.length)) ⟨[], _, _, rfl, rfl, by simp, Nat.le_refl _, by omega⟩ (fun _ _ _ _ _ => trivial) ?_ ?_
  · rintro i w τ M' hw ⟨hs, o2, o3, rfl, rfl, ok, hl, hp⟩
    have hil := (List.getElem?_eq_some_iff.mp hw).1
    obtain ⟨c0, rfl⟩ := hi w (List.mem_of_getElem? hw)
    rw [hb_eq]
    simp? only []
    refine ⟨⟨by decide, by decide, by decide⟩, ?_⟩
    refine ⟨by decide, ?_⟩
    have c1 := Int.emod_nonneg c0 (show (10 : Int) ^ (40 : Int).toNat ≠ 0 by decide)
    generalize c0 % 10 ^ (40 : Int).toNat = c at c1
    have b1 := Int.emod_nonneg (c / 9) (show (8 : Int) ≠ 0 by decide)
    have b2 := Int.emod_lt_of_pos (c / 9) (show (0 : Int) < 8 by decide)
    refine ⟨_, rfl, by omega, by omega, ?_⟩
    refine map1R (rest := [some (.int c)]) (fun _ y => ∃ d ∈ cs ("QXYZABMN" : Str), y = .str (chS d)) (small (by rw [range_len]; omega)) (fun _ _ => trivial) (fun w hw M' C sb h1 => ?_) fun ys hys => New.frz ?_
    · obtain ⟨j, hj, rfl⟩ := range_mem hw
      simp? only []
      refine ⟨cdiv (by omega) (by omega), .inl (.inl ⟨by omega, by omega⟩), ?_⟩
      exact sign_at (by rw [eight]; rfl) (by decide) (by decide +kernel) fun c hc => h1 _ ⟨c, hc, rfl⟩
    obtain ⟨ds, rfl, hdl, hd⟩ := signs_of hys
    rw [range_len] at hdl
    simp? only [rJoin.eq_1]
    refine ⟨ds.map chS, rfl, joins0 (by omega), ?_⟩
    rw [glue_toS]
    have h0 : ds ≠ [] := fun z => by rw [z] at hdl; simp at hdl; omega
    have h8 : ds.length ≤ 8 := by omega
    have go : ∀ (D : D3) (nm : Str), TN nm → (∀ τ' M', (∃ M'', L3.Sub M'' M' ∧ ∃ (hs : List Str) (o2 o3 : Option W), τ' = [some (.rl zs), some (.ref a), o2, o3] ∧ M'' = put M a (.lst (hs.map W.str)) ∧ (∀ h ∈ hs, TN h) ∧ hs.length ≤ i + 1 ∧ (0 < i + 1 → 0 < hs.length)) → D.nx τ' M') → rd_ht D [some (.rl zs), some (.ref a), some (.int c), some (.str nm)] (put M a (.lst (hs.map W.str))) := fun D nm tn k => by
      simp? only [rd_ht, L3.rIn]
      refine .inl ⟨rfl, flat_strs, ?_⟩
      cases hin : inW (.str nm) (hs.map W.str) with
      | true =>
        rw [if_neg (by simp)]
        refine k _ _ ⟨_, Sub.refl _, hs, _, _, rfl, rfl, ok, by omega, fun _ => ?_⟩
        cases hs with
        | nil => cases hin
        | cons x y => simp
      | false =>
        rw [if_pos rfl]
        refine ⟨by rw [List.length_map]; exact smallT (by omega), k _ _ ⟨_, Sub.refl _, hs ++ [nm], _, _, rfl, by rw [List.map_append]; rfl, fun h hh => ?_, by rw [List.length_append]; simp; omega, fun _ => by rw [List.length_append]; simp⟩⟩
        rcases List.mem_append.mp hh with hh | hh
        · exact ok h hh
        · rw [List.mem_singleton.mp hh]; exact tn
    by_cases h3 : c % 3 = 0
    · rw [if_pos h3]
      have l1 : ∀ x y : Str, (x ++ y).length = x.length + y.length := fun x y => by rw [← cs_len, cs_app, List.length_append, cs_len, cs_len]
      have e1 : (toS ds).length = ds.length := by rw [← cs_len, cs_toS]
      have e2 : ("_" : Str).length = 1 := by decide +kernel
      refine ⟨by rw [e1, e2]; omega, ?_⟩
      obtain ⟨x, ex, mx⟩ := atI_sel (xs := [W.int 10, W.int 10000]) (i := c / 70) (n := 2) rfl (by decide)
      obtain ⟨top, rfl, ht⟩ : ∃ top : Int, x = .int top ∧ (top = 10 ∨ top = 10000) := by
        simp at mx
        rcases mx with rfl | rfl
        · exact ⟨10, rfl, .inl rfl⟩
        · exact ⟨10000, rfl, .inr rfl⟩
      refine ⟨_, ex, ?_⟩
      simp? only []
      have t1 := Int.emod_nonneg (c / 3) (show top ≠ 0 by omega)
      have t2 := Int.emod_lt_of_pos (c / 3) (show 0 < top by omega)
      refine ⟨by omega, big_log t1 (by omega), ?_⟩
      rw [num_str t1]
      have hm : (c / 3 % top).toNat < 10000 := by omega
      have hml : (numT (c / 3 % top).toNat).length ≤ 60 := num_len (by omega)
      refine ⟨by rw [l1, e1, e2]; omega, ?_⟩
      exact go _ _ (name_figs h0 h8 hd hm) fun _ _ h => h
    · rw [if_neg h3]
      exact go _ _ (name_plain h0 h8 hd) fun _ _ h => h
  · rintro τ M' ⟨hs, o2, o3, rfl, rfl, ok, hl, hp⟩
    simp? only [rd_m_heads_2]
    exact New.frz (R := fun w M' => ∃ M'', L3.Sub M'' M' ∧ R w M'') ⟨_, Sub.refl _, r hs ok (hp z0) (by omega)⟩ a ha
end Rg
set_option Elab.async false
set_option linter.all false
set_option maxRecDepth 100000
set_option maxHeartbeats 4000000
namespace Rg
open PySem PySem.Spec PyProof.Rows L2 L3
theorem sel_str {hs : List Str} {i n : Int} (hn : n = ((hs.map W.str).length : Nat)) (h0 : 0 < n) : ∃ h ∈ hs, atI (hs.map W.str) (i % n) = some (.str h) := by
  obtain ⟨x, ex, mx⟩ := atI_sel (xs := hs.map W.str) (i := i) (n := n) hn h0
  obtain ⟨h, hh, rfl⟩ := List.mem_map.mp mx
  exact ⟨h, hh, ex⟩
theorem good_m_rule {ws : List W} {M : Mm} {R : K3} (h : sp_m_rule ws M R) : rd_m_rule (ends3 R) (start3 N_m_rule ws) M := by
  obtain ⟨c0, k, hs, rfl, k0, h0, h1, tn, r⟩ := h
  show rd_m_rule (ends3 R) [some (.int c0), some (.int k), some (.rl (hs.map W.str)), none, none, none, none] M
  simp? only [rd_m_rule, rd_m_rule_0]
  refine ⟨⟨by decide, by decide, by decide⟩, by decide, ?_⟩
  have c1 := Int.emod_nonneg c0 (show (10 : Int) ^ (40 : Int).toNat ≠ 0 by decide)
  have c2 : c0 % 10 ^ (40 : Int).toNat < 10 ^ 40 := Int.emod_lt_of_pos c0 (by decide)
  generalize c0 % 10 ^ (40 : Int).toNat = c at c1 c2
  simp? only [rd_m_rule_1]
  obtain ⟨nm0, hm0, e0⟩ := sel_str (hs := hs) (i := c / 7) (n := ((hs.map W.str).length : Nat)) rfl (by rw [List.length_map]; omega)
  refine ⟨by rw [List.length_map]; omega, _, e0, ?_⟩
  obtain ⟨rest, hrest⟩ : ∃ x, x = (vSeq rd_m_rule_3 (vSeq rd_m_rule_4 rd_m_rule_5)) := ⟨_, rfl⟩
  have go : ∀ nm ∈ hs, (∀ h, hs[k.toNat]? = some h → nm = h) → rest (ends3 R) [some (.int c), some (.int k), some (.rl (hs.map W.str)), some (.str nm), none, none, none] M := by
    intro nm hm hk
    rw [hrest]
    simp? only [rd_m_rule_3]
    intro a ha
    simp? only [rd_m_rule_4]
    have b1 := Int.emod_nonneg c (show (5 : Int) ≠ 0 by decide)
    have b2 := Int.emod_lt_of_pos c (show (0 : Int) < 5 by decide)
    refine ⟨_, rfl, by omega, by omega, ?_⟩
    refine for3 (fun i τ M' => ∃ (ps : List Str) (o5 o6 : Option W), τ = [some (.int c), some (.int k), some (.rl (hs.map W.str)), some (.str nm), some (.ref a), o5, o6] ∧ M' = put M a (.lst (ps.map W.str)) ∧ (∀ p ∈ ps, TW p ∨ p ∈ hs) ∧ ps.length ≤ i) ⟨[], _, _, rfl, rfl, by simp, Nat.le_refl _⟩ (fun _ _ _ _ _ => trivial) ?_ ?_
    · rintro i w τ M' hw ⟨ps, o5, o6, rfl, rfl, ok, hl⟩
      obtain ⟨j, hj, rfl⟩ := range_mem (List.mem_of_getElem? hw)
      have hil := (List.getElem?_eq_some_iff.mp hw).1
      rw [range_len] at hil
      simp? only [rd_m_rule_b4]
      refine ⟨.inl (.inr ⟨by decide, by decide⟩), cdiv (by omega) (by omega), ⟨by decide, by decide, by decide⟩, by decide, ?_⟩
      generalize (c + (0 + (j : Int)) * 7919) / (11 + (0 + (j : Int))) % 10 ^ (20 : Int).toNat = one
      refine ⟨_, rfl, fun wd hwd => ?_⟩
      obtain ⟨nm2, hm2, e2⟩ := sel_str (hs := hs) (i := one / 2) (n := ((hs.map W.str).length : Nat)) rfl (by rw [List.length_map]; omega)
      simp? only []
      refine ⟨by rw [List.length_map]; omega, _, e2, ?_⟩
      obtain ⟨x, ex, mx⟩ := atI_sel (xs := [W.str wd, W.str nm2]) (i := one) (n := 2) rfl (by decide)
      obtain ⟨p, rfl, hp⟩ : ∃ p : Str, x = .str p ∧ (TW p ∨ p ∈ hs) := by
        simp at mx
        rcases mx with rfl | rfl
        · exact ⟨_, rfl, .inl hwd⟩
        · exact ⟨_, rfl, .inr hm2⟩
      refine ⟨_, ex, ?_⟩
      refine ⟨by rw [List.length_map]; exact smallT (by omega), _, Sub.refl _, ps ++ [p], _, _, rfl, by rw [List.map_append]; rfl, fun y hy => ?_, by rw [List.length_append]; simp; omega⟩
      rcases List.mem_append.mp hy with hy | hy
      · exact ok y hy
      · rw [List.mem_singleton.mp hy]; exact hp
    · rintro τ M' ⟨ps, o5, o6, rfl, rfl, ok, hl⟩
      rw [range_len] at hl
      simp? only [rd_m_rule_5]
      have d1 := Int.emod_nonneg (c / 50) (show (12 : Int) ≠ 0 by decide)
      have d2 := Int.emod_lt_of_pos (c / 50) (show (0 : Int) < 12 by decide)
      have d3 := Int.emod_nonneg ((c + 1) * (c + 3)) (show (10 : Int) ^ (60 : Int).toNat ≠ 0 by decide)
      have d4 := Int.emod_lt_of_pos ((c + 1) * (c + 3)) (show (0 : Int) < (10 : Int) ^ (60 : Int).toNat by decide)
      have d5 : (10 : Int) ^ (60 : Int).toNat = 10 ^ 60 := rfl
      have big : ∀ x : Int, 0 ≤ x → x ≤ 10 ^ 40 + 3 → x.natAbs < 2 ^ 4096 := fun x x1 x2 => by
        have : x.natAbs < 2 ^ 200 := by
          have h2 : (10 : Nat) ^ 40 + 3 < 2 ^ 200 := by decide
          omega
        exact Nat.lt_of_lt_of_le this (Nat.pow_le_pow_right (by decide) (by decide))
      refine ⟨.inr ⟨big _ (by omega) (by omega), big _ (by omega) (by omega)⟩, ⟨by decide, by decide, by decide⟩, by decide, ?_⟩
      obtain ⟨x, ex, mx⟩ := atI_sel (xs := [W.int 0, W.int 0, W.int (c / 50 % 12), W.int ((c + 1) * (c + 3) % 10 ^ (60 : Int).toNat)]) (i := c / 5) (n := 4) rfl (by decide)
      obtain ⟨v, rfl, v0, v1⟩ : ∃ v : Int, x = .int v ∧ 0 ≤ v ∧ v < 10 ^ 60 := by
        rw [d5] at d4
        simp only [List.mem_cons, List.not_mem_nil, or_false] at mx
        rcases mx with rfl | rfl | rfl | rfl
        · exact ⟨_, rfl, by decide, by decide⟩
        · exact ⟨_, rfl, by decide, by decide⟩
        · exact ⟨_, rfl, d1, Int.lt_trans d2 (by decide)⟩
        · exact ⟨_, rfl, d3, d4⟩
      refine ⟨_, ex, _, Sub.new ha, ?_⟩
      exact r ⟨nm, ps, v⟩ ⟨tn nm hm, fun p hp => (ok p hp).imp id (tn p), by show ps.length ≤ 4; omega, v0, v1⟩ hm ok hk
  rw [← hrest]
  simp? only [rd_m_rule_2]
  by_cases hk : k < ((hs.map W.str).length : Int)
  · rw [if_pos hk]
    rw [List.length_map] at hk
    obtain ⟨nm, hn⟩ : ∃ nm, hs[k.toNat]? = some nm := ⟨_, List.getElem?_eq_getElem (by omega)⟩
    have e1 : atI (hs.map W.str) k = some (.str nm) := by
      obtain ⟨y, f1, f2, _⟩ := atI_of (xs := hs.map W.str) (i := k) k0 (by rw [List.length_map]; exact hk)
      rw [List.getElem?_map, hn] at f2
      cases f2; exact f1
    refine ⟨_, e1, ?_⟩
    exact go nm (List.mem_of_getElem? hn) fun h hh => by rw [hn] at hh; cases hh; rfl
  · rw [if_neg hk]
    rw [List.length_map] at hk
    exact go nm0 hm0 fun h hh => by
      have := (List.getElem?_eq_some_iff.mp hh).1
      omega
end Rg
set_option Elab.async false
set_option linter.all false
set_option maxRecDepth 100000
set_option maxHeartbeats 4000000
namespace Rg
open PySem PySem.Spec PyProof.Rows L2 L3
theorem good_rules {hs : List Str} {rs : List Rule} (h0 : rs ≠ []) (hl : rs.length ≤ 60) (hhl : hs.length ≤ 12) (tn : ∀ h ∈ hs, TN h) (t : ∀ r ∈ rs, TRule r) (hn : ∀ r ∈ rs, r.name ∈ hs) (hp : ∀ r ∈ rs, ∀ p ∈ r.parts, TW p ∨ p ∈ hs) (ha : ∀ h ∈ hs, ∃ r ∈ rs, r.name = h) : GoodRules rs := by
  refine ⟨h0, hl, hs, (rs.flatMap Rule.parts).filter fun p => !isNameB p, hhl, fun h hh => (tn h hh).hd, fun p hp' => ?_, fun r hr => ⟨hn r hr, fun p hpm => ?_, (t r hr).few, (t r hr).lo, (t r hr).hi⟩, ha⟩
  · obtain ⟨h1, h2⟩ := List.mem_filter.mp hp'
    obtain ⟨r, hr, hpm⟩ := List.mem_flatMap.mp h1
    rcases hp r hr p hpm with h | h
    · exact h.wd
    · rw [(tn p h).hd.nm] at h2; cases h2
  · rcases hp r hr p hpm with h | h
    · exact .inl (List.mem_filter.mpr ⟨List.mem_flatMap.mpr ⟨r, hr, hpm⟩, by rw [h.wd.nm]; rfl⟩)
    · exact .inr h
theorem good_m_rules {ws : List W} {M : Mm} {R : K3} (h : sp_m_rules ws M R) : rd_m_rules (ends3 R) (start3 N_m_rules ws) M := by
  obtain ⟨ns, rfl, r⟩ := h
  show rd_m_rules (ends3 R) [some (.sc (ns.map W.int)), none, none, none] M
  have hi := L3.ints_map ns
  have hcm := cut_mid (S := ns.map W.int) (i := 1) (j := 4) (by decide) (by decide)
  simp? only [rd_m_rules, rd_m_rules_0]
  refine ⟨_, 0, .inl rfl, hi, by decide, fun x0 => ?_⟩
  refine ⟨by omega, ?_⟩
  refine ⟨_, rfl, ?_, by rw [List.length_append]; simp, by rw [List.length_append]; simp; omega, fun hs tn h0 h1 => ?_⟩
  · intro w hw
    rcases List.mem_append.mp hw with hw | hw
    · exact hi w (cutW_mem hw)
    · exact ⟨x0, List.mem_singleton.mp hw⟩
  simp? only [rd_m_rules_1]
  intro a ha
  simp? only [rd_m_rules_2]
  refine ⟨_, 0, .inl rfl, hi, by decide, fun x1 => ?_⟩
  simp? only []
  have b1 := Int.emod_nonneg (x1 / 8) (show (6 : Int) ≠ 0 by decide)
  have b2 := Int.emod_lt_of_pos (x1 / 8) (show (0 : Int) < 6 by decide)
  refine ⟨_, rfl, by rw [List.length_map]; omega, by rw [List.length_map]; omega, ?_⟩
  rw [List.length_map]
  refine for3 (fun i τ M' => ∃ (rs : List Rule) (o3 : Option W), τ = [some (.sc (ns.map W.int)), some (.rl (hs.map W.str)), some (.ref a), o3] ∧ M' = put M a (.lst (rs.map ruleW)) ∧ rs.length = i ∧ (∀ q ∈ rs, TRule q) ∧ (∀ q ∈ rs, q.name ∈ hs) ∧ (∀ q ∈ rs, ∀ p ∈ q.parts, TW p ∨ p ∈ hs) ∧ ∀ k h, k < i → hs[k]? = some h → ∃ q ∈ rs, q.name = h) ⟨[], _, rfl, rfl, rfl, by simp, by simp, by simp, by omega⟩ (fun _ _ _ _ _ => trivial) ?_ ?_
  · rintro i w τ M' hw ⟨rs, o3, rfl, rfl, hl, t1, t2, t3, t4⟩
    have hil := (List.getElem?_eq_some_iff.mp hw).1
    rw [range_len] at hil
    have hwi : w = .int ((0 : Int) + (i : Int)) := by
      unfold rangeW at hw
      rw [List.getElem?_map] at hw
      obtain ⟨j, hj, rfl⟩ := Option.map_eq_some_iff.mp hw
      obtain ⟨g1, g2⟩ := List.getElem?_eq_some_iff.mp hj
      rw [List.getElem_range] at g2
      rw [g2]
    subst hwi
    simp? only [rd_m_rules_b2]
    refine ⟨_, _, .inl rfl, hi, by omega, fun x2 => ?_⟩
    refine ⟨x2, _, hs, rfl, by omega, h0, h1, tn, fun q tq qn qp qk => ?_⟩
    simp? only []
    refine ⟨by rw [List.length_map]; exact smallT (by omega), _, Sub.refl _, rs ++ [q], _, rfl, by rw [List.map_append]; rfl, by rw [List.length_append]; simp [hl], fun y hy => ?_, fun y hy => ?_, fun y hy => ?_, fun k h hk hh => ?_⟩
    · rcases List.mem_append.mp hy with hy | hy
      · exact t1 y hy
      · rw [List.mem_singleton.mp hy]; exact tq
    · rcases List.mem_append.mp hy with hy | hy
      · exact t2 y hy
      · rw [List.mem_singleton.mp hy]; exact qn
    · rcases List.mem_append.mp hy with hy | hy
      · exact t3 y hy
      · rw [List.mem_singleton.mp hy]; exact qp
    · rcases Nat.eq_or_lt_of_le (Nat.le_of_lt_succ hk) with rfl | hk
      · refine ⟨q, List.mem_append_right _ (List.mem_singleton.mpr rfl), qk h ?_⟩
        rw [show ((0 : Int) + (k : Int)).toNat = k by omega]; exact hh
      · obtain ⟨q', hq', e⟩ := t4 k h hk hh
        exact ⟨q', List.mem_append_left _ hq', e⟩
  · rintro τ M' ⟨rs, o3, rfl, rfl, hl, t1, t2, t3, t4⟩
    rw [range_len] at hl t4
    simp? only [rd_m_rules_3]
    have g : GoodRules rs := good_rules (hs := hs) (by intro z; rw [z] at hl; simp at hl; omega) (by omega) (by omega) tn t1 t2 t3 fun h hh => by
      obtain ⟨k, hk⟩ := List.getElem?_of_mem hh
      have := (List.getElem?_eq_some_iff.mp hk).1
      exact t4 k h (by omega) hk
    exact ⟨_, Sub.refl _, r rs g t1 a ha⟩
end Rg
set_option Elab.async false
set_option linter.all false
set_option maxRecDepth 100000
set_option maxHeartbeats 4000000
namespace Rg
open PySem PySem.Spec PyProof.Rows L2 L3
theorem rules_pl {rs : List Rule} (g : GoodRules rs) : ∀ {M : Mm}, Pl 3 (der M (.rl (rs.map ruleW))) := fun {M} w hw => by
  obtain ⟨r, hr, rfl⟩ := List.mem_map.mp hw
  have h := g.asc hr
  intro x hx
  simp at hx
  rcases hx with rfl | rfl | rfl
  · exact strOk_asc h.1
  · intro y hy
    obtain ⟨t, ht, rfl⟩ := List.mem_map.mp hy
    exact strOk_asc (h.2 t ht)
  · trivial
theorem good_law {ws : List W} {M : Mm} {R : K3} (h : sp_law ws M R) : rd_law (ends3 R) (start3 N_law ws) M := by
  obtain ⟨ns, rfl, hl, hM, r⟩ := h
  show rd_law (ends3 R) [some (.sc (ns.map W.int)), none, none, none, none, none, none, none, none] M
  simp? only [rd_law, rd_law_0]
  refine ⟨ns, rfl, fun rs g t => New.frz ?_⟩
  have hf := g.few
  simp? only [rd_law_1]
  simp? only [rd_law_2]
  refine ⟨rs, rfl, t, hf, ?_⟩
  simp? only [rd_law_3]
  refine ⟨rs, rfl, t, hf, ?_⟩
  simp? only [rd_law_4]
  rw [if_neg (by simp)]
  refine rEq_same 3 (by decide) (rules_pl g) rfl ⟨_, rfl, ?_⟩
  simp? only [rd_law_5]
  refine ⟨rs, rfl, g, t, ?_⟩
  intro a ha
  simp? only [rd_law_6]
  refine rEq_same 3 (by decide) (by rw [der_put]; exact rules_pl (M := M) g) (by rw [der_put]; rfl) ⟨_, rfl, ?_⟩
  simp? only [rd_law_7]
  refine for3 (fun i τ M' => ∃ o6 o7 o8 : Option W, τ = [some (.sc (ns.map W.int)), some (.rl (rs.map ruleW)), some (.rl (rs.map ruleW)), some (.str (shownT rs)), some (.str (shownT rs)), some (.ref a), o6, o7, o8] ∧ M' = put M a (.lst (rs.map ruleW))) ⟨_, _, _, rfl, rfl⟩ (fun i τ M' _ h => by obtain ⟨_, _, _, _, rfl⟩ := h; exact put_same) ?_ ?_
  · rintro i w τ M' hw ⟨o6, o7, o8, rfl, rfl⟩
    obtain ⟨q, hq, rfl⟩ := List.mem_map.mp (List.mem_of_getElem? hw)
    simp? only [rd_law_b7, ruleW]
    exact ⟨_, Sub.refl _, _, _, _, rfl, rfl⟩
  · rintro τ M' ⟨o6, o7, o8, rfl, rfl⟩
    simp? only [rd_law_8, rClr.eq_1]
    simp? only [rd_law_9]
    refine ⟨rs, rfl, g, t, New.frz ?_⟩
    exact rEq_same 3 (by decide) (rules_pl g) rfl ⟨_, Sub.refl _, r _⟩
end Rg
set_option Elab.async false
set_option linter.all false
set_option maxRecDepth 100000
set_option maxHeartbeats 4000000
namespace Rg
open PySem PySem.Spec PyProof.Rows L2 L3
noncomputable def top (i : Nat) : Stmt := PySem.Challenge.pw_readgrove_k80_grammars_written.main.body.getD i (.Pass ⟨0, 0, 0, 0⟩)
noncomputable abbrev s_made_of : Stmt := top 7
noncomputable abbrev s_is_name : Stmt := top 8
noncomputable abbrev s_names : Stmt := top 9
noncomputable abbrev s_check_rule : Stmt := top 10
noncomputable abbrev s_grammar_of : Stmt := top 11
noncomputable abbrev s_divided : Stmt := top 20
noncomputable abbrev s_squared_powers : Stmt := top 21
noncomputable abbrev s_figures_of : Stmt := top 22
noncomputable abbrev s_writes_word : Stmt := top 28
noncomputable abbrev s_writes_name : Stmt := top 29
noncomputable abbrev s_writes_number : Stmt := top 30
noncomputable abbrev s_shown_rule : Stmt := top 31
noncomputable abbrev s_shown_grammar : Stmt := top 32
noncomputable abbrev s_written_cost : Stmt := top 33
noncomputable abbrev s_read_rule : Stmt := top 34
noncomputable abbrev s_read_grammar : Stmt := top 35
noncomputable abbrev s_l_cell_at : Stmt := top 37
noncomputable abbrev s_m_heads : Stmt := top 38
noncomputable abbrev s_m_word : Stmt := top 39
noncomputable abbrev s_m_rule : Stmt := top 40
noncomputable abbrev s_m_rules : Stmt := top 41
noncomputable abbrev s_m_shown : Stmt := top 42
noncomputable abbrev s_law : Stmt := top 43
structure Tx (mg : Str → Option Value) : Prop where
  c_FEW_BITS : ∃ t, mg "FEW_BITS" = some (.int 4000 t)
  c_FIGURES : ∃ t, mg "FIGURES" = some (.str "0123456789" t)
  c_GREAT_LETTERS : ∃ t, mg "GREAT_LETTERS" = some (.str "ABCDEFGHIJKLMNOPQRSTUVWXYZ" t)
  c_MOST_FIGURES : ∃ t, mg "MOST_FIGURES" = some (.int 60 t)
  c_MOST_LETTERS : ∃ t, mg "MOST_LETTERS" = some (.int 8 t)
  c_MOST_NAME_FIGURES : ∃ t, mg "MOST_NAME_FIGURES" = some (.int 4 t)
  c_PIECE_FIGURES : ∃ t, mg "PIECE_FIGURES" = some (.int 64 t)
  c_SMALL_LETTERS : ∃ t, mg "SMALL_LETTERS" = some (.str "abcdefghijklmnopqrstuvwxyz" t)
  all_ : mg "all" = none
  bool_ : mg "bool" = none
  divmod_ : mg "divmod" = none
  int_ : mg "int" = none
  isinstance_ : mg "isinstance" = none
  len_ : mg "len" = none
  list_ : mg "list" = none
  range_ : mg "range" = none
  reversed_ : mg "reversed" = none
  str_ : mg "str" = none
  tuple_ : mg "tuple" = none
section
variable {P : Program} {w : World} {K : PySem.W.Frag} {mg : Str → Option Value} {base : Heap}
seal L2.PE L2.PA L2.PS L2.PSs L2.PT L2.PG L2.PI L2.PO
theorem sc_made_of : FnScope N_made_of ["text", "signs"] (defScope s_made_of) := ⟨rfl, rfl, rfl, by decide +kernel, rfl, by decide +kernel, by decide +kernel⟩
theorem tm_made_of {f : Addr} {cdv : Value} {A : Around} {outer : List Env} {s : Shared} {H : Hp} {E : XK} (T : Tx mg) (hr : Room 0 (A.deeper (envOfC "made_of" (defScope s_made_of) s.heap.objs.size f cdv))) :
    Ps3 (cxOf CX0 P w K mg base N_made_of "made_of" (defScope s_made_of) f cdv A outer s H E).nox (defBody s_made_of) rd_made_of := by
  have nd := sc_made_of.nd
  have hu := hu_of hr
  exact (ss_one (s_ret (v_and (v_cmp (o_ne hr.units) (v 0) v_str (by first | exact nomark _ | with_unfolding_all rfl)) (v_one (v_callB (c_all rfl) (by rfl) T.all_ bt_all (a_cons (v_frz (v_comp ["sign", "signs"] [none, some 1] (i_seqN (v 0)) (fun B => (w_name (i := 0) (show (["sign", "signs"] : List Str).Nodup by decide +kernel) rfl (by first | exact Or.inl rfl | exact Or.inr rfl))) (fun B => if_nil) (fun B => (v_cmp (o_in hu) (v 0) (v 1) (by first | exact nomark _ | with_unfolding_all rfl))))) a_nil))))))
theorem ok_made_of (T : Tx mg) {f_made_of : Addr} {fd_made_of : FuncData} (F_made_of : Df K mg "made_of" s_made_of ["text", "signs"] f_made_of fd_made_of) : FnOk P w K mg base CX0 1 f_made_of fd_made_of ["text", "signs"] (upSp K sp_made_of) :=
  ok3 F_made_of.fn sc_made_of len_made_of fun cdv A outer s H E ws M R hr h => ⟨rd_made_of, tm_made_of T hr, good_made_of h⟩
theorem sc_is_name : FnScope N_is_name ["part"] (defScope s_is_name) := ⟨rfl, rfl, rfl, by decide +kernel, rfl, by decide +kernel, by decide +kernel⟩
theorem tm_is_name {f : Addr} {cdv : Value} {A : Around} {outer : List Env} {s : Shared} {H : Hp} {E : XK} (T : Tx mg) {f_made_of : Addr} {fd_made_of : FuncData} (F_made_of : Df K mg "made_of" s_made_of ["text", "signs"] f_made_of fd_made_of) (G_made_of : FnOk P w K mg base CX0 1 f_made_of fd_made_of ["text", "signs"] (upSp K sp_made_of)) (hr : Room 1 (A.deeper (envOfC "is_name" (defScope s_is_name) s.heap.objs.size f cdv))) :
    Ps3 (cxOf CX0 P w K mg base N_is_name "is_name" (defScope s_is_name) f cdv A outer s H E).nox (defBody s_is_name) rd_is_name := by
  obtain ⟨t_GREAT_LETTERS, h_GREAT_LETTERS⟩ := T.c_GREAT_LETTERS
  obtain ⟨t_FIGURES, h_FIGURES⟩ := T.c_FIGURES
  have nd := sc_is_name.nd
  have hu := hu_of hr
  exact (ss_cons (s_set (i := 1) nd rfl (by first | exact Or.inl rfl | exact Or.inr rfl) (v_bm PySem.F.plainAttrs_str PySem.F.slot_str_partition PySem.F.type_str_partition m_partition (v 0) (a_cons v_str a_nil)))
      (ss_cons (s_set (i := 2) nd rfl (by first | exact Or.inl rfl | exact Or.inr rfl) (v_or (v_cmp (o_eq hr.units) (v_ix hu (v 1) v_int) v_str (by first | exact nomark _ | with_unfolding_all rfl)) (v_one (v_call G_made_of (hr.mono (by decide)) (by rfl) F_made_of.at_ F_made_of.fn.kp F_made_of.bi (a_cons (v_ix hu (v 1) v_int) (a_cons (v_glob (y := V.str "0123456789") (by rfl) h_FIGURES ⟨_, rfl⟩ (fun _ _ => .str _)) a_nil))))))
      (ss_one (s_ret (v_and (v 2) (v_one (v_call G_made_of (hr.mono (by decide)) (by rfl) F_made_of.at_ F_made_of.fn.kp F_made_of.bi (a_cons (v_ix hu (v 1) v_int) (a_cons (v_glob (y := V.str "ABCDEFGHIJKLMNOPQRSTUVWXYZ") (by rfl) h_GREAT_LETTERS ⟨_, rfl⟩ (fun _ _ => .str _)) a_nil)))))))))
theorem ok_is_name (T : Tx mg) {f_is_name : Addr} {fd_is_name : FuncData} (F_is_name : Df K mg "is_name" s_is_name ["part"] f_is_name fd_is_name) {f_made_of : Addr} {fd_made_of : FuncData} (F_made_of : Df K mg "made_of" s_made_of ["text", "signs"] f_made_of fd_made_of) : FnOk P w K mg base CX0 2 f_is_name fd_is_name ["part"] (upSp K sp_is_name) :=
  ok3 F_is_name.fn sc_is_name len_is_name fun cdv A outer s H E ws M R hr h => ⟨rd_is_name, tm_is_name T F_made_of (ok_made_of T F_made_of) hr, good_is_name h⟩
theorem sc_names : FnScope N_names ["grammar"] (defScope s_names) := ⟨rfl, rfl, rfl, by decide +kernel, rfl, by decide +kernel, by decide +kernel⟩
theorem tm_names {f : Addr} {cdv : Value} {A : Around} {outer : List Env} {s : Shared} {H : Hp} {E : XK} (T : Tx mg) (hr : Room 0 (A.deeper (envOfC "names" (defScope s_names) s.heap.objs.size f cdv))) :
    Ps3 (cxOf CX0 P w K mg base N_names "names" (defScope s_names) f cdv A outer s H E).nox (defBody s_names) rd_names := by
  have nd := sc_names.nd
  have hu := hu_of hr
  exact (ss_cons (s_set (i := 1) nd rfl (by first | exact Or.inl rfl | exact Or.inr rfl) v_dnewK)
      (ss_cons (s_for PassesOwn.never rfl (i_seqN (v 0)) (w_name (i := 2) nd rfl (by first | exact Or.inl rfl | exact Or.inr rfl))
        (ss_one (s_asg v_bl (w_sub hu (v 1) (v_ix hu (v 2) v_int)))))
      (ss_one (s_ret (v_callTy (c_list rfl) (by rfl) T.list_ bt_list (a_cons (v 1) a_nil))))))
theorem ok_names (T : Tx mg) {f_names : Addr} {fd_names : FuncData} (F_names : Df K mg "names" s_names ["grammar"] f_names fd_names) : FnOk P w K mg base CX0 1 f_names fd_names ["grammar"] (upSp K sp_names) :=
  ok3 F_names.fn sc_names len_names fun cdv A outer s H E ws M R hr h => ⟨rd_names, tm_names T hr, good_names h⟩
theorem sc_check_rule : FnScope N_check_rule ["rule", "known"] (defScope s_check_rule) := ⟨rfl, rfl, rfl, by decide +kernel, rfl, by decide +kernel, by decide +kernel⟩
theorem tm_check_rule {f : Addr} {cdv : Value} {A : Around} {outer : List Env} {s : Shared} {H : Hp} {E : XK} (T : Tx mg) {f_is_name : Addr} {fd_is_name : FuncData} (F_is_name : Df K mg "is_name" s_is_name ["part"] f_is_name fd_is_name) (G_is_name : FnOk P w K mg base CX0 2 f_is_name fd_is_name ["part"] (upSp K sp_is_name)) (hr : Room 2 (A.deeper (envOfC "check_rule" (defScope s_check_rule) s.heap.objs.size f cdv))) :
    Ps3 (cxOf CX0 P w K mg base N_check_rule "check_rule" (defScope s_check_rule) f cdv A outer s H E).nox (defBody s_check_rule) rd_check_rule := by
  have nd := sc_check_rule.nd
  have hu := hu_of hr
  exact (ss_cons (s_if (t_cmp o_lt (v_ix hu (v 0) v_int) v_int (by first | exact nomark _ | with_unfolding_all rfl))
        (ss_one s_never)
        ss_nil)
      (ss_one (s_for PassesOwn.never rfl (i_seqN (v_ix hu (v 0) v_int)) (w_name (i := 2) nd rfl (by first | exact Or.inl rfl | exact Or.inr rfl))
        (ss_one (s_if (PW.pt (t_and (t_val (v_call G_is_name (hr.mono (by decide)) (by rfl) F_is_name.at_ F_is_name.fn.kp F_is_name.bi (a_cons (v 2) a_nil))) (t_and1 (t_cmp (o_notin hu) (v 2) (v 1) (by first | exact nomark _ | with_unfolding_all rfl)))))
        (ss_one s_never)
        ss_nil)))))
theorem ok_check_rule (T : Tx mg) {f_check_rule : Addr} {fd_check_rule : FuncData} (F_check_rule : Df K mg "check_rule" s_check_rule ["rule", "known"] f_check_rule fd_check_rule) {f_made_of : Addr} {fd_made_of : FuncData} (F_made_of : Df K mg "made_of" s_made_of ["text", "signs"] f_made_of fd_made_of) {f_is_name : Addr} {fd_is_name : FuncData} (F_is_name : Df K mg "is_name" s_is_name ["part"] f_is_name fd_is_name) : FnOk P w K mg base CX0 3 f_check_rule fd_check_rule ["rule", "known"] (upSp K sp_check_rule) :=
  ok3 F_check_rule.fn sc_check_rule len_check_rule fun cdv A outer s H E ws M R hr h => ⟨rd_check_rule, tm_check_rule T F_is_name (ok_is_name T F_is_name F_made_of) hr, good_check_rule h⟩
theorem sc_grammar_of : FnScope N_grammar_of ["rules"] (defScope s_grammar_of) := ⟨rfl, rfl, rfl, by decide +kernel, rfl, by decide +kernel, by decide +kernel⟩
theorem tm_grammar_of {f : Addr} {cdv : Value} {A : Around} {outer : List Env} {s : Shared} {H : Hp} {E : XK} (T : Tx mg) {f_names : Addr} {fd_names : FuncData} (F_names : Df K mg "names" s_names ["grammar"] f_names fd_names) (G_names : FnOk P w K mg base CX0 1 f_names fd_names ["grammar"] (upSp K sp_names)) {f_check_rule : Addr} {fd_check_rule : FuncData} (F_check_rule : Df K mg "check_rule" s_check_rule ["rule", "known"] f_check_rule fd_check_rule) (G_check_rule : FnOk P w K mg base CX0 3 f_check_rule fd_check_rule ["rule", "known"] (upSp K sp_check_rule)) (hr : Room 3 (A.deeper (envOfC "grammar_of" (defScope s_grammar_of) s.heap.objs.size f cdv))) :
    Ps3 (cxOf CX0 P w K mg base N_grammar_of "grammar_of" (defScope s_grammar_of) f cdv A outer s H E).nox (defBody s_grammar_of) rd_grammar_of := by
  have nd := sc_grammar_of.nd
  have hu := hu_of hr
  exact (ss_cons (s_if (t_cmp (o_eq hr.units) (v_callB c_len (by rfl) T.len_ bt_len (a_cons (v 0) a_nil)) v_int (by first | exact nomark _ | with_unfolding_all rfl))
        (ss_one s_never)
        ss_nil)
      (ss_cons (s_set (i := 1) nd rfl (by first | exact Or.inl rfl | exact Or.inr rfl) (v_frz (v_call G_names (hr.mono (by decide)) (by rfl) F_names.at_ F_names.fn.kp F_names.bi (a_cons (v 0) a_nil))))
      (ss_cons (s_for PassesOwn.never rfl (i_seqN (v 0)) (w_name (i := 2) nd rfl (by first | exact Or.inl rfl | exact Or.inr rfl))
        (ss_one (s_expr (v_call G_check_rule (hr.mono (by decide)) (by rfl) F_check_rule.at_ F_check_rule.fn.kp F_check_rule.bi (a_cons (v 2) (a_cons (v 1) a_nil))))))
      (ss_one (s_ret (v_callTy (c_list rfl) (by rfl) T.list_ bt_list (a_cons (v 0) a_nil)))))))
theorem ok_grammar_of (T : Tx mg) {f_grammar_of : Addr} {fd_grammar_of : FuncData} (F_grammar_of : Df K mg "grammar_of" s_grammar_of ["rules"] f_grammar_of fd_grammar_of) {f_made_of : Addr} {fd_made_of : FuncData} (F_made_of : Df K mg "made_of" s_made_of ["text", "signs"] f_made_of fd_made_of) {f_is_name : Addr} {fd_is_name : FuncData} (F_is_name : Df K mg "is_name" s_is_name ["part"] f_is_name fd_is_name) {f_names : Addr} {fd_names : FuncData} (F_names : Df K mg "names" s_names ["grammar"] f_names fd_names) {f_check_rule : Addr} {fd_check_rule : FuncData} (F_check_rule : Df K mg "check_rule" s_check_rule ["rule", "known"] f_check_rule fd_check_rule) : FnOk P w K mg base CX0 4 f_grammar_of fd_grammar_of ["rules"] (upSp K sp_grammar_of) :=
  ok3 F_grammar_of.fn sc_grammar_of len_grammar_of fun cdv A outer s H E ws M R hr h => ⟨rd_grammar_of, tm_grammar_of T F_names (ok_names T F_names) F_check_rule (ok_check_rule T F_check_rule F_made_of F_is_name) hr, good_grammar_of h⟩
theorem sc_divided : FnScope N_divided ["number", "divisor"] (defScope s_divided) := ⟨rfl, rfl, rfl, by decide +kernel, rfl, by decide +kernel, by decide +kernel⟩
theorem tm_divided {f : Addr} {cdv : Value} {A : Around} {outer : List Env} {s : Shared} {H : Hp} {E : XK} (T : Tx mg) (hr : Room 0 (A.deeper (envOfC "divided" (defScope s_divided) s.heap.objs.size f cdv))) :
    Ps3 (cxOf CX0 P w K mg base N_divided "divided" (defScope s_divided) f cdv A outer s H E).nox (defBody s_divided) rd_divided := by
  obtain ⟨t_FEW_BITS, h_FEW_BITS⟩ := T.c_FEW_BITS
  have nd := sc_divided.nd
  have hu := hu_of hr
  exact (ss_cons (s_set (i := 2) nd rfl (by first | exact Or.inl rfl | exact Or.inr rfl) (v_bm0 PySem.F.plainAttrs_int PySem.F.slot_int_bit_length PySem.F.type_int_bit_length m_bits (v 1)))
      (ss_cons (s_if (PW.pt (t_or (t_cmp o_le (v 2) (v_glob (y := V.int 4000) (by rfl) h_FEW_BITS ⟨_, rfl⟩ (fun _ _ => .int _)) (by first | exact nomark _ | with_unfolding_all rfl)) (t_or1 (t_cmp o_lt (v 0) (v 1) (by first | exact nomark _ | with_unfolding_all rfl)))))
        (ss_one (s_ret (v_callB c_divmod (by rfl) T.divmod_ bt_divmod (a_cons (v 0) (a_cons (v 1) a_nil)))))
        ss_nil)
      ss_never))
theorem ok_divided (T : Tx mg) {f_divided : Addr} {fd_divided : FuncData} (F_divided : Df K mg "divided" s_divided ["number", "divisor"] f_divided fd_divided) : FnOk P w K mg base CX0 1 f_divided fd_divided ["number", "divisor"] (upSp K sp_divided) :=
  ok3 F_divided.fn sc_divided len_divided fun cdv A outer s H E ws M R hr h => ⟨rd_divided, tm_divided T hr, good_divided h⟩
theorem sc_squared_powers : FnScope N_squared_powers ["number"] (defScope s_squared_powers) := ⟨rfl, rfl, rfl, by decide +kernel, rfl, by decide +kernel, by decide +kernel⟩
theorem tm_squared_powers {f : Addr} {cdv : Value} {A : Around} {outer : List Env} {s : Shared} {H : Hp} {E : XK} (T : Tx mg) (hr : Room 0 (A.deeper (envOfC "squared_powers" (defScope s_squared_powers) s.heap.objs.size f cdv))) :
    Ps3 (cxOf CX0 P w K mg base N_squared_powers "squared_powers" (defScope s_squared_powers) f cdv A outer s H E).nox (defBody s_squared_powers) rd_squared_powers := by
  have nd := sc_squared_powers.nd
  have hu := hu_of hr
  exact (ss_cons (s_set (i := 1) nd rfl (by first | exact Or.inl rfl | exact Or.inr rfl) (v_lst (a_cons (v_op o_pow v_int v_int) a_nil)))
      (ss_cons (s_while PassesOwn.never (t_cmp o_lt (v_op o_mulF v_int (v_op o_sub (v_bm0 PySem.F.plainAttrs_int PySem.F.slot_int_bit_length PySem.F.type_int_bit_length m_bits (v_ix hu (v 1) (v_un o_neg v_int))) v_int)) (v_bm0 PySem.F.plainAttrs_int PySem.F.slot_int_bit_length PySem.F.type_int_bit_length m_bits (v 0)) (by first | exact nomark _ | with_unfolding_all rfl))
        ss_never)
      (ss_one (s_ret (v 1)))))
theorem ok_squared_powers (T : Tx mg) {f_squared_powers : Addr} {fd_squared_powers : FuncData} (F_squared_powers : Df K mg "squared_powers" s_squared_powers ["number"] f_squared_powers fd_squared_powers) : FnOk P w K mg base CX0 1 f_squared_powers fd_squared_powers ["number"] (upSp K sp_squared_powers) :=
  ok3 F_squared_powers.fn sc_squared_powers len_squared_powers fun cdv A outer s H E ws M R hr h => ⟨rd_squared_powers, tm_squared_powers T hr, good_squared_powers h⟩
theorem sc_figures_of : FnScope N_figures_of ["number"] (defScope s_figures_of) := ⟨rfl, rfl, rfl, by decide +kernel, rfl, by decide +kernel, by decide +kernel⟩
theorem tm_figures_of {f : Addr} {cdv : Value} {A : Around} {outer : List Env} {s : Shared} {H : Hp} {E : XK} (T : Tx mg) {f_squared_powers : Addr} {fd_squared_powers : FuncData} (F_squared_powers : Df K mg "squared_powers" s_squared_powers ["number"] f_squared_powers fd_squared_powers) (G_squared_powers : FnOk P w K mg base CX0 1 f_squared_powers fd_squared_powers ["number"] (upSp K sp_squared_powers)) {f_divided : Addr} {fd_divided : FuncData} (F_divided : Df K mg "divided" s_divided ["number", "divisor"] f_divided fd_divided) (G_divided : FnOk P w K mg base CX0 1 f_divided fd_divided ["number", "divisor"] (upSp K sp_divided)) (hr : Room 1 (A.deeper (envOfC "figures_of" (defScope s_figures_of) s.heap.objs.size f cdv))) :
    Ps3 (cxOf CX0 P w K mg base N_figures_of "figures_of" (defScope s_figures_of) f cdv A outer s H E).nox (defBody s_figures_of) rd_figures_of := by
  obtain ⟨t_PIECE_FIGURES, h_PIECE_FIGURES⟩ := T.c_PIECE_FIGURES
  have nd := sc_figures_of.nd
  have hu := hu_of hr
  exact (ss_cons (s_set (i := 1) nd rfl (by first | exact Or.inl rfl | exact Or.inr rfl) (v_lstF (a_cons (v 0) a_nil)))
      (ss_cons (s_for PassesOwn.never rfl (i_revL (by rfl) T.reversed_ (a_cons (v_frz (v_call G_squared_powers (hr.mono (by decide)) (by rfl) F_squared_powers.at_ F_squared_powers.fn.kp F_squared_powers.bi (a_cons (v 0) a_nil))) a_nil)) (w_name (i := 2) nd rfl (by first | exact Or.inl rfl | exact Or.inr rfl))
        (ss_cons (s_set (i := 3) nd rfl (by first | exact Or.inl rfl | exact Or.inr rfl) (v_lst a_nil))
      (ss_cons (s_for PassesOwn.never rfl (i_seqN (v 1)) (w_name (i := 4) nd rfl (by first | exact Or.inl rfl | exact Or.inr rfl))
        (ss_one (s_expr (v_bm PySem.F.plainAttrs_list PySem.F.slot_list_extend PySem.F.type_list_extend m_extT (v 3) (a_cons (v_call G_divided (hr.mono (by decide)) (by rfl) F_divided.at_ F_divided.fn.kp F_divided.bi (a_cons (v 4) (a_cons (v 2) a_nil))) a_nil)))))
      (ss_one (s_set (i := 1) nd rfl (by first | exact Or.inl rfl | exact Or.inr rfl) (v_frz (v 3)))))))
      (ss_cons (s_set (i := 5) nd rfl (by first | exact Or.inl rfl | exact Or.inr rfl) (v_bm PySem.F.plainAttrs_str PySem.F.slot_str_join PySem.F.type_str_join m_join v_str (a_cons (v_frz (v_comp ["piece"] [none] (i_seqN (v 1)) (fun B => (w_name (i := 0) (show (["piece"] : List Str).Nodup by decide +kernel) rfl (by first | exact Or.inl rfl | exact Or.inr rfl))) (fun B => if_nil) (fun B => (v_bm PySem.F.plainAttrs_str PySem.F.slot_str_zfill PySem.F.type_str_zfill m_zfill (v_callTy c_str (by rfl) T.str_ bt_str (a_cons (v 0) a_nil)) (a_cons (v_glob (y := V.int 64) (by rfl) h_PIECE_FIGURES ⟨_, rfl⟩ (fun _ _ => .int _)) a_nil))))) a_nil)))
      (ss_one (s_ret (v_orS (v_bm PySem.F.plainAttrs_str PySem.F.slot_str_lstrip PySem.F.type_str_lstrip m_lstrip (v 5) (a_cons v_str a_nil))))))))
theorem ok_figures_of (T : Tx mg) {f_figures_of : Addr} {fd_figures_of : FuncData} (F_figures_of : Df K mg "figures_of" s_figures_of ["number"] f_figures_of fd_figures_of) {f_divided : Addr} {fd_divided : FuncData} (F_divided : Df K mg "divided" s_divided ["number", "divisor"] f_divided fd_divided) {f_squared_powers : Addr} {fd_squared_powers : FuncData} (F_squared_powers : Df K mg "squared_powers" s_squared_powers ["number"] f_squared_powers fd_squared_powers) : FnOk P w K mg base CX0 2 f_figures_of fd_figures_of ["number"] (upSp K sp_figures_of) :=
  ok3 F_figures_of.fn sc_figures_of len_figures_of fun cdv A outer s H E ws M R hr h => ⟨rd_figures_of, tm_figures_of T F_squared_powers (ok_squared_powers T F_squared_powers) F_divided (ok_divided T F_divided) hr, good_figures_of h⟩
theorem sc_writes_word : FnScope N_writes_word ["text"] (defScope s_writes_word) := ⟨rfl, rfl, rfl, by decide +kernel, rfl, by decide +kernel, by decide +kernel⟩
theorem tm_writes_word {f : Addr} {cdv : Value} {A : Around} {outer : List Env} {s : Shared} {H : Hp} {E : XK} (T : Tx mg) {f_made_of : Addr} {fd_made_of : FuncData} (F_made_of : Df K mg "made_of" s_made_of ["text", "signs"] f_made_of fd_made_of) (G_made_of : FnOk P w K mg base CX0 1 f_made_of fd_made_of ["text", "signs"] (upSp K sp_made_of)) (hr : Room 1 (A.deeper (envOfC "writes_word" (defScope s_writes_word) s.heap.objs.size f cdv))) :
    Ps3 (cxOf CX0 P w K mg base N_writes_word "writes_word" (defScope s_writes_word) f cdv A outer s H E).nox (defBody s_writes_word) rd_writes_word := by
  obtain ⟨t_SMALL_LETTERS, h_SMALL_LETTERS⟩ := T.c_SMALL_LETTERS
  obtain ⟨t_MOST_LETTERS, h_MOST_LETTERS⟩ := T.c_MOST_LETTERS
  have nd := sc_writes_word.nd
  have hu := hu_of hr
  exact (ss_one (s_ret (v_and (v_cmp o_le (v_callB c_len (by rfl) T.len_ bt_len (a_cons (v 0) a_nil)) (v_glob (y := V.int 8) (by rfl) h_MOST_LETTERS ⟨_, rfl⟩ (fun _ _ => .int _)) (by first | exact nomark _ | with_unfolding_all rfl)) (v_one (v_call G_made_of (hr.mono (by decide)) (by rfl) F_made_of.at_ F_made_of.fn.kp F_made_of.bi (a_cons (v 0) (a_cons (v_glob (y := V.str "abcdefghijklmnopqrstuvwxyz") (by rfl) h_SMALL_LETTERS ⟨_, rfl⟩ (fun _ _ => .str _)) a_nil)))))))
theorem ok_writes_word (T : Tx mg) {f_writes_word : Addr} {fd_writes_word : FuncData} (F_writes_word : Df K mg "writes_word" s_writes_word ["text"] f_writes_word fd_writes_word) {f_made_of : Addr} {fd_made_of : FuncData} (F_made_of : Df K mg "made_of" s_made_of ["text", "signs"] f_made_of fd_made_of) : FnOk P w K mg base CX0 2 f_writes_word fd_writes_word ["text"] (upSp K sp_writes_word) :=
  ok3 F_writes_word.fn sc_writes_word len_writes_word fun cdv A outer s H E ws M R hr h => ⟨rd_writes_word, tm_writes_word T F_made_of (ok_made_of T F_made_of) hr, good_writes_word h⟩
theorem sc_writes_name : FnScope N_writes_name ["text"] (defScope s_writes_name) := ⟨rfl, rfl, rfl, by decide +kernel, rfl, by decide +kernel, by decide +kernel⟩
theorem tm_writes_name {f : Addr} {cdv : Value} {A : Around} {outer : List Env} {s : Shared} {H : Hp} {E : XK} (T : Tx mg) {f_is_name : Addr} {fd_is_name : FuncData} (F_is_name : Df K mg "is_name" s_is_name ["part"] f_is_name fd_is_name) (G_is_name : FnOk P w K mg base CX0 2 f_is_name fd_is_name ["part"] (upSp K sp_is_name)) (hr : Room 2 (A.deeper (envOfC "writes_name" (defScope s_writes_name) s.heap.objs.size f cdv))) :
    Ps3 (cxOf CX0 P w K mg base N_writes_name "writes_name" (defScope s_writes_name) f cdv A outer s H E).nox (defBody s_writes_name) rd_writes_name := by
  obtain ⟨t_MOST_LETTERS, h_MOST_LETTERS⟩ := T.c_MOST_LETTERS
  obtain ⟨t_MOST_NAME_FIGURES, h_MOST_NAME_FIGURES⟩ := T.c_MOST_NAME_FIGURES
  have nd := sc_writes_name.nd
  have hu := hu_of hr
  exact (ss_cons (s_set (i := 1) nd rfl (by first | exact Or.inl rfl | exact Or.inr rfl) (v_bm PySem.F.plainAttrs_str PySem.F.slot_str_partition PySem.F.type_str_partition m_partition (v 0) (a_cons v_str a_nil)))
      (ss_one (s_ret (v_and (v_call G_is_name (hr.mono (by decide)) (by rfl) F_is_name.at_ F_is_name.fn.kp F_is_name.bi (a_cons (v 0) a_nil)) (v_and (v_cmp o_le (v_callB c_len (by rfl) T.len_ bt_len (a_cons (v_ix hu (v 1) v_int) a_nil)) (v_glob (y := V.int 8) (by rfl) h_MOST_LETTERS ⟨_, rfl⟩ (fun _ _ => .int _)) (by first | exact nomark _ | with_unfolding_all rfl)) (v_one (v_cmp o_le (v_callB c_len (by rfl) T.len_ bt_len (a_cons (v_ix hu (v 1) v_int) a_nil)) (v_glob (y := V.int 4) (by rfl) h_MOST_NAME_FIGURES ⟨_, rfl⟩ (fun _ _ => .int _)) (by first | exact nomark _ | with_unfolding_all rfl))))))))
theorem ok_writes_name (T : Tx mg) {f_writes_name : Addr} {fd_writes_name : FuncData} (F_writes_name : Df K mg "writes_name" s_writes_name ["text"] f_writes_name fd_writes_name) {f_made_of : Addr} {fd_made_of : FuncData} (F_made_of : Df K mg "made_of" s_made_of ["text", "signs"] f_made_of fd_made_of) {f_is_name : Addr} {fd_is_name : FuncData} (F_is_name : Df K mg "is_name" s_is_name ["part"] f_is_name fd_is_name) : FnOk P w K mg base CX0 3 f_writes_name fd_writes_name ["text"] (upSp K sp_writes_name) :=
  ok3 F_writes_name.fn sc_writes_name len_writes_name fun cdv A outer s H E ws M R hr h => ⟨rd_writes_name, tm_writes_name T F_is_name (ok_is_name T F_is_name F_made_of) hr, good_writes_name h⟩
theorem sc_writes_number : FnScope N_writes_number ["text"] (defScope s_writes_number) := ⟨rfl, rfl, rfl, by decide +kernel, rfl, by decide +kernel, by decide +kernel⟩
theorem tm_writes_number {f : Addr} {cdv : Value} {A : Around} {outer : List Env} {s : Shared} {H : Hp} {E : XK} (T : Tx mg) {f_made_of : Addr} {fd_made_of : FuncData} (F_made_of : Df K mg "made_of" s_made_of ["text", "signs"] f_made_of fd_made_of) (G_made_of : FnOk P w K mg base CX0 1 f_made_of fd_made_of ["text", "signs"] (upSp K sp_made_of)) (hr : Room 1 (A.deeper (envOfC "writes_number" (defScope s_writes_number) s.heap.objs.size f cdv))) :
    Ps3 (cxOf CX0 P w K mg base N_writes_number "writes_number" (defScope s_writes_number) f cdv A outer s H E).nox (defBody s_writes_number) rd_writes_number := by
  obtain ⟨t_FIGURES, h_FIGURES⟩ := T.c_FIGURES
  obtain ⟨t_MOST_FIGURES, h_MOST_FIGURES⟩ := T.c_MOST_FIGURES
  have nd := sc_writes_number.nd
  have hu := hu_of hr
  exact (ss_one (s_ret (v_and (v_call G_made_of (hr.mono (by decide)) (by rfl) F_made_of.at_ F_made_of.fn.kp F_made_of.bi (a_cons (v 0) (a_cons (v_glob (y := V.str "0123456789") (by rfl) h_FIGURES ⟨_, rfl⟩ (fun _ _ => .str _)) a_nil))) (v_and (v_cmp o_le (v_callB c_len (by rfl) T.len_ bt_len (a_cons (v 0) a_nil)) (v_glob (y := V.int 60) (by rfl) h_MOST_FIGURES ⟨_, rfl⟩ (fun _ _ => .int _)) (by first | exact nomark _ | with_unfolding_all rfl)) (v_one (v_or (v_cmp (o_eq hr.units) (v 0) v_str (by first | exact nomark _ | with_unfolding_all rfl)) (v_one (v_cmp (o_ne hr.units) (v_ix hu (v 0) v_int) v_str (by first | exact nomark _ | with_unfolding_all rfl)))))))))
theorem ok_writes_number (T : Tx mg) {f_writes_number : Addr} {fd_writes_number : FuncData} (F_writes_number : Df K mg "writes_number" s_writes_number ["text"] f_writes_number fd_writes_number) {f_made_of : Addr} {fd_made_of : FuncData} (F_made_of : Df K mg "made_of" s_made_of ["text", "signs"] f_made_of fd_made_of) : FnOk P w K mg base CX0 2 f_writes_number fd_writes_number ["text"] (upSp K sp_writes_number) :=
  ok3 F_writes_number.fn sc_writes_number len_writes_number fun cdv A outer s H E ws M R hr h => ⟨rd_writes_number, tm_writes_number T F_made_of (ok_made_of T F_made_of) hr, good_writes_number h⟩
theorem sc_shown_rule : FnScope N_shown_rule ["rule"] (defScope s_shown_rule) := ⟨rfl, rfl, rfl, by decide +kernel, rfl, by decide +kernel, by decide +kernel⟩
theorem tm_shown_rule {f : Addr} {cdv : Value} {A : Around} {outer : List Env} {s : Shared} {H : Hp} {E : XK} (T : Tx mg) {f_figures_of : Addr} {fd_figures_of : FuncData} (F_figures_of : Df K mg "figures_of" s_figures_of ["number"] f_figures_of fd_figures_of) (G_figures_of : FnOk P w K mg base CX0 2 f_figures_of fd_figures_of ["number"] (upSp K sp_figures_of)) (hr : Room 2 (A.deeper (envOfC "shown_rule" (defScope s_shown_rule) s.heap.objs.size f cdv))) :
    Ps3 (cxOf CX0 P w K mg base N_shown_rule "shown_rule" (defScope s_shown_rule) f cdv A outer s H E).nox (defBody s_shown_rule) rd_shown_rule := by
  have nd := sc_shown_rule.nd
  have hu := hu_of hr
  exact (ss_cons (s_set (i := 1) nd rfl (by first | exact Or.inl rfl | exact Or.inr rfl) (v_op o_add (v_lstF (a_cons (v_ix hu (v 0) v_int) (a_cons v_str a_nil))) (v_callTy (c_listF rfl) (by rfl) T.list_ bt_list (a_cons (v_ix hu (v 0) v_int) a_nil))))
      (ss_cons (s_if (t_cmp (o_ne hr.units) (v_ix hu (v 0) v_int) v_int (by first | exact nomark _ | with_unfolding_all rfl))
        (ss_one (s_expr (v_bm PySem.F.plainAttrs_list PySem.F.slot_list_extend PySem.F.type_list_extend m_extend (v 1) (a_cons (v_lstF (a_cons v_str (a_cons (v_call G_figures_of (hr.mono (by decide)) (by rfl) F_figures_of.at_ F_figures_of.fn.kp F_figures_of.bi (a_cons (v_ix hu (v 0) v_int) a_nil)) a_nil))) a_nil))))
        ss_nil)
      (ss_one (s_ret (v_bm PySem.F.plainAttrs_str PySem.F.slot_str_join PySem.F.type_str_join m_join v_str (a_cons (v 1) a_nil))))))
theorem ok_shown_rule (T : Tx mg) {f_shown_rule : Addr} {fd_shown_rule : FuncData} (F_shown_rule : Df K mg "shown_rule" s_shown_rule ["rule"] f_shown_rule fd_shown_rule) {f_divided : Addr} {fd_divided : FuncData} (F_divided : Df K mg "divided" s_divided ["number", "divisor"] f_divided fd_divided) {f_squared_powers : Addr} {fd_squared_powers : FuncData} (F_squared_powers : Df K mg "squared_powers" s_squared_powers ["number"] f_squared_powers fd_squared_powers) {f_figures_of : Addr} {fd_figures_of : FuncData} (F_figures_of : Df K mg "figures_of" s_figures_of ["number"] f_figures_of fd_figures_of) : FnOk P w K mg base CX0 3 f_shown_rule fd_shown_rule ["rule"] (upSp K sp_shown_rule) :=
  ok3 F_shown_rule.fn sc_shown_rule len_shown_rule fun cdv A outer s H E ws M R hr h => ⟨rd_shown_rule, tm_shown_rule T F_figures_of (ok_figures_of T F_figures_of F_divided F_squared_powers) hr, good_shown_rule h⟩
theorem sc_shown_grammar : FnScope N_shown_grammar ["grammar"] (defScope s_shown_grammar) := ⟨rfl, rfl, rfl, by decide +kernel, rfl, by decide +kernel, by decide +kernel⟩
theorem tm_shown_grammar {f : Addr} {cdv : Value} {A : Around} {outer : List Env} {s : Shared} {H : Hp} {E : XK} (T : Tx mg) {f_shown_rule : Addr} {fd_shown_rule : FuncData} (F_shown_rule : Df K mg "shown_rule" s_shown_rule ["rule"] f_shown_rule fd_shown_rule) (G_shown_rule : FnOk P w K mg base CX0 3 f_shown_rule fd_shown_rule ["rule"] (upSp K sp_shown_rule)) (hr : Room 3 (A.deeper (envOfC "shown_grammar" (defScope s_shown_grammar) s.heap.objs.size f cdv))) :
    Ps3 (cxOf CX0 P w K mg base N_shown_grammar "shown_grammar" (defScope s_shown_grammar) f cdv A outer s H E).nox (defBody s_shown_grammar) rd_shown_grammar := by
  have nd := sc_shown_grammar.nd
  have hu := hu_of hr
  exact (ss_one (s_ret (v_bm PySem.F.plainAttrs_str PySem.F.slot_str_join PySem.F.type_str_join m_join v_str (a_cons (v_frz (v_comp ["rule"] [none] (i_seqN (v 0)) (fun B => (w_name (i := 0) (show (["rule"] : List Str).Nodup by decide +kernel) rfl (by first | exact Or.inl rfl | exact Or.inr rfl))) (fun B => if_nil) (fun B => (v_call G_shown_rule (hr.mono (by decide)) (by rfl) F_shown_rule.at_ F_shown_rule.fn.kp F_shown_rule.bi (a_cons (v 0) a_nil))))) a_nil))))
theorem ok_shown_grammar (T : Tx mg) {f_shown_grammar : Addr} {fd_shown_grammar : FuncData} (F_shown_grammar : Df K mg "shown_grammar" s_shown_grammar ["grammar"] f_shown_grammar fd_shown_grammar) {f_divided : Addr} {fd_divided : FuncData} (F_divided : Df K mg "divided" s_divided ["number", "divisor"] f_divided fd_divided) {f_squared_powers : Addr} {fd_squared_powers : FuncData} (F_squared_powers : Df K mg "squared_powers" s_squared_powers ["number"] f_squared_powers fd_squared_powers) {f_figures_of : Addr} {fd_figures_of : FuncData} (F_figures_of : Df K mg "figures_of" s_figures_of ["number"] f_figures_of fd_figures_of) {f_shown_rule : Addr} {fd_shown_rule : FuncData} (F_shown_rule : Df K mg "shown_rule" s_shown_rule ["rule"] f_shown_rule fd_shown_rule) : FnOk P w K mg base CX0 4 f_shown_grammar fd_shown_grammar ["grammar"] (upSp K sp_shown_grammar) :=
  ok3 F_shown_grammar.fn sc_shown_grammar len_shown_grammar fun cdv A outer s H E ws M R hr h => ⟨rd_shown_grammar, tm_shown_grammar T F_shown_rule (ok_shown_rule T F_shown_rule F_divided F_squared_powers F_figures_of) hr, good_shown_grammar h⟩
theorem sc_written_cost : FnScope N_written_cost ["pieces"] (defScope s_written_cost) := ⟨rfl, rfl, rfl, by decide +kernel, rfl, by decide +kernel, by decide +kernel⟩
theorem tm_written_cost {f : Addr} {cdv : Value} {A : Around} {outer : List Env} {s : Shared} {H : Hp} {E : XK} (T : Tx mg) {f_writes_number : Addr} {fd_writes_number : FuncData} (F_writes_number : Df K mg "writes_number" s_writes_number ["text"] f_writes_number fd_writes_number) (G_writes_number : FnOk P w K mg base CX0 2 f_writes_number fd_writes_number ["text"] (upSp K sp_writes_number)) (hr : Room 2 (A.deeper (envOfC "written_cost" (defScope s_written_cost) s.heap.objs.size f cdv))) :
    Ps3 (cxOf CX0 P w K mg base N_written_cost "written_cost" (defScope s_written_cost) f cdv A outer s H E).nox (defBody s_written_cost) rd_written_cost := by
  have nd := sc_written_cost.nd
  have hu := hu_of hr
  exact (ss_cons (s_if (PW.pt (t_or (t_cmp o_lt (v_callB c_len (by rfl) T.len_ bt_len (a_cons (v 0) a_nil)) v_int (by first | exact nomark _ | with_unfolding_all rfl)) (t_or1 (t_cmp (o_ne hr.units) (v_ix hu (v 0) (v_un o_neg v_int)) v_str (by first | exact nomark _ | with_unfolding_all rfl)))))
        (ss_one (s_ret v_int))
        ss_nil)
      (ss_cons (s_if (PW.pt (t_or (t_not (t_val (v_call G_writes_number (hr.mono (by decide)) (by rfl) F_writes_number.at_ F_writes_number.fn.kp F_writes_number.bi (a_cons (v_ix hu (v 0) (v_un o_neg v_int)) a_nil)))) (t_or1 (t_cmp (o_eq hr.units) (v_ix hu (v 0) (v_un o_neg v_int)) v_str (by first | exact nomark _ | with_unfolding_all rfl)))))
        (ss_one s_never)
        ss_nil)
      (ss_one (s_ret (v_callTy c_intT (by rfl) T.int_ bt_int (a_cons (v_ix hu (v 0) (v_un o_neg v_int)) a_nil))))))
theorem ok_written_cost (T : Tx mg) {f_written_cost : Addr} {fd_written_cost : FuncData} (F_written_cost : Df K mg "written_cost" s_written_cost ["pieces"] f_written_cost fd_written_cost) {f_made_of : Addr} {fd_made_of : FuncData} (F_made_of : Df K mg "made_of" s_made_of ["text", "signs"] f_made_of fd_made_of) {f_writes_number : Addr} {fd_writes_number : FuncData} (F_writes_number : Df K mg "writes_number" s_writes_number ["text"] f_writes_number fd_writes_number) : FnOk P w K mg base CX0 3 f_written_cost fd_written_cost ["pieces"] (upSp K sp_written_cost) :=
  ok3 F_written_cost.fn sc_written_cost len_written_cost fun cdv A outer s H E ws M R hr h => ⟨rd_written_cost, tm_written_cost T F_writes_number (ok_writes_number T F_writes_number F_made_of) hr, good_written_cost h⟩
theorem sc_read_rule : FnScope N_read_rule ["text"] (defScope s_read_rule) := ⟨rfl, rfl, rfl, by decide +kernel, rfl, by decide +kernel, by decide +kernel⟩
theorem tm_read_rule {f : Addr} {cdv : Value} {A : Around} {outer : List Env} {s : Shared} {H : Hp} {E : XK} (T : Tx mg) {f_writes_name : Addr} {fd_writes_name : FuncData} (F_writes_name : Df K mg "writes_name" s_writes_name ["text"] f_writes_name fd_writes_name) (G_writes_name : FnOk P w K mg base CX0 3 f_writes_name fd_writes_name ["text"] (upSp K sp_writes_name)) {f_written_cost : Addr} {fd_written_cost : FuncData} (F_written_cost : Df K mg "written_cost" s_written_cost ["pieces"] f_written_cost fd_written_cost) (G_written_cost : FnOk P w K mg base CX0 3 f_written_cost fd_written_cost ["pieces"] (upSp K sp_written_cost)) {f_writes_word : Addr} {fd_writes_word : FuncData} (F_writes_word : Df K mg "writes_word" s_writes_word ["text"] f_writes_word fd_writes_word) (G_writes_word : FnOk P w K mg base CX0 2 f_writes_word fd_writes_word ["text"] (upSp K sp_writes_word)) (hr : Room 3 (A.deeper (envOfC "read_rule" (defScope s_read_rule) s.heap.objs.size f cdv))) :
    Ps3 (cxOf CX0 P w K mg base N_read_rule "read_rule" (defScope s_read_rule) f cdv A outer s H E).nox (defBody s_read_rule) rd_read_rule := by
  have nd := sc_read_rule.nd
  have hu := hu_of hr
  exact (ss_cons (s_set (i := 1) nd rfl (by first | exact Or.inl rfl | exact Or.inr rfl) (v_frz (v_bm PySem.F.plainAttrs_str PySem.F.slot_str_split PySem.F.type_str_split m_split (v 0) (a_cons v_str a_nil))))
      (ss_cons (s_if (PW.pt (t_or (t_cmp o_lt (v_callB c_len (by rfl) T.len_ bt_len (a_cons (v 1) a_nil)) v_int (by first | exact nomark _ | with_unfolding_all rfl)) (t_or (t_not (t_val (v_call G_writes_name (hr.mono (by decide)) (by rfl) F_writes_name.at_ F_writes_name.fn.kp F_writes_name.bi (a_cons (v_ix hu (v 1) v_int) a_nil)))) (t_or1 (t_cmp (o_ne hr.units) (v_ix hu (v 1) v_int) v_str (by first | exact nomark _ | with_unfolding_all rfl))))))
        (ss_one s_never)
        ss_nil)
      (ss_cons (s_set (i := 2) nd rfl (by first | exact Or.inl rfl | exact Or.inr rfl) (v_call G_written_cost (hr.mono (by decide)) (by rfl) F_written_cost.at_ F_written_cost.fn.kp F_written_cost.bi (a_cons (v_sliceF (v 1) (s_some v_int) s_none) a_nil)))
      (ss_cons (s_set (i := 3) nd rfl (by first | exact Or.inl rfl | exact Or.inr rfl) (v_if (t_cmp (o_eq hr.units) (v 2) v_int (by first | exact nomark _ | with_unfolding_all rfl)) (v_sliceF (v 1) (s_some v_int) s_none) (v_sliceF (v 1) (s_some v_int) (s_some (v_un o_neg v_int)))))
      (ss_cons (s_if (t_not (t_val (v_callB (c_all rfl) (by rfl) T.all_ bt_all (a_cons (v_frz (v_comp ["part"] [none] (i_seqN (v 3)) (fun B => (w_name (i := 0) (show (["part"] : List Str).Nodup by decide +kernel) rfl (by first | exact Or.inl rfl | exact Or.inr rfl))) (fun B => if_nil) (fun B => (v_or (v_call G_writes_word (hr.mono (by decide)) (by rfl) F_writes_word.at_ F_writes_word.fn.kp F_writes_word.bi (a_cons (v 0) a_nil)) (v_one (v_call G_writes_name (hr.mono (by decide)) (by rfl) F_writes_name.at_ F_writes_name.fn.kp F_writes_name.bi (a_cons (v 0) a_nil))))))) a_nil))))
        (ss_one s_never)
        ss_nil)
      (ss_one (s_ret (v_tup (a_cons (v_ix hu (v 1) v_int) (a_cons (v_callTy c_tuple (by rfl) T.tuple_ bt_tuple (a_cons (v 3) a_nil)) (a_cons (v 2) a_nil)))))))))))
theorem ok_read_rule (T : Tx mg) {f_read_rule : Addr} {fd_read_rule : FuncData} (F_read_rule : Df K mg "read_rule" s_read_rule ["text"] f_read_rule fd_read_rule) {f_made_of : Addr} {fd_made_of : FuncData} (F_made_of : Df K mg "made_of" s_made_of ["text", "signs"] f_made_of fd_made_of) {f_is_name : Addr} {fd_is_name : FuncData} (F_is_name : Df K mg "is_name" s_is_name ["part"] f_is_name fd_is_name) {f_writes_word : Addr} {fd_writes_word : FuncData} (F_writes_word : Df K mg "writes_word" s_writes_word ["text"] f_writes_word fd_writes_word) {f_writes_name : Addr} {fd_writes_name : FuncData} (F_writes_name : Df K mg "writes_name" s_writes_name ["text"] f_writes_name fd_writes_name) {f_writes_number : Addr} {fd_writes_number : FuncData} (F_writes_number : Df K mg "writes_number" s_writes_number ["text"] f_writes_number fd_writes_number) {f_written_cost : Addr} {fd_written_cost : FuncData} (F_written_cost : Df K mg "written_cost" s_written_cost ["pieces"] f_written_cost fd_written_cost) : FnOk P w K mg base CX0 4 f_read_rule fd_read_rule ["text"] (upSp K sp_read_rule) :=
  ok3 F_read_rule.fn sc_read_rule len_read_rule fun cdv A outer s H E ws M R hr h => ⟨rd_read_rule, tm_read_rule T F_writes_name (ok_writes_name T F_writes_name F_made_of F_is_name) F_written_cost (ok_written_cost T F_written_cost F_made_of F_writes_number) F_writes_word (ok_writes_word T F_writes_word F_made_of) hr, good_read_rule h⟩
theorem sc_read_grammar : FnScope N_read_grammar ["text"] (defScope s_read_grammar) := ⟨rfl, rfl, rfl, by decide +kernel, rfl, by decide +kernel, by decide +kernel⟩
theorem tm_read_grammar {f : Addr} {cdv : Value} {A : Around} {outer : List Env} {s : Shared} {H : Hp} {E : XK} (T : Tx mg) {f_grammar_of : Addr} {fd_grammar_of : FuncData} (F_grammar_of : Df K mg "grammar_of" s_grammar_of ["rules"] f_grammar_of fd_grammar_of) (G_grammar_of : FnOk P w K mg base CX0 4 f_grammar_of fd_grammar_of ["rules"] (upSp K sp_grammar_of)) {f_read_rule : Addr} {fd_read_rule : FuncData} (F_read_rule : Df K mg "read_rule" s_read_rule ["text"] f_read_rule fd_read_rule) (G_read_rule : FnOk P w K mg base CX0 4 f_read_rule fd_read_rule ["text"] (upSp K sp_read_rule)) (hr : Room 4 (A.deeper (envOfC "read_grammar" (defScope s_read_grammar) s.heap.objs.size f cdv))) :
    Ps3 (cxOf CX0 P w K mg base N_read_grammar "read_grammar" (defScope s_read_grammar) f cdv A outer s H E).nox (defBody s_read_grammar) rd_read_grammar := by
  have nd := sc_read_grammar.nd
  have hu := hu_of hr
  exact (ss_one (s_ret (v_call G_grammar_of (hr.mono (by decide)) (by rfl) F_grammar_of.at_ F_grammar_of.fn.kp F_grammar_of.bi (a_cons (v_frz (v_comp ["row"] [none] (i_seqN (v_frz (v_bm PySem.F.plainAttrs_str PySem.F.slot_str_split PySem.F.type_str_split m_split (v 0) (a_cons v_str a_nil)))) (fun B => (w_name (i := 0) (show (["row"] : List Str).Nodup by decide +kernel) rfl (by first | exact Or.inl rfl | exact Or.inr rfl))) (fun B => if_nil) (fun B => (v_call G_read_rule (hr.mono (by decide)) (by rfl) F_read_rule.at_ F_read_rule.fn.kp F_read_rule.bi (a_cons (v 0) a_nil))))) a_nil))))
theorem ok_read_grammar (T : Tx mg) {f_read_grammar : Addr} {fd_read_grammar : FuncData} (F_read_grammar : Df K mg "read_grammar" s_read_grammar ["text"] f_read_grammar fd_read_grammar) {f_made_of : Addr} {fd_made_of : FuncData} (F_made_of : Df K mg "made_of" s_made_of ["text", "signs"] f_made_of fd_made_of) {f_is_name : Addr} {fd_is_name : FuncData} (F_is_name : Df K mg "is_name" s_is_name ["part"] f_is_name fd_is_name) {f_names : Addr} {fd_names : FuncData} (F_names : Df K mg "names" s_names ["grammar"] f_names fd_names) {f_check_rule : Addr} {fd_check_rule : FuncData} (F_check_rule : Df K mg "check_rule" s_check_rule ["rule", "known"] f_check_rule fd_check_rule) {f_grammar_of : Addr} {fd_grammar_of : FuncData} (F_grammar_of : Df K mg "grammar_of" s_grammar_of ["rules"] f_grammar_of fd_grammar_of) {f_writes_word : Addr} {fd_writes_word : FuncData} (F_writes_word : Df K mg "writes_word" s_writes_word ["text"] f_writes_word fd_writes_word) {f_writes_name : Addr} {fd_writes_name : FuncData} (F_writes_name : Df K mg "writes_name" s_writes_name ["text"] f_writes_name fd_writes_name) {f_writes_number : Addr} {fd_writes_number : FuncData} (F_writes_number : Df K mg "writes_number" s_writes_number ["text"] f_writes_number fd_writes_number) {f_written_cost : Addr} {fd_written_cost : FuncData} (F_written_cost : Df K mg "written_cost" s_written_cost ["pieces"] f_written_cost fd_written_cost) {f_read_rule : Addr} {fd_read_rule : FuncData} (F_read_rule : Df K mg "read_rule" s_read_rule ["text"] f_read_rule fd_read_rule) : FnOk P w K mg base CX0 5 f_read_grammar fd_read_grammar ["text"] (upSp K sp_read_grammar) :=
  ok3 F_read_grammar.fn sc_read_grammar len_read_grammar fun cdv A outer s H E ws M R hr h => ⟨rd_read_grammar, tm_read_grammar T F_grammar_of (ok_grammar_of T F_grammar_of F_made_of F_is_name F_names F_check_rule) F_read_rule (ok_read_rule T F_read_rule F_made_of F_is_name F_writes_word F_writes_name F_writes_number F_written_cost) hr, good_read_grammar h⟩
theorem sc_l_cell_at : FnScope N_l_cell_at ["script", "k"] (defScope s_l_cell_at) := ⟨rfl, rfl, rfl, by decide +kernel, rfl, by decide +kernel, by decide +kernel⟩
theorem tm_l_cell_at {f : Addr} {cdv : Value} {A : Around} {outer : List Env} {s : Shared} {H : Hp} {E : XK} (T : Tx mg) (hr : Room 0 (A.deeper (envOfC "_law_cell_at" (defScope s_l_cell_at) s.heap.objs.size f cdv))) :
    Ps3 (cxOf CX0 P w K mg base N_l_cell_at "_law_cell_at" (defScope s_l_cell_at) f cdv A outer s H E).nox (defBody s_l_cell_at) rd_l_cell_at := by
  have nd := sc_l_cell_at.nd
  have hu := hu_of hr
  exact (ss_cons (s_if (t_cmp o_lt (v 1) (v_callB c_len (by rfl) T.len_ bt_len (a_cons (v 0) a_nil)) (by first | exact nomark _ | with_unfolding_all rfl))
        (ss_one (s_ret (v_ix hu (v 0) (v 1))))
        ss_nil)
      (ss_one (s_ret v_int)))
theorem ok_l_cell_at (T : Tx mg) {f_l_cell_at : Addr} {fd_l_cell_at : FuncData} (F_l_cell_at : Df K mg "_law_cell_at" s_l_cell_at ["script", "k"] f_l_cell_at fd_l_cell_at) : FnOk P w K mg base CX0 1 f_l_cell_at fd_l_cell_at ["script", "k"] (upSp K sp_l_cell_at) :=
  ok3 F_l_cell_at.fn sc_l_cell_at len_l_cell_at fun cdv A outer s H E ws M R hr h => ⟨rd_l_cell_at, tm_l_cell_at T hr, good_l_cell_at h⟩
theorem sc_m_heads : FnScope N_m_heads ["cells"] (defScope s_m_heads) := ⟨rfl, rfl, rfl, by decide +kernel, rfl, by decide +kernel, by decide +kernel⟩
theorem tm_m_heads {f : Addr} {cdv : Value} {A : Around} {outer : List Env} {s : Shared} {H : Hp} {E : XK} (T : Tx mg) (hr : Room 0 (A.deeper (envOfC "_law_heads" (defScope s_m_heads) s.heap.objs.size f cdv))) :
    Ps3 (cxOf CX0 P w K mg base N_m_heads "_law_heads" (defScope s_m_heads) f cdv A outer s H E).nox (defBody s_m_heads) rd_m_heads := by
  have nd := sc_m_heads.nd
  have hu := hu_of hr
  exact (ss_cons (s_set (i := 1) nd rfl (by first | exact Or.inl rfl | exact Or.inr rfl) (v_lst a_nil))
      (ss_cons (s_for PassesOwn.never rfl (i_seqN (v 0)) (w_name (i := 2) nd rfl (by first | exact Or.inl rfl | exact Or.inr rfl))
        (ss_cons (s_set (i := 2) nd rfl (by first | exact Or.inl rfl | exact Or.inr rfl) (v_op o_mod (v 2) (v_op o_pow v_int v_int)))
      (ss_cons (s_set (i := 3) nd rfl (by first | exact Or.inl rfl | exact Or.inr rfl) (v_bm PySem.F.plainAttrs_str PySem.F.slot_str_join PySem.F.type_str_join m_join v_str (a_cons (v_frz (v_comp ["k", "cell"] [none, some 2] (i_range1 (by rfl) T.range_ (a_cons (v_op o_addF v_int (v_op o_mod (v_op o_fdiv (v 2) v_int) v_int)) a_nil)) (fun B => (w_name (i := 0) (show (["k", "cell"] : List Str).Nodup by decide +kernel) rfl (by first | exact Or.inl rfl | exact Or.inr rfl))) (fun B => if_nil) (fun B => (v_ix hu v_str (v_op o_mod (v_op o_addF (v_op o_fdiv (v 1) (v_op o_addF (v 0) v_int)) (v_op o_mulF (v 0) (v 0))) v_int))))) a_nil)))
      (ss_cons (s_if (t_cmp (o_eq hr.units) (v_op o_mod (v 2) v_int) v_int (by first | exact nomark _ | with_unfolding_all rfl))
        (ss_one (s_set (i := 3) nd rfl (by first | exact Or.inl rfl | exact Or.inr rfl) (v_op o_addF (v_op o_addF (v 3) v_str) (v_callTy c_str (by rfl) T.str_ bt_str (a_cons (v_op o_mod (v_op o_fdiv (v 2) v_int) (v_ix hu (v_lstF (a_cons v_int (a_cons v_int a_nil))) (v_op o_mod (v_op o_fdiv (v 2) v_int) v_int))) a_nil)))))
        ss_nil)
      (ss_one (s_if (t_cmp (o_notin hu) (v 3) (v 1) (by first | exact nomark _ | with_unfolding_all rfl))
        (ss_one (s_expr (v_bm PySem.F.plainAttrs_list PySem.F.slot_list_append PySem.F.type_list_append m_append (v 1) (a_cons (v 3) a_nil))))
        ss_nil))))))
      (ss_one (s_ret (v_frz (v 1))))))
theorem ok_m_heads (T : Tx mg) {f_m_heads : Addr} {fd_m_heads : FuncData} (F_m_heads : Df K mg "_law_heads" s_m_heads ["cells"] f_m_heads fd_m_heads) : FnOk P w K mg base CX0 1 f_m_heads fd_m_heads ["cells"] (upSp K sp_m_heads) :=
  ok3 F_m_heads.fn sc_m_heads len_m_heads fun cdv A outer s H E ws M R hr h => ⟨rd_m_heads, tm_m_heads T hr, good_m_heads h⟩
theorem sc_m_word : FnScope N_m_word ["number"] (defScope s_m_word) := ⟨rfl, rfl, rfl, by decide +kernel, rfl, by decide +kernel, by decide +kernel⟩
theorem tm_m_word {f : Addr} {cdv : Value} {A : Around} {outer : List Env} {s : Shared} {H : Hp} {E : XK} (T : Tx mg) (hr : Room 0 (A.deeper (envOfC "_law_word" (defScope s_m_word) s.heap.objs.size f cdv))) :
    Ps3 (cxOf CX0 P w K mg base N_m_word "_law_word" (defScope s_m_word) f cdv A outer s H E).nox (defBody s_m_word) rd_m_word := by
  have nd := sc_m_word.nd
  have hu := hu_of hr
  exact (ss_one (s_ret (v_bm PySem.F.plainAttrs_str PySem.F.slot_str_join PySem.F.type_str_join m_join v_str (a_cons (v_frz (v_comp ["k", "number"] [none, some 0] (i_range1 (by rfl) T.range_ (a_cons (v_op o_addF v_int (v_op o_mod (v_op o_fdiv (v 0) v_int) v_int)) a_nil)) (fun B => (w_name (i := 0) (show (["k", "number"] : List Str).Nodup by decide +kernel) rfl (by first | exact Or.inl rfl | exact Or.inr rfl))) (fun B => if_nil) (fun B => (v_ix hu v_str (v_op o_mod (v_op o_addF (v_op o_fdiv (v 1) (v_op o_addF (v 0) v_int)) (v 0)) v_int))))) a_nil))))
theorem ok_m_word (T : Tx mg) {f_m_word : Addr} {fd_m_word : FuncData} (F_m_word : Df K mg "_law_word" s_m_word ["number"] f_m_word fd_m_word) : FnOk P w K mg base CX0 1 f_m_word fd_m_word ["number"] (upSp K sp_m_word) :=
  ok3 F_m_word.fn sc_m_word len_m_word fun cdv A outer s H E ws M R hr h => ⟨rd_m_word, tm_m_word T hr, good_m_word h⟩
theorem sc_m_rule : FnScope N_m_rule ["cell", "k", "heads"] (defScope s_m_rule) := ⟨rfl, rfl, rfl, by decide +kernel, rfl, by decide +kernel, by decide +kernel⟩
theorem tm_m_rule {f : Addr} {cdv : Value} {A : Around} {outer : List Env} {s : Shared} {H : Hp} {E : XK} (T : Tx mg) {f_m_word : Addr} {fd_m_word : FuncData} (F_m_word : Df K mg "_law_word" s_m_word ["number"] f_m_word fd_m_word) (G_m_word : FnOk P w K mg base CX0 1 f_m_word fd_m_word ["number"] (upSp K sp_m_word)) (hr : Room 1 (A.deeper (envOfC "_law_rule" (defScope s_m_rule) s.heap.objs.size f cdv))) :
    Ps3 (cxOf CX0 P w K mg base N_m_rule "_law_rule" (defScope s_m_rule) f cdv A outer s H E).nox (defBody s_m_rule) rd_m_rule := by
  have nd := sc_m_rule.nd
  have hu := hu_of hr
  exact (ss_cons (s_set (i := 0) nd rfl (by first | exact Or.inl rfl | exact Or.inr rfl) (v_op o_mod (v 0) (v_op o_pow v_int v_int)))
      (ss_cons (s_set (i := 3) nd rfl (by first | exact Or.inl rfl | exact Or.inr rfl) (v_ix hu (v 2) (v_op o_mod (v_op o_fdiv (v 0) v_int) (v_callB c_len (by rfl) T.len_ bt_len (a_cons (v 2) a_nil)))))
      (ss_cons (s_if (t_cmp o_lt (v 1) (v_callB c_len (by rfl) T.len_ bt_len (a_cons (v 2) a_nil)) (by first | exact nomark _ | with_unfolding_all rfl))
        (ss_one (s_set (i := 3) nd rfl (by first | exact Or.inl rfl | exact Or.inr rfl) (v_ix hu (v 2) (v 1))))
        ss_nil)
      (ss_cons (s_set (i := 4) nd rfl (by first | exact Or.inl rfl | exact Or.inr rfl) (v_lst a_nil))
      (ss_cons (s_for PassesOwn.never rfl (i_range1 (by rfl) T.range_ (a_cons (v_op o_mod (v 0) v_int) a_nil)) (w_name (i := 5) nd rfl (by first | exact Or.inl rfl | exact Or.inr rfl))
        (ss_cons (s_set (i := 6) nd rfl (by first | exact Or.inl rfl | exact Or.inr rfl) (v_op o_mod (v_op o_fdiv (v_op o_addF (v 0) (v_op o_mulF (v 5) v_int)) (v_op o_addF v_int (v 5))) (v_op o_pow v_int v_int)))
      (ss_one (s_expr (v_bm PySem.F.plainAttrs_list PySem.F.slot_list_append PySem.F.type_list_append m_append (v 4) (a_cons (v_ix hu (v_lstF (a_cons (v_call G_m_word (hr.mono (by decide)) (by rfl) F_m_word.at_ F_m_word.fn.kp F_m_word.bi (a_cons (v_op o_fdiv (v 6) v_int) a_nil)) (a_cons (v_ix hu (v 2) (v_op o_mod (v_op o_fdiv (v 6) v_int) (v_callB c_len (by rfl) T.len_ bt_len (a_cons (v 2) a_nil)))) a_nil))) (v_op o_mod (v 6) v_int)) a_nil))))))
      (ss_one (s_ret (v_tup (a_cons (v 3) (a_cons (v_callTy c_tuple (by rfl) T.tuple_ bt_tuple (a_cons (v 4) a_nil)) (a_cons (v_ix hu (v_lstF (a_cons v_int (a_cons v_int (a_cons (v_op o_mod (v_op o_fdiv (v 0) v_int) v_int) (a_cons (v_op o_mod (v_op o_mulF (v_op o_addF (v 0) v_int) (v_op o_addF (v 0) v_int)) (v_op o_pow v_int v_int)) a_nil))))) (v_op o_mod (v_op o_fdiv (v 0) v_int) v_int)) a_nil)))))))))))
theorem ok_m_rule (T : Tx mg) {f_m_rule : Addr} {fd_m_rule : FuncData} (F_m_rule : Df K mg "_law_rule" s_m_rule ["cell", "k", "heads"] f_m_rule fd_m_rule) {f_m_word : Addr} {fd_m_word : FuncData} (F_m_word : Df K mg "_law_word" s_m_word ["number"] f_m_word fd_m_word) : FnOk P w K mg base CX0 2 f_m_rule fd_m_rule ["cell", "k", "heads"] (upSp K sp_m_rule) :=
  ok3 F_m_rule.fn sc_m_rule len_m_rule fun cdv A outer s H E ws M R hr h => ⟨rd_m_rule, tm_m_rule T F_m_word (ok_m_word T F_m_word) hr, good_m_rule h⟩
theorem sc_m_rules : FnScope N_m_rules ["script"] (defScope s_m_rules) := ⟨rfl, rfl, rfl, by decide +kernel, rfl, by decide +kernel, by decide +kernel⟩
theorem tm_m_rules {f : Addr} {cdv : Value} {A : Around} {outer : List Env} {s : Shared} {H : Hp} {E : XK} (T : Tx mg) {f_m_heads : Addr} {fd_m_heads : FuncData} (F_m_heads : Df K mg "_law_heads" s_m_heads ["cells"] f_m_heads fd_m_heads) (G_m_heads : FnOk P w K mg base CX0 1 f_m_heads fd_m_heads ["cells"] (upSp K sp_m_heads)) {f_l_cell_at : Addr} {fd_l_cell_at : FuncData} (F_l_cell_at : Df K mg "_law_cell_at" s_l_cell_at ["script", "k"] f_l_cell_at fd_l_cell_at) (G_l_cell_at : FnOk P w K mg base CX0 1 f_l_cell_at fd_l_cell_at ["script", "k"] (upSp K sp_l_cell_at)) {f_m_rule : Addr} {fd_m_rule : FuncData} (F_m_rule : Df K mg "_law_rule" s_m_rule ["cell", "k", "heads"] f_m_rule fd_m_rule) (G_m_rule : FnOk P w K mg base CX0 2 f_m_rule fd_m_rule ["cell", "k", "heads"] (upSp K sp_m_rule)) (hr : Room 2 (A.deeper (envOfC "_law_rules" (defScope s_m_rules) s.heap.objs.size f cdv))) :
    Ps3 (cxOf CX0 P w K mg base N_m_rules "_law_rules" (defScope s_m_rules) f cdv A outer s H E).nox (defBody s_m_rules) rd_m_rules := by
  have nd := sc_m_rules.nd
  have hu := hu_of hr
  exact (ss_cons (s_set (i := 1) nd rfl (by first | exact Or.inl rfl | exact Or.inr rfl) (v_call G_m_heads (hr.mono (by decide)) (by rfl) F_m_heads.at_ F_m_heads.fn.kp F_m_heads.bi (a_cons (v_op o_addF (v_sliceF (v 0) (s_some v_int) (s_some v_int)) (v_lstF (a_cons (v_call G_l_cell_at (hr.mono (by decide)) (by rfl) F_l_cell_at.at_ F_l_cell_at.fn.kp F_l_cell_at.bi (a_cons (v 0) (a_cons v_int a_nil))) a_nil))) a_nil)))
      (ss_cons (s_set (i := 2) nd rfl (by first | exact Or.inl rfl | exact Or.inr rfl) (v_lst a_nil))
      (ss_cons (s_for PassesOwn.never rfl (i_range1 (by rfl) T.range_ (a_cons (v_op o_addF (v_callB c_len (by rfl) T.len_ bt_len (a_cons (v 1) a_nil)) (v_op o_mod (v_op o_fdiv (v_call G_l_cell_at (hr.mono (by decide)) (by rfl) F_l_cell_at.at_ F_l_cell_at.fn.kp F_l_cell_at.bi (a_cons (v 0) (a_cons v_int a_nil))) v_int) v_int)) a_nil)) (w_name (i := 3) nd rfl (by first | exact Or.inl rfl | exact Or.inr rfl))
        (ss_one (s_expr (v_bm PySem.F.plainAttrs_list PySem.F.slot_list_append PySem.F.type_list_append m_append (v 2) (a_cons (v_call G_m_rule (hr.mono (by decide)) (by rfl) F_m_rule.at_ F_m_rule.fn.kp F_m_rule.bi (a_cons (v_call G_l_cell_at (hr.mono (by decide)) (by rfl) F_l_cell_at.at_ F_l_cell_at.fn.kp F_l_cell_at.bi (a_cons (v 0) (a_cons (v_op o_addF v_int (v 3)) a_nil))) (a_cons (v 3) (a_cons (v 1) a_nil)))) a_nil)))))
      (ss_one (s_ret (v 2))))))
theorem ok_m_rules (T : Tx mg) {f_m_rules : Addr} {fd_m_rules : FuncData} (F_m_rules : Df K mg "_law_rules" s_m_rules ["script"] f_m_rules fd_m_rules) {f_l_cell_at : Addr} {fd_l_cell_at : FuncData} (F_l_cell_at : Df K mg "_law_cell_at" s_l_cell_at ["script", "k"] f_l_cell_at fd_l_cell_at) {f_m_heads : Addr} {fd_m_heads : FuncData} (F_m_heads : Df K mg "_law_heads" s_m_heads ["cells"] f_m_heads fd_m_heads) {f_m_word : Addr} {fd_m_word : FuncData} (F_m_word : Df K mg "_law_word" s_m_word ["number"] f_m_word fd_m_word) {f_m_rule : Addr} {fd_m_rule : FuncData} (F_m_rule : Df K mg "_law_rule" s_m_rule ["cell", "k", "heads"] f_m_rule fd_m_rule) : FnOk P w K mg base CX0 3 f_m_rules fd_m_rules ["script"] (upSp K sp_m_rules) :=
  ok3 F_m_rules.fn sc_m_rules len_m_rules fun cdv A outer s H E ws M R hr h => ⟨rd_m_rules, tm_m_rules T F_m_heads (ok_m_heads T F_m_heads) F_l_cell_at (ok_l_cell_at T F_l_cell_at) F_m_rule (ok_m_rule T F_m_rule F_m_word) hr, good_m_rules h⟩
theorem sc_m_shown : FnScope N_m_shown ["rules"] (defScope s_m_shown) := ⟨rfl, rfl, rfl, by decide +kernel, rfl, by decide +kernel, by decide +kernel⟩
theorem tm_m_shown {f : Addr} {cdv : Value} {A : Around} {outer : List Env} {s : Shared} {H : Hp} {E : XK} (T : Tx mg) (hr : Room 0 (A.deeper (envOfC "_law_shown" (defScope s_m_shown) s.heap.objs.size f cdv))) :
    Ps3 (cxOf CX0 P w K mg base N_m_shown "_law_shown" (defScope s_m_shown) f cdv A outer s H E).nox (defBody s_m_shown) rd_m_shown := by
  have nd := sc_m_shown.nd
  have hu := hu_of hr
  exact (ss_cons (s_set (i := 1) nd rfl (by first | exact Or.inl rfl | exact Or.inr rfl) (v_lst a_nil))
      (ss_cons (s_for PassesOwn.never rfl (i_seq (v 0)) (w_tup rfl (w_cons (w_name (i := 2) nd rfl (by first | exact Or.inl rfl | exact Or.inr rfl)) (w_cons (w_name (i := 3) nd rfl (by first | exact Or.inl rfl | exact Or.inr rfl)) (w_cons (w_name (i := 4) nd rfl (by first | exact Or.inl rfl | exact Or.inr rfl)) w_nil))))
        (ss_cons (s_set (i := 5) nd rfl (by first | exact Or.inl rfl | exact Or.inr rfl) (v_bm PySem.F.plainAttrs_str PySem.F.slot_str_join PySem.F.type_str_join m_join v_str (a_cons (v_op o_addF (v_lstF (a_cons (v 2) (a_cons v_str a_nil))) (v_callTy (c_listF rfl) (by rfl) T.list_ bt_list (a_cons (v 3) a_nil))) a_nil)))
      (ss_cons (s_if (t_cmp o_gt (v 4) v_int (by first | exact nomark _ | with_unfolding_all rfl))
        (ss_one (s_set (i := 5) nd rfl (by first | exact Or.inl rfl | exact Or.inr rfl) (v_op o_addF (v_op o_addF (v 5) v_str) (v_callTy c_str (by rfl) T.str_ bt_str (a_cons (v 4) a_nil)))))
        ss_nil)
      (ss_one (s_expr (v_bm PySem.F.plainAttrs_list PySem.F.slot_list_append PySem.F.type_list_append m_append (v 1) (a_cons (v 5) a_nil)))))))
      (ss_one (s_ret (v_bm PySem.F.plainAttrs_str PySem.F.slot_str_join PySem.F.type_str_join m_join v_str (a_cons (v 1) a_nil))))))
theorem ok_m_shown (T : Tx mg) {f_m_shown : Addr} {fd_m_shown : FuncData} (F_m_shown : Df K mg "_law_shown" s_m_shown ["rules"] f_m_shown fd_m_shown) : FnOk P w K mg base CX0 1 f_m_shown fd_m_shown ["rules"] (upSp K sp_m_shown) :=
  ok3 F_m_shown.fn sc_m_shown len_m_shown fun cdv A outer s H E ws M R hr h => ⟨rd_m_shown, tm_m_shown T hr, good_m_shown h⟩
theorem sc_law : FnScope N_law ["script"] (defScope s_law) := ⟨rfl, rfl, rfl, by decide +kernel, rfl, by decide +kernel, by decide +kernel⟩
theorem tm_law {f : Addr} {cdv : Value} {A : Around} {outer : List Env} {s : Shared} {H : Hp} {E : XK} (T : Tx mg) {f_m_rules : Addr} {fd_m_rules : FuncData} (F_m_rules : Df K mg "_law_rules" s_m_rules ["script"] f_m_rules fd_m_rules) (G_m_rules : FnOk P w K mg base CX0 3 f_m_rules fd_m_rules ["script"] (upSp K sp_m_rules)) {f_m_shown : Addr} {fd_m_shown : FuncData} (F_m_shown : Df K mg "_law_shown" s_m_shown ["rules"] f_m_shown fd_m_shown) (G_m_shown : FnOk P w K mg base CX0 1 f_m_shown fd_m_shown ["rules"] (upSp K sp_m_shown)) {f_shown_grammar : Addr} {fd_shown_grammar : FuncData} (F_shown_grammar : Df K mg "shown_grammar" s_shown_grammar ["grammar"] f_shown_grammar fd_shown_grammar) (G_shown_grammar : FnOk P w K mg base CX0 4 f_shown_grammar fd_shown_grammar ["grammar"] (upSp K sp_shown_grammar)) {f_read_grammar : Addr} {fd_read_grammar : FuncData} (F_read_grammar : Df K mg "read_grammar" s_read_grammar ["text"] f_read_grammar fd_read_grammar) (G_read_grammar : FnOk P w K mg base CX0 5 f_read_grammar fd_read_grammar ["text"] (upSp K sp_read_grammar)) (hr : Room 5 (A.deeper (envOfC "law" (defScope s_law) s.heap.objs.size f cdv))) :
    Ps3 (cxOf CX0 P w K mg base N_law "law" (defScope s_law) f cdv A outer s H E).nox (defBody s_law) rd_law := by
  have nd := sc_law.nd
  have hu := hu_of hr
  exact (ss_cons (s_set (i := 1) nd rfl (by first | exact Or.inl rfl | exact Or.inr rfl) (v_frz (v_call G_m_rules (hr.mono (by decide)) (by rfl) F_m_rules.at_ F_m_rules.fn.kp F_m_rules.bi (a_cons (v 0) a_nil))))
      (ss_cons (s_set (i := 2) nd rfl (by first | exact Or.inl rfl | exact Or.inr rfl) (v_callTy (c_listF rfl) (by rfl) T.list_ bt_list (a_cons (v 1) a_nil)))
      (ss_cons (s_set (i := 3) nd rfl (by first | exact Or.inl rfl | exact Or.inr rfl) (v_call G_m_shown (hr.mono (by decide)) (by rfl) F_m_shown.at_ F_m_shown.fn.kp F_m_shown.bi (a_cons (v 1) a_nil)))
      (ss_cons (s_set (i := 4) nd rfl (by first | exact Or.inl rfl | exact Or.inr rfl) (v_call G_shown_grammar (hr.mono (by decide)) (by rfl) F_shown_grammar.at_ F_shown_grammar.fn.kp F_shown_grammar.bi (a_cons (v 2) a_nil)))
      (ss_cons (s_if (PW.pt (t_or (t_not (t_val (v_callB c_isi (by rfl) T.isinstance_ bt_isinstance (a_cons (v 4) (a_cons (v_bltn (by rfl) T.str_ bt_str (y := .ty "str") rfl (fun _ _ => .ty _)) a_nil))))) (t_or (t_cmp (o_ne hr.units) (v 4) (v 3) (by first | exact nomark _ | with_unfolding_all rfl)) (t_or1 (t_cmp (o_ne hr.units) (v 2) (v 1) (by first | exact nomark _ | with_unfolding_all rfl))))))
        (ss_one (s_ret v_bl))
        ss_nil)
      (ss_cons (s_set (i := 5) nd rfl (by first | exact Or.inl rfl | exact Or.inr rfl) (v_call G_read_grammar (hr.mono (by decide)) (by rfl) F_read_grammar.at_ F_read_grammar.fn.kp F_read_grammar.bi (a_cons (v 3) a_nil)))
      (ss_cons (s_if (PW.pt (t_or (t_not (t_val (v_callB c_isi (by rfl) T.isinstance_ bt_isinstance (a_cons (v 5) (a_cons (v_bltn (by rfl) T.list_ bt_list (y := .ty "list") rfl (fun _ _ => .ty _)) a_nil))))) (t_or1 (t_cmp (o_ne hr.units) (v 5) (v 1) (by first | exact nomark _ | with_unfolding_all rfl)))))
        (ss_one (s_ret v_bl))
        ss_nil)
      (ss_cons (s_for PassesOwn.never rfl (i_seq (v 5)) (w_tup rfl (w_cons (w_name (i := 6) nd rfl (by first | exact Or.inl rfl | exact Or.inr rfl)) (w_cons (w_name (i := 7) nd rfl (by first | exact Or.inl rfl | exact Or.inr rfl)) (w_cons (w_name (i := 8) nd rfl (by first | exact Or.inl rfl | exact Or.inr rfl)) w_nil))))
        (ss_one (s_if (PW.pt (t_or (t_not (t_val (v_callB c_isi (by rfl) T.isinstance_ bt_isinstance (a_cons (v 7) (a_cons (v_bltn (by rfl) T.tuple_ bt_tuple (y := .ty "tuple") rfl (fun _ _ => .ty _)) a_nil))))) (t_or (t_not (t_val (v_callB c_isi (by rfl) T.isinstance_ bt_isinstance (a_cons (v 8) (a_cons (v_bltn (by rfl) T.int_ bt_int (y := .ty "int") rfl (fun _ _ => .ty _)) a_nil))))) (t_or1 (t_val (v_callB c_isi (by rfl) T.isinstance_ bt_isinstance (a_cons (v 8) (a_cons (v_bltn (by rfl) T.bool_ bt_bool (y := .ty "bool") rfl (fun _ _ => .ty _)) a_nil))))))))
        (ss_one (s_ret v_bl))
        ss_nil)))
      (ss_cons (s_expr (v_bm0 PySem.F.plainAttrs_list PySem.F.slot_list_clear PySem.F.type_list_clear m_clear (v 5)))
      (ss_one (s_ret (v_cmp (o_eq hr.units) (v_frz (v_call G_read_grammar (hr.mono (by decide)) (by rfl) F_read_grammar.at_ F_read_grammar.fn.kp F_read_grammar.bi (a_cons (v 3) a_nil))) (v 1) (by first | exact nomark _ | with_unfolding_all rfl)))))))))))))
theorem ok_law (T : Tx mg) {f_law : Addr} {fd_law : FuncData} (F_law : Df K mg "law" s_law ["script"] f_law fd_law) {f_made_of : Addr} {fd_made_of : FuncData} (F_made_of : Df K mg "made_of" s_made_of ["text", "signs"] f_made_of fd_made_of) {f_is_name : Addr} {fd_is_name : FuncData} (F_is_name : Df K mg "is_name" s_is_name ["part"] f_is_name fd_is_name) {f_names : Addr} {fd_names : FuncData} (F_names : Df K mg "names" s_names ["grammar"] f_names fd_names) {f_check_rule : Addr} {fd_check_rule : FuncData} (F_check_rule : Df K mg "check_rule" s_check_rule ["rule", "known"] f_check_rule fd_check_rule) {f_grammar_of : Addr} {fd_grammar_of : FuncData} (F_grammar_of : Df K mg "grammar_of" s_grammar_of ["rules"] f_grammar_of fd_grammar_of) {f_divided : Addr} {fd_divided : FuncData} (F_divided : Df K mg "divided" s_divided ["number", "divisor"] f_divided fd_divided) {f_squared_powers : Addr} {fd_squared_powers : FuncData} (F_squared_powers : Df K mg "squared_powers" s_squared_powers ["number"] f_squared_powers fd_squared_powers) {f_figures_of : Addr} {fd_figures_of : FuncData} (F_figures_of : Df K mg "figures_of" s_figures_of ["number"] f_figures_of fd_figures_of) {f_writes_word : Addr} {fd_writes_word : FuncData} (F_writes_word : Df K mg "writes_word" s_writes_word ["text"] f_writes_word fd_writes_word) {f_writes_name : Addr} {fd_writes_name : FuncData} (F_writes_name : Df K mg "writes_name" s_writes_name ["text"] f_writes_name fd_writes_name) {f_writes_number : Addr} {fd_writes_number : FuncData} (F_writes_number : Df K mg "writes_number" s_writes_number ["text"] f_writes_number fd_writes_number) {f_shown_rule : Addr} {fd_shown_rule : FuncData} (F_shown_rule : Df K mg "shown_rule" s_shown_rule ["rule"] f_shown_rule fd_shown_rule) {f_shown_grammar : Addr} {fd_shown_grammar : FuncData} (F_shown_grammar : Df K mg "shown_grammar" s_shown_grammar ["grammar"] f_shown_grammar fd_shown_grammar) {f_written_cost : Addr} {fd_written_cost : FuncData} (F_written_cost : Df K mg "written_cost" s_written_cost ["pieces"] f_written_cost fd_written_cost) {f_read_rule : Addr} {fd_read_rule : FuncData} (F_read_rule : Df K mg "read_rule" s_read_rule ["text"] f_read_rule fd_read_rule) {f_read_grammar : Addr} {fd_read_grammar : FuncData} (F_read_grammar : Df K mg "read_grammar" s_read_grammar ["text"] f_read_grammar fd_read_grammar) {f_l_cell_at : Addr} {fd_l_cell_at : FuncData} (F_l_cell_at : Df K mg "_law_cell_at" s_l_cell_at ["script", "k"] f_l_cell_at fd_l_cell_at) {f_m_heads : Addr} {fd_m_heads : FuncData} (F_m_heads : Df K mg "_law_heads" s_m_heads ["cells"] f_m_heads fd_m_heads) {f_m_word : Addr} {fd_m_word : FuncData} (F_m_word : Df K mg "_law_word" s_m_word ["number"] f_m_word fd_m_word) {f_m_rule : Addr} {fd_m_rule : FuncData} (F_m_rule : Df K mg "_law_rule" s_m_rule ["cell", "k", "heads"] f_m_rule fd_m_rule) {f_m_rules : Addr} {fd_m_rules : FuncData} (F_m_rules : Df K mg "_law_rules" s_m_rules ["script"] f_m_rules fd_m_rules) {f_m_shown : Addr} {fd_m_shown : FuncData} (F_m_shown : Df K mg "_law_shown" s_m_shown ["rules"] f_m_shown fd_m_shown) : FnOk P w K mg base CX0 6 f_law fd_law ["script"] (upSp K sp_law) :=
  ok3 F_law.fn sc_law len_law fun cdv A outer s H E ws M R hr h => ⟨rd_law, tm_law T F_m_rules (ok_m_rules T F_m_rules F_l_cell_at F_m_heads F_m_word F_m_rule) F_m_shown (ok_m_shown T F_m_shown) F_shown_grammar (ok_shown_grammar T F_shown_grammar F_divided F_squared_powers F_figures_of F_shown_rule) F_read_grammar (ok_read_grammar T F_read_grammar F_made_of F_is_name F_names F_check_rule F_grammar_of F_writes_word F_writes_name F_writes_number F_written_cost F_read_rule) hr, good_law h⟩
end
end Rg
set_option Elab.async false
set_option linter.all false
set_option maxRecDepth 100000
set_option maxHeartbeats 4000000
namespace Rg
open PySem PySem.Spec PyProof.Rows L2 L3
noncomputable def en (P : Params) (x : String) (t : Tok) (v : Value) : DictEntry := ⟨PyData.keyHash P (Str.ofString x), .str (Str.ofString x) t, v⟩
noncomputable def hpK : Params → PySem.W.Frag := fun P => [(nat_lit 3, ⟨(.type "dict"), none, .dict [en P "__name__" 165 (.str (Str.ofString "law_readgrove_k80_grammars_written") 438), en P "__doc__" 166 .none, en P "__package__" 167 .none, en P "__loader__" 168 (.builtin "__main__.__loader__#opaque"), en P "__spec__" 169 .none, en P "__annotations__" 170 (.ref 6), en P "__builtins__" 171 (.ref 4), en P "__file__" 173 (.str (Str.ofString "/claim/cut.py") 172), en P "__cached__" 174 .none, en P "GroveError" 206 (.ref 24), en P "NoGrammar" 222 (.ref 37), en P "NoText" 238 (.ref 49), en P "GREAT_LETTERS" 242 (.str (Str.ofString "ABCDEFGHIJKLMNOPQRSTUVWXYZ") 241), en P "FIGURES" 244 (.str (Str.ofString "0123456789") 243), en P "made_of" 250 (.ref 56), en P "is_name" 259 (.ref 63), en P "names" 268 (.ref 70), en P "check_rule" 277 (.ref 77), en P "grammar_of" 286 (.ref 84), en P "FEW_BITS" 290 (.int 4000 289), en P "PIECE_FIGURES" 292 (.int 64 291), en P "all_bits" 299 (.ref 91), en P "low_bits" 307 (.ref 98), en P "halving_size" 315 (.ref 105), en P "divided_by_upper" 329 (.ref 112), en P "divided_by_size" 341 (.ref 119), en P "divided" 358 (.ref 126), en P "squared_powers" 366 (.ref 133), en P "figures_of" 372 (.ref 138), en P "SMALL_LETTERS" 376 (.str (Str.ofString "abcdefghijklmnopqrstuvwxyz") 375), en P "MOST_LETTERS" 378 (.int 8 377), en P "MOST_NAME_FIGURES" 380 (.int 4 379), en P "MOST_FIGURES" 382 (.int 60 381), en P "writes_word" 389 (.ref 145), en P "writes_name" 397 (.ref 152), en P "writes_number" 404 (.ref 159), en P "shown_rule" 412 (.ref 166), en P "shown_grammar" 418 (.ref 171), en P "written_cost" 425 (.ref 178), en P "read_rule" 431 (.ref 183), en P "read_grammar" 437 (.ref 188), en P "_law_cell_at" 447 (.ref 195), en P "_law_heads" 453 (.ref 200), en P "_law_word" 459 (.ref 205), en P "_law_rule" 472 (.ref 212), en P "_law_rules" 482 (.ref 219), en P "_law_shown" 494 (.ref 226), en P "law" 509 (.ref 233)].toArray 48, #[]⟩),
  (nat_lit 55, ⟨(.type "code"), none, .fields #[(.str (Str.ofString "made_of") 245), (.str (Str.ofString "made_of") 246), (.str (Str.ofString "/claim/cut.py") 247), (.int 11 0), (.int 2 0), (.int 0 0), (.int 0 0), (.int 3 0), (.ref 52), (.bool true), (.int 181 0), (.ref 53), .none, .none, .none, (.ref 54), (.int 248 0), (.int 11 0), (.str (Str.ofString "/claim/cut.py") 249)], #[]⟩),
  (nat_lit 56, ⟨(.type "function"), none, .func (PySem.W.fnOf "made_of" "made_of" (defArgs s_made_of) (defBody s_made_of) (defScope s_made_of) .none .none .none (.str (Str.ofString "readgrove.grammars") 239) none (.ref 55) .none), #[]⟩),
  (nat_lit 62, ⟨(.type "code"), none, .fields #[(.str (Str.ofString "is_name") 251), (.str (Str.ofString "is_name") 252), (.str (Str.ofString "/claim/cut.py") 253), (.int 13 0), (.int 1 0), (.int 0 0), (.int 0 0), (.int 3 0), (.ref 57), (.bool true), (.int 181 0), (.ref 58), .none, (.ref 59), (.ref 60), (.ref 61), (.int 257 0), (.int 13 0), (.str (Str.ofString "/claim/cut.py") 258)], #[]⟩),
  (nat_lit 63, ⟨(.type "function"), none, .func (PySem.W.fnOf "is_name" "is_name" (defArgs s_is_name) (defBody s_is_name) (defScope s_is_name) .none .none .none (.str (Str.ofString "readgrove.grammars") 239) none (.ref 62) .none), #[]⟩),
  (nat_lit 69, ⟨(.type "code"), none, .fields #[(.str (Str.ofString "names") 260), (.str (Str.ofString "names") 261), (.str (Str.ofString "/claim/cut.py") 262), (.int 17 0), (.int 1 0), (.int 0 0), (.int 0 0), (.int 3 0), (.ref 64), (.bool true), (.int 181 0), (.ref 65), .none, (.ref 66), (.ref 67), (.ref 68), (.int 266 0), (.int 17 0), (.str (Str.ofString "/claim/cut.py") 267)], #[]⟩),
  (nat_lit 70, ⟨(.type "function"), none, .func (PySem.W.fnOf "names" "names" (defArgs s_names) (defBody s_names) (defScope s_names) .none .none .none (.str (Str.ofString "readgrove.grammars") 239) none (.ref 69) .none), #[]⟩),
  (nat_lit 76, ⟨(.type "code"), none, .fields #[(.str (Str.ofString "check_rule") 269), (.str (Str.ofString "check_rule") 270), (.str (Str.ofString "/claim/cut.py") 271), (.int 22 0), (.int 2 0), (.int 0 0), (.int 0 0), (.int 3 0), (.ref 71), (.bool true), (.int 181 0), (.ref 72), .none, (.ref 73), (.ref 74), (.ref 75), (.int 275 0), (.int 22 0), (.str (Str.ofString "/claim/cut.py") 276)], #[]⟩),
  (nat_lit 77, ⟨(.type "function"), none, .func (PySem.W.fnOf "check_rule" "check_rule" (defArgs s_check_rule) (defBody s_check_rule) (defScope s_check_rule) .none .none .none (.str (Str.ofString "readgrove.grammars") 239) none (.ref 76) .none), #[]⟩),
  (nat_lit 83, ⟨(.type "code"), none, .fields #[(.str (Str.ofString "grammar_of") 278), (.str (Str.ofString "grammar_of") 279), (.str (Str.ofString "/claim/cut.py") 280), (.int 28 0), (.int 1 0), (.int 0 0), (.int 0 0), (.int 3 0), (.ref 78), (.bool true), (.int 181 0), (.ref 79), .none, (.ref 80), (.ref 81), (.ref 82), (.int 284 0), (.int 28 0), (.str (Str.ofString "/claim/cut.py") 285)], #[]⟩),
  (nat_lit 84, ⟨(.type "function"), none, .func (PySem.W.fnOf "grammar_of" "grammar_of" (defArgs s_grammar_of) (defBody s_grammar_of) (defScope s_grammar_of) .none .none .none (.str (Str.ofString "readgrove.grammars") 239) none (.ref 83) .none), #[]⟩),
  (nat_lit 125, ⟨(.type "code"), none, .fields #[(.str (Str.ofString "divided") 342), (.str (Str.ofString "divided") 343), (.str (Str.ofString "/claim/cut.py") 344), (.int 67 0), (.int 2 0), (.int 0 0), (.int 0 0), (.int 3 0), (.ref 120), (.bool true), (.int 181 0), (.ref 121), .none, (.ref 122), (.ref 123), (.ref 124), (.int 356 0), (.int 67 0), (.str (Str.ofString "/claim/cut.py") 357)], #[]⟩),
  (nat_lit 126, ⟨(.type "function"), none, .func (PySem.W.fnOf "divided" "divided" (defArgs s_divided) (defBody s_divided) (defScope s_divided) .none .none .none (.str (Str.ofString "readgrove.greats") 287) none (.ref 125) .none), #[]⟩),
  (nat_lit 132, ⟨(.type "code"), none, .fields #[(.str (Str.ofString "squared_powers") 359), (.str (Str.ofString "squared_powers") 360), (.str (Str.ofString "/claim/cut.py") 361), (.int 82 0), (.int 1 0), (.int 0 0), (.int 0 0), (.int 3 0), (.ref 127), (.bool true), (.int 181 0), (.ref 128), .none, (.ref 129), (.ref 130), (.ref 131), (.int 364 0), (.int 82 0), (.str (Str.ofString "/claim/cut.py") 365)], #[]⟩),
  (nat_lit 133, ⟨(.type "function"), none, .func (PySem.W.fnOf "squared_powers" "squared_powers" (defArgs s_squared_powers) (defBody s_squared_powers) (defScope s_squared_powers) .none .none .none (.str (Str.ofString "readgrove.greats") 287) none (.ref 132) .none), #[]⟩),
  (nat_lit 137, ⟨(.type "code"), none, .fields #[(.str (Str.ofString "figures_of") 367), (.str (Str.ofString "figures_of") 368), (.str (Str.ofString "/claim/cut.py") 369), (.int 87 0), (.int 1 0), (.int 0 0), (.int 0 0), (.int 3 0), (.ref 134), (.bool true), (.int 181 0), (.ref 135), .none, .none, .none, (.ref 136), (.int 370 0), (.int 87 0), (.str (Str.ofString "/claim/cut.py") 371)], #[]⟩),
  (nat_lit 138, ⟨(.type "function"), none, .func (PySem.W.fnOf "figures_of" "figures_of" (defArgs s_figures_of) (defBody s_figures_of) (defScope s_figures_of) .none .none .none (.str (Str.ofString "readgrove.greats") 287) none (.ref 137) .none), #[]⟩),
  (nat_lit 144, ⟨(.type "code"), none, .fields #[(.str (Str.ofString "writes_word") 383), (.str (Str.ofString "writes_word") 384), (.str (Str.ofString "/claim/cut.py") 385), (.int 101 0), (.int 1 0), (.int 0 0), (.int 0 0), (.int 3 0), (.ref 139), (.bool true), (.int 181 0), (.ref 140), .none, (.ref 141), (.ref 142), (.ref 143), (.int 387 0), (.int 101 0), (.str (Str.ofString "/claim/cut.py") 388)], #[]⟩),
  (nat_lit 145, ⟨(.type "function"), none, .func (PySem.W.fnOf "writes_word" "writes_word" (defArgs s_writes_word) (defBody s_writes_word) (defScope s_writes_word) .none .none .none (.str (Str.ofString "readgrove.texts") 373) none (.ref 144) .none), #[]⟩),
  (nat_lit 151, ⟨(.type "code"), none, .fields #[(.str (Str.ofString "writes_name") 390), (.str (Str.ofString "writes_name") 391), (.str (Str.ofString "/claim/cut.py") 392), (.int 103 0), (.int 1 0), (.int 0 0), (.int 0 0), (.int 3 0), (.ref 146), (.bool true), (.int 181 0), (.ref 147), .none, (.ref 148), (.ref 149), (.ref 150), (.int 395 0), (.int 103 0), (.str (Str.ofString "/claim/cut.py") 396)], #[]⟩),
  (nat_lit 152, ⟨(.type "function"), none, .func (PySem.W.fnOf "writes_name" "writes_name" (defArgs s_writes_name) (defBody s_writes_name) (defScope s_writes_name) .none .none .none (.str (Str.ofString "readgrove.texts") 373) none (.ref 151) .none), #[]⟩),
  (nat_lit 158, ⟨(.type "code"), none, .fields #[(.str (Str.ofString "writes_number") 398), (.str (Str.ofString "writes_number") 399), (.str (Str.ofString "/claim/cut.py") 400), (.int 106 0), (.int 1 0), (.int 0 0), (.int 0 0), (.int 3 0), (.ref 153), (.bool true), (.int 181 0), (.ref 154), .none, (.ref 155), (.ref 156), (.ref 157), (.int 402 0), (.int 106 0), (.str (Str.ofString "/claim/cut.py") 403)], #[]⟩),
  (nat_lit 159, ⟨(.type "function"), none, .func (PySem.W.fnOf "writes_number" "writes_number" (defArgs s_writes_number) (defBody s_writes_number) (defScope s_writes_number) .none .none .none (.str (Str.ofString "readgrove.texts") 373) none (.ref 158) .none), #[]⟩),
  (nat_lit 165, ⟨(.type "code"), none, .fields #[(.str (Str.ofString "shown_rule") 405), (.str (Str.ofString "shown_rule") 406), (.str (Str.ofString "/claim/cut.py") 407), (.int 108 0), (.int 1 0), (.int 0 0), (.int 0 0), (.int 3 0), (.ref 160), (.bool true), (.int 181 0), (.ref 161), .none, (.ref 162), (.ref 163), (.ref 164), (.int 410 0), (.int 108 0), (.str (Str.ofString "/claim/cut.py") 411)], #[]⟩),
  (nat_lit 166, ⟨(.type "function"), none, .func (PySem.W.fnOf "shown_rule" "shown_rule" (defArgs s_shown_rule) (defBody s_shown_rule) (defScope s_shown_rule) .none .none .none (.str (Str.ofString "readgrove.texts") 373) none (.ref 165) .none), #[]⟩),
  (nat_lit 170, ⟨(.type "code"), none, .fields #[(.str (Str.ofString "shown_grammar") 413), (.str (Str.ofString "shown_grammar") 414), (.str (Str.ofString "/claim/cut.py") 415), (.int 113 0), (.int 1 0), (.int 0 0), (.int 0 0), (.int 3 0), (.ref 167), (.bool true), (.int 181 0), (.ref 168), .none, .none, .none, (.ref 169), (.int 416 0), (.int 113 0), (.str (Str.ofString "/claim/cut.py") 417)], #[]⟩),
  (nat_lit 171, ⟨(.type "function"), none, .func (PySem.W.fnOf "shown_grammar" "shown_grammar" (defArgs s_shown_grammar) (defBody s_shown_grammar) (defScope s_shown_grammar) .none .none .none (.str (Str.ofString "readgrove.texts") 373) none (.ref 170) .none), #[]⟩),
  (nat_lit 177, ⟨(.type "code"), none, .fields #[(.str (Str.ofString "written_cost") 419), (.str (Str.ofString "written_cost") 420), (.str (Str.ofString "/claim/cut.py") 421), (.int 115 0), (.int 1 0), (.int 0 0), (.int 0 0), (.int 3 0), (.ref 172), (.bool true), (.int 181 0), (.ref 173), .none, (.ref 174), (.ref 175), (.ref 176), (.int 423 0), (.int 115 0), (.str (Str.ofString "/claim/cut.py") 424)], #[]⟩),
  (nat_lit 178, ⟨(.type "function"), none, .func (PySem.W.fnOf "written_cost" "written_cost" (defArgs s_written_cost) (defBody s_written_cost) (defScope s_written_cost) .none .none .none (.str (Str.ofString "readgrove.texts") 373) none (.ref 177) .none), #[]⟩),
  (nat_lit 182, ⟨(.type "code"), none, .fields #[(.str (Str.ofString "read_rule") 426), (.str (Str.ofString "read_rule") 427), (.str (Str.ofString "/claim/cut.py") 428), (.int 121 0), (.int 1 0), (.int 0 0), (.int 0 0), (.int 3 0), (.ref 179), (.bool true), (.int 181 0), (.ref 180), .none, .none, .none, (.ref 181), (.int 429 0), (.int 121 0), (.str (Str.ofString "/claim/cut.py") 430)], #[]⟩),
  (nat_lit 183, ⟨(.type "function"), none, .func (PySem.W.fnOf "read_rule" "read_rule" (defArgs s_read_rule) (defBody s_read_rule) (defScope s_read_rule) .none .none .none (.str (Str.ofString "readgrove.texts") 373) none (.ref 182) .none), #[]⟩),
  (nat_lit 187, ⟨(.type "code"), none, .fields #[(.str (Str.ofString "read_grammar") 432), (.str (Str.ofString "read_grammar") 433), (.str (Str.ofString "/claim/cut.py") 434), (.int 130 0), (.int 1 0), (.int 0 0), (.int 0 0), (.int 3 0), (.ref 184), (.bool true), (.int 181 0), (.ref 185), .none, .none, .none, (.ref 186), (.int 435 0), (.int 130 0), (.str (Str.ofString "/claim/cut.py") 436)], #[]⟩),
  (nat_lit 188, ⟨(.type "function"), none, .func (PySem.W.fnOf "read_grammar" "read_grammar" (defArgs s_read_grammar) (defBody s_read_grammar) (defScope s_read_grammar) .none .none .none (.str (Str.ofString "readgrove.texts") 373) none (.ref 187) .none), #[]⟩),
  (nat_lit 194, ⟨(.type "code"), none, .fields #[(.str (Str.ofString "_law_cell_at") 440), (.str (Str.ofString "_law_cell_at") 441), (.str (Str.ofString "/claim/cut.py") 442), (.int 133 0), (.int 2 0), (.int 0 0), (.int 0 0), (.int 3 0), (.ref 189), (.bool true), (.int 181 0), (.ref 190), .none, (.ref 191), (.ref 192), (.ref 193), (.int 445 0), (.int 133 0), (.str (Str.ofString "/claim/cut.py") 446)], #[]⟩),
  (nat_lit 195, ⟨(.type "function"), none, .func (PySem.W.fnOf "_law_cell_at" "_law_cell_at" (defArgs s_l_cell_at) (defBody s_l_cell_at) (defScope s_l_cell_at) .none .none .none (.str (Str.ofString "law_readgrove_k80_grammars_written") 438) none (.ref 194) .none), #[]⟩),
  (nat_lit 199, ⟨(.type "code"), none, .fields #[(.str (Str.ofString "_law_heads") 448), (.str (Str.ofString "_law_heads") 449), (.str (Str.ofString "/claim/cut.py") 450), (.int 137 0), (.int 1 0), (.int 0 0), (.int 0 0), (.int 3 0), (.ref 196), (.bool true), (.int 181 0), (.ref 197), .none, .none, .none, (.ref 198), (.int 451 0), (.int 137 0), (.str (Str.ofString "/claim/cut.py") 452)], #[]⟩),
  (nat_lit 200, ⟨(.type "function"), none, .func (PySem.W.fnOf "_law_heads" "_law_heads" (defArgs s_m_heads) (defBody s_m_heads) (defScope s_m_heads) .none .none .none (.str (Str.ofString "law_readgrove_k80_grammars_written") 438) none (.ref 199) .none), #[]⟩),
  (nat_lit 204, ⟨(.type "code"), none, .fields #[(.str (Str.ofString "_law_word") 454), (.str (Str.ofString "_law_word") 455), (.str (Str.ofString "/claim/cut.py") 456), (.int 147 0), (.int 1 0), (.int 0 0), (.int 0 0), (.int 3 0), (.ref 201), (.bool true), (.int 181 0), (.ref 202), .none, .none, .none, (.ref 203), (.int 457 0), (.int 147 0), (.str (Str.ofString "/claim/cut.py") 458)], #[]⟩),
  (nat_lit 205, ⟨(.type "function"), none, .func (PySem.W.fnOf "_law_word" "_law_word" (defArgs s_m_word) (defBody s_m_word) (defScope s_m_word) .none .none .none (.str (Str.ofString "law_readgrove_k80_grammars_written") 438) none (.ref 204) .none), #[]⟩),
  (nat_lit 211, ⟨(.type "code"), none, .fields #[(.str (Str.ofString "_law_rule") 460), (.str (Str.ofString "_law_rule") 461), (.str (Str.ofString "/claim/cut.py") 462), (.int 149 0), (.int 3 0), (.int 0 0), (.int 0 0), (.int 3 0), (.ref 206), (.bool true), (.int 181 0), (.ref 207), .none, (.ref 208), (.ref 209), (.ref 210), (.int 470 0), (.int 149 0), (.str (Str.ofString "/claim/cut.py") 471)], #[]⟩),
  (nat_lit 212, ⟨(.type "function"), none, .func (PySem.W.fnOf "_law_rule" "_law_rule" (defArgs s_m_rule) (defBody s_m_rule) (defScope s_m_rule) .none .none .none (.str (Str.ofString "law_readgrove_k80_grammars_written") 438) none (.ref 211) .none), #[]⟩),
  (nat_lit 218, ⟨(.type "code"), none, .fields #[(.str (Str.ofString "_law_rules") 473), (.str (Str.ofString "_law_rules") 474), (.str (Str.ofString "/claim/cut.py") 475), (.int 159 0), (.int 1 0), (.int 0 0), (.int 0 0), (.int 3 0), (.ref 213), (.bool true), (.int 181 0), (.ref 214), .none, (.ref 215), (.ref 216), (.ref 217), (.int 480 0), (.int 159 0), (.str (Str.ofString "/claim/cut.py") 481)], #[]⟩),
  (nat_lit 219, ⟨(.type "function"), none, .func (PySem.W.fnOf "_law_rules" "_law_rules" (defArgs s_m_rules) (defBody s_m_rules) (defScope s_m_rules) .none .none .none (.str (Str.ofString "law_readgrove_k80_grammars_written") 438) none (.ref 218) .none), #[]⟩),
  (nat_lit 225, ⟨(.type "code"), none, .fields #[(.str (Str.ofString "_law_shown") 483), (.str (Str.ofString "_law_shown") 484), (.str (Str.ofString "/claim/cut.py") 485), (.int 165 0), (.int 1 0), (.int 0 0), (.int 0 0), (.int 3 0), (.ref 220), (.bool true), (.int 181 0), (.ref 221), .none, (.ref 222), (.ref 223), (.ref 224), (.int 492 0), (.int 165 0), (.str (Str.ofString "/claim/cut.py") 493)], #[]⟩),
  (nat_lit 226, ⟨(.type "function"), none, .func (PySem.W.fnOf "_law_shown" "_law_shown" (defArgs s_m_shown) (defBody s_m_shown) (defScope s_m_shown) .none .none .none (.str (Str.ofString "law_readgrove_k80_grammars_written") 438) none (.ref 225) .none), #[]⟩),
  (nat_lit 232, ⟨(.type "code"), none, .fields #[(.str (Str.ofString "law") 495), (.str (Str.ofString "law") 496), (.str (Str.ofString "/claim/cut.py") 497), (.int 173 0), (.int 1 0), (.int 0 0), (.int 0 0), (.int 3 0), (.ref 227), (.bool true), (.int 181 0), (.ref 228), .none, (.ref 229), (.ref 230), (.ref 231), (.int 507 0), (.int 173 0), (.str (Str.ofString "/claim/cut.py") 508)], #[]⟩),
  (nat_lit 233, ⟨(.type "function"), none, .func (PySem.W.fnOf "law" "law" (defArgs s_law) (defBody s_law) (defScope s_law) .none .none .none (.str (Str.ofString "law_readgrove_k80_grammars_written") 438) none (.ref 232) .none), #[]⟩)]
noncomputable def hpA : List Addr := [nat_lit 3, nat_lit 55, nat_lit 56, nat_lit 62, nat_lit 63, nat_lit 69, nat_lit 70, nat_lit 76, nat_lit 77, nat_lit 83, nat_lit 84, nat_lit 125, nat_lit 126, nat_lit 132, nat_lit 133, nat_lit 137, nat_lit 138, nat_lit 144, nat_lit 145, nat_lit 151, nat_lit 152, nat_lit 158, nat_lit 159, nat_lit 165, nat_lit 166, nat_lit 170, nat_lit 171, nat_lit 177, nat_lit 178, nat_lit 182, nat_lit 183, nat_lit 187, nat_lit 188, nat_lit 194, nat_lit 195, nat_lit 199, nat_lit 200, nat_lit 204, nat_lit 205, nat_lit 211, nat_lit 212, nat_lit 218, nat_lit 219, nat_lit 225, nat_lit 226, nat_lit 232, nat_lit 233]
noncomputable def qv : Program := { PySem.Challenge.pw_readgrove_k80_grammars_written with main := { PySem.Challenge.pw_readgrove_k80_grammars_written.main with body := [top 1, top 2, top 3, top 5, top 6, top 7, top 8, top 9, top 10, top 11, top 13, top 14, top 15, top 16, top 17, top 18, top 19, top 20, top 21, top 22, top 24, top 25, top 26, top 27, top 28, top 29, top 30, top 31, top 32, top 33, top 34, top 35, top 37, top 38, top 39, top 40, top 41, top 42, top 43] } }
noncomputable def hk : PySem.W.Hook := PySem.W.kHook hpK hpA (fun _ => by kernel_rfl)
theorem ar0 {C : List Value → Prop} (h : C []) : ∀ us : List Value, us.length = 0 → C us := fun us e => by cases us with | nil => exact h | cons a l => exact nomatch e
theorem ar1 {C : List Value → Prop} (h : ∀ a0, C [a0]) : ∀ us : List Value, us.length = 1 → C us := fun us e => by cases us with | nil => exact nomatch e | cons a l => exact ar0 (C := fun l => C (a :: l)) (h a) l (Nat.succ.inj e)
theorem ar2 {C : List Value → Prop} (h : ∀ a0 a1, C [a0, a1]) : ∀ us : List Value, us.length = 2 → C us := fun us e => by cases us with | nil => exact nomatch e | cons a l => exact ar1 (C := fun l => C (a :: l)) (h a) l (Nat.succ.inj e)
theorem ar3 {C : List Value → Prop} (h : ∀ a0 a1 a2, C [a0, a1, a2]) : ∀ us : List Value, us.length = 3 → C us := fun us e => by cases us with | nil => exact nomatch e | cons a l => exact ar2 (C := fun l => C (a :: l)) (h a) l (Nat.succ.inj e)
def mg_is (K : Params → PySem.W.Frag) (a : Addr) (x : Str) : Prop := ∀ P, PySem.W.nsIn (K P) mainGlobals x = some (some (.ref a))
section
variable {w : World} {h : Heap} {mg : Str → Option Value}
theorem ns_made_of : mg_is hpK 56 "made_of" := fun _ => by kernel_rfl
noncomputable abbrev fd_made_of : FuncData := (PySem.W.fnOf "made_of" "made_of" (defArgs s_made_of) (defBody s_made_of) (defScope s_made_of) .none .none .none (.str (Str.ofString "readgrove.grammars") 239) none (.ref 55) .none)
theorem df_made_of (X : (hpK w.params).In h) (G : h.Ns mainGlobals mg) : Df (hpK w.params) mg "made_of" s_made_of ["text", "signs"] 56 fd_made_of := binds_of (ps := ["text", "signs"]) (fun_mk (st := s_made_of) (oc := .type "function") (od := none) (osl := #[]) (by kernel_rfl) (by kernel_rfl) (by kernel_rfl)) (PySem.W.mg_of X G (ns_made_of _)) fun _ _ _ _ _ _ => ar2 fun _ _ => rfl
theorem ns_is_name : mg_is hpK 63 "is_name" := fun _ => by kernel_rfl
noncomputable abbrev fd_is_name : FuncData := (PySem.W.fnOf "is_name" "is_name" (defArgs s_is_name) (defBody s_is_name) (defScope s_is_name) .none .none .none (.str (Str.ofString "readgrove.grammars") 239) none (.ref 62) .none)
theorem df_is_name (X : (hpK w.params).In h) (G : h.Ns mainGlobals mg) : Df (hpK w.params) mg "is_name" s_is_name ["part"] 63 fd_is_name := binds_of (ps := ["part"]) (fun_mk (st := s_is_name) (oc := .type "function") (od := none) (osl := #[]) (by kernel_rfl) (by kernel_rfl) (by kernel_rfl)) (PySem.W.mg_of X G (ns_is_name _)) fun _ _ _ _ _ _ => ar1 fun _ => rfl
theorem ns_names : mg_is hpK 70 "names" := fun _ => by kernel_rfl
noncomputable abbrev fd_names : FuncData := (PySem.W.fnOf "names" "names" (defArgs s_names) (defBody s_names) (defScope s_names) .none .none .none (.str (Str.ofString "readgrove.grammars") 239) none (.ref 69) .none)
theorem df_names (X : (hpK w.params).In h) (G : h.Ns mainGlobals mg) : Df (hpK w.params) mg "names" s_names ["grammar"] 70 fd_names := binds_of (ps := ["grammar"]) (fun_mk (st := s_names) (oc := .type "function") (od := none) (osl := #[]) (by kernel_rfl) (by kernel_rfl) (by kernel_rfl)) (PySem.W.mg_of X G (ns_names _)) fun _ _ _ _ _ _ => ar1 fun _ => rfl
theorem ns_check_rule : mg_is hpK 77 "check_rule" := fun _ => by kernel_rfl
noncomputable abbrev fd_check_rule : FuncData := (PySem.W.fnOf "check_rule" "check_rule" (defArgs s_check_rule) (defBody s_check_rule) (defScope s_check_rule) .none .none .none (.str (Str.ofString "readgrove.grammars") 239) none (.ref 76) .none)
theorem df_check_rule (X : (hpK w.params).In h) (G : h.Ns mainGlobals mg) : Df (hpK w.params) mg "check_rule" s_check_rule ["rule", "known"] 77 fd_check_rule := binds_of (ps := ["rule", "known"]) (fun_mk (st := s_check_rule) (oc := .type "function") (od := none) (osl := #[]) (by kernel_rfl) (by kernel_rfl) (by kernel_rfl)) (PySem.W.mg_of X G (ns_check_rule _)) fun _ _ _ _ _ _ => ar2 fun _ _ => rfl
theorem ns_grammar_of : mg_is hpK 84 "grammar_of" := fun _ => by kernel_rfl
noncomputable abbrev fd_grammar_of : FuncData := (PySem.W.fnOf "grammar_of" "grammar_of" (defArgs s_grammar_of) (defBody s_grammar_of) (defScope s_grammar_of) .none .none .none (.str (Str.ofString "readgrove.grammars") 239) none (.ref 83) .none)
theorem df_grammar_of (X : (hpK w.params).In h) (G : h.Ns mainGlobals mg) : Df (hpK w.params) mg "grammar_of" s_grammar_of ["rules"] 84 fd_grammar_of := binds_of (ps := ["rules"]) (fun_mk (st := s_grammar_of) (oc := .type "function") (od := none) (osl := #[]) (by kernel_rfl) (by kernel_rfl) (by kernel_rfl)) (PySem.W.mg_of X G (ns_grammar_of _)) fun _ _ _ _ _ _ => ar1 fun _ => rfl
theorem ns_divided : mg_is hpK 126 "divided" := fun _ => by kernel_rfl
noncomputable abbrev fd_divided : FuncData := (PySem.W.fnOf "divided" "divided" (defArgs s_divided) (defBody s_divided) (defScope s_divided) .none .none .none (.str (Str.ofString "readgrove.greats") 287) none (.ref 125) .none)
theorem df_divided (X : (hpK w.params).In h) (G : h.Ns mainGlobals mg) : Df (hpK w.params) mg "divided" s_divided ["number", "divisor"] 126 fd_divided := binds_of (ps := ["number", "divisor"]) (fun_mk (st := s_divided) (oc := .type "function") (od := none) (osl := #[]) (by kernel_rfl) (by kernel_rfl) (by kernel_rfl)) (PySem.W.mg_of X G (ns_divided _)) fun _ _ _ _ _ _ => ar2 fun _ _ => rfl
theorem ns_squared_powers : mg_is hpK 133 "squared_powers" := fun _ => by kernel_rfl
noncomputable abbrev fd_squared_powers : FuncData := (PySem.W.fnOf "squared_powers" "squared_powers" (defArgs s_squared_powers) (defBody s_squared_powers) (defScope s_squared_powers) .none .none .none (.str (Str.ofString "readgrove.greats") 287) none (.ref 132) .none)
theorem df_squared_powers (X : (hpK w.params).In h) (G : h.Ns mainGlobals mg) : Df (hpK w.params) mg "squared_powers" s_squared_powers ["number"] 133 fd_squared_powers := binds_of (ps := ["number"]) (fun_mk (st := s_squared_powers) (oc := .type "function") (od := none) (osl := #[]) (by kernel_rfl) (by kernel_rfl) (by kernel_rfl)) (PySem.W.mg_of X G (ns_squared_powers _)) fun _ _ _ _ _ _ => ar1 fun _ => rfl
theorem ns_figures_of : mg_is hpK 138 "figures_of" := fun _ => by kernel_rfl
noncomputable abbrev fd_figures_of : FuncData := (PySem.W.fnOf "figures_of" "figures_of" (defArgs s_figures_of) (defBody s_figures_of) (defScope s_figures_of) .none .none .none (.str (Str.ofString "readgrove.greats") 287) none (.ref 137) .none)
theorem df_figures_of (X : (hpK w.params).In h) (G : h.Ns mainGlobals mg) : Df (hpK w.params) mg "figures_of" s_figures_of ["number"] 138 fd_figures_of := binds_of (ps := ["number"]) (fun_mk (st := s_figures_of) (oc := .type "function") (od := none) (osl := #[]) (by kernel_rfl) (by kernel_rfl) (by kernel_rfl)) (PySem.W.mg_of X G (ns_figures_of _)) fun _ _ _ _ _ _ => ar1 fun _ => rfl
theorem ns_writes_word : mg_is hpK 145 "writes_word" := fun _ => by kernel_rfl
noncomputable abbrev fd_writes_word : FuncData := (PySem.W.fnOf "writes_word" "writes_word" (defArgs s_writes_word) (defBody s_writes_word) (defScope s_writes_word) .none .none .none (.str (Str.ofString "readgrove.texts") 373) none (.ref 144) .none)
theorem df_writes_word (X : (hpK w.params).In h) (G : h.Ns mainGlobals mg) : Df (hpK w.params) mg "writes_word" s_writes_word ["text"] 145 fd_writes_word := binds_of (ps := ["text"]) (fun_mk (st := s_writes_word) (oc := .type "function") (od := none) (osl := #[]) (by kernel_rfl) (by kernel_rfl) (by kernel_rfl)) (PySem.W.mg_of X G (ns_writes_word _)) fun _ _ _ _ _ _ => ar1 fun _ => rfl
theorem ns_writes_name : mg_is hpK 152 "writes_name" := fun _ => by kernel_rfl
noncomputable abbrev fd_writes_name : FuncData := (PySem.W.fnOf "writes_name" "writes_name" (defArgs s_writes_name) (defBody s_writes_name) (defScope s_writes_name) .none .none .none (.str (Str.ofString "readgrove.texts") 373) none (.ref 151) .none)
theorem df_writes_name (X : (hpK w.params).In h) (G : h.Ns mainGlobals mg) : Df (hpK w.params) mg "writes_name" s_writes_name ["text"] 152 fd_writes_name := binds_of (ps := ["text"]) (fun_mk (st := s_writes_name) (oc := .type "function") (od := none) (osl := #[]) (by kernel_rfl) (by kernel_rfl) (by kernel_rfl)) (PySem.W.mg_of X G (ns_writes_name _)) fun _ _ _ _ _ _ => ar1 fun _ => rfl
theorem ns_writes_number : mg_is hpK 159 "writes_number" := fun _ => by kernel_rfl
noncomputable abbrev fd_writes_number : FuncData := (PySem.W.fnOf "writes_number" "writes_number" (defArgs s_writes_number) (defBody s_writes_number) (defScope s_writes_number) .none .none .none (.str (Str.ofString "readgrove.texts") 373) none (.ref 158) .none)
theorem df_writes_number (X : (hpK w.params).In h) (G : h.Ns mainGlobals mg) : Df (hpK w.params) mg "writes_number" s_writes_number ["text"] 159 fd_writes_number := binds_of (ps := ["text"]) (fun_mk (st := s_writes_number) (oc := .type "function") (od := none) (osl := #[]) (by kernel_rfl) (by kernel_rfl) (by kernel_rfl)) (PySem.W.mg_of X G (ns_writes_number _)) fun _ _ _ _ _ _ => ar1 fun _ => rfl
theorem ns_shown_rule : mg_is hpK 166 "shown_rule" := fun _ => by kernel_rfl
noncomputable abbrev fd_shown_rule : FuncData := (PySem.W.fnOf "shown_rule" "shown_rule" (defArgs s_shown_rule) (defBody s_shown_rule) (defScope s_shown_rule) .none .none .none (.str (Str.ofString "readgrove.texts") 373) none (.ref 165) .none)
theorem df_shown_rule (X : (hpK w.params).In h) (G : h.Ns mainGlobals mg) : Df (hpK w.params) mg "shown_rule" s_shown_rule ["rule"] 166 fd_shown_rule := binds_of (ps := ["rule"]) (fun_mk (st := s_shown_rule) (oc := .type "function") (od := none) (osl := #[]) (by kernel_rfl) (by kernel_rfl) (by kernel_rfl)) (PySem.W.mg_of X G (ns_shown_rule _)) fun _ _ _ _ _ _ => ar1 fun _ => rfl
theorem ns_shown_grammar : mg_is hpK 171 "shown_grammar" := fun _ => by kernel_rfl
noncomputable abbrev fd_shown_grammar : FuncData := (PySem.W.fnOf "shown_grammar" "shown_grammar" (defArgs s_shown_grammar) (defBody s_shown_grammar) (defScope s_shown_grammar) .none .none .none (.str (Str.ofString "readgrove.texts") 373) none (.ref 170) .none)
theorem df_shown_grammar (X : (hpK w.params).In h) (G : h.Ns mainGlobals mg) : Df (hpK w.params) mg "shown_grammar" s_shown_grammar ["grammar"] 171 fd_shown_grammar := binds_of (ps := ["grammar"]) (fun_mk (st := s_shown_grammar) (oc := .type "function") (od := none) (osl := #[]) (by kernel_rfl) (by kernel_rfl) (by kernel_rfl)) (PySem.W.mg_of X G (ns_shown_grammar _)) fun _ _ _ _ _ _ => ar1 fun _ => rfl
theorem ns_written_cost : mg_is hpK 178 "written_cost" := fun _ => by kernel_rfl
noncomputable abbrev fd_written_cost : FuncData := (PySem.W.fnOf "written_cost" "written_cost" (defArgs s_written_cost) (defBody s_written_cost) (defScope s_written_cost) .none .none .none (.str (Str.ofString "readgrove.texts") 373) none (.ref 177) .none)
theorem df_written_cost (X : (hpK w.params).In h) (G : h.Ns mainGlobals mg) : Df (hpK w.params) mg "written_cost" s_written_cost ["pieces"] 178 fd_written_cost := binds_of (ps := ["pieces"]) (fun_mk (st := s_written_cost) (oc := .type "function") (od := none) (osl := #[]) (by kernel_rfl) (by kernel_rfl) (by kernel_rfl)) (PySem.W.mg_of X G (ns_written_cost _)) fun _ _ _ _ _ _ => ar1 fun _ => rfl
theorem ns_read_rule : mg_is hpK 183 "read_rule" := fun _ => by kernel_rfl
noncomputable abbrev fd_read_rule : FuncData := (PySem.W.fnOf "read_rule" "read_rule" (defArgs s_read_rule) (defBody s_read_rule) (defScope s_read_rule) .none .none .none (.str (Str.ofString "readgrove.texts") 373) none (.ref 182) .none)
theorem df_read_rule (X : (hpK w.params).In h) (G : h.Ns mainGlobals mg) : Df (hpK w.params) mg "read_rule" s_read_rule ["text"] 183 fd_read_rule := binds_of (ps := ["text"]) (fun_mk (st := s_read_rule) (oc := .type "function") (od := none) (osl := #[]) (by kernel_rfl) (by kernel_rfl) (by kernel_rfl)) (PySem.W.mg_of X G (ns_read_rule _)) fun _ _ _ _ _ _ => ar1 fun _ => rfl
theorem ns_read_grammar : mg_is hpK 188 "read_grammar" := fun _ => by kernel_rfl
noncomputable abbrev fd_read_grammar : FuncData := (PySem.W.fnOf "read_grammar" "read_grammar" (defArgs s_read_grammar) (defBody s_read_grammar) (defScope s_read_grammar) .none .none .none (.str (Str.ofString "readgrove.texts") 373) none (.ref 187) .none)
theorem df_read_grammar (X : (hpK w.params).In h) (G : h.Ns mainGlobals mg) : Df (hpK w.params) mg "read_grammar" s_read_grammar ["text"] 188 fd_read_grammar := binds_of (ps := ["text"]) (fun_mk (st := s_read_grammar) (oc := .type "function") (od := none) (osl := #[]) (by kernel_rfl) (by kernel_rfl) (by kernel_rfl)) (PySem.W.mg_of X G (ns_read_grammar _)) fun _ _ _ _ _ _ => ar1 fun _ => rfl
theorem ns_l_cell_at : mg_is hpK 195 "_law_cell_at" := fun _ => by kernel_rfl
noncomputable abbrev fd_l_cell_at : FuncData := (PySem.W.fnOf "_law_cell_at" "_law_cell_at" (defArgs s_l_cell_at) (defBody s_l_cell_at) (defScope s_l_cell_at) .none .none .none (.str (Str.ofString "law_readgrove_k80_grammars_written") 438) none (.ref 194) .none)
theorem df_l_cell_at (X : (hpK w.params).In h) (G : h.Ns mainGlobals mg) : Df (hpK w.params) mg "_law_cell_at" s_l_cell_at ["script", "k"] 195 fd_l_cell_at := binds_of (ps := ["script", "k"]) (fun_mk (st := s_l_cell_at) (oc := .type "function") (od := none) (osl := #[]) (by kernel_rfl) (by kernel_rfl) (by kernel_rfl)) (PySem.W.mg_of X G (ns_l_cell_at _)) fun _ _ _ _ _ _ => ar2 fun _ _ => rfl
theorem ns_m_heads : mg_is hpK 200 "_law_heads" := fun _ => by kernel_rfl
noncomputable abbrev fd_m_heads : FuncData := (PySem.W.fnOf "_law_heads" "_law_heads" (defArgs s_m_heads) (defBody s_m_heads) (defScope s_m_heads) .none .none .none (.str (Str.ofString "law_readgrove_k80_grammars_written") 438) none (.ref 199) .none)
theorem df_m_heads (X : (hpK w.params).In h) (G : h.Ns mainGlobals mg) : Df (hpK w.params) mg "_law_heads" s_m_heads ["cells"] 200 fd_m_heads := binds_of (ps := ["cells"]) (fun_mk (st := s_m_heads) (oc := .type "function") (od := none) (osl := #[]) (by kernel_rfl) (by kernel_rfl) (by kernel_rfl)) (PySem.W.mg_of X G (ns_m_heads _)) fun _ _ _ _ _ _ => ar1 fun _ => rfl
theorem ns_m_word : mg_is hpK 205 "_law_word" := fun _ => by kernel_rfl
noncomputable abbrev fd_m_word : FuncData := (PySem.W.fnOf "_law_word" "_law_word" (defArgs s_m_word) (defBody s_m_word) (defScope s_m_word) .none .none .none (.str (Str.ofString "law_readgrove_k80_grammars_written") 438) none (.ref 204) .none)
theorem df_m_word (X : (hpK w.params).In h) (G : h.Ns mainGlobals mg) : Df (hpK w.params) mg "_law_word" s_m_word ["number"] 205 fd_m_word := binds_of (ps := ["number"]) (fun_mk (st := s_m_word) (oc := .type "function") (od := none) (osl := #[]) (by kernel_rfl) (by kernel_rfl) (by kernel_rfl)) (PySem.W.mg_of X G (ns_m_word _)) fun _ _ _ _ _ _ => ar1 fun _ => rfl
theorem ns_m_rule : mg_is hpK 212 "_law_rule" := fun _ => by kernel_rfl
noncomputable abbrev fd_m_rule : FuncData := (PySem.W.fnOf "_law_rule" "_law_rule" (defArgs s_m_rule) (defBody s_m_rule) (defScope s_m_rule) .none .none .none (.str (Str.ofString "law_readgrove_k80_grammars_written") 438) none (.ref 211) .none)
theorem df_m_rule (X : (hpK w.params).In h) (G : h.Ns mainGlobals mg) : Df (hpK w.params) mg "_law_rule" s_m_rule ["cell", "k", "heads"] 212 fd_m_rule := binds_of (ps := ["cell", "k", "heads"]) (fun_mk (st := s_m_rule) (oc := .type "function") (od := none) (osl := #[]) (by kernel_rfl) (by kernel_rfl) (by kernel_rfl)) (PySem.W.mg_of X G (ns_m_rule _)) fun _ _ _ _ _ _ => ar3 fun _ _ _ => rfl
theorem ns_m_rules : mg_is hpK 219 "_law_rules" := fun _ => by kernel_rfl
noncomputable abbrev fd_m_rules : FuncData := (PySem.W.fnOf "_law_rules" "_law_rules" (defArgs s_m_rules) (defBody s_m_rules) (defScope s_m_rules) .none .none .none (.str (Str.ofString "law_readgrove_k80_grammars_written") 438) none (.ref 218) .none)
theorem df_m_rules (X : (hpK w.params).In h) (G : h.Ns mainGlobals mg) : Df (hpK w.params) mg "_law_rules" s_m_rules ["script"] 219 fd_m_rules := binds_of (ps := ["script"]) (fun_mk (st := s_m_rules) (oc := .type "function") (od := none) (osl := #[]) (by kernel_rfl) (by kernel_rfl) (by kernel_rfl)) (PySem.W.mg_of X G (ns_m_rules _)) fun _ _ _ _ _ _ => ar1 fun _ => rfl
theorem ns_m_shown : mg_is hpK 226 "_law_shown" := fun _ => by kernel_rfl
noncomputable abbrev fd_m_shown : FuncData := (PySem.W.fnOf "_law_shown" "_law_shown" (defArgs s_m_shown) (defBody s_m_shown) (defScope s_m_shown) .none .none .none (.str (Str.ofString "law_readgrove_k80_grammars_written") 438) none (.ref 225) .none)
theorem df_m_shown (X : (hpK w.params).In h) (G : h.Ns mainGlobals mg) : Df (hpK w.params) mg "_law_shown" s_m_shown ["rules"] 226 fd_m_shown := binds_of (ps := ["rules"]) (fun_mk (st := s_m_shown) (oc := .type "function") (od := none) (osl := #[]) (by kernel_rfl) (by kernel_rfl) (by kernel_rfl)) (PySem.W.mg_of X G (ns_m_shown _)) fun _ _ _ _ _ _ => ar1 fun _ => rfl
theorem ns_law : mg_is hpK 233 "law" := fun _ => by kernel_rfl
noncomputable abbrev fd_law : FuncData := (PySem.W.fnOf "law" "law" (defArgs s_law) (defBody s_law) (defScope s_law) .none .none .none (.str (Str.ofString "law_readgrove_k80_grammars_written") 438) none (.ref 232) .none)
theorem df_law (X : (hpK w.params).In h) (G : h.Ns mainGlobals mg) : Df (hpK w.params) mg "law" s_law ["script"] 233 fd_law := binds_of (ps := ["script"]) (fun_mk (st := s_law) (oc := .type "function") (od := none) (osl := #[]) (by kernel_rfl) (by kernel_rfl) (by kernel_rfl)) (PySem.W.mg_of X G (ns_law _)) fun _ _ _ _ _ _ => ar1 fun _ => rfl
theorem tx_mk (X : (hpK w.params).In h) (G : h.Ns mainGlobals mg) : Tx mg := ⟨⟨289, PySem.W.mg_of (v := .int 4000 289) X G (by kernel_rfl)⟩, ⟨243, PySem.W.mg_of (v := .str "0123456789" 243) X G (by kernel_rfl)⟩, ⟨241, PySem.W.mg_of (v := .str "ABCDEFGHIJKLMNOPQRSTUVWXYZ" 241) X G (by kernel_rfl)⟩, ⟨381, PySem.W.mg_of (v := .int 60 381) X G (by kernel_rfl)⟩, ⟨377, PySem.W.mg_of (v := .int 8 377) X G (by kernel_rfl)⟩, ⟨379, PySem.W.mg_of (v := .int 4 379) X G (by kernel_rfl)⟩, ⟨291, PySem.W.mg_of (v := .int 64 291) X G (by kernel_rfl)⟩, ⟨375, PySem.W.mg_of (v := .str "abcdefghijklmnopqrstuvwxyz" 375) X G (by kernel_rfl)⟩, PySem.W.mg_none_of X G (by kernel_rfl), PySem.W.mg_none_of X G (by kernel_rfl), PySem.W.mg_none_of X G (by kernel_rfl), PySem.W.mg_none_of X G (by kernel_rfl), PySem.W.mg_none_of X G (by kernel_rfl), PySem.W.mg_none_of X G (by kernel_rfl), PySem.W.mg_none_of X G (by kernel_rfl), PySem.W.mg_none_of X G (by kernel_rfl), PySem.W.mg_none_of X G (by kernel_rfl), PySem.W.mg_none_of X G (by kernel_rfl), PySem.W.mg_none_of X G (by kernel_rfl)⟩
end
theorem all_mk {l : PySem.W.OpenLaw} {w : World} {h : Heap} {mg : Str → Option Value} {fa : Addr} (X : (hpK w.params).In h) (G : h.Ns mainGlobals mg) (hfa : mg "law" = some (.ref fa)) :
    ∃ fd : FuncData, (∀ (s : Shared) (v : Value), BindsTo s fd ⟨[v], []⟩ [("script", v)]) ∧ ∀ base : Heap, (hpK w.params).In base → base.Ns mainGlobals mg → FnOk l.prog w (hpK w.params) mg base CX0 6 fa fd ["script"] (upSp (hpK w.params) spLaw3) := by
  have e := hfa.symm.trans (PySem.W.mg_of X G (ns_law _))
  cases e
  exact ⟨fd_law, fun s v => .of_eq rfl, fun base _ _ => ok_law (tx_mk X G) (df_law X G) (df_made_of X G) (df_is_name X G) (df_names X G) (df_check_rule X G) (df_grammar_of X G) (df_divided X G) (df_squared_powers X G) (df_figures_of X G) (df_writes_word X G) (df_writes_name X G) (df_writes_number X G) (df_shown_rule X G) (df_shown_grammar X G) (df_written_cost X G) (df_read_rule X G) (df_read_grammar X G) (df_l_cell_at X G) (df_m_heads X G) (df_m_word X G) (df_m_rule X G) (df_m_rules X G) (df_m_shown X G)⟩
theorem walk {l : PySem.W.OpenLaw} {q : Program} {loose : List Str} {XP : (Str → Option Value) → Heap → Prop} {YP : World → Heap → Prop} {d : DefRec} {K : Params → PySem.W.Frag} (hn : l.most = some 63) (hdf : d.params.defaults = [])
    (hY : ∀ (w : World) (h : Heap), YP w h → (K w.params).In h)
    (F : ∀ (w : World) (mg : Str → Option Value) (fa : Addr) (h : Heap), (K w.params).In h → h.Ns mainGlobals mg → mg d.name = some (.ref fa) →
      ∃ fd : FuncData, (∀ (s : Shared) (u : Value), BindsTo s fd ⟨[u], []⟩ [("script", u)]) ∧ ∀ base : Heap, (K w.params).In base → base.Ns mainGlobals mg → FnOk l.prog w (K w.params) mg base CX0 6 fa fd ["script"] (upSp (K w.params) spLaw3)) :
    PySem.W.WalkO q loose XP YP l.row.toRowW d [] (fun f vs => PySem.call f vs) :=
  L2.walk_of (n := 63) (k := 6) (x := "script") (CX := fun _ => CX0) (sp := fun w => upSp (K w.params) spLaw3) hn (by decide) hdf ⟨rfl, by decide, by decide⟩ hY F (fun _ _ a ns hl ho hS => law_sp hl ho hS) fun _ _ _ _ _ z => z
end Rg
open PySem PySem.W PyProof.Rows
set_option maxRecDepth 100000 in
set_option maxHeartbeats 0 in
theorem PySem.Challenge.cw_readgrove_k80_grammars_written_holds : PySem.Challenge.rw_readgrove_k80_grammars_written.Holds := by
  w_on; o_law
  refine PySem.W.holds_open (r := PySem.Challenge.rw_readgrove_k80_grammars_written.row) (q := Rg.qv) (loose := []) (N := 3282)
    (Xt := fun s => xlAt Rg.qv [] s && recOk (RowW.records (OpenRow.toRowW PySem.Challenge.rw_readgrove_k80_grammars_written.row)) s)
    (XP := XL Rg.qv []) (Yf := Rg.hk.obs) (Ya := Rg.hk.val) (YP := Rg.hk.says) ?hl Rg.hk.of Rg.hk.keeps
    (fun s e => xl_of s (Bool.and_eq_true_iff.mp e).1) XL.keeps (by rfl) (by rfl) (by rfl) (fun s e => recFacts_of (Bool.and_eq_true_iff.mp e).2)
    (by rfl) (by assumption) (by decide +kernel) ⟨rfl, rfl, rfl, rfl, rfl, by decide +kernel⟩ ?hw ?hc
  case hw => w_witness2
  case hc => exact Rg.walk (l := PySem.Challenge.rw_readgrove_k80_grammars_written) rfl rfl (fun w h Y => PySem.W.kIn_of Y) (fun w mg fa h KX G hmg => Rg.all_mk KX G hmg)
  case hl => intro w; kernel_rfl
